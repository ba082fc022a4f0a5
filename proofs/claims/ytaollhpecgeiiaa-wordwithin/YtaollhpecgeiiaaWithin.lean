/-
  Proved: for every input the law WordWithin answers true, and each argument reads behind the call as it read before.
  Conditions: none (the statement Rows.WordWithinSaid as it is given).
-/
import Derived.Test.YtaollhpecgeiiaaRows
import Derived.Below
import Derived.Test.YtaollhpecgeiiaaWordAwake
import Derived.Test.YtaollhpecgeiiaaWordRef
import Derived.WalkKit
import Derived.ProofKit
import Derived.OpenShut
import Derived.ShutString
namespace Go.Proofs.Ytaollhpecgeiiaa.wordWithin
open Go.ChangeShapes Go.WideShapes Go.ChangeAt Go.RowKit
open Go.ChangeMaps (open_string shut_string)
set_option linter.unusedVariables false      -- a walk need not use every 'w<i>' (that an integer argument fits its kind)

open Word
theorem within_true {n : Nat} {c : Int} : within n c = true ↔ 1 ≤ c ∧ c + n ≤ 65536 := by unfold within; simp
theorem within_at (z : Int) (n : Nat) (hz : z = n) (hn : n < 65536) (c : Int) (hc : (Lit.int .i64 c).wf = true) (w : World) :
    Calls Try.prog 14 #[.int .u16 z, .int .i64 c] w fun e w' => e = .returned (.bool (within n c)) ∧ w' = w := by subst hz; exact within_any n hn c hc w
theorem own : ownKnob Try.prog.godebug = none := by kernel_rfl

/-! ### STEP 1: THE WALK: the Go text returns true. 'Grown w w'': the world has at most new blocks (Derived/RowKit3.lean). Part the cases AHEAD of 'go_enter' where a test parts the walk; take each callee by a contract of your own. -/
set_option maxHeartbeats 2000000 in
theorem walk (a0 : Int) (a1 : Int) (w0 : (Lit.int .u16 a0).wf = true) (w1 : (Lit.int .i64 a1).wf = true) (w : World) :
    Calls Try.prog 5 #[.int .u16 a0, .int .i64 a1] w fun e w' => e = .returned (.bool true) ∧ Below w.heap.size w w' := by
  obtain ⟨n, rfl, hn16⟩ : ∃ s : Nat, a0 = s ∧ s < 65536 := nat_u16 w0
  have hb := bounds_i64 w1
  have HW := hide w1
  clear w1
  go_enter Try.func5, Try.ntmps5
  go_wp2_with fail
  refine (awake_any w).mono ?_
  rintro e w1 ⟨rfl, hb1⟩
  go_wp2_with fail
  refine (within_any n hn16 _ HW.out _).mono ?_
  rintro e w2 ⟨rfl, rfl⟩
  by_cases hin : within n a1 = true
  · rw [hin]
    obtain ⟨h1, h2⟩ := within_true.1 hin
    have HI := hide hin
    clear hin
    have HV : Hid ((Lit.int .i64 (a1 - 1)).wf = true) := hide (by simp [Lit.wf, IntKind.min, IntKind.max, IntKind.bits, IntKind.signed]; omega)
    have HW1 := hide fun (h : n ≠ 0) => (within_true.2 ⟨by omega, by omega⟩ : within (n - 1) a1 = true)
    have HT := hide fun (h : a1 ≠ 1) => (within_true.2 ⟨by omega, by omega⟩ : within n (a1 - 1) = true)
    clear hb w0
    by_cases hc1 : a1 = 1
    · subst hc1
      by_cases hn0 : n = 0
      · subst hn0
        go_wp2
        go_ret
        exact ⟨rfl, hb1⟩
      · go_wp2_with fail
        refine (within_at _ (n - 1) (by omega) (by omega) _ HW.out _).mono ?_
        rintro e w3 ⟨rfl, rfl⟩
        rw [HW1.out hn0]
        go_wp2
        go_ret
        exact ⟨rfl, hb1⟩
    · go_wp2_with fail
      refine (within_any n hn16 _ HV.out _).mono ?_
      rintro e w3 ⟨rfl, rfl⟩
      rw [HT.out hc1]
      by_cases hn0 : n = 0
      · subst hn0
        go_wp2
        go_ret
        exact ⟨rfl, hb1⟩
      · go_wp2_with fail
        refine (within_at _ (n - 1) (by omega) (by omega) _ HW.out _).mono ?_
        rintro e w4 ⟨rfl, rfl⟩
        rw [HW1.out hn0]
        go_wp2
        go_ret
        exact ⟨rfl, hb1⟩
  · have hf : within n a1 = false := by simpa using hin
    rw [hf]
    have hno : ¬ (1 ≤ a1 ∧ a1 + n ≤ 65536) := fun h => hin (within_true.2 h)
    clear hin hf
    by_cases h1 : a1 < 1
    · go_wp2
      go_ret
      exact ⟨rfl, hb1⟩
    · have h2 : 65536 - (n : Int) < a1 := by omega
      go_wp2
      go_ret
      exact ⟨rfl, hb1⟩
  -- go_enter Try.func5, Try.ntmps5
  -- go_wp2
  -- go_ret
  -- exact ⟨rfl, by repeat (first | exact Grown.refl _ | apply Grown.drew | apply Grown.alloc)⟩

/-! ### THE ROW's STEP: WRITTEN OUT: LEAVE IT -/
set_option maxRecDepth 100000 in
theorem lifted (os : Os) (started : os.Started) (H : Type) (enc : TypeId × Value → H) :
    ReturnsInHanded {} Try.checked os 5 .any (Rows.wordWithinSpec.pre6 enc Try.prog Try.f5 Rows.wordWithinRow.domain false) (Rows.wordWithinSpec.post enc Try.prog Try.f5 false true false false) := by
  refine returnsInHanded_of_change (C := Try.checked) own started (by kernel_rfl) Try.func5
    (ChangeSpec.witness6 (enc := enc) (C := Try.checked) false ⟨#[], #[.int .u16 0, .int .i64 0], []⟩ 8 (by kernel_rfl) (by kernel_rfl) (by kernel_rfl) (by kernel_rfl)) ?_
  intro W base args ds gs before hval0 hW hcnd _
  have hval : ∀ (j : Nat) t v, Try.f5.params[j]? = some t → args[j]? = some v → Value.okWide Try.prog W .any base t v := hval0
  have hW' := hW
  obtain ⟨p, q, hA0, hV, rfl, hfz, hnd⟩ := hW
  have hA : DataW.TrodAll enc Try.prog W 0 (fun _ => true) true Try.f5.params.toList args.toList ds p := hA0
  rw [Try.params5] at hA hval
  obtain ⟨v0, vs0, d0, ds0, p0, q0, hargs, rfl, rfl, h0, r0⟩ := trodAll_cons hA
  obtain ⟨v1, vs1, d1, ds1, p1, q1, rfl, rfl, rfl, h1, r1⟩ := trodAll_cons r0
  obtain ⟨rfl, rfl, rfl⟩ := trodAll_nil r1
  obtain rfl : args = #[v0, v1] := by cases args; simp_all
  obtain ⟨rfl, rfl⟩ := trodVars_none hV
  obtain ⟨a0, rfl, rfl, rfl, w0⟩ := open_int Try.underlying24 (hval 0 24 v0 rfl rfl) h0
  obtain ⟨a1, rfl, rfl, rfl, w1⟩ := open_int Try.underlying3 (hval 1 3 v1 rfl rfl) h1
  clear hA0 hval0
  simp only [List.append_nil] at hW'
  refine (walk a0 a1 w0 w1 W).mono fun e W' ⟨he, bel⟩ => ?_
  subst he
  exact ⟨_, rfl, _, _, _, [], _, [], hW', (trodAll_cons_mk (shut_bool Try.underlying4 _) trodAll_mk0), (trodAll_cons_mk (shut_int Try.underlying24 w0) (trodAll_cons_mk (shut_int Try.underlying3 w1) trodAll_mk0)), rfl, bel.frame _, fun h => by cases h⟩

theorem over : Rows.wordWithinRow.holds Try.pinned (OpenSpec.ofChange Rows.wordWithinSpec) :=
  OpenClaim.holds_of_wide 5 Try.f5 rfl rfl rfl rfl rfl rfl rfl ⟨rfl, rfl, rfl, rfl, rfl⟩ rfl rfl rfl rfl rfl (by kernel_rfl) Try.func5 (by kernel_rfl)
    (of_decide_eq_true (by kernel_rfl)) (by unfold Func.isWrapper; first | (rw [if_pos (by decide +kernel)]; kernel_rfl) | (rw [if_neg (by decide +kernel)]; exact ⟨rfl, rfl⟩))
    (fun os started H enc _ => lifted os started H enc)

/-- ████ THE STATEMENT ████ -/
theorem proved : Rows.WordWithinSaid :=
  over
#print axioms proved
end Go.Proofs.Ytaollhpecgeiiaa.wordWithin
