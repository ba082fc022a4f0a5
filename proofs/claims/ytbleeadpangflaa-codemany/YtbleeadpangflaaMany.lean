/-
  Proved: for every input the law CodeMany answers true, and each argument reads behind the call as it read before.
  Conditions: none (the statement Rows.CodeManySaid as it is given).
-/
import Derived.Test.YtbleeadpangflaaRows
import Derived.Below
import Derived.Test.YtbleeadpangflaaCodeRef
import Derived.Test.YtbleeadpangflaaCodeAwake
import Derived.WalkKit
import Derived.ProofKit
import Derived.OpenShut
import Derived.ShutString
namespace Go.Proofs.Ytbleeadpangflaa.codeMany
open Go.ChangeShapes Go.WideShapes Go.ChangeAt Go.RowKit
open Go.ChangeMaps (open_string shut_string)
set_option linter.unusedVariables false      -- a walk need not use every 'w<i>' (that an integer argument fits its kind)

theorem or_self (c : Nat) (h : c < 256) : ∃ m : Nat, bits .or .u8 (c : Int) 128 = (m : Int) ∧ 128 ≤ m ∧ m < 256 := by
  refine ⟨c ||| 128, ?_, Nat.right_le_or, Nat.or_lt_two_pow (n := 8) h (by omega)⟩
  show IntKind.u8.wrap (((BitVec.ofInt 8 (c : Int) ||| BitVec.ofInt 8 128).toNat : Nat) : Int) = _
  rw [BitVec.toNat_or, BitVec.toNat_ofInt, BitVec.toNat_ofInt]
  have f1 : ((c : Int) % ((2 ^ 8 : Nat) : Int)).toNat = c := by omega
  have f2 : ((128 : Int) % ((2 ^ 8 : Nat) : Int)).toNat = 128 := by omega
  have f3 := Nat.or_lt_two_pow (n := 8) h (show 128 < 2 ^ 8 by omega)
  rw [f1, f2, IntKind.wrap_u8]
  omega
theorem pub_high (c : Nat) (h : 128 ≤ c) : pub c = false := by unfold pub; simp; omega
theorem fails_low (c : Nat) (h : fails c = true) : 0 < c ∧ c < 12 := by unfold fails at h; simp at h; omega
theorem sub_high (c : Nat) : isSub (1000 + c) = false := by unfold isSub; simp; omega
theorem ans_high (m c : Nat) (h : 128 ≤ m) : ans m c = false := by unfold ans; simp; omega
theorem own : ownKnob Try.prog.godebug = none := by kernel_rfl

/-! ### STEP 1: THE WALK: the Go text returns true. 'Grown w w'': the world has at most new blocks (Derived/RowKit3.lean). Part the cases AHEAD of 'go_enter' where a test parts the walk; take each callee by a contract of your own. -/
set_option maxRecDepth 20000 in
set_option maxHeartbeats 2000000 in
theorem walk (a0 : Int) (w0 : (Lit.int .u8 a0).wf = true) (w : World) :
    Calls Try.prog 6 #[.int .u8 a0] w fun e w' => e = .returned (.bool true) ∧ Below w.heap.size w w' := by
  obtain ⟨c, rfl, hc⟩ : ∃ s : Nat, a0 = s ∧ s < 256 := nat_u8 w0
  clear w0
  obtain ⟨m, hor, hm1, hm2⟩ := or_self c hc
  have HM := hide hm1
  clear hm1 hm2
  have hcv : IntKind.u16.wrap (1000 + (c : Int)) = ((1000 + c : Nat) : Int) := by rw [IntKind.wrap_u16]; omega
  have HF := hide (fails_low c)
  go_enter Try.func6, Try.ntmps6
  go_wp2_with fail
  refine (awake_any w).mono ?_
  rintro e w1 ⟨rfl, hb1⟩
  by_cases h128 : c < 128
  · have l1 : (c : Int) < 128 := by omega
    go_wp2_with fail
    refine (failure_any c hc _).mono ?_
    rintro e w4 ⟨rfl, hb4⟩
    replace hb4 := below_next hb1 hb4 (Nat.le_refl _)
    have HF2 : Hid (fails c = true → 0 < c ∧ c < 12) := HF
    generalize fails c = f at *
    cases f
    · go_wp2_with fail
      refine (bits_any 0 (by omega) _).mono ?_
      rintro e w5 ⟨rfl, hb5⟩
      rw [show isSub 0 = true from rfl]
      replace hb5 := below_next hb4 hb5 (Nat.le_refl _)
      go_wp2_with fail
      refine (bits_any (1000 + c) (by omega) _).mono ?_
      rintro e w6 ⟨rfl, hb6⟩
      rw [sub_high]
      replace hb6 := below_next hb5 hb6 (Nat.le_refl _)
      go_wp2_with fail
      refine (answers_any m c _).mono ?_
      rintro e w7 ⟨rfl, rfl⟩
      rw [ans_high m c HM.out]
      go_wp2
      go_ret
      exact ⟨ret_bool (by first | rfl | simp), hb6⟩
    · obtain ⟨p1, p2⟩ := HF2.out rfl
      have q1 : (0 : Int) < (c : Int) := by omega
      have q2 : (c : Int) < 12 := by omega
      have q3 : decide ((0 : Int) < (c : Int)) = true := by simpa using q1
      clear p1 p2
      go_wp2_with fail
      refine (bits_any 0 (by omega) _).mono ?_
      rintro e w5 ⟨rfl, hb5⟩
      rw [show isSub 0 = true from rfl]
      replace hb5 := below_next hb4 hb5 (Nat.le_refl _)
      go_wp2_with fail
      refine (bits_any (1000 + c) (by omega) _).mono ?_
      rintro e w6 ⟨rfl, hb6⟩
      rw [sub_high]
      replace hb6 := below_next hb5 hb6 (Nat.le_refl _)
      go_wp2_with fail
      refine (answers_any m c _).mono ?_
      rintro e w7 ⟨rfl, rfl⟩
      rw [ans_high m c HM.out]
      go_wp2
      go_ret
      exact ⟨ret_bool (by first | rfl | simp), hb6⟩
  · have l1 : decide ((c : Int) < 128) = false := by simp; omega
    have HP := hide (pub_high c (by omega))
    go_wp2_with fail
    refine (public_any c hc _).mono ?_
    rintro e w2 ⟨rfl, hb2⟩
    rw [HP.out]
    replace hb2 := below_next hb1 hb2 (Nat.le_refl _)
    go_wp2_with fail
    refine (failure_any c hc _).mono ?_
    rintro e w4 ⟨rfl, hb4⟩
    replace hb4 := below_next hb2 hb4 (Nat.le_refl _)
    have HF2 : Hid (fails c = true → 0 < c ∧ c < 12) := HF
    generalize fails c = f at *
    cases f
    · go_wp2_with fail
      refine (bits_any 0 (by omega) _).mono ?_
      rintro e w5 ⟨rfl, hb5⟩
      rw [show isSub 0 = true from rfl]
      replace hb5 := below_next hb4 hb5 (Nat.le_refl _)
      go_wp2_with fail
      refine (bits_any (1000 + c) (by omega) _).mono ?_
      rintro e w6 ⟨rfl, hb6⟩
      rw [sub_high]
      replace hb6 := below_next hb5 hb6 (Nat.le_refl _)
      go_wp2_with fail
      refine (answers_any m c _).mono ?_
      rintro e w7 ⟨rfl, rfl⟩
      rw [ans_high m c HM.out]
      go_wp2
      go_ret
      exact ⟨ret_bool (by first | rfl | simp), hb6⟩
    · have := HF2.out rfl
      omega
  -- go_enter Try.func6, Try.ntmps6
  -- go_wp2
  -- go_ret
  -- exact ⟨rfl, by repeat (first | exact Grown.refl _ | apply Grown.drew | apply Grown.alloc)⟩

/-! ### THE ROW's STEP: WRITTEN OUT: LEAVE IT -/
set_option maxRecDepth 100000 in
theorem lifted (os : Os) (started : os.Started) (H : Type) (enc : TypeId × Value → H) :
    ReturnsInHanded {} Try.checked os 6 .any (Rows.codeManySpec.pre6 enc Try.prog Try.f6 Rows.codeManyRow.domain false) (Rows.codeManySpec.post enc Try.prog Try.f6 false true false false) := by
  refine returnsInHanded_of_change (C := Try.checked) own started (by kernel_rfl) Try.func6
    (ChangeSpec.witness6 (enc := enc) (C := Try.checked) false ⟨#[], #[.int .u8 0], []⟩ 8 (by kernel_rfl) (by kernel_rfl) (by kernel_rfl) (by kernel_rfl)) ?_
  intro W base args ds gs before hval0 hW hcnd _
  have hval : ∀ (j : Nat) t v, Try.f6.params[j]? = some t → args[j]? = some v → Value.okWide Try.prog W .any base t v := hval0
  have hW' := hW
  obtain ⟨p, q, hA0, hV, rfl, hfz, hnd⟩ := hW
  have hA : DataW.TrodAll enc Try.prog W 0 (fun _ => true) true Try.f6.params.toList args.toList ds p := hA0
  rw [Try.params6] at hA hval
  obtain ⟨v0, vs0, d0, ds0, p0, q0, hargs, rfl, rfl, h0, r0⟩ := trodAll_cons hA
  obtain ⟨rfl, rfl, rfl⟩ := trodAll_nil r0
  obtain rfl : args = #[v0] := by cases args; simp_all
  obtain ⟨rfl, rfl⟩ := trodVars_none hV
  obtain ⟨a0, rfl, rfl, rfl, w0⟩ := open_int Try.underlying5 (hval 0 5 v0 rfl rfl) h0
  clear hA0 hval0
  simp only [List.append_nil] at hW'
  refine (walk a0 w0 W).mono fun e W' ⟨he, bel⟩ => ?_
  subst he
  exact ⟨_, rfl, _, _, _, [], _, [], hW', (trodAll_cons_mk (shut_bool Try.underlying4 _) trodAll_mk0), (trodAll_cons_mk (shut_int Try.underlying5 w0) trodAll_mk0), rfl, bel.frame _, fun h => by cases h⟩

theorem over : Rows.codeManyRow.holds Try.pinned (OpenSpec.ofChange Rows.codeManySpec) :=
  OpenClaim.holds_of_wide 6 Try.f6 rfl rfl rfl rfl rfl rfl rfl ⟨rfl, rfl, rfl, rfl, rfl⟩ rfl rfl rfl rfl rfl (by kernel_rfl) Try.func6 (by kernel_rfl)
    (of_decide_eq_true (by kernel_rfl)) (by unfold Func.isWrapper; first | (rw [if_pos (by decide +kernel)]; kernel_rfl) | (rw [if_neg (by decide +kernel)]; exact ⟨rfl, rfl⟩))
    (fun os started H enc _ => lifted os started H enc)

/-- ████ THE STATEMENT ████ -/
theorem proved : Rows.CodeManySaid :=
  over
#print axioms proved
end Go.Proofs.Ytbleeadpangflaa.codeMany
