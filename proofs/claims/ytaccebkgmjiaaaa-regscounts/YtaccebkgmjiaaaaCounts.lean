/-
  Proved: for every input the law RegsCounts answers true, and each argument reads behind the call as it read before.
  Conditions: none (the statement Rows.RegsCountsSaid as it is given).
-/
import Derived.Test.YtaccebkgmjiaaaaRows
import Derived.Below
import Derived.Test.YtaccebkgmjiaaaaRegFacts
import Derived.WalkKit
import Derived.ProofKit
import Derived.OpenShut
import Derived.ShutString
namespace Go.Proofs.Ytaccebkgmjiaaaa.regsCounts
open Go.ChangeShapes Go.WideShapes Go.ChangeAt Go.RowKit
open Go.ChangeMaps (open_string shut_string)
set_option linter.unusedVariables false      -- a walk need not use every 'w<i>' (that an integer argument fits its kind)

theorem own : ownKnob Try.prog.godebug = none := by kernel_rfl

/-! ### STEP 1: THE WALK: the Go text returns true. 'Grown w w'': the world has at most new blocks (Derived/RowKit3.lean). Part the cases AHEAD of 'go_enter' where a test parts the walk; take each callee by a contract of your own. -/
set_option maxRecDepth 20000 in
set_option maxHeartbeats 2000000 in
theorem walk (a0 : Int) (a1 : Int) (w0 : (Lit.int .u16 a0).wf = true) (w1 : (Lit.int .u16 a1).wf = true) (w : World) :
    Calls Try.prog 6 #[.int .u16 a0, .int .u16 a1] w fun e w' => e = .returned (.bool true) ∧ Below w.heap.size w w' := by
  obtain ⟨a, rfl⟩ := word_arg w0
  obtain ⟨k, rfl⟩ := word_arg w1
  have ba := word_lt a
  have bk := word_lt k
  clear w0 w1
  have hwr : IntKind.i64.wrap ((a.toNat : Int) + (k.toNat : Int)) = (a.toNat : Int) + (k.toNat : Int) := by rw [IntKind.wrap_i64]; omega
  have hwa : IntKind.i64.wrap (a.toNat : Int) = (a.toNat : Int) := by rw [IntKind.wrap_i64]; omega
  have hwk : IntKind.i64.wrap (k.toNat : Int) = (k.toNat : Int) := by rw [IntKind.wrap_i64]; omega
  go_enter Try.func6, Try.ntmps6
  go_wp2_with fail
  refine (awake_any w).mono ?_
  rintro e u1 ⟨rfl, hb1⟩
  go_wp2_with fail
  refine (Regs.code_write 0 _ (Regs.askM 4 a k) u1 (Regs.m_at (m := Regs.askM 4 a k) (Sl.nil u1 none (Nat.zero_le _)) rfl) (Regs.small_of (Nat.zero_le _) rfl rfl rfl rfl)).mono ?_
  rintro e u2 ⟨⟨a2, l2, c2, rfl, _⟩, b2⟩
  replace hb1 := below_next hb1 b2 (Nat.le_refl _)
  have HE1 : Hid (Regs.errW (Regs.write 0 (Regs.askM 4 a k)) = if 1 ≤ k.toNat ∧ k.toNat ≤ 125 ∧ a.toNat + k.toNat ≤ 65536 then 0 else 1) := hide (by rw [Regs.write_ask (.inr rfl)]; split <;> rfl)
  clear b2
  generalize Regs.errW (Regs.write 0 (Regs.askM 4 a k)) = E1 at *
  go_wp2_with fail
  refine (Regs.code_write 1 _ (Regs.askM 16 a k) u2 (Regs.m_at (m := Regs.askM 16 a k) (Sl.nil u2 none (Nat.zero_le _)) rfl) (Regs.small_of (Nat.zero_le _) rfl rfl rfl rfl)).mono ?_
  rintro e u3 ⟨⟨a3, l3, c3, rfl, _⟩, b3⟩
  replace hb1 := below_next hb1 b3 (Nat.le_refl _)
  have HE2 : Hid (Regs.errW (Regs.write 1 (Regs.askM 16 a k)) = if 1 ≤ k.toNat ∧ k.toNat ≤ 123 ∧ a.toNat + k.toNat ≤ 65536 then 0 else 1) := hide (by rw [Regs.write_done]; split <;> rfl)
  clear b3
  generalize Regs.errW (Regs.write 1 (Regs.askM 16 a k)) = E2 at *
  go_wp2_with fail
  refine (Regs.code_write 0 _ (Regs.bothM a k 0 [7]) _ (Regs.m_at (m := Regs.bothM a k 0 [7]) (litW u3 [7] 1 rfl (by omega) [.int .u16 7] 24 rfl).sl rfl) (Regs.small_of (by show 1 ≤ _; omega) rfl rfl rfl rfl)).mono ?_
  rintro e u4 ⟨⟨a4, l4, c4, rfl, _⟩, b4⟩
  replace hb1 := below_next (below_next hb1 ((Below.refl u3.heap.size u3).alloc (Nat.le_refl _) _) (Nat.le_refl _)) b4 (Nat.le_refl _)
  have HE3 : Hid (Regs.errW (Regs.write 0 (Regs.bothM a k 0 [7])) = if 1 ≤ k.toNat ∧ k.toNat ≤ 125 ∧ a.toNat + k.toNat ≤ 65536 then 0 else 1) := hide (by
    rw [Regs.write_both]
    by_cases h : 1 ≤ k.toNat ∧ k.toNat ≤ 125 ∧ a.toNat + k.toNat ≤ 65536
    · rw [if_pos h, if_pos ⟨h, by decide, by decide, by decide⟩]; rfl
    · rw [if_neg h, if_neg (fun g => h g.1)]; rfl)
  clear b4
  generalize Regs.errW (Regs.write 0 (Regs.bothM a k 0 [7])) = E3 at *
  go_wp2_with fail
  refine (Regs.code_write 0 _ (Regs.queueM a) u4 (Regs.m_at (m := Regs.queueM a) (Sl.nil u4 none (Nat.zero_le _)) rfl) (Regs.small_of (by show 0 ≤ _; omega) rfl rfl rfl rfl)).mono ?_
  rintro e u5 ⟨⟨a5, l5, c5, rfl, _⟩, b5⟩
  replace hb1 := below_next hb1 b5 (Nat.le_refl _)
  rw [show Regs.errW (Regs.write 0 (Regs.queueM a)) = 0 by rw [Regs.write_queue]; rfl]
  clear b5
  generalize a.toNat = p at *
  generalize k.toNat = n at *
  by_cases h1 : 1 ≤ n <;> by_cases h2 : n ≤ 125 <;> by_cases h3 : n ≤ 123 <;> by_cases h4 : p + n ≤ 65536
  all_goals first
    | (exfalso; omega)
    | (have e1 := HE1.out
       have e2 := HE2.out
       have e3 := HE3.out
       first | rw [if_pos (by omega)] at e1 | rw [if_neg (by omega)] at e1
       first | rw [if_pos (by omega)] at e2 | rw [if_neg (by omega)] at e2
       first | rw [if_pos (by omega)] at e3 | rw [if_neg (by omega)] at e3
       subst e1 e2 e3
       clear HE1 HE2 HE3
       have i1 : decide ((1 : Int) ≤ (n : Int)) = decide (1 ≤ n) := by rw [Bool.eq_iff_iff]; simp; omega
       have i2 : decide ((n : Int) ≤ 125) = decide (n ≤ 125) := by rw [Bool.eq_iff_iff]; simp; omega
       have i3 : decide ((n : Int) ≤ 123) = decide (n ≤ 123) := by rw [Bool.eq_iff_iff]; simp; omega
       have i4 : decide ((p : Int) + (n : Int) ≤ 65536) = decide (p + n ≤ 65536) := by rw [Bool.eq_iff_iff]; simp; omega
       simp only [h1, h2, h3, h4, decide_true, decide_false] at i1 i2 i3 i4
       go_wp2
       go_ret
       exact ⟨by first | rfl | (simp [*]; done), hb1⟩)
  -- go_enter Try.func6, Try.ntmps6
  -- go_wp2
  -- go_ret
  -- exact ⟨rfl, by repeat (first | exact Grown.refl _ | apply Grown.drew | apply Grown.alloc)⟩

/-! ### THE ROW's STEP: WRITTEN OUT: LEAVE IT -/
set_option maxRecDepth 100000 in
theorem lifted (os : Os) (started : os.Started) (H : Type) (enc : TypeId × Value → H) :
    ReturnsInHanded {} Try.checked os 6 .any (Rows.regsCountsSpec.pre6 enc Try.prog Try.f6 Rows.regsCountsRow.domain false) (Rows.regsCountsSpec.post enc Try.prog Try.f6 false true false false) := by
  refine returnsInHanded_of_change (C := Try.checked) own started (by kernel_rfl) Try.func6
    (ChangeSpec.witness6 (enc := enc) (C := Try.checked) false ⟨#[], #[.int .u16 0, .int .u16 0], []⟩ 8 (by kernel_rfl) (by kernel_rfl) (by kernel_rfl) (by kernel_rfl)) ?_
  intro W base args ds gs before hval0 hW hcnd _
  have hval : ∀ (j : Nat) t v, Try.f6.params[j]? = some t → args[j]? = some v → Value.okWide Try.prog W .any base t v := hval0
  have hW' := hW
  obtain ⟨p, q, hA0, hV, rfl, hfz, hnd⟩ := hW
  have hA : DataW.TrodAll enc Try.prog W 0 (fun _ => true) true Try.f6.params.toList args.toList ds p := hA0
  rw [Try.params6] at hA hval
  obtain ⟨v0, vs0, d0, ds0, p0, q0, hargs, rfl, rfl, h0, r0⟩ := trodAll_cons hA
  obtain ⟨v1, vs1, d1, ds1, p1, q1, rfl, rfl, rfl, h1, r1⟩ := trodAll_cons r0
  obtain ⟨rfl, rfl, rfl⟩ := trodAll_nil r1
  obtain rfl : args = #[v0, v1] := by cases args; simp_all
  obtain ⟨rfl, rfl⟩ := trodVars_none hV
  obtain ⟨a0, rfl, rfl, rfl, w0⟩ := open_int Try.underlying24 (hval 0 24 v0 rfl rfl) h0
  obtain ⟨a1, rfl, rfl, rfl, w1⟩ := open_int Try.underlying24 (hval 1 24 v1 rfl rfl) h1
  clear hA0 hval0
  simp only [List.append_nil] at hW'
  refine (walk a0 a1 w0 w1 W).mono fun e W' ⟨he, bel⟩ => ?_
  subst he
  exact ⟨_, rfl, _, _, _, [], _, [], hW', (trodAll_cons_mk (shut_bool Try.underlying4 _) trodAll_mk0), (trodAll_cons_mk (shut_int Try.underlying24 w0) (trodAll_cons_mk (shut_int Try.underlying24 w1) trodAll_mk0)), rfl, bel.frame _, fun h => by cases h⟩

theorem over : Rows.regsCountsRow.holds Try.pinned (OpenSpec.ofChange Rows.regsCountsSpec) :=
  OpenClaim.holds_of_wide 6 Try.f6 rfl rfl rfl rfl rfl rfl rfl ⟨rfl, rfl, rfl, rfl, rfl⟩ rfl rfl rfl rfl rfl (by kernel_rfl) Try.func6 (by kernel_rfl)
    (of_decide_eq_true (by kernel_rfl)) (by unfold Func.isWrapper; first | (rw [if_pos (by decide +kernel)]; kernel_rfl) | (rw [if_neg (by decide +kernel)]; exact ⟨rfl, rfl⟩))
    (fun os started H enc _ => lifted os started H enc)

/-- ████ THE STATEMENT ████ -/
theorem proved : Rows.RegsCountsSaid :=
  over
#print axioms proved
end Go.Proofs.Ytaccebkgmjiaaaa.regsCounts
