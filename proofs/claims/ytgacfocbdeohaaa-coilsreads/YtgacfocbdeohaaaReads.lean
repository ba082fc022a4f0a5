/-
  Proved: for every input the law CoilsReads answers true, and each argument reads behind the call as it read before.
  Conditions: none (the statement Rows.CoilsReadsSaid as it is given).
-/
import Derived.Test.YtgacfocbdeohaaaRows
import Derived.Below
import Derived.Test.YtgacfocbdeohaaaCoilFacts
import Derived.WalkKit
import Derived.ProofKit
import Derived.OpenShut
import Derived.ShutString
namespace Go.Proofs.Ytgacfocbdeohaaa.coilsReads
open Go.ChangeShapes Go.WideShapes Go.ChangeAt Go.RowKit
open Go.ChangeMaps (open_string shut_string)
set_option linter.unusedVariables false      -- a walk need not use every 'w<i>' (that an integer argument fits its kind)

theorem own : ownKnob Try.prog.godebug = none := by kernel_rfl

/-! ### STEP 1: THE WALK: the Go text returns true. 'Grown w w'': the world has at most new blocks (Derived/RowKit3.lean). Part the cases AHEAD of 'go_enter' where a test parts the walk; take each callee by a contract of your own. -/
set_option maxRecDepth 20000 in
set_option maxHeartbeats 2000000 in
theorem walk (a0 : Int) (a1 : Int) (w0 : (Lit.int .u16 a0).wf = true) (w1 : (Lit.int .u16 a1).wf = true) (w : World) :
    Calls Try.prog 8 #[.int .u16 a0, .int .u16 a1] w fun e w' => e = .returned (.bool true) ∧ Below w.heap.size w w' := by
  obtain ⟨a, rfl⟩ := word_arg w0
  obtain ⟨k, rfl⟩ := word_arg w1
  have ba := word_lt a
  have bk := word_lt k
  clear w0 w1
  obtain ⟨R, W1, W2, hR⟩ : ∃ R, Hid (Coils.write 0 (Coils.askM 1 a k) = R) ∧ Hid (Coils.write 0 (Coils.askM 2 a k) = R) ∧ (R = some (Word.putW [a, k]) ∨ R = none) := by
    by_cases hv : 1 ≤ k.toNat ∧ k.toNat ≤ 2000 ∧ a.toNat + k.toNat ≤ 65536
    · exact ⟨_, hide (by rw [Coils.write_asked (.inl rfl), if_pos hv]), hide (by rw [Coils.write_asked (.inr rfl), if_pos hv]), .inl rfl⟩
    · exact ⟨_, hide (by rw [Coils.write_asked (.inl rfl), if_neg hv]), hide (by rw [Coils.write_asked (.inr rfl), if_neg hv]), .inr rfl⟩
  have HRR := hide hR
  clear hR
  go_enter Try.func8, Try.ntmps8
  go_wp2_with fail
  refine (awake_any w).mono ?_
  rintro e u1 ⟨rfl, hb1⟩
  go_wp2_with fail
  refine (Coils.code_write 0 _ (Coils.askM 1 a k) u1 (Coils.ask_at _ 1 a k) (Coils.ask_small 1 a k)).mono ?_
  rintro e u2 ⟨⟨a2, l2, c2, rfl, hx2⟩, b2⟩
  replace hb1 := below_next hb1 b2 (Nat.le_refl _)
  rw [W1.out] at hx2 ⊢
  have HX2 := hide hx2
  clear b2 hx2
  go_wp2_with fail
  refine (Coils.code_write 0 _ (Coils.askM 2 a k) u2 (Coils.ask_at _ 2 a k) (Coils.ask_small 2 a k)).mono ?_
  rintro e u3 ⟨⟨a3, l3, c3, rfl, hx3⟩, b3⟩
  replace hb1 := below_next hb1 b3 (Nat.le_refl _)
  rw [W2.out] at hx3 ⊢
  replace HX2 := hide (HX2.out.mono b3)
  have HX3 := hide hx3
  clear b3 hx3
  clear W1 W2
  rcases HRR.out with rfl | rfl
  · replace HX2 : Hid (Bs u3 a2 l2 c2 (Word.putW [a, k])) := HX2
    replace HX3 : Hid (Bs u3 a3 l3 c3 (Word.putW [a, k])) := HX3
    have q0 : Coils.errW (some (Word.putW [a, k])) = 0 := rfl
    rw [q0]
    clear q0 HRR
    go_wp2_with fail
    refine (same_any _ _ _ _ _ _ _ _ _ HX2.out HX3.out).mono ?_
    rintro e u4 ⟨rfl, hu4⟩
    subst hu4
    rw [decide_eq_true (rfl : Word.putW [a, k] = Word.putW [a, k])]
    go_wp2_with fail
    have y0 : (Word.hiB a).toNat = a.toNat / 256 := by unfold Word.hiB; rw [UInt8.toNat_ofNat']; omega
    have y1 : (Word.loB a).toNat = a.toNat % 256 := by unfold Word.loB; rw [UInt8.toNat_ofNat']; omega
    have y2 : (Word.hiB k).toNat = k.toNat / 256 := by unfold Word.hiB; rw [UInt8.toNat_ofNat']; omega
    have y3 : (Word.loB k).toNat = k.toNat % 256 := by unfold Word.loB; rw [UInt8.toNat_ofNat']; omega
    refine (same_any _ _ _ _ _ _ (Word.putW [a, k]) [Word.hiB a, Word.loB a, Word.hiB k, Word.loB k] _ (HX2.out.alloc _) (lit_four _ _ _ _ _ _ _ _ _ (by rw [y0]; omega) (by rw [y1]; omega) (by rw [y2]; omega) (by rw [y3]; omega) _)).mono ?_
    rintro e u5 ⟨rfl, hu5⟩
    subst hu5
    rw [show decide (Word.putW [a, k] = [Word.hiB a, Word.loB a, Word.hiB k, Word.loB k]) = true from decide_eq_true rfl]
    go_wp2
    go_ret
    exact ⟨rfl, hb1.alloc hb1.size _⟩
  · have h2 : l2 = 0 := HX2.out.hlen.symm
    have h3 : l3 = 0 := HX3.out.hlen.symm
    have q0 : Coils.errW (none : Option (List UInt8)) = 1 := rfl
    rw [q0]
    clear HX2 HX3 q0 HRR
    subst h2 h3
    go_wp2
    go_ret
    exact ⟨rfl, hb1⟩
  -- go_enter Try.func8, Try.ntmps8
  -- go_wp2
  -- go_ret
  -- exact ⟨rfl, by repeat (first | exact Grown.refl _ | apply Grown.drew | apply Grown.alloc)⟩

/-! ### THE ROW's STEP: WRITTEN OUT: LEAVE IT -/
set_option maxRecDepth 100000 in
theorem lifted (os : Os) (started : os.Started) (H : Type) (enc : TypeId × Value → H) :
    ReturnsInHanded {} Try.checked os 8 .any (Rows.coilsReadsSpec.pre6 enc Try.prog Try.f8 Rows.coilsReadsRow.domain false) (Rows.coilsReadsSpec.post enc Try.prog Try.f8 false true false false) := by
  refine returnsInHanded_of_change (C := Try.checked) own started (by kernel_rfl) Try.func8
    (ChangeSpec.witness6 (enc := enc) (C := Try.checked) false ⟨#[], #[.int .u16 0, .int .u16 0], []⟩ 8 (by kernel_rfl) (by kernel_rfl) (by kernel_rfl) (by kernel_rfl)) ?_
  intro W base args ds gs before hval0 hW hcnd _
  have hval : ∀ (j : Nat) t v, Try.f8.params[j]? = some t → args[j]? = some v → Value.okWide Try.prog W .any base t v := hval0
  have hW' := hW
  obtain ⟨p, q, hA0, hV, rfl, hfz, hnd⟩ := hW
  have hA : DataW.TrodAll enc Try.prog W 0 (fun _ => true) true Try.f8.params.toList args.toList ds p := hA0
  rw [Try.params8] at hA hval
  obtain ⟨v0, vs0, d0, ds0, p0, q0, hargs, rfl, rfl, h0, r0⟩ := trodAll_cons hA
  obtain ⟨v1, vs1, d1, ds1, p1, q1, rfl, rfl, rfl, h1, r1⟩ := trodAll_cons r0
  obtain ⟨rfl, rfl, rfl⟩ := trodAll_nil r1
  obtain rfl : args = #[v0, v1] := by cases args; simp_all
  obtain ⟨rfl, rfl⟩ := trodVars_none hV
  obtain ⟨a0, rfl, rfl, rfl, w0⟩ := open_int Try.underlying24 (hval 0 24 v0 rfl rfl) h0
  obtain ⟨a1, rfl, rfl, rfl, w1⟩ := open_int Try.underlying24 (hval 1 24 v1 rfl rfl) h1
  clear hA0 hval0
  simp only [List.append_nil] at hW'
  refine (walk a0 a1 w0 w1 W).mono fun e W' ⟨he, bel⟩ => ?_
  subst he
  exact ⟨_, rfl, _, _, _, [], _, [], hW', (trodAll_cons_mk (shut_bool Try.underlying4 _) trodAll_mk0), (trodAll_cons_mk (shut_int Try.underlying24 w0) (trodAll_cons_mk (shut_int Try.underlying24 w1) trodAll_mk0)), rfl, bel.frame _, fun h => by cases h⟩

theorem over : Rows.coilsReadsRow.holds Try.pinned (OpenSpec.ofChange Rows.coilsReadsSpec) :=
  OpenClaim.holds_of_wide 8 Try.f8 rfl rfl rfl rfl rfl rfl rfl ⟨rfl, rfl, rfl, rfl, rfl⟩ rfl rfl rfl rfl rfl (by kernel_rfl) Try.func8 (by kernel_rfl)
    (of_decide_eq_true (by kernel_rfl)) (by unfold Func.isWrapper; first | (rw [if_pos (by decide +kernel)]; kernel_rfl) | (rw [if_neg (by decide +kernel)]; exact ⟨rfl, rfl⟩))
    (fun os started H enc _ => lifted os started H enc)

/-- ████ THE STATEMENT ████ -/
theorem proved : Rows.CoilsReadsSaid :=
  over
#print axioms proved
end Go.Proofs.Ytgacfocbdeohaaa.coilsReads
