/-
  Proved: for every input the law CoilsOne answers true, and each argument reads behind the call as it read before.
  Conditions: none (the statement Rows.CoilsOneSaid as it is given).
-/
import Derived.Test.YtgacfocbdeohaaaRows
import Derived.Below
import Derived.Test.YtgacfocbdeohaaaCoilFacts
import Derived.WalkKit
import Derived.ProofKit
import Derived.OpenShut
import Derived.ShutString
namespace Go.Proofs.Ytgacfocbdeohaaa.coilsOne
open Go.ChangeShapes Go.WideShapes Go.ChangeAt Go.RowKit
open Go.ChangeMaps (open_string shut_string)
set_option linter.unusedVariables false      -- a walk need not use every 'w<i>' (that an integer argument fits its kind)

theorem own : ownKnob Try.prog.godebug = none := by kernel_rfl

/-! ### STEP 1: THE WALK: the Go text returns true. 'Grown w w'': the world has at most new blocks (Derived/RowKit3.lean). Part the cases AHEAD of 'go_enter' where a test parts the walk; take each callee by a contract of your own. -/
set_option maxRecDepth 20000 in
set_option maxHeartbeats 2000000 in
theorem walk (a0 : Int) (a1 : Int) (w0 : (Lit.int .u16 a0).wf = true) (w1 : (Lit.int .u16 a1).wf = true) (w : World) :
    Calls Try.prog 10 #[.int .u16 a0, .int .u16 a1] w fun e w' => e = .returned (.bool true) ∧ Below w.heap.size w w' := by
  obtain ⟨a, rfl⟩ := word_arg w0
  obtain ⟨v, rfl⟩ := word_arg w1
  have bv := word_lt v
  clear w0 w1
  obtain ⟨R, W1, W2, HRR⟩ : ∃ R, Hid (Coils.write 0 (Coils.oneM a v) = R) ∧ Hid (Coils.write 1 (Coils.oneM a v) = R) ∧ Hid ((R = some (Word.putW [a, v]) ∧ (v.toNat = 0 ∨ v.toNat = 65280)) ∨ (R = none ∧ ¬ (v.toNat = 0 ∨ v.toNat = 65280))) := by
    by_cases hv : v.toNat = 0 ∨ v.toNat = 65280
    · exact ⟨_, hide (by rw [Coils.write_one (.inl rfl), if_pos hv]), hide (by rw [Coils.write_one (.inr rfl), if_pos hv]), hide (.inl ⟨rfl, hv⟩)⟩
    · exact ⟨_, hide (by rw [Coils.write_one (.inl rfl), if_neg hv]), hide (by rw [Coils.write_one (.inr rfl), if_neg hv]), hide (.inr ⟨rfl, hv⟩)⟩
  go_enter Try.func10, Try.ntmps10
  go_wp2_with fail
  refine (awake_any w).mono ?_
  rintro e u1 ⟨rfl, hb1⟩
  go_wp2_with ((with_reducible (show wpList _ _ _ ({ dst := _, op := Op.store _ _ _, type := _, pos := _, after := _, guard := _ } :: _) _ _)); refine wpList_store_new rfl 30 _ _ rfl (Coils.oneCells (wordV a) (wordV v)) rfl rfl (msg_size _ rfl) rfl (by simp [Value.oneCell']) ?_)
  intro u2 h2 b2
  replace hb1 := below_next hb1 b2 (Nat.le_refl _)
  clear b2
  generalize u1.heap.size = g at *
  go_wp2_with ((with_reducible (show wpList _ _ _ ({ dst := _, op := Op.load _ _, type := _, pos := _, after := _, guard := _ } :: _) _ _)); refine wpList_load_rowG (by rfl) 30 _ rfl g rfl _ (load_whole h2 rfl) ?_)
  refine (Coils.code_write 0 _ (Coils.oneM a v) u2 (Coils.one_at _ a v) (Coils.one_small a v)).mono ?_
  rintro e u3 ⟨⟨a3, l3, c3, rfl, hx3⟩, b3⟩
  replace hb1 := below_next hb1 b3 (Nat.le_refl _)
  replace h2 := (b3.block g (lt_of_block h2)).trans h2
  rw [W1.out] at hx3 ⊢
  have HX3 := hide hx3
  clear b3 hx3
  go_wp2_with ((with_reducible (show wpList _ _ _ ({ dst := _, op := Op.load _ _, type := _, pos := _, after := _, guard := _ } :: _) _ _)); refine wpList_load_rowG (by rfl) 30 _ rfl g rfl _ (load_whole h2 rfl) ?_)
  refine (Coils.code_write 1 _ (Coils.oneM a v) u3 (Coils.one_at _ a v) (Coils.one_small a v)).mono ?_
  rintro e u4 ⟨⟨a4, l4, c4, rfl, hx4⟩, b4⟩
  replace hb1 := below_next hb1 b4 (Nat.le_refl _)
  rw [W2.out] at hx4 ⊢
  replace HX3 := hide (HX3.out.mono b4)
  have HX4 := hide hx4
  clear b4 hx4 h2
  clear W1 W2
  rcases HRR.out with ⟨rfl, hv⟩ | ⟨rfl, hv⟩
  · replace HX3 : Hid (Bs u4 a3 l3 c3 (Word.putW [a, v])) := HX3
    replace HX4 : Hid (Bs u4 a4 l4 c4 (Word.putW [a, v])) := HX4
    have hl3 : Hid (l3 = 4) := hide HX3.out.hlen.symm
    have q0 : Coils.errW (some (Word.putW [a, v])) = 0 := rfl
    rw [q0]
    clear HRR q0
    generalize v.toNat = n at *
    rcases hv with rfl | rfl
    all_goals
      go_wp2_with fail
      refine (same_any _ _ _ _ _ _ _ _ _ HX3.out HX4.out).mono ?_
      rintro e u5 ⟨rfl, rfl⟩
      rw [decide_eq_true (rfl : Word.putW [a, v] = Word.putW [a, v])]
      rw [hl3.out]
      go_wp2
      go_ret
      exact ⟨rfl, hb1⟩
  · have q0 : Coils.errW (none : Option (List UInt8)) = 1 := rfl
    rw [q0]
    clear HRR
    generalize v.toNat = n at *
    have i1 : ((n : Int) == 0) = false := by simp; omega
    have i2 : ((n : Int) == 65280) = false := by simp; omega
    have i3 : ((n : Int) != 0) = true := by simp; omega
    have i4 : ((n : Int) != 65280) = true := by simp; omega
    clear hv HX3 HX4 q0
    go_wp2
    go_ret
    exact ⟨by first | rfl | simp [*], hb1⟩
  -- go_enter Try.func10, Try.ntmps10
  -- go_wp2
  -- go_ret
  -- exact ⟨rfl, by repeat (first | exact Grown.refl _ | apply Grown.drew | apply Grown.alloc)⟩

/-! ### THE ROW's STEP: WRITTEN OUT: LEAVE IT -/
set_option maxRecDepth 100000 in
theorem lifted (os : Os) (started : os.Started) (H : Type) (enc : TypeId × Value → H) :
    ReturnsInHanded {} Try.checked os 10 .any (Rows.coilsOneSpec.pre6 enc Try.prog Try.f10 Rows.coilsOneRow.domain false) (Rows.coilsOneSpec.post enc Try.prog Try.f10 false true false false) := by
  refine returnsInHanded_of_change (C := Try.checked) own started (by kernel_rfl) Try.func10
    (ChangeSpec.witness6 (enc := enc) (C := Try.checked) false ⟨#[], #[.int .u16 0, .int .u16 0], []⟩ 8 (by kernel_rfl) (by kernel_rfl) (by kernel_rfl) (by kernel_rfl)) ?_
  intro W base args ds gs before hval0 hW hcnd _
  have hval : ∀ (j : Nat) t v, Try.f10.params[j]? = some t → args[j]? = some v → Value.okWide Try.prog W .any base t v := hval0
  have hW' := hW
  obtain ⟨p, q, hA0, hV, rfl, hfz, hnd⟩ := hW
  have hA : DataW.TrodAll enc Try.prog W 0 (fun _ => true) true Try.f10.params.toList args.toList ds p := hA0
  rw [Try.params10] at hA hval
  obtain ⟨v0, vs0, d0, ds0, p0, q0, hargs, rfl, rfl, h0, r0⟩ := trodAll_cons hA
  obtain ⟨v1, vs1, d1, ds1, p1, q1, rfl, rfl, rfl, h1, r1⟩ := trodAll_cons r0
  obtain ⟨rfl, rfl, rfl⟩ := trodAll_nil r1
  obtain rfl : args = #[v0, v1] := by cases args; simp_all
  obtain ⟨rfl, rfl⟩ := trodVars_none hV
  obtain ⟨a0, rfl, rfl, rfl, w0⟩ := open_int Try.underlying24 (hval 0 24 v0 rfl rfl) h0
  obtain ⟨a1, rfl, rfl, rfl, w1⟩ := open_int Try.underlying24 (hval 1 24 v1 rfl rfl) h1
  clear hA0 hval0
  simp only [List.append_nil] at hW'
  refine (walk a0 a1 w0 w1 W).mono fun e W' ⟨he, bel⟩ => ?_
  subst he
  exact ⟨_, rfl, _, _, _, [], _, [], hW', (trodAll_cons_mk (shut_bool Try.underlying4 _) trodAll_mk0), (trodAll_cons_mk (shut_int Try.underlying24 w0) (trodAll_cons_mk (shut_int Try.underlying24 w1) trodAll_mk0)), rfl, bel.frame _, fun h => by cases h⟩

theorem over : Rows.coilsOneRow.holds Try.pinned (OpenSpec.ofChange Rows.coilsOneSpec) :=
  OpenClaim.holds_of_wide 10 Try.f10 rfl rfl rfl rfl rfl rfl rfl ⟨rfl, rfl, rfl, rfl, rfl⟩ rfl rfl rfl rfl rfl (by kernel_rfl) Try.func10 (by kernel_rfl)
    (of_decide_eq_true (by kernel_rfl)) (by unfold Func.isWrapper; first | (rw [if_pos (by decide +kernel)]; kernel_rfl) | (rw [if_neg (by decide +kernel)]; exact ⟨rfl, rfl⟩))
    (fun os started H enc _ => lifted os started H enc)

/-- ████ THE STATEMENT ████ -/
theorem proved : Rows.CoilsOneSaid :=
  over
#print axioms proved
end Go.Proofs.Ytgacfocbdeohaaa.coilsOne
