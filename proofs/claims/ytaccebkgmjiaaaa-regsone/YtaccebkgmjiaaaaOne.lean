/-
  Proved: for every input the law RegsOne answers true, and each argument reads behind the call as it read before.
  Conditions: none (the statement Rows.RegsOneSaid as it is given).
-/
import Derived.Test.YtaccebkgmjiaaaaRows
import Derived.Below
import Derived.Test.YtaccebkgmjiaaaaRegFacts
import Derived.WalkKit
import Derived.ProofKit
import Derived.OpenShut
import Derived.ShutString
namespace Go.Proofs.Ytaccebkgmjiaaaa.regsOne
open Go.ChangeShapes Go.WideShapes Go.ChangeAt Go.RowKit
open Go.ChangeMaps (open_string shut_string)
set_option linter.unusedVariables false      -- a walk need not use every 'w<i>' (that an integer argument fits its kind)

theorem own : ownKnob Try.prog.godebug = none := by kernel_rfl

/-! ### STEP 1: THE WALK: the Go text returns true. 'Grown w w'': the world has at most new blocks (Derived/RowKit3.lean). Part the cases AHEAD of 'go_enter' where a test parts the walk; take each callee by a contract of your own. -/
set_option maxRecDepth 20000 in
set_option maxHeartbeats 2000000 in
theorem walk (a0 : Int) (a1 : Int) (a2 : Int) (w0 : (Lit.int .u16 a0).wf = true) (w1 : (Lit.int .u16 a1).wf = true) (w2 : (Lit.int .u16 a2).wf = true) (w : World) :
    Calls Try.prog 9 #[.int .u16 a0, .int .u16 a1, .int .u16 a2] w fun e w' => e = .returned (.bool true) ∧ Below w.heap.size w w' := by
  obtain ⟨a, rfl⟩ := word_arg w0
  obtain ⟨x, rfl⟩ := word_arg w1
  obtain ⟨y, rfl⟩ := word_arg w2
  have by_ := word_lt y
  clear w0 w1 w2
  have W1 : Hid (Regs.write 0 (Regs.oneM a x) = some (Word.putW [a, x])) := hide (Regs.write_one (.inl rfl) a x)
  have W2 : Hid (Regs.write 1 (Regs.oneM a x) = some (Word.putW [a, x])) := hide (Regs.write_one (.inr rfl) a x)
  have W3 : Hid (Regs.write 0 (Regs.maskM a x y) = some (Word.putW [a, x, y])) := hide (Regs.write_mask (.inl rfl) a x y)
  have W4 : Hid (Regs.write 1 (Regs.maskM a x y) = some (Word.putW [a, x, y])) := hide (Regs.write_mask (.inr rfl) a x y)
  have q2 : Regs.errW (some (Word.putW [a, x])) = 0 := rfl
  have q3 : Regs.errW (some (Word.putW [a, x, y])) = 0 := rfl
  have Q2 := hide q2
  have Q3 := hide q3
  clear q2 q3
  go_enter Try.func9, Try.ntmps9
  go_wp2_with fail
  refine (awake_any w).mono ?_
  rintro e u1 ⟨rfl, hb1⟩
  go_wp2_with fail
  refine (Regs.code_write 0 _ (Regs.oneM a x) u1 (Regs.m_at (m := Regs.oneM a x) (Sl.nil u1 none (Nat.zero_le _)) rfl) (Regs.small_of (Nat.zero_le _) rfl rfl rfl rfl)).mono ?_
  rintro e u2 ⟨⟨a2, l2, c2, rfl, hx2⟩, b2⟩
  replace hb1 := below_next hb1 b2 (Nat.le_refl _)
  rw [W1.out] at hx2 ⊢
  rw [Q2.out]
  have HX2 : Hid (Bs u2 a2 l2 c2 (Word.putW [a, x])) := hide hx2
  clear b2 hx2 W1
  go_wp2_with fail
  refine (Regs.code_write 1 _ (Regs.oneM a x) u2 (Regs.m_at (m := Regs.oneM a x) (Sl.nil u2 none (Nat.zero_le _)) rfl) (Regs.small_of (Nat.zero_le _) rfl rfl rfl rfl)).mono ?_
  rintro e u3 ⟨⟨a3, l3, c3, rfl, hx3⟩, b3⟩
  replace hb1 := below_next hb1 b3 (Nat.le_refl _)
  rw [W2.out] at hx3 ⊢
  rw [Q2.out]
  have HX3 : Hid (Bs u3 a3 l3 c3 (Word.putW [a, x])) := hide hx3
  replace HX2 := hide (HX2.out.mono b3)
  clear b3 hx3 W2 Q2
  go_wp2_with fail
  refine (Regs.code_write 0 _ (Regs.maskM a x y) u3 (Regs.m_at (m := Regs.maskM a x y) (Sl.nil u3 none (Nat.zero_le _)) rfl) (Regs.small_of (Nat.zero_le _) rfl rfl rfl rfl)).mono ?_
  rintro e u4 ⟨⟨a4, l4, c4, rfl, hx4⟩, b4⟩
  replace hb1 := below_next hb1 b4 (Nat.le_refl _)
  rw [W3.out] at hx4 ⊢
  rw [Q3.out]
  have HX4 : Hid (Bs u4 a4 l4 c4 (Word.putW [a, x, y])) := hide hx4
  replace HX2 := hide (HX2.out.mono b4)
  replace HX3 := hide (HX3.out.mono b4)
  clear b4 hx4 W3
  go_wp2_with fail
  refine (Regs.code_write 1 _ (Regs.maskM a x y) u4 (Regs.m_at (m := Regs.maskM a x y) (Sl.nil u4 none (Nat.zero_le _)) rfl) (Regs.small_of (Nat.zero_le _) rfl rfl rfl rfl)).mono ?_
  rintro e u5 ⟨⟨a5, l5, c5, rfl, hx5⟩, b5⟩
  replace hb1 := below_next hb1 b5 (Nat.le_refl _)
  rw [W4.out] at hx5 ⊢
  rw [Q3.out]
  have HX5 : Hid (Bs u5 a5 l5 c5 (Word.putW [a, x, y])) := hide hx5
  replace HX2 := hide (HX2.out.mono b5)
  replace HX3 := hide (HX3.out.mono b5)
  replace HX4 := hide (HX4.out.mono b5)
  clear b5 hx5 W4 Q3
  obtain rfl : l4 = 6 := HX4.out.hlen.symm
  obtain rfl : l2 = 4 := HX2.out.hlen.symm
  have hm4 := HX4.out.hle
  have hm5 := HX4.out.hmax
  unfold maxLen at hm5
  have HT := hide (HX4.out.take 4 (by omega))
  obtain ⟨b4, off4, rfl, hb4, hc4⟩ := HX4.out.at (by omega)
  have k4 : u5.cell? ⟨b4, off4 + 4, none⟩ = some (.int .u8 ((y.toNat : Int) / 256)) := (hc4 4 (by simp [Word.putW_length])).trans (by
    show some (byteV (Word.hiB y)) = _
    unfold Word.hiB
    simp only [byteV, UInt8.toNat_ofNat']
    congr 2
    omega)
  have k5 : u5.cell? ⟨b4, off4 + 5, none⟩ = some (.int .u8 ((y.toNat : Int) % 256)) := (hc4 5 (by simp [Word.putW_length])).trans (by
    show some (byteV (Word.loB y)) = _
    unfold Word.loB
    simp only [byteV, UInt8.toNat_ofNat']
    congr 2
    omega)
  have hq1 : IntKind.u8.wrap ((y.toNat : Int) / 256) = (y.toNat : Int) / 256 := by rw [IntKind.wrap_u8]; omega
  have hq2 : IntKind.u8.wrap ((y.toNat : Int) % 256) = (y.toNat : Int) % 256 := by rw [IntKind.wrap_u8]; omega
  clear hc4
  generalize y.toNat = ky at *
  go_wp2_with fail
  refine (same_any _ _ _ _ _ _ _ _ _ HX2.out HX3.out).mono ?_
  rintro e u6 ⟨rfl, rfl⟩
  rw [decide_eq_true (rfl : Word.putW [a, x] = Word.putW [a, x])]
  go_wp2_with fail
  refine (same_any _ _ _ _ _ _ _ _ _ HX4.out HX5.out).mono ?_
  rintro e u6 ⟨rfl, rfl⟩
  rw [decide_eq_true (rfl : Word.putW [a, x, y] = Word.putW [a, x, y])]
  go_wp2_with fail
  refine (same_any _ _ _ _ _ _ _ _ _ HT.out HX2.out).mono ?_
  rintro e u6 ⟨rfl, rfl⟩
  rw [decide_eq_true (show (Word.putW [a, x, y]).take 4 = Word.putW [a, x] from rfl)]
  go_wp2
  go_ret
  exact ⟨by first | rfl | (simp [*]; done), hb1⟩
  -- go_enter Try.func9, Try.ntmps9
  -- go_wp2
  -- go_ret
  -- exact ⟨rfl, by repeat (first | exact Grown.refl _ | apply Grown.drew | apply Grown.alloc)⟩

/-! ### THE ROW's STEP: WRITTEN OUT: LEAVE IT -/
set_option maxRecDepth 100000 in
theorem lifted (os : Os) (started : os.Started) (H : Type) (enc : TypeId × Value → H) :
    ReturnsInHanded {} Try.checked os 9 .any (Rows.regsOneSpec.pre6 enc Try.prog Try.f9 Rows.regsOneRow.domain false) (Rows.regsOneSpec.post enc Try.prog Try.f9 false true false false) := by
  refine returnsInHanded_of_change (C := Try.checked) own started (by kernel_rfl) Try.func9
    (ChangeSpec.witness6 (enc := enc) (C := Try.checked) false ⟨#[], #[.int .u16 0, .int .u16 0, .int .u16 0], []⟩ 8 (by kernel_rfl) (by kernel_rfl) (by kernel_rfl) (by kernel_rfl)) ?_
  intro W base args ds gs before hval0 hW hcnd _
  have hval : ∀ (j : Nat) t v, Try.f9.params[j]? = some t → args[j]? = some v → Value.okWide Try.prog W .any base t v := hval0
  have hW' := hW
  obtain ⟨p, q, hA0, hV, rfl, hfz, hnd⟩ := hW
  have hA : DataW.TrodAll enc Try.prog W 0 (fun _ => true) true Try.f9.params.toList args.toList ds p := hA0
  rw [Try.params9] at hA hval
  obtain ⟨v0, vs0, d0, ds0, p0, q0, hargs, rfl, rfl, h0, r0⟩ := trodAll_cons hA
  obtain ⟨v1, vs1, d1, ds1, p1, q1, rfl, rfl, rfl, h1, r1⟩ := trodAll_cons r0
  obtain ⟨v2, vs2, d2, ds2, p2, q2, rfl, rfl, rfl, h2, r2⟩ := trodAll_cons r1
  obtain ⟨rfl, rfl, rfl⟩ := trodAll_nil r2
  obtain rfl : args = #[v0, v1, v2] := by cases args; simp_all
  obtain ⟨rfl, rfl⟩ := trodVars_none hV
  obtain ⟨a0, rfl, rfl, rfl, w0⟩ := open_int Try.underlying24 (hval 0 24 v0 rfl rfl) h0
  obtain ⟨a1, rfl, rfl, rfl, w1⟩ := open_int Try.underlying24 (hval 1 24 v1 rfl rfl) h1
  obtain ⟨a2, rfl, rfl, rfl, w2⟩ := open_int Try.underlying24 (hval 2 24 v2 rfl rfl) h2
  clear hA0 hval0
  simp only [List.append_nil] at hW'
  refine (walk a0 a1 a2 w0 w1 w2 W).mono fun e W' ⟨he, bel⟩ => ?_
  subst he
  exact ⟨_, rfl, _, _, _, [], _, [], hW', (trodAll_cons_mk (shut_bool Try.underlying4 _) trodAll_mk0), (trodAll_cons_mk (shut_int Try.underlying24 w0) (trodAll_cons_mk (shut_int Try.underlying24 w1) (trodAll_cons_mk (shut_int Try.underlying24 w2) trodAll_mk0))), rfl, bel.frame _, fun h => by cases h⟩

theorem over : Rows.regsOneRow.holds Try.pinned (OpenSpec.ofChange Rows.regsOneSpec) :=
  OpenClaim.holds_of_wide 9 Try.f9 rfl rfl rfl rfl rfl rfl rfl ⟨rfl, rfl, rfl, rfl, rfl⟩ rfl rfl rfl rfl rfl (by kernel_rfl) Try.func9 (by kernel_rfl)
    (of_decide_eq_true (by kernel_rfl)) (by unfold Func.isWrapper; first | (rw [if_pos (by decide +kernel)]; kernel_rfl) | (rw [if_neg (by decide +kernel)]; exact ⟨rfl, rfl⟩))
    (fun os started H enc _ => lifted os started H enc)

/-- ████ THE STATEMENT ████ -/
theorem proved : Rows.RegsOneSaid :=
  over
#print axioms proved
end Go.Proofs.Ytaccebkgmjiaaaa.regsOne
