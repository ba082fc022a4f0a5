/-
  Proved: for every input the law RefusalBack answers true, and each argument reads behind the call as it read before.
  Conditions: none (the statement Rows.RefusalBackSaid as it is given).
-/
import Derived.Test.YtjacnghndnkcnaaRows
import Derived.Below
import Derived.Test.YtjacnghndnkcnaaFusFacts
import Derived.Test.YtjacnghndnkcnaaRefSame
import Derived.Test.YtjacnghndnkcnaaSmall
import Derived.Test.YtjacnghndnkcnaaSame
import Derived.WalkKit
import Derived.ProofKit
import Derived.OpenShut
import Derived.ShutString
namespace Go.Proofs.Ytjacnghndnkcnaa.refusalBack
open Go.ChangeShapes Go.WideShapes Go.ChangeAt Go.RowKit
open Go.ChangeMaps (open_string shut_string)
set_option linter.unusedVariables false      -- a walk need not use every 'w<i>' (that an integer argument fits its kind)

theorem own : ownKnob Try.prog.godebug = none := by kernel_rfl

/-! ### STEP 1: THE WALK: the Go text returns true. 'Grown w w'': the world has at most new blocks (Derived/RowKit3.lean). Part the cases AHEAD of 'go_enter' where a test parts the walk; take each callee by a contract of your own. -/
set_option maxRecDepth 20000 in
set_option maxHeartbeats 2000000 in
theorem walk (a0 : Int) (a1 : Int) (a2 : Int) (a3 : Int) (w0 : (Lit.int .u8 a0).wf = true) (w1 : (Lit.int .u8 a1).wf = true) (w2 : (Lit.int .u8 a2).wf = true) (w3 : (Lit.int .u8 a3).wf = true) (w : World) :
    Calls Try.prog 5 #[.int .u8 a0, .int .u8 a1, .int .u8 a2, .int .u8 a3] w fun e w' => e = .returned (.bool true) ∧ Below w.heap.size w w' := by
  obtain ⟨xa, rfl⟩ := byte_arg w0
  obtain ⟨xb, rfl⟩ := byte_arg w1
  obtain ⟨c, rfl⟩ := byte_arg w2
  obtain ⟨y, rfl⟩ := byte_arg w3
  clear w0 w1 w2 w3
  go_enter Try.func5, Try.ntmps5
  go_wp2_with fail
  refine (awake_any w).mono ?_
  rintro e u1 ⟨rfl, hb1⟩
  have hl1 : Bs (u1.alloc (.cells #[.int .u8 (xa.toNat : Int), .int .u8 (xb.toNat : Int)] 5)) (some ⟨u1.heap.size, 0, none⟩) 2 2 [xa, xb] := Sl.fresh u1 [xa, xb] [.int .u8 (xa.toNat : Int), .int .u8 (xb.toNat : Int)] 5 (0, 0) 2 rfl (by unfold maxLen; omega) rfl
  have bl1 := (Below.refl u1.heap.size u1).alloc (Nat.le_refl _) (.cells #[.int .u8 (xa.toNat : Int), .int .u8 (xb.toNat : Int)] 5)
  go_wp2_with fail
  refine (Fus.code_parse _ 2 2 [xa, xb] _ hl1 (by omega)).mono ?_
  rintro e u2 ⟨⟨v2, rfl, hm2⟩, b2⟩
  replace hb1 := below_next (below_next hb1 bl1 (Nat.le_refl _)) b2 (Nat.le_refl _)
  obtain ⟨P, hP⟩ : ∃ P, P = Fus.parse [xa, xb] := ⟨_, rfl⟩
  rw [← hP] at hm2 ⊢
  have HP := hide hP
  clear hP bl1 b2 hl1
  obtain ⟨m, E⟩ := P
  obtain ⟨cs2, rfl, hs2, ho2, _⟩ := hm2.agg
  have HM2 := hide hm2
  clear hm2
  go_wp2_with ((with_reducible show wpList _ _ _ (⟨_, .store _ _ _, _, _, _, _⟩ :: _) _ _); refine wpList_store_new rfl 30 _ _ rfl cs2 rfl rfl (msg_size cs2 hs2) hs2.symm ho2 ?_)
  intro u3 h3 b3
  replace HM2 := hide (HM2.out.mono b3)
  replace hb1 := below_next hb1 b3 (Nat.le_refl _)
  generalize u2.heap.size = g2 at *
  clear b3
  by_cases hE : E = 0
  rotate_left
  · have hE1 : (E == 0) = false := by simpa using hE
    clear hE
    go_wp2_with fail
    refine (Fus.code_of c y _).mono ?_
    rintro e u6 ⟨⟨v6, rfl, hm6⟩, b6⟩
    replace hb1 := below_next hb1 b6 (Nat.le_refl _)
    obtain ⟨cs6, rfl, hs6, ho6, _⟩ := hm6.agg
    have HM6 := hide hm6
    clear hm6 b6
    go_wp2_with ((with_reducible show wpList _ _ _ (⟨_, .store _ _ _, _, _, _, _⟩ :: _) _ _); refine wpList_store_new rfl 30 _ _ rfl cs6 rfl rfl (msg_size cs6 hs6) hs6.symm ho6 ?_)
    intro u7 h7 b7
    replace HM6 := hide (HM6.out.mono b7)
    replace hb1 := below_next hb1 b7 (Nat.le_refl _)
    generalize u6.heap.size = g6 at *
    clear b7
    rcases hs : Fus.write (Fus.ofM c y) with _ | bb
    · have HO : Hid (Fus.of c y = (MsgM.zero, 1)) := hide (by unfold Fus.of; rw [hs]; rfl)
      rw [HO.out] at HM6 ⊢
      clear hs HO
      go_wp2_with ((with_reducible show wpList _ _ _ (⟨_, .load _ _, _, _, _, _⟩ :: _) _ _); refine wpList_load_rowG (by rfl) 30 _ rfl g6 rfl cs6 (load_whole h7 hs6) ?_)
      refine (refSame_any _ _ MsgM.zero MsgM.zero u7 HM6.out (MsgAt.zero _)).mono ?_
      rintro e u8 ⟨rfl, b8⟩
      rw [(MsgM.same_iff _ _).2 rfl]
      go_wp2
      go_ret
      exact ⟨rfl, below_next hb1 b8 (Nat.le_refl _)⟩
    · obtain ⟨_, _, _, hbb⟩ := Fus.write_iff.1 hs
      have HO : Hid (Fus.of c y = (Fus.ofM c y, 0)) := hide (by unfold Fus.of; rw [hs]; rfl)
      have HBk : Hid (Fus.parse bb = (Fus.ofM c y, 0)) := hide (Fus.back hs)
      have HS := hide hs
      have HL : Hid (bb.length = 2) := hide (by rw [hbb]; rfl)
      rw [HO.out] at HM6 ⊢
      clear hs hbb HO
      go_wp2_with ((with_reducible show wpList _ _ _ (⟨_, .load _ _, _, _, _, _⟩ :: _) _ _); refine wpList_load_rowG (by rfl) 30 _ rfl g6 rfl cs6 (load_whole h7 hs6) ?_)
      refine (Fus.code_write _ (Fus.ofM c y) u7 HM6.out).mono ?_
      rintro e u8 ⟨⟨a8, l8, c8, rfl, hx8⟩, b8⟩
      rw [HS.out] at hx8 ⊢
      rw [show Fus.errW (some bb) = (0 : Int) from rfl]
      replace hx8 : Bs u8 a8 l8 c8 bb := hx8
      obtain rfl : l8 = 2 := hx8.hlen.symm.trans HL.out
      replace h7 := (b8.block g6 (lt_of_block h7)).trans h7
      replace HM6 := hide (HM6.out.mono b8)
      replace hb1 := below_next hb1 b8 (Nat.le_refl _)
      have HX8 := hide hx8
      clear b8 hx8 HS
      go_wp2_with fail
      refine (Fus.code_parse _ 2 _ _ u8 HX8.out (by omega)).mono ?_
      rintro e u9 ⟨⟨v9, rfl, hm9⟩, b9⟩
      rw [HBk.out] at hm9 ⊢
      replace h7 := (b9.block g6 (lt_of_block h7)).trans h7
      replace HM6 := hide (HM6.out.mono b9)
      replace hb1 := below_next hb1 b9 (Nat.le_refl _)
      obtain ⟨cs9, rfl, hs9, ho9, _⟩ := hm9.agg
      have HM9 := hide hm9
      clear hm9 b9 HX8 HBk
      go_wp2_with ((with_reducible show wpList _ _ _ (⟨_, .store _ _ _, _, _, _, _⟩ :: _) _ _); refine wpList_store_new rfl 30 _ _ rfl cs9 rfl rfl (msg_size cs9 hs9) hs9.symm ho9 ?_)
      intro u10 h10 b10
      replace HM9 := hide (HM9.out.mono b10)
      replace h7 := (b10.block g6 (lt_of_block h7)).trans h7
      replace HM6 := hide (HM6.out.mono b10)
      replace hb1 := below_next hb1 b10 (Nat.le_refl _)
      generalize u9.heap.size = g9 at *
      clear b10
      go_wp2_with ((with_reducible show wpList _ _ _ (⟨_, .load _ _, _, _, _, _⟩ :: _) _ _); first | (refine wpList_load_rowG (by rfl) 30 _ rfl g6 rfl cs6 (load_whole h7 hs6) ?_) | (refine wpList_load_rowG (by rfl) 30 _ rfl g9 rfl cs9 (load_whole h10 hs9) ?_))
      refine (refSame_any _ _ (Fus.ofM c y) (Fus.ofM c y) u10 HM6.out HM9.out).mono ?_
      rintro e u11 ⟨rfl, b11⟩
      rw [(MsgM.same_iff _ _).2 rfl]
      have hmb : MB 30 u11 g9 (Fus.ofM c y) := MB.mono ⟨cs9, h10, HM9.out⟩ b11
      have k1 : u11.cell? ⟨g9, 0, none⟩ = some (.int .u8 (c.toNat : Int)) := hmb.c_code
      have k2 : u11.cell? ⟨g9, 1, none⟩ = some (.int .u8 (y.toNat : Int)) := hmb.c_fail
      clear hmb h7 h10
      go_wp2
      go_ret
      exact ⟨rfl, below_next hb1 b11 (Nat.le_refl _)⟩
  have HW : Hid (Fus.write m = some [xa, xb]) := hide (by have h := Fus.there (b := [xa, xb]) (by rw [← HP.out]; exact hE); rw [← HP.out] at h; exact h)
  have hE1 : (E == 0) = true := by simpa using hE
  clear hE HP
  go_wp2_with ((with_reducible show wpList _ _ _ (⟨_, .load _ _, _, _, _, _⟩ :: _) _ _); refine wpList_load_rowG (by rfl) 30 _ rfl g2 rfl cs2 (load_whole h3 hs2) ?_)
  refine (Fus.code_write _ m u3 HM2.out).mono ?_
  rintro e u4 ⟨⟨a4, l4, c4, rfl, hx4⟩, b4⟩
  rw [HW.out] at hx4 ⊢
  rw [show Fus.errW (some [xa, xb]) = (0 : Int) from rfl]
  replace hx4 : Bs u4 a4 l4 c4 [xa, xb] := hx4
  have hl4 : Bs (u4.alloc (.cells #[.int .u8 (xa.toNat : Int), .int .u8 (xb.toNat : Int)] 5)) (some ⟨u4.heap.size, 0, none⟩) 2 2 [xa, xb] := Sl.fresh u4 [xa, xb] [.int .u8 (xa.toNat : Int), .int .u8 (xb.toNat : Int)] 5 (0, 0) 2 rfl (by unfold maxLen; omega) rfl
  have bl4 := (Below.refl u4.heap.size u4).alloc (Nat.le_refl _) (.cells #[.int .u8 (xa.toNat : Int), .int .u8 (xb.toNat : Int)] 5)
  have HX4 := hide hx4
  have HL4 := hide hl4
  have HB4 := hide bl4
  replace hb1 := below_next hb1 b4 (Nat.le_refl _)
  clear hx4 hl4 bl4 b4 HW h3
  go_wp2_with fail
  refine (same_any _ _ _ _ _ _ _ _ _ (HX4.out.mono HB4.out) HL4.out).mono ?_
  rintro e u5 ⟨rfl, rfl⟩
  rw [decide_eq_true (rfl : [xa, xb] = [xa, xb])]
  replace hb1 := below_next hb1 HB4.out (Nat.le_refl _)
  clear HX4 HL4 HB4
  generalize u4.alloc (.cells #[.int .u8 (xa.toNat : Int), .int .u8 (xb.toNat : Int)] 5) = u5 at *
  go_wp2_with fail
  refine (Fus.code_of c y _).mono ?_
  rintro e u6 ⟨⟨v6, rfl, hm6⟩, b6⟩
  replace hb1 := below_next hb1 b6 (Nat.le_refl _)
  obtain ⟨cs6, rfl, hs6, ho6, _⟩ := hm6.agg
  have HM6 := hide hm6
  clear hm6 b6
  go_wp2_with ((with_reducible show wpList _ _ _ (⟨_, .store _ _ _, _, _, _, _⟩ :: _) _ _); refine wpList_store_new rfl 30 _ _ rfl cs6 rfl rfl (msg_size cs6 hs6) hs6.symm ho6 ?_)
  intro u7 h7 b7
  replace HM6 := hide (HM6.out.mono b7)
  replace hb1 := below_next hb1 b7 (Nat.le_refl _)
  generalize u6.heap.size = g6 at *
  clear b7
  rcases hs : Fus.write (Fus.ofM c y) with _ | bb
  · have HO : Hid (Fus.of c y = (MsgM.zero, 1)) := hide (by unfold Fus.of; rw [hs]; rfl)
    rw [HO.out] at HM6 ⊢
    clear hs HO
    go_wp2_with ((with_reducible show wpList _ _ _ (⟨_, .load _ _, _, _, _, _⟩ :: _) _ _); refine wpList_load_rowG (by rfl) 30 _ rfl g6 rfl cs6 (load_whole h7 hs6) ?_)
    refine (refSame_any _ _ MsgM.zero MsgM.zero u7 HM6.out (MsgAt.zero _)).mono ?_
    rintro e u8 ⟨rfl, b8⟩
    rw [(MsgM.same_iff _ _).2 rfl]
    go_wp2
    go_ret
    exact ⟨rfl, below_next hb1 b8 (Nat.le_refl _)⟩
  · obtain ⟨_, _, _, hbb⟩ := Fus.write_iff.1 hs
    have HO : Hid (Fus.of c y = (Fus.ofM c y, 0)) := hide (by unfold Fus.of; rw [hs]; rfl)
    have HBk : Hid (Fus.parse bb = (Fus.ofM c y, 0)) := hide (Fus.back hs)
    have HS := hide hs
    have HL : Hid (bb.length = 2) := hide (by rw [hbb]; rfl)
    rw [HO.out] at HM6 ⊢
    clear hs hbb HO
    go_wp2_with ((with_reducible show wpList _ _ _ (⟨_, .load _ _, _, _, _, _⟩ :: _) _ _); refine wpList_load_rowG (by rfl) 30 _ rfl g6 rfl cs6 (load_whole h7 hs6) ?_)
    refine (Fus.code_write _ (Fus.ofM c y) u7 HM6.out).mono ?_
    rintro e u8 ⟨⟨a8, l8, c8, rfl, hx8⟩, b8⟩
    rw [HS.out] at hx8 ⊢
    rw [show Fus.errW (some bb) = (0 : Int) from rfl]
    replace hx8 : Bs u8 a8 l8 c8 bb := hx8
    obtain rfl : l8 = 2 := hx8.hlen.symm.trans HL.out
    replace h7 := (b8.block g6 (lt_of_block h7)).trans h7
    replace HM6 := hide (HM6.out.mono b8)
    replace hb1 := below_next hb1 b8 (Nat.le_refl _)
    have HX8 := hide hx8
    clear b8 hx8 HS
    go_wp2_with fail
    refine (Fus.code_parse _ 2 _ _ u8 HX8.out (by omega)).mono ?_
    rintro e u9 ⟨⟨v9, rfl, hm9⟩, b9⟩
    rw [HBk.out] at hm9 ⊢
    replace h7 := (b9.block g6 (lt_of_block h7)).trans h7
    replace HM6 := hide (HM6.out.mono b9)
    replace hb1 := below_next hb1 b9 (Nat.le_refl _)
    obtain ⟨cs9, rfl, hs9, ho9, _⟩ := hm9.agg
    have HM9 := hide hm9
    clear hm9 b9 HX8 HBk
    go_wp2_with ((with_reducible show wpList _ _ _ (⟨_, .store _ _ _, _, _, _, _⟩ :: _) _ _); refine wpList_store_new rfl 30 _ _ rfl cs9 rfl rfl (msg_size cs9 hs9) hs9.symm ho9 ?_)
    intro u10 h10 b10
    replace HM9 := hide (HM9.out.mono b10)
    replace h7 := (b10.block g6 (lt_of_block h7)).trans h7
    replace HM6 := hide (HM6.out.mono b10)
    replace hb1 := below_next hb1 b10 (Nat.le_refl _)
    generalize u9.heap.size = g9 at *
    clear b10
    go_wp2_with ((with_reducible show wpList _ _ _ (⟨_, .load _ _, _, _, _, _⟩ :: _) _ _); first | (refine wpList_load_rowG (by rfl) 30 _ rfl g6 rfl cs6 (load_whole h7 hs6) ?_) | (refine wpList_load_rowG (by rfl) 30 _ rfl g9 rfl cs9 (load_whole h10 hs9) ?_))
    refine (refSame_any _ _ (Fus.ofM c y) (Fus.ofM c y) u10 HM6.out HM9.out).mono ?_
    rintro e u11 ⟨rfl, b11⟩
    rw [(MsgM.same_iff _ _).2 rfl]
    have hmb : MB 30 u11 g9 (Fus.ofM c y) := MB.mono ⟨cs9, h10, HM9.out⟩ b11
    have k1 : u11.cell? ⟨g9, 0, none⟩ = some (.int .u8 (c.toNat : Int)) := hmb.c_code
    have k2 : u11.cell? ⟨g9, 1, none⟩ = some (.int .u8 (y.toNat : Int)) := hmb.c_fail
    clear hmb h7 h10
    go_wp2
    go_ret
    exact ⟨rfl, below_next hb1 b11 (Nat.le_refl _)⟩
  -- go_enter Try.func5, Try.ntmps5
  -- go_wp2
  -- go_ret
  -- exact ⟨rfl, by repeat (first | exact Grown.refl _ | apply Grown.drew | apply Grown.alloc)⟩

/-! ### THE ROW's STEP: WRITTEN OUT: LEAVE IT -/
set_option maxRecDepth 100000 in
theorem lifted (os : Os) (started : os.Started) (H : Type) (enc : TypeId × Value → H) :
    ReturnsInHanded {} Try.checked os 5 .any (Rows.refusalBackSpec.pre6 enc Try.prog Try.f5 Rows.refusalBackRow.domain false) (Rows.refusalBackSpec.post enc Try.prog Try.f5 false true false false) := by
  refine returnsInHanded_of_change (C := Try.checked) own started (by kernel_rfl) Try.func5
    (ChangeSpec.witness6 (enc := enc) (C := Try.checked) false ⟨#[], #[.int .u8 0, .int .u8 0, .int .u8 0, .int .u8 0], []⟩ 8 (by kernel_rfl) (by kernel_rfl) (by kernel_rfl) (by kernel_rfl)) ?_
  intro W base args ds gs before hval0 hW hcnd _
  have hval : ∀ (j : Nat) t v, Try.f5.params[j]? = some t → args[j]? = some v → Value.okWide Try.prog W .any base t v := hval0
  have hW' := hW
  obtain ⟨p, q, hA0, hV, rfl, hfz, hnd⟩ := hW
  have hA : DataW.TrodAll enc Try.prog W 0 (fun _ => true) true Try.f5.params.toList args.toList ds p := hA0
  rw [Try.params5] at hA hval
  obtain ⟨v0, vs0, d0, ds0, p0, q0, hargs, rfl, rfl, h0, r0⟩ := trodAll_cons hA
  obtain ⟨v1, vs1, d1, ds1, p1, q1, rfl, rfl, rfl, h1, r1⟩ := trodAll_cons r0
  obtain ⟨v2, vs2, d2, ds2, p2, q2, rfl, rfl, rfl, h2, r2⟩ := trodAll_cons r1
  obtain ⟨v3, vs3, d3, ds3, p3, q3, rfl, rfl, rfl, h3, r3⟩ := trodAll_cons r2
  obtain ⟨rfl, rfl, rfl⟩ := trodAll_nil r3
  obtain rfl : args = #[v0, v1, v2, v3] := by cases args; simp_all
  obtain ⟨rfl, rfl⟩ := trodVars_none hV
  obtain ⟨a0, rfl, rfl, rfl, w0⟩ := open_int Try.underlying5 (hval 0 5 v0 rfl rfl) h0
  obtain ⟨a1, rfl, rfl, rfl, w1⟩ := open_int Try.underlying5 (hval 1 5 v1 rfl rfl) h1
  obtain ⟨a2, rfl, rfl, rfl, w2⟩ := open_int Try.underlying5 (hval 2 5 v2 rfl rfl) h2
  obtain ⟨a3, rfl, rfl, rfl, w3⟩ := open_int Try.underlying5 (hval 3 5 v3 rfl rfl) h3
  clear hA0 hval0
  simp only [List.append_nil] at hW'
  refine (walk a0 a1 a2 a3 w0 w1 w2 w3 W).mono fun e W' ⟨he, bel⟩ => ?_
  subst he
  exact ⟨_, rfl, _, _, _, [], _, [], hW', (trodAll_cons_mk (shut_bool Try.underlying4 _) trodAll_mk0), (trodAll_cons_mk (shut_int Try.underlying5 w0) (trodAll_cons_mk (shut_int Try.underlying5 w1) (trodAll_cons_mk (shut_int Try.underlying5 w2) (trodAll_cons_mk (shut_int Try.underlying5 w3) trodAll_mk0)))), rfl, bel.frame _, fun h => by cases h⟩

theorem over : Rows.refusalBackRow.holds Try.pinned (OpenSpec.ofChange Rows.refusalBackSpec) :=
  OpenClaim.holds_of_wide 5 Try.f5 rfl rfl rfl rfl rfl rfl rfl ⟨rfl, rfl, rfl, rfl, rfl⟩ rfl rfl rfl rfl rfl (by kernel_rfl) Try.func5 (by kernel_rfl)
    (of_decide_eq_true (by kernel_rfl)) (by unfold Func.isWrapper; first | (rw [if_pos (by decide +kernel)]; kernel_rfl) | (rw [if_neg (by decide +kernel)]; exact ⟨rfl, rfl⟩))
    (fun os started H enc _ => lifted os started H enc)

/-- ████ THE STATEMENT ████ -/
theorem proved : Rows.RefusalBackSaid :=
  over
#print axioms proved
end Go.Proofs.Ytjacnghndnkcnaa.refusalBack
