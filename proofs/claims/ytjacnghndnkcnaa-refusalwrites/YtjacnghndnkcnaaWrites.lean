/-
  Proved: for every input the law RefusalWrites answers true, and each argument reads behind the call as it read before.
  Conditions: none (the statement Rows.RefusalWritesSaid as it is given).
-/
import Derived.Test.YtjacnghndnkcnaaRows
import Derived.Below
import Derived.Test.YtjacnghndnkcnaaFusFacts
import Derived.Test.YtjacnghndnkcnaaRefSame
import Derived.Test.YtjacnghndnkcnaaFew
import Derived.Test.YtjacnghndnkcnaaSmall
import Derived.Test.YtjacnghndnkcnaaSame
import Derived.Carry
import Derived.WalkKit
import Derived.ProofKit
import Derived.OpenShut
import Derived.ShutString
namespace Go.Proofs.Ytjacnghndnkcnaa.refusalWrites
open Go.ChangeShapes Go.WideShapes Go.ChangeAt Go.RowKit
open Go.ChangeMaps (open_string shut_string)
set_option linter.unusedVariables false      -- a walk need not use every 'w<i>' (that an integer argument fits its kind)

theorem laidOut : laidOutB Try.prog = true := by kernel_rfl
theorem own : ownKnob Try.prog.godebug = none := by kernel_rfl

/-! ### STEP 1: THE WALK: the Go text returns true. 'Grown w w'': the world has at most new blocks (Derived/RowKit3.lean). Part the cases AHEAD of 'go_enter' where a test parts the walk; take each callee by a contract of your own. -/
set_option maxRecDepth 20000 in
set_option maxHeartbeats 2000000 in
theorem walk (a0 : Value) (m0 : MsgM) (a1 : Int) (a2 : Int) (w : World) (w0 : MsgAt w a0 m0) (w1 : (Lit.int .u8 a1).wf = true) (w2 : (Lit.int .u8 a2).wf = true) :
    Calls Try.prog 4 #[a0, .int .u8 a1, .int .u8 a2] w fun e w' => e = .returned (.bool true) ∧ Below w.heap.size w w' := by
  obtain ⟨cs, rfl, hsz, hone, _⟩ := w0.agg
  obtain ⟨c, rfl⟩ := byte_arg w1
  obtain ⟨y, rfl⟩ := byte_arg w2
  have HM := hide w0
  have hb0 := (Below.refl w.heap.size w).alloc (Nat.le_refl _) (.cells cs 30 (0, 0))
  have e1 := heap_alloc_new w (.cells cs 30 (0, 0))
  replace HM := hide (HM.out.mono hb0)
  clear w0 w1 w2
  go_enter Try.func4, Try.ntmps4
  go_upto_region 1 with (refine wpList_boxC rfl 30 _ rfl cs rfl ?_)
  generalize w.alloc (.cells cs 30 (0, 0)) = u0 at *
  generalize hr : w.heap.size = r at *
  have hz0 : r < u0.heap.size := lt_of_block e1
  go_wp2_with fail
  refine (awake_any u0).mono ?_
  rintro e u1 ⟨rfl, b1⟩
  replace e1 := (b1.block r hz0).trans e1
  replace HM := hide (HM.out.mono b1)
  have HB := hide (hb0.trans (b1.mono (Nat.le_of_lt hz0)))
  have hz1 : r < u1.heap.size := lt_of_block e1
  clear b1 hb0 hz0
  go_wp2_with ((with_reducible show wpList _ _ _ (⟨_, .load _ _, _, _, _, _⟩ :: _) _ _); refine wpList_load_rowG (by rfl) 30 _ rfl r rfl cs (load_whole e1 hsz) ?_)
  refine (few_any _ m0 u1 HM.out).mono ?_
  rintro e u2 ⟨rfl, b2⟩
  replace e1 := (b2.block r hz1).trans e1
  replace HM := hide (HM.out.mono b2)
  replace HB := hide (HB.out.trans (b2.mono (Nat.le_of_lt hz1)))
  have hz2 : r < u2.heap.size := lt_of_block e1
  clear b2 hz1
  generalize m0.few = q at *
  cases q
  · go_wp2
    go_ret
    exact ⟨rfl, by rw [hr]; exact HB.out⟩
  go_wp2_with ((with_reducible show wpList _ _ _ (⟨_, .load _ _, _, _, _, _⟩ :: _) _ _); refine wpList_load_rowG (by rfl) 30 _ rfl r rfl cs (load_whole e1 hsz) ?_)
  refine (Fus.code_write _ m0 u2 HM.out).mono ?_
  rintro e u3 ⟨⟨a3, l3, c3, rfl, hx3⟩, b3⟩
  replace e1 := (b3.block r hz2).trans e1
  replace HM := hide (HM.out.mono b3)
  replace HB := hide (HB.out.trans (b3.mono (Nat.le_of_lt hz2)))
  have hz3 : r < u3.heap.size := lt_of_block e1
  have HX3 := hide hx3
  clear b3 hz2 hx3
  go_wp2_with ((with_reducible show wpList _ _ _ (⟨_, .load _ _, _, _, _, _⟩ :: _) _ _); refine wpList_load_rowG (by rfl) 30 _ rfl r rfl cs (load_whole e1 hsz) ?_)
  refine (Fus.ref_write _ m0 u3 HM.out).mono ?_
  rintro e u4 ⟨⟨a4, l4, c4, rfl, hx4⟩, b4⟩
  replace HX3 := hide (HX3.out.mono b4)
  replace HB := hide (HB.out.trans (b4.mono (Nat.le_of_lt hz3)))
  have HX4 := hide hx4
  have hz4 : r ≤ u4.heap.size := Nat.le_trans (Nat.le_of_lt hz3) b4.size
  clear b4 hz3 e1 HM hx4
  generalize Fus.write m0 = R at *
  generalize Fus.errW R = E at *
  generalize Fus.outW R = B at *
  have bz : Below u4.heap.size u4 u4 := Below.refl _ _
  go_wp2_with fail
  refine (Fus.code_of c y u4).mono ?_
  rintro e u5 ⟨⟨v5, rfl, hm5⟩, b5⟩
  obtain ⟨cs5, rfl, hs5, ho5, _⟩ := hm5.agg
  have HM5 := hide hm5
  replace bz := b5
  clear b5 hm5
  go_wp2_with ((with_reducible show wpList _ _ _ (⟨_, .store _ _ _, _, _, _, _⟩ :: _) _ _); refine wpList_store_new rfl 30 _ _ rfl cs5 rfl rfl (msg_size cs5 hs5) hs5.symm ho5 ?_)
  intro u6 h6 b6
  replace HM5 := hide (HM5.out.mono b6)
  replace bz := below_next bz b6 (Nat.le_refl _)
  generalize u5.heap.size = g5 at *
  have hg5 := lt_of_block h6
  clear b6
  go_wp2_with ((with_reducible show wpList _ _ _ (⟨_, .store _ _ _, _, _, _, _⟩ :: _) _ _); refine wpList_store_new rfl 30 _ _ rfl (Fus.cells c.toNat y.toNat) rfl rfl (msg_size _ rfl) rfl (Fus.cells_one _ _) ?_)
  intro u7 h7 b7
  replace h6 := (b7.block g5 hg5).trans h6
  replace HM5 := hide (HM5.out.mono b7)
  have hz6 := bz.size
  replace bz := below_next bz b7 (Nat.le_refl _)
  have hgn : g5 ≠ u6.heap.size := Nat.ne_of_lt hg5
  generalize u6.heap.size = g6 at *
  have hg6 := lt_of_block h7
  have hg5' := lt_of_block h6
  have HY : Hid (MsgAt u7 (.agg (Fus.cells c.toNat y.toNat)) (Fus.ofM c y)) := hide (Fus.at_cells _ rfl rfl)
  clear b7
  go_wp2_with ((with_reducible show wpList _ _ _ (⟨_, .load _ _, _, _, _, _⟩ :: _) _ _); refine wpList_load_rowG (by rfl) 30 _ rfl g6 rfl _ (load_whole h7 rfl) ?_)
  refine (Fus.ref_write _ (Fus.ofM c y) u7 HY.out).mono ?_
  rintro e u8 ⟨⟨a8, l8, c8, rfl, _⟩, b8⟩
  replace h6 := (b8.block g5 hg5').trans h6
  replace h7 := (b8.block g6 hg6).trans h7
  replace HM5 := hide (HM5.out.mono b8)
  replace HY := hide (HY.out.mono b8)
  replace bz := below_next bz b8 (Nat.le_refl _)
  clear b8 hg6 hg5 hg5'
  rcases hs : Fus.write (Fus.ofM c y) with _ | bb
  · have HO : Hid (Fus.of c y = (MsgM.zero, 1)) := hide (by unfold Fus.of; rw [hs]; rfl)
    rw [HO.out] at HM5 ⊢
    rw [show Fus.errW none = (1 : Int) from rfl]
    clear hs HO HY
    go_wp2_with ((with_reducible show wpList _ _ _ (⟨_, .store _ _ _, _, _, _, _⟩ :: _) _ _); refine wpList_store_lies rfl 30 _ _ rfl g6 zeroCells rfl rfl _ _ h7 (msg_size _ rfl) rfl zero_one ?_)
    intro u9 h9 b9 n9 z9
    replace h6 := (n9 g5 hgn).trans h6
    replace bz := bz.trans (b9 _ hz6)
    have hm5 := HM5.out.bare ⟨rfl, rfl, rfl, rfl, rfl⟩ u9
    go_wp2_with fail
    refine (same_any _ _ _ _ _ _ _ _ _ (HX3.out.mono bz) (HX4.out.mono bz)).mono ?_
    rintro e u10 ⟨rfl, rfl⟩
    rw [decide_eq_true (rfl : B = B)]
    go_wp2_with ((with_reducible show wpList _ _ _ (⟨_, .load _ _, _, _, _, _⟩ :: _) _ _); first | (refine wpList_load_rowG (by rfl) 30 _ rfl g5 rfl cs5 (load_whole h6 hs5) ?_) | (refine wpList_load_rowG (by rfl) 30 _ rfl g6 rfl _ (load_whole h9 rfl) ?_))
    refine (refSame_any _ _ MsgM.zero MsgM.zero _ hm5 (MsgAt.zero _)).mono ?_
    rintro e u11 ⟨rfl, b11⟩
    rw [(MsgM.same_iff _ _).2 rfl]
    go_wp2
    go_ret
    exact ⟨rfl, by rw [hr]; exact HB.out.trans ((bz.trans (b11.mono bz.size)).mono hz4)⟩
  · have HO : Hid (Fus.of c y = (Fus.ofM c y, 0)) := hide (by unfold Fus.of; rw [hs]; rfl)
    rw [HO.out] at HM5 ⊢
    rw [show Fus.errW (some bb) = (0 : Int) from rfl]
    clear hs HO
    go_wp2_with fail
    refine (same_any _ _ _ _ _ _ _ _ _ (HX3.out.mono bz) (HX4.out.mono bz)).mono ?_
    rintro e u9 ⟨rfl, rfl⟩
    rw [decide_eq_true (rfl : B = B)]
    go_wp2_with ((with_reducible show wpList _ _ _ (⟨_, .load _ _, _, _, _, _⟩ :: _) _ _); first | (refine wpList_load_rowG (by rfl) 30 _ rfl g5 rfl cs5 (load_whole h6 hs5) ?_) | (refine wpList_load_rowG (by rfl) 30 _ rfl g6 rfl _ (load_whole h7 rfl) ?_))
    refine (refSame_any _ _ (Fus.ofM c y) (Fus.ofM c y) _ HM5.out HY.out).mono ?_
    rintro e u10 ⟨rfl, b10⟩
    rw [(MsgM.same_iff _ _).2 rfl]
    go_wp2
    go_ret
    exact ⟨rfl, by rw [hr]; exact HB.out.trans ((bz.trans (b10.mono bz.size)).mono hz4)⟩
  -- go_enter Try.func4, Try.ntmps4
  -- go_wp2
  -- go_ret
  -- exact ⟨rfl, by repeat (first | exact Grown.refl _ | apply Grown.drew | apply Grown.alloc)⟩

/-! ### THE ROW's STEP: WRITTEN OUT: LEAVE IT -/
set_option maxRecDepth 100000 in
theorem lifted (os : Os) (started : os.Started) (H : Type) (enc : TypeId × Value → H) :
    ReturnsInHanded {} Try.checked os 4 .any (Rows.refusalWritesSpec.pre6 enc Try.prog Try.f4 Rows.refusalWritesRow.domain false) (Rows.refusalWritesSpec.post enc Try.prog Try.f4 false true false false) := by
  refine returnsInHanded_of_change (C := Try.checked) own started (by kernel_rfl) Try.func4
    (ChangeSpec.witness6 (enc := enc) (C := Try.checked) false ⟨#[], #[.agg #[.int .u8 0, .int .u8 0, .int .u16 0, .int .u16 0, .int .u16 0, .int .u16 0, .int .u16 0, .int .u16 0, .int .u16 0, .int .u16 0, .int .u16 0, .int .u16 0, .slice none 0 0, .slice none 0 0, .slice none 0 0, .slice none 0 0, .int .u8 0, .int .u8 0, .int .u8 0, .int .u8 0, .int .u8 0, .slice none 0 0], .int .u8 0, .int .u8 0], []⟩ 8 (by kernel_rfl) (by kernel_rfl) (by kernel_rfl) (by kernel_rfl)) ?_
  intro W base args ds gs before hval0 hW hcnd _
  have hval : ∀ (j : Nat) t v, Try.f4.params[j]? = some t → args[j]? = some v → Value.okWide Try.prog W .any base t v := hval0
  have hW' := hW
  obtain ⟨p, q, hA0, hV, rfl, hfz, hnd⟩ := hW
  have hA : DataW.TrodAll enc Try.prog W 0 (fun _ => true) true Try.f4.params.toList args.toList ds p := hA0
  rw [Try.params4] at hA hval
  obtain ⟨v0, vs0, d0, ds0, p0, q0, hargs, rfl, rfl, h0, r0⟩ := trodAll_cons hA
  obtain ⟨v1, vs1, d1, ds1, p1, q1, rfl, rfl, rfl, h1, r1⟩ := trodAll_cons r0
  obtain ⟨v2, vs2, d2, ds2, p2, q2, rfl, rfl, rfl, h2, r2⟩ := trodAll_cons r1
  obtain ⟨rfl, rfl, rfl⟩ := trodAll_nil r2
  obtain rfl : args = #[v0, v1, v2] := by cases args; simp_all
  obtain ⟨rfl, rfl⟩ := trodVars_none hV
  have k0 := h0
  have lt0 : ∀ x ∈ p0, x.block < W.heap.size := by obtain ⟨m, hm⟩ := k0; exact DataW.trod_lt m _ _ _ hm
  obtain ⟨m0, w0⟩ := MsgAt.ofTrod (hval 0 30 v0 rfl rfl) h0
  obtain ⟨a1, rfl, rfl, rfl, w1⟩ := open_int Try.underlying5 (hval 1 5 v1 rfl rfl) h1
  obtain ⟨a2, rfl, rfl, rfl, w2⟩ := open_int Try.underlying5 (hval 2 5 v2 rfl rfl) h2
  clear hA0 hval0
  refine (walk v0 m0 a1 a2 W w0 w1 w2).mono fun e W' ⟨he, bel⟩ => ?_
  subst he
  exact ⟨_, rfl, _, _, _, [], _, [], hW', (trodAll_cons_mk (shut_bool Try.underlying4 _) trodAll_mk0), (trodAll_cons_mk (Below.trod laidOut (by kernel_rfl) (of_decide_eq_true (by kernel_rfl)) k0 bel lt0) (trodAll_cons_mk (shut_int Try.underlying5 w1) (trodAll_cons_mk (shut_int Try.underlying5 w2) trodAll_mk0))), rfl, bel.frame _, fun h => by cases h⟩

theorem over : Rows.refusalWritesRow.holds Try.pinned (OpenSpec.ofChange Rows.refusalWritesSpec) :=
  OpenClaim.holds_of_wide 4 Try.f4 rfl rfl rfl rfl rfl rfl rfl ⟨rfl, rfl, rfl, rfl, rfl⟩ rfl rfl rfl rfl rfl (by kernel_rfl) Try.func4 (by kernel_rfl)
    (of_decide_eq_true (by kernel_rfl)) (by unfold Func.isWrapper; first | (rw [if_pos (by decide +kernel)]; kernel_rfl) | (rw [if_neg (by decide +kernel)]; exact ⟨rfl, rfl⟩))
    (fun os started H enc _ => lifted os started H enc)

/-- ████ THE STATEMENT ████ -/
theorem proved : Rows.RefusalWritesSaid :=
  over
#print axioms proved
end Go.Proofs.Ytjacnghndnkcnaa.refusalWrites
