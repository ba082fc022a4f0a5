/-
  Proved: for every input the law MeiWrites answers true, and each argument reads behind the call as it read before.
  Conditions: none (the statement Rows.MeiWritesSaid as it is given).
-/
import Derived.Test.YtaokbaddleplfaaRows
import Derived.Below
import Derived.Test.YtaokbaddleplfaaMeiFacts
import Derived.Test.YtaokbaddleplfaaRefSame
import Derived.Test.YtaokbaddleplfaaSame
import Derived.Test.YtaokbaddleplfaaSameBools
import Derived.Test.YtaokbaddleplfaaFew
import Derived.Carry
import Derived.WalkKit
import Derived.ProofKit
import Derived.OpenShut
import Derived.ShutString
namespace Go.Proofs.Ytaokbaddleplfaa.meiWrites
open Go.ChangeShapes Go.WideShapes Go.ChangeAt Go.RowKit
open Go.ChangeMaps (open_string shut_string)
set_option linter.unusedVariables false      -- a walk need not use every 'w<i>' (that an integer argument fits its kind)

theorem laidOut : laidOutB Try.prog = true := by kernel_rfl
theorem own : ownKnob Try.prog.godebug = none := by kernel_rfl

/-! ### STEP 1: THE WALK: the Go text returns true. 'Grown w w'': the world has at most new blocks (Derived/RowKit3.lean). Part the cases AHEAD of 'go_enter' where a test parts the walk; take each callee by a contract of your own. -/
set_option maxRecDepth 20000 in
set_option maxHeartbeats 2000000 in
theorem walk (a0 : Int) (a1 : Value) (m1 : MsgM) (w : World) (w0 : (Lit.int .i64 a0).wf = true) (w1 : MsgAt w a1 m1) :
    Calls Try.prog 4 #[.int .i64 a0, a1] w fun e w' => e = .returned (.bool true) ∧ Below w.heap.size w w' := by
  obtain ⟨cs, rfl, hsz, hone, _⟩ := w1.agg
  have HM := hide w1
  have hb0 := (Below.refl w.heap.size w).alloc (Nat.le_refl _) (.cells cs 30 (0, 0))
  have e1 := heap_alloc_new w (.cells cs 30 (0, 0))
  replace HM := hide (HM.out.mono hb0)
  clear w0 w1
  go_enter Try.func4, Try.ntmps4
  go_upto_region 1 with (refine wpList_boxC rfl 30 _ rfl cs rfl ?_)
  generalize w.alloc (.cells cs 30 (0, 0)) = u0 at *
  generalize hr : w.heap.size = r at *
  have hz0 : r < u0.heap.size := lt_of_block e1
  go_wp2_with fail
  refine (awake_any u0).mono ?_
  rintro e u1 ⟨rfl, b1⟩
  replace e1 := (b1.block r hz0).trans e1
  replace HM := hide (HM.out.mono b1)
  have HB := hide (hb0.trans (b1.mono (Nat.le_of_lt hz0)))
  have hz1 : r < u1.heap.size := lt_of_block e1
  clear b1 hb0 hz0
  go_wp2_with ((with_reducible (show wpList _ _ _ ({ dst := _, op := Op.load _ _, type := _, pos := _, after := _, guard := _ } :: _) _ _)); refine wpList_load_rowG (by rfl) 30 _ rfl r rfl cs (load_whole e1 hsz) ?_)
  refine (few_any _ m1 u1 HM.out).mono ?_
  rintro e u2 ⟨rfl, b2⟩
  replace e1 := (b2.block r hz1).trans e1
  replace HM := hide (HM.out.mono b2)
  replace HB := hide (HB.out.trans (b2.mono (Nat.le_of_lt hz1)))
  have hz2 : r < u2.heap.size := lt_of_block e1
  have HS : Hid (m1.few = true → m1.Small) := hide MsgM.small_of
  clear b2 hz1
  generalize m1.few = q at *
  cases q
  · go_wp2
    go_ret
    exact ⟨rfl, by rw [hr]; exact HB.out⟩
  have hs := HS.out rfl
  go_wp2_with ((with_reducible (show wpList _ _ _ ({ dst := _, op := Op.load _ _, type := _, pos := _, after := _, guard := _ } :: _) _ _)); refine wpList_load_rowG (by rfl) 30 _ rfl r rfl cs (load_whole e1 hsz) ?_)
  refine (Mei.code_write a0 _ m1 u2 HM.out hs).mono ?_
  rintro e u3 ⟨⟨a3, l3, c3, rfl, hx3⟩, b3⟩
  replace e1 := (b3.block r hz2).trans e1
  replace HM := hide (HM.out.mono b3)
  replace HB := hide (HB.out.trans (b3.mono (Nat.le_of_lt hz2)))
  have hz3 : r < u3.heap.size := lt_of_block e1
  have HX3 := hide hx3
  clear b3 hz2 hx3
  go_wp2_with ((with_reducible (show wpList _ _ _ ({ dst := _, op := Op.load _ _, type := _, pos := _, after := _, guard := _ } :: _) _ _)); refine wpList_load_rowG (by rfl) 30 _ rfl r rfl cs (load_whole e1 hsz) ?_)
  refine (Mei.ref_write a0 _ m1 u3 HM.out hs).mono ?_
  rintro e u4 ⟨⟨a4, l4, c4, rfl, hx4⟩, b4⟩
  replace HX3 := hide (HX3.out.mono b4)
  replace HB := hide (HB.out.trans (b4.mono (Nat.le_of_lt hz3)))
  clear b4 hz3 e1 HM
  generalize Mei.write a0 m1 = R at *
  generalize Mei.errW R = E at *
  generalize Mei.outW R = B at *
  go_wp2_with fail
  refine (same_any _ _ _ _ _ _ _ _ _ HX3.out hx4).mono ?_
  rintro e u5 ⟨rfl, rfl⟩
  rw [decide_eq_true (rfl : B = B)]
  go_wp2
  go_ret
  exact ⟨rfl, by rw [hr]; exact HB.out⟩
  -- go_enter Try.func4, Try.ntmps4
  -- go_wp2
  -- go_ret
  -- exact ⟨rfl, by repeat (first | exact Grown.refl _ | apply Grown.drew | apply Grown.alloc)⟩

/-! ### THE ROW's STEP: WRITTEN OUT: LEAVE IT -/
set_option maxRecDepth 100000 in
theorem lifted (os : Os) (started : os.Started) (H : Type) (enc : TypeId × Value → H) :
    ReturnsInHanded {} Try.checked os 4 .any (Rows.meiWritesSpec.pre6 enc Try.prog Try.f4 Rows.meiWritesRow.domain false) (Rows.meiWritesSpec.post enc Try.prog Try.f4 false true false false) := by
  refine returnsInHanded_of_change (C := Try.checked) own started (by kernel_rfl) Try.func4
    (ChangeSpec.witness6 (enc := enc) (C := Try.checked) false ⟨#[], #[.int .i64 0, .agg #[.int .u8 0, .int .u8 0, .int .u16 0, .int .u16 0, .int .u16 0, .int .u16 0, .int .u16 0, .int .u16 0, .int .u16 0, .int .u16 0, .int .u16 0, .int .u16 0, .slice none 0 0, .slice none 0 0, .slice none 0 0, .slice none 0 0, .int .u8 0, .int .u8 0, .int .u8 0, .int .u8 0, .int .u8 0, .slice none 0 0]], []⟩ 8 (by kernel_rfl) (by kernel_rfl) (by kernel_rfl) (by kernel_rfl)) ?_
  intro W base args ds gs before hval0 hW hcnd _
  have hval : ∀ (j : Nat) t v, Try.f4.params[j]? = some t → args[j]? = some v → Value.okWide Try.prog W .any base t v := hval0
  have hW' := hW
  obtain ⟨p, q, hA0, hV, rfl, hfz, hnd⟩ := hW
  have hA : DataW.TrodAll enc Try.prog W 0 (fun _ => true) true Try.f4.params.toList args.toList ds p := hA0
  rw [Try.params4] at hA hval
  obtain ⟨v0, vs0, d0, ds0, p0, q0, hargs, rfl, rfl, h0, r0⟩ := trodAll_cons hA
  obtain ⟨v1, vs1, d1, ds1, p1, q1, rfl, rfl, rfl, h1, r1⟩ := trodAll_cons r0
  obtain ⟨rfl, rfl, rfl⟩ := trodAll_nil r1
  obtain rfl : args = #[v0, v1] := by cases args; simp_all
  obtain ⟨rfl, rfl⟩ := trodVars_none hV
  obtain ⟨a0, rfl, rfl, rfl, w0⟩ := open_int Try.underlying3 (hval 0 3 v0 rfl rfl) h0
  have k1 := h1
  have lt1 : ∀ x ∈ p1, x.block < W.heap.size := by obtain ⟨m, hm⟩ := k1; exact DataW.trod_lt m _ _ _ hm
  obtain ⟨m1, w1⟩ := MsgAt.ofTrod (hval 1 30 v1 rfl rfl) h1
  clear hA0 hval0
  refine (walk a0 v1 m1 W w0 w1).mono fun e W' ⟨he, bel⟩ => ?_
  subst he
  exact ⟨_, rfl, _, _, _, [], _, [], hW', (trodAll_cons_mk (shut_bool Try.underlying4 _) trodAll_mk0), (trodAll_cons_mk (shut_int Try.underlying3 w0) (trodAll_cons_mk (Below.trod laidOut (by kernel_rfl) (of_decide_eq_true (by kernel_rfl)) k1 bel lt1) trodAll_mk0)), rfl, bel.frame _, fun h => by cases h⟩

theorem over : Rows.meiWritesRow.holds Try.pinned (OpenSpec.ofChange Rows.meiWritesSpec) :=
  OpenClaim.holds_of_wide 4 Try.f4 rfl rfl rfl rfl rfl rfl rfl ⟨rfl, rfl, rfl, rfl, rfl⟩ rfl rfl rfl rfl rfl (by kernel_rfl) Try.func4 (by kernel_rfl)
    (of_decide_eq_true (by kernel_rfl)) (by unfold Func.isWrapper; first | (rw [if_pos (by decide +kernel)]; kernel_rfl) | (rw [if_neg (by decide +kernel)]; exact ⟨rfl, rfl⟩))
    (fun os started H enc _ => lifted os started H enc)

/-- ████ THE STATEMENT ████ -/
theorem proved : Rows.MeiWritesSaid :=
  over
#print axioms proved
end Go.Proofs.Ytaokbaddleplfaa.meiWrites
