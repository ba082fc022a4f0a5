/-
  Proved: for every input the law CodeSame answers true, and each argument reads behind the call as it read before.
  Conditions: none (the statement Rows.CodeSameSaid as it is given).
-/
import Derived.Test.YtbleeadpangflaaRows
import Derived.Below
import Derived.Test.YtbleeadpangflaaRefSame
import Derived.Test.YtbleeadpangflaaFew
import Derived.Test.YtbleeadpangflaaCodeAwake
import Derived.Carry
import Derived.WalkKit
import Derived.ProofKit
import Derived.OpenShut
import Derived.ShutString
namespace Go.Proofs.Ytbleeadpangflaa.codeSame
open Go.ChangeShapes Go.WideShapes Go.ChangeAt Go.RowKit
open Go.ChangeMaps (open_string shut_string)
set_option linter.unusedVariables false      -- a walk need not use every 'w<i>' (that an integer argument fits its kind)

theorem laidOut : laidOutB Try.prog = true := by kernel_rfl
theorem same_comm (m n : MsgM) : MsgM.same m n = MsgM.same n m := by
  rw [Bool.eq_iff_iff, MsgM.same_iff, MsgM.same_iff]
  exact ⟨Eq.symm, Eq.symm⟩
theorem own : ownKnob Try.prog.godebug = none := by kernel_rfl

/-! ### STEP 1: THE WALK: the Go text returns true. 'Grown w w'': the world has at most new blocks (Derived/RowKit3.lean). Part the cases AHEAD of 'go_enter' where a test parts the walk; take each callee by a contract of your own. -/
set_option maxRecDepth 20000 in
set_option maxHeartbeats 2000000 in
theorem walk (a0 : Value) (m0 : MsgM) (a1 : Value) (m1 : MsgM) (w : World) (w0 : MsgAt w a0 m0) (w1 : MsgAt w a1 m1) :
    Calls Try.prog 5 #[a0, a1] w fun e w' => e = .returned (.bool true) ∧ Below w.heap.size w w' := by
  obtain ⟨cs1, hc1, hz1⟩ : ∃ cs : Array Value, a0 = .agg cs ∧ cs.size = 22 := by obtain ⟨_, _, _, _, _, _, _, _, _, _, _, _, _, _, _, h, _⟩ := w0; exact ⟨_, h, rfl⟩
  obtain ⟨cs2, hc2, hz2⟩ : ∃ cs : Array Value, a1 = .agg cs ∧ cs.size = 22 := by obtain ⟨_, _, _, _, _, _, _, _, _, _, _, _, _, _, _, h, _⟩ := w1; exact ⟨_, h, rfl⟩
  subst hc1 hc2
  go_enter Try.func5, Try.ntmps5
  obtain ⟨A, hA⟩ : ∃ A : Act, A = ⟨#[.agg cs1, .agg cs2, undef, undef, undef, undef, undef, undef, undef, undef, undef, undef, undef, undef, undef, undef, undef, undef, undef, undef, undef, undef, undef, undef, undef, undef, undef, undef, undef, undef, undef, undef, undef, undef, undef, undef, undef, undef, undef, undef, undef, undef, undef, undef], []⟩ := ⟨_, rfl⟩
  rw [← hA]
  have zA : A.tmps.size = 44 := by rw [hA]; rfl
  have df : A.defers = [] := by rw [hA]
  have e0 : A.eval (.tmp 0) = .agg cs1 := by rw [hA]; rfl
  have e1 : A.eval (.tmp 1) = .agg cs2 := by rw [hA]; rfl
  clear hA
  refine seq_region ?_
  refine fstepW 2 rfl (sz_lt zA (by decide)) rfl _ _ (run_box w A _ _ _ _ rfl e0) ?_
  intro f1 fF1 fv1
  have fz1 : f1.tmps.size = 44 := fF1.size.trans zA
  refine fstepW 3 rfl (sz_lt fz1 (by decide)) rfl _ _ (run_box _ f1 _ _ _ _ rfl ((fF1.rest 1 (by decide)).trans e1)) ?_
  intro f2 fF2 fv2
  have fz2 : f2.tmps.size = 44 := fF2.size.trans fz1
  rw [show (w.alloc (.cells cs1 35 (0, 0))).heap.size = w.heap.size + 1 from by simp] at fv2
  have hH := Held.made w cs1 cs2
  generalize ((w.alloc (.cells cs1 35 (0, 0))).alloc (.cells cs2 35 (0, 0))) = W at *
  refine fstep0 4 rfl (sz_lt fz2 (by decide)) rfl _ (run_assign _ f2 _ _ rfl) ?_
  intro f3 fF3 fv3
  have fz3 : f3.tmps.size = 44 := fF3.size.trans fz2
  refine list_end ?_
  refine seq_region ?_
  refine fcall 8 rfl (sz_lt fz3 (by decide)) rfl _ _ (run_call0 _ f3 _ 7 rfl (by kernel_rfl)) (fun v wx => v = .bool true ∧ Below W.heap.size W wx) ((awake_any W).mono fun e wx hh => ⟨_, hh.1, rfl, hh.2⟩) ?_
  intro f4 wa va fF4 fv4 ha
  have fz4 : f4.tmps.size = 44 := fF4.size.trans fz3
  obtain ⟨rfl, ba⟩ := ha
  replace hH := hH.next ba
  clear ba
  refine fstep0 5 rfl (sz_lt fz4 (by decide)) rfl (.bool true) (by rw [run_assign _ f4 _ _ rfl, fv4]) ?_
  intro f5 fF5 fv5
  have fz5 : f5.tmps.size = 44 := fF5.size.trans fz4
  refine list_end ?_
  refine seq_region ?_
  refine fstep0 9 rfl (sz_lt fz5 (by decide)) rfl _ (load_take _ _ rfl _ ((fF5.rest 2 (by decide)).trans ((fF4.rest 2 (by decide)).trans ((fF3.rest 2 (by decide)).trans ((fF2.rest 2 (by decide)).trans fv1)))) _ (load_whole hH.h1 hz1)) ?_
  intro f6 fF6 fv6
  have fz6 : f6.tmps.size = 44 := fF6.size.trans fz5
  refine fcall 10 rfl (sz_lt fz6 (by decide)) rfl _ _ (run_call1 _ f6 _ 17 _ _ _ rfl fv6 (by kernel_rfl)) (fun v wx => v = .bool m0.few ∧ Below wa.heap.size wa wx) ((few_any _ m0 wa (w0.mono hH.below)).mono fun e wx hh => ⟨_, hh.1, rfl, hh.2⟩) ?_
  intro f7 wb vb fF7 fv7 hb
  have fz7 : f7.tmps.size = 44 := fF7.size.trans fz6
  obtain ⟨rfl, bb⟩ := hb
  replace hH := hH.next bb
  clear bb
  refine fstep0 6 rfl (sz_lt fz7 (by decide)) rfl (.bool m0.few) (by rw [run_assign _ f7 _ _ rfl, fv7]) ?_
  intro f8 fF8 fv8
  have fz8 : f8.tmps.size = 44 := fF8.size.trans fz7
  refine list_end ?_
  refine seq_region ?_
  refine fstep0 11 rfl (sz_lt fz8 (by decide)) rfl _ (load_take _ _ rfl _ ((fF8.rest 3 (by decide)).trans ((fF7.rest 3 (by decide)).trans ((fF6.rest 3 (by decide)).trans ((fF5.rest 3 (by decide)).trans ((fF4.rest 3 (by decide)).trans ((fF3.rest 3 (by decide)).trans fv2)))))) _ (load_whole hH.h2 hz2)) ?_
  intro f9 fF9 fv9
  have fz9 : f9.tmps.size = 44 := fF9.size.trans fz8
  refine fcall 12 rfl (sz_lt fz9 (by decide)) rfl _ _ (run_call1 _ f9 _ 17 _ _ _ rfl fv9 (by kernel_rfl)) (fun v wx => v = .bool m1.few ∧ Below wb.heap.size wb wx) ((few_any _ m1 wb (w1.mono hH.below)).mono fun e wx hh => ⟨_, hh.1, rfl, hh.2⟩) ?_
  intro f10 wc vb fF10 fv10 hb
  have fz10 : f10.tmps.size = 44 := fF10.size.trans fz9
  obtain ⟨rfl, bb⟩ := hb
  replace hH := hH.next bb
  clear bb
  refine fstep0 7 rfl (sz_lt fz10 (by decide)) rfl (.bool m1.few) (by rw [run_assign _ f10 _ _ rfl, fv10]) ?_
  intro f11 fF11 fv11
  have fz11 : f11.tmps.size = 44 := fF11.size.trans fz10
  refine list_end ?_
  refine wp_seq ?_
  refine seq_region ?_
  refine fstep0 13 rfl (sz_lt fz11 (by decide)) rfl (.bool m0.few) (by rw [run_move _ f11 _ _ rfl, ((fF11.rest 6 (by decide)).trans ((fF10.rest 6 (by decide)).trans ((fF9.rest 6 (by decide)).trans fv8)))]) ?_
  intro f12 fF12 fv12
  have fz12 : f12.tmps.size = 44 := fF12.size.trans fz11
  refine fstep0 14 rfl (sz_lt fz12 (by decide)) rfl _ (run_not _ f12 _ _ _ rfl fv12) ?_
  intro f13 fF13 fv13
  have fz13 : f13.tmps.size = 44 := fF13.size.trans fz12
  refine fstep0 15 rfl (sz_lt fz13 (by decide)) rfl (.bool (!m0.few)) (by rw [run_move _ f13 _ _ rfl, fv13]) ?_
  intro f14 fF14 fv14
  have fz14 : f14.tmps.size = 44 := fF14.size.trans fz13
  refine unitNot 16 15 2 7 _ m1.few rfl (by decide) (sz_lt fz14 (by decide)) ((fF14.rest 7 (by decide)).trans ((fF13.rest 7 (by decide)).trans ((fF12.rest 7 (by decide)).trans fv11))) fv14 rfl rfl rfl rfl rfl rfl rfl rfl rfl ?_
  intro f15 fF15 fv15
  have fz15 : f15.tmps.size = 44 := fF15.size.trans fz14
  generalize (!m0.few || !m1.few) = r at *
  refine list_end ?_
  cases r with
  | true =>
    refine wp_cond_true fv15 ?_
    refine seq_region ?_
    refine fstep0 19 rfl (sz_lt fz15 (by decide)) rfl (.bool true) (by rw [run_move _ f15 _ _ rfl, ((fF15.rest 5 (by decide)).trans ((fF14.rest 5 (by decide)).trans ((fF13.rest 5 (by decide)).trans ((fF12.rest 5 (by decide)).trans ((fF11.rest 5 (by decide)).trans ((fF10.rest 5 (by decide)).trans ((fF9.rest 5 (by decide)).trans ((fF8.rest 5 (by decide)).trans ((fF7.rest 5 (by decide)).trans ((fF6.rest 5 (by decide)).trans fv5))))))))))]) ?_
    intro f16 fF16 fv16
    have fz16 : f16.tmps.size = 44 := fF16.size.trans fz15
    refine fstep0 4 rfl (sz_lt fz16 (by decide)) rfl (.bool true) (by rw [run_assign _ f16 _ _ rfl, fv16]) ?_
    intro f17 fF17 fv17
    have fz17 : f17.tmps.size = 44 := fF17.size.trans fz16
    refine list_end ?_
    refine wp_ret (then_ret ?_)
    refine bodyPost_ret (results_tmp Try.results5 _ _ _) (fF17.defers.trans (fF16.defers.trans (fF15.defers.trans (fF14.defers.trans (fF13.defers.trans (fF12.defers.trans (fF11.defers.trans (fF10.defers.trans (fF9.defers.trans (fF8.defers.trans (fF7.defers.trans (fF6.defers.trans (fF5.defers.trans (fF4.defers.trans (fF3.defers.trans (fF2.defers.trans (fF1.defers.trans df))))))))))))))))) ?_
    exact ⟨congrArg Ending.returned fv17, hH.below⟩
  | false =>
  refine wp_cond_false fv15 ?_
  refine skip_next ?_
  have HS : ∀ wq, Held w cs1 cs2 wq → Calls Try.prog 18 #[.agg cs1, .agg cs2] wq fun e w' => e = .returned (.bool (MsgM.same m0 m1)) ∧ Held w cs1 cs2 w' := fun wq hq => (codeSame_any _ _ m0 m1 wq (w0.mono hq.below) (w1.mono hq.below)).mono fun e w' hh => ⟨hh.1, hq.next hh.2⟩
  have HR : ∀ wq, Held w cs1 cs2 wq → Calls Try.prog 19 #[.agg cs1, .agg cs2] wq fun e w' => e = .returned (.bool (MsgM.same m0 m1)) ∧ Held w cs1 cs2 w' := fun wq hq => (refSame_any _ _ m0 m1 wq (w0.mono hq.below) (w1.mono hq.below)).mono fun e w' hh => ⟨hh.1, hq.next hh.2⟩
  have HM : ∀ wq, Held w cs1 cs2 wq → Calls Try.prog 18 #[.agg cs1, .agg cs1] wq fun e w' => e = .returned (.bool true) ∧ Held w cs1 cs2 w' := fun wq hq => (codeSame_any _ _ m0 m0 wq (w0.mono hq.below) (w0.mono hq.below)).mono fun e w' hh => ⟨by rw [hh.1, (MsgM.same_iff m0 m0).2 rfl], hq.next hh.2⟩
  have HT : ∀ wq, Held w cs1 cs2 wq → Calls Try.prog 18 #[.agg cs2, .agg cs1] wq fun e w' => e = .returned (.bool (MsgM.same m0 m1)) ∧ Held w cs1 cs2 w' := fun wq hq => (codeSame_any _ _ m1 m0 wq (w1.mono hq.below) (w0.mono hq.below)).mono fun e w' hh => ⟨by rw [hh.1, same_comm m1 m0], hq.next hh.2⟩
  generalize MsgM.same m0 m1 = D at *
  refine seq_drawn _ (by kernel_rfl) (by kernel_rfl) hH.drew ?_
  refine qstep0 20 rfl (sz_lt fz15 (by decide)) rfl (.bool true) (fun wq hq => by rw [run_move _ f15 _ _ rfl, ((fF15.rest 5 (by decide)).trans ((fF14.rest 5 (by decide)).trans ((fF13.rest 5 (by decide)).trans ((fF12.rest 5 (by decide)).trans ((fF11.rest 5 (by decide)).trans ((fF10.rest 5 (by decide)).trans ((fF9.rest 5 (by decide)).trans ((fF8.rest 5 (by decide)).trans ((fF7.rest 5 (by decide)).trans ((fF6.rest 5 (by decide)).trans fv5))))))))))]) ?_
  intro f16 fF16 fv16
  have fz16 : f16.tmps.size = 44 := fF16.size.trans fz15
  refine qstep0 21 rfl (sz_lt fz16 (by decide)) rfl (.bool true) (fun wq hq => by rw [run_move _ f16 _ _ rfl, fv16]) ?_
  intro f17 fF17 fv17
  have fz17 : f17.tmps.size = 44 := fF17.size.trans fz16
  refine qstep 22 rfl (sz_lt fz17 (by decide)) true ((wanted_by (want := true) rfl rfl (sz_lt fz17 (by decide)) fv17).trans rfl) _ (fun _ wq hq => load_take _ _ rfl _ ((fF17.rest 2 (by decide)).trans ((fF16.rest 2 (by decide)).trans ((fF15.rest 2 (by decide)).trans ((fF14.rest 2 (by decide)).trans ((fF13.rest 2 (by decide)).trans ((fF12.rest 2 (by decide)).trans ((fF11.rest 2 (by decide)).trans ((fF10.rest 2 (by decide)).trans ((fF9.rest 2 (by decide)).trans ((fF8.rest 2 (by decide)).trans ((fF7.rest 2 (by decide)).trans ((fF6.rest 2 (by decide)).trans ((fF5.rest 2 (by decide)).trans ((fF4.rest 2 (by decide)).trans ((fF3.rest 2 (by decide)).trans ((fF2.rest 2 (by decide)).trans fv1)))))))))))))))) _ (load_whole hq.h1 hz1)) ?_
  intro f18 fF18 fv18
  have fz18 : f18.tmps.size = 44 := fF18.size.trans fz17
  refine qstep 23 rfl (sz_lt fz18 (by decide)) true ((wanted_by (want := true) rfl rfl (sz_lt fz18 (by decide)) ((fF18.rest 21 (by decide)).trans fv17)).trans rfl) _ (fun _ wq hq => load_take _ _ rfl _ ((fF18.rest 3 (by decide)).trans ((fF17.rest 3 (by decide)).trans ((fF16.rest 3 (by decide)).trans ((fF15.rest 3 (by decide)).trans ((fF14.rest 3 (by decide)).trans ((fF13.rest 3 (by decide)).trans ((fF12.rest 3 (by decide)).trans ((fF11.rest 3 (by decide)).trans ((fF10.rest 3 (by decide)).trans ((fF9.rest 3 (by decide)).trans ((fF8.rest 3 (by decide)).trans ((fF7.rest 3 (by decide)).trans ((fF6.rest 3 (by decide)).trans ((fF5.rest 3 (by decide)).trans ((fF4.rest 3 (by decide)).trans ((fF3.rest 3 (by decide)).trans fv2)))))))))))))))) _ (load_whole hq.h2 hz2)) ?_
  intro f19 fF19 fv19
  have fz19 : f19.tmps.size = 44 := fF19.size.trans fz18
  refine qcallG 24 rfl (sz_lt fz19 (by decide)) ((wanted_by (want := true) rfl rfl (sz_lt fz19 (by decide)) ((fF19.rest 21 (by decide)).trans ((fF18.rest 21 (by decide)).trans fv17))).trans rfl) _ _ (.bool D) (fun wq _ => run_call2 _ f19 _ 18 _ _ _ _ _ _ rfl ((fF19.rest 22 (by decide)).trans (fv18 rfl)) (fv19 rfl) (by kernel_rfl)) HS ?_
  intro f20 fF20 fv20
  have fz20 : f20.tmps.size = 44 := fF20.size.trans fz19
  refine qstep 25 rfl (sz_lt fz20 (by decide)) true ((wanted_by (want := true) rfl rfl (sz_lt fz20 (by decide)) ((fF20.rest 21 (by decide)).trans ((fF19.rest 21 (by decide)).trans ((fF18.rest 21 (by decide)).trans fv17)))).trans rfl) _ (fun _ wq hq => load_take _ _ rfl _ ((fF20.rest 2 (by decide)).trans ((fF19.rest 2 (by decide)).trans ((fF18.rest 2 (by decide)).trans ((fF17.rest 2 (by decide)).trans ((fF16.rest 2 (by decide)).trans ((fF15.rest 2 (by decide)).trans ((fF14.rest 2 (by decide)).trans ((fF13.rest 2 (by decide)).trans ((fF12.rest 2 (by decide)).trans ((fF11.rest 2 (by decide)).trans ((fF10.rest 2 (by decide)).trans ((fF9.rest 2 (by decide)).trans ((fF8.rest 2 (by decide)).trans ((fF7.rest 2 (by decide)).trans ((fF6.rest 2 (by decide)).trans ((fF5.rest 2 (by decide)).trans ((fF4.rest 2 (by decide)).trans ((fF3.rest 2 (by decide)).trans ((fF2.rest 2 (by decide)).trans fv1))))))))))))))))))) _ (load_whole hq.h1 hz1)) ?_
  intro f21 fF21 fv21
  have fz21 : f21.tmps.size = 44 := fF21.size.trans fz20
  refine qstep 26 rfl (sz_lt fz21 (by decide)) true ((wanted_by (want := true) rfl rfl (sz_lt fz21 (by decide)) ((fF21.rest 21 (by decide)).trans ((fF20.rest 21 (by decide)).trans ((fF19.rest 21 (by decide)).trans ((fF18.rest 21 (by decide)).trans fv17))))).trans rfl) _ (fun _ wq hq => load_take _ _ rfl _ ((fF21.rest 3 (by decide)).trans ((fF20.rest 3 (by decide)).trans ((fF19.rest 3 (by decide)).trans ((fF18.rest 3 (by decide)).trans ((fF17.rest 3 (by decide)).trans ((fF16.rest 3 (by decide)).trans ((fF15.rest 3 (by decide)).trans ((fF14.rest 3 (by decide)).trans ((fF13.rest 3 (by decide)).trans ((fF12.rest 3 (by decide)).trans ((fF11.rest 3 (by decide)).trans ((fF10.rest 3 (by decide)).trans ((fF9.rest 3 (by decide)).trans ((fF8.rest 3 (by decide)).trans ((fF7.rest 3 (by decide)).trans ((fF6.rest 3 (by decide)).trans ((fF5.rest 3 (by decide)).trans ((fF4.rest 3 (by decide)).trans ((fF3.rest 3 (by decide)).trans fv2))))))))))))))))))) _ (load_whole hq.h2 hz2)) ?_
  intro f22 fF22 fv22
  have fz22 : f22.tmps.size = 44 := fF22.size.trans fz21
  refine qcallG 27 rfl (sz_lt fz22 (by decide)) ((wanted_by (want := true) rfl rfl (sz_lt fz22 (by decide)) ((fF22.rest 21 (by decide)).trans ((fF21.rest 21 (by decide)).trans ((fF20.rest 21 (by decide)).trans ((fF19.rest 21 (by decide)).trans ((fF18.rest 21 (by decide)).trans fv17)))))).trans rfl) _ _ (.bool D) (fun wq _ => run_call2 _ f22 _ 19 _ _ _ _ _ _ rfl ((fF22.rest 25 (by decide)).trans (fv21 rfl)) (fv22 rfl) (by kernel_rfl)) HR ?_
  intro f23 fF23 fv23
  have fz23 : f23.tmps.size = 44 := fF23.size.trans fz22
  refine qstep 28 rfl (sz_lt fz23 (by decide)) true ((wanted_by (want := true) rfl rfl (sz_lt fz23 (by decide)) ((fF23.rest 21 (by decide)).trans ((fF22.rest 21 (by decide)).trans ((fF21.rest 21 (by decide)).trans ((fF20.rest 21 (by decide)).trans ((fF19.rest 21 (by decide)).trans ((fF18.rest 21 (by decide)).trans fv17))))))).trans rfl) (.bool true) (fun _ wq hq => by rw [run_eqlB _ f23 _ _ _ D D rfl ((fF23.rest 24 (by decide)).trans ((fF22.rest 24 (by decide)).trans ((fF21.rest 24 (by decide)).trans fv20))) fv23, beq_self_eq_true]) ?_
  intro f24 fF24 fv24
  have fz24 : f24.tmps.size = 44 := fF24.size.trans fz23
  refine qstep0 29 rfl (sz_lt fz24 (by decide)) rfl (.bool true) (fun wq hq => by rw [run_pick _ f24 _ _ _ _ true rfl ((fF24.rest 21 (by decide)).trans ((fF23.rest 21 (by decide)).trans ((fF22.rest 21 (by decide)).trans ((fF21.rest 21 (by decide)).trans ((fF20.rest 21 (by decide)).trans ((fF19.rest 21 (by decide)).trans ((fF18.rest 21 (by decide)).trans fv17))))))), if_pos rfl, (fv24 rfl)]) ?_
  intro f25 fF25 fv25
  have fz25 : f25.tmps.size = 44 := fF25.size.trans fz24
  refine qstep0 30 rfl (sz_lt fz25 (by decide)) rfl (.bool true) (fun wq hq => by rw [run_move _ f25 _ _ rfl, fv25]) ?_
  intro f26 fF26 fv26
  have fz26 : f26.tmps.size = 44 := fF26.size.trans fz25
  refine qstep 31 rfl (sz_lt fz26 (by decide)) true ((wanted_by (want := true) rfl rfl (sz_lt fz26 (by decide)) fv26).trans rfl) _ (fun _ wq hq => load_take _ _ rfl _ ((fF26.rest 2 (by decide)).trans ((fF25.rest 2 (by decide)).trans ((fF24.rest 2 (by decide)).trans ((fF23.rest 2 (by decide)).trans ((fF22.rest 2 (by decide)).trans ((fF21.rest 2 (by decide)).trans ((fF20.rest 2 (by decide)).trans ((fF19.rest 2 (by decide)).trans ((fF18.rest 2 (by decide)).trans ((fF17.rest 2 (by decide)).trans ((fF16.rest 2 (by decide)).trans ((fF15.rest 2 (by decide)).trans ((fF14.rest 2 (by decide)).trans ((fF13.rest 2 (by decide)).trans ((fF12.rest 2 (by decide)).trans ((fF11.rest 2 (by decide)).trans ((fF10.rest 2 (by decide)).trans ((fF9.rest 2 (by decide)).trans ((fF8.rest 2 (by decide)).trans ((fF7.rest 2 (by decide)).trans ((fF6.rest 2 (by decide)).trans ((fF5.rest 2 (by decide)).trans ((fF4.rest 2 (by decide)).trans ((fF3.rest 2 (by decide)).trans ((fF2.rest 2 (by decide)).trans fv1))))))))))))))))))))))))) _ (load_whole hq.h1 hz1)) ?_
  intro f27 fF27 fv27
  have fz27 : f27.tmps.size = 44 := fF27.size.trans fz26
  refine qstep 32 rfl (sz_lt fz27 (by decide)) true ((wanted_by (want := true) rfl rfl (sz_lt fz27 (by decide)) ((fF27.rest 30 (by decide)).trans fv26)).trans rfl) _ (fun _ wq hq => load_take _ _ rfl _ ((fF27.rest 2 (by decide)).trans ((fF26.rest 2 (by decide)).trans ((fF25.rest 2 (by decide)).trans ((fF24.rest 2 (by decide)).trans ((fF23.rest 2 (by decide)).trans ((fF22.rest 2 (by decide)).trans ((fF21.rest 2 (by decide)).trans ((fF20.rest 2 (by decide)).trans ((fF19.rest 2 (by decide)).trans ((fF18.rest 2 (by decide)).trans ((fF17.rest 2 (by decide)).trans ((fF16.rest 2 (by decide)).trans ((fF15.rest 2 (by decide)).trans ((fF14.rest 2 (by decide)).trans ((fF13.rest 2 (by decide)).trans ((fF12.rest 2 (by decide)).trans ((fF11.rest 2 (by decide)).trans ((fF10.rest 2 (by decide)).trans ((fF9.rest 2 (by decide)).trans ((fF8.rest 2 (by decide)).trans ((fF7.rest 2 (by decide)).trans ((fF6.rest 2 (by decide)).trans ((fF5.rest 2 (by decide)).trans ((fF4.rest 2 (by decide)).trans ((fF3.rest 2 (by decide)).trans ((fF2.rest 2 (by decide)).trans fv1)))))))))))))))))))))))))) _ (load_whole hq.h1 hz1)) ?_
  intro f28 fF28 fv28
  have fz28 : f28.tmps.size = 44 := fF28.size.trans fz27
  refine qcallG 33 rfl (sz_lt fz28 (by decide)) ((wanted_by (want := true) rfl rfl (sz_lt fz28 (by decide)) ((fF28.rest 30 (by decide)).trans ((fF27.rest 30 (by decide)).trans fv26))).trans rfl) _ _ (.bool true) (fun wq _ => run_call2 _ f28 _ 18 _ _ _ _ _ _ rfl ((fF28.rest 31 (by decide)).trans (fv27 rfl)) (fv28 rfl) (by kernel_rfl)) HM ?_
  intro f29 fF29 fv29
  have fz29 : f29.tmps.size = 44 := fF29.size.trans fz28
  refine qstep0 34 rfl (sz_lt fz29 (by decide)) rfl (.bool true) (fun wq hq => by rw [run_pick _ f29 _ _ _ _ true rfl ((fF29.rest 30 (by decide)).trans ((fF28.rest 30 (by decide)).trans ((fF27.rest 30 (by decide)).trans fv26))), if_pos rfl, fv29]) ?_
  intro f30 fF30 fv30
  have fz30 : f30.tmps.size = 44 := fF30.size.trans fz29
  refine qstep0 35 rfl (sz_lt fz30 (by decide)) rfl (.bool true) (fun wq hq => by rw [run_move _ f30 _ _ rfl, fv30]) ?_
  intro f31 fF31 fv31
  have fz31 : f31.tmps.size = 44 := fF31.size.trans fz30
  refine qstep 36 rfl (sz_lt fz31 (by decide)) true ((wanted_by (want := true) rfl rfl (sz_lt fz31 (by decide)) fv31).trans rfl) _ (fun _ wq hq => load_take _ _ rfl _ ((fF31.rest 2 (by decide)).trans ((fF30.rest 2 (by decide)).trans ((fF29.rest 2 (by decide)).trans ((fF28.rest 2 (by decide)).trans ((fF27.rest 2 (by decide)).trans ((fF26.rest 2 (by decide)).trans ((fF25.rest 2 (by decide)).trans ((fF24.rest 2 (by decide)).trans ((fF23.rest 2 (by decide)).trans ((fF22.rest 2 (by decide)).trans ((fF21.rest 2 (by decide)).trans ((fF20.rest 2 (by decide)).trans ((fF19.rest 2 (by decide)).trans ((fF18.rest 2 (by decide)).trans ((fF17.rest 2 (by decide)).trans ((fF16.rest 2 (by decide)).trans ((fF15.rest 2 (by decide)).trans ((fF14.rest 2 (by decide)).trans ((fF13.rest 2 (by decide)).trans ((fF12.rest 2 (by decide)).trans ((fF11.rest 2 (by decide)).trans ((fF10.rest 2 (by decide)).trans ((fF9.rest 2 (by decide)).trans ((fF8.rest 2 (by decide)).trans ((fF7.rest 2 (by decide)).trans ((fF6.rest 2 (by decide)).trans ((fF5.rest 2 (by decide)).trans ((fF4.rest 2 (by decide)).trans ((fF3.rest 2 (by decide)).trans ((fF2.rest 2 (by decide)).trans fv1)))))))))))))))))))))))))))))) _ (load_whole hq.h1 hz1)) ?_
  intro f32 fF32 fv32
  have fz32 : f32.tmps.size = 44 := fF32.size.trans fz31
  refine qstep 37 rfl (sz_lt fz32 (by decide)) true ((wanted_by (want := true) rfl rfl (sz_lt fz32 (by decide)) ((fF32.rest 35 (by decide)).trans fv31)).trans rfl) _ (fun _ wq hq => load_take _ _ rfl _ ((fF32.rest 3 (by decide)).trans ((fF31.rest 3 (by decide)).trans ((fF30.rest 3 (by decide)).trans ((fF29.rest 3 (by decide)).trans ((fF28.rest 3 (by decide)).trans ((fF27.rest 3 (by decide)).trans ((fF26.rest 3 (by decide)).trans ((fF25.rest 3 (by decide)).trans ((fF24.rest 3 (by decide)).trans ((fF23.rest 3 (by decide)).trans ((fF22.rest 3 (by decide)).trans ((fF21.rest 3 (by decide)).trans ((fF20.rest 3 (by decide)).trans ((fF19.rest 3 (by decide)).trans ((fF18.rest 3 (by decide)).trans ((fF17.rest 3 (by decide)).trans ((fF16.rest 3 (by decide)).trans ((fF15.rest 3 (by decide)).trans ((fF14.rest 3 (by decide)).trans ((fF13.rest 3 (by decide)).trans ((fF12.rest 3 (by decide)).trans ((fF11.rest 3 (by decide)).trans ((fF10.rest 3 (by decide)).trans ((fF9.rest 3 (by decide)).trans ((fF8.rest 3 (by decide)).trans ((fF7.rest 3 (by decide)).trans ((fF6.rest 3 (by decide)).trans ((fF5.rest 3 (by decide)).trans ((fF4.rest 3 (by decide)).trans ((fF3.rest 3 (by decide)).trans fv2)))))))))))))))))))))))))))))) _ (load_whole hq.h2 hz2)) ?_
  intro f33 fF33 fv33
  have fz33 : f33.tmps.size = 44 := fF33.size.trans fz32
  refine qcallG 38 rfl (sz_lt fz33 (by decide)) ((wanted_by (want := true) rfl rfl (sz_lt fz33 (by decide)) ((fF33.rest 35 (by decide)).trans ((fF32.rest 35 (by decide)).trans fv31))).trans rfl) _ _ (.bool D) (fun wq _ => run_call2 _ f33 _ 18 _ _ _ _ _ _ rfl ((fF33.rest 36 (by decide)).trans (fv32 rfl)) (fv33 rfl) (by kernel_rfl)) HS ?_
  intro f34 fF34 fv34
  have fz34 : f34.tmps.size = 44 := fF34.size.trans fz33
  refine qstep 39 rfl (sz_lt fz34 (by decide)) true ((wanted_by (want := true) rfl rfl (sz_lt fz34 (by decide)) ((fF34.rest 35 (by decide)).trans ((fF33.rest 35 (by decide)).trans ((fF32.rest 35 (by decide)).trans fv31)))).trans rfl) _ (fun _ wq hq => load_take _ _ rfl _ ((fF34.rest 3 (by decide)).trans ((fF33.rest 3 (by decide)).trans ((fF32.rest 3 (by decide)).trans ((fF31.rest 3 (by decide)).trans ((fF30.rest 3 (by decide)).trans ((fF29.rest 3 (by decide)).trans ((fF28.rest 3 (by decide)).trans ((fF27.rest 3 (by decide)).trans ((fF26.rest 3 (by decide)).trans ((fF25.rest 3 (by decide)).trans ((fF24.rest 3 (by decide)).trans ((fF23.rest 3 (by decide)).trans ((fF22.rest 3 (by decide)).trans ((fF21.rest 3 (by decide)).trans ((fF20.rest 3 (by decide)).trans ((fF19.rest 3 (by decide)).trans ((fF18.rest 3 (by decide)).trans ((fF17.rest 3 (by decide)).trans ((fF16.rest 3 (by decide)).trans ((fF15.rest 3 (by decide)).trans ((fF14.rest 3 (by decide)).trans ((fF13.rest 3 (by decide)).trans ((fF12.rest 3 (by decide)).trans ((fF11.rest 3 (by decide)).trans ((fF10.rest 3 (by decide)).trans ((fF9.rest 3 (by decide)).trans ((fF8.rest 3 (by decide)).trans ((fF7.rest 3 (by decide)).trans ((fF6.rest 3 (by decide)).trans ((fF5.rest 3 (by decide)).trans ((fF4.rest 3 (by decide)).trans ((fF3.rest 3 (by decide)).trans fv2)))))))))))))))))))))))))))))))) _ (load_whole hq.h2 hz2)) ?_
  intro f35 fF35 fv35
  have fz35 : f35.tmps.size = 44 := fF35.size.trans fz34
  refine qstep 40 rfl (sz_lt fz35 (by decide)) true ((wanted_by (want := true) rfl rfl (sz_lt fz35 (by decide)) ((fF35.rest 35 (by decide)).trans ((fF34.rest 35 (by decide)).trans ((fF33.rest 35 (by decide)).trans ((fF32.rest 35 (by decide)).trans fv31))))).trans rfl) _ (fun _ wq hq => load_take _ _ rfl _ ((fF35.rest 2 (by decide)).trans ((fF34.rest 2 (by decide)).trans ((fF33.rest 2 (by decide)).trans ((fF32.rest 2 (by decide)).trans ((fF31.rest 2 (by decide)).trans ((fF30.rest 2 (by decide)).trans ((fF29.rest 2 (by decide)).trans ((fF28.rest 2 (by decide)).trans ((fF27.rest 2 (by decide)).trans ((fF26.rest 2 (by decide)).trans ((fF25.rest 2 (by decide)).trans ((fF24.rest 2 (by decide)).trans ((fF23.rest 2 (by decide)).trans ((fF22.rest 2 (by decide)).trans ((fF21.rest 2 (by decide)).trans ((fF20.rest 2 (by decide)).trans ((fF19.rest 2 (by decide)).trans ((fF18.rest 2 (by decide)).trans ((fF17.rest 2 (by decide)).trans ((fF16.rest 2 (by decide)).trans ((fF15.rest 2 (by decide)).trans ((fF14.rest 2 (by decide)).trans ((fF13.rest 2 (by decide)).trans ((fF12.rest 2 (by decide)).trans ((fF11.rest 2 (by decide)).trans ((fF10.rest 2 (by decide)).trans ((fF9.rest 2 (by decide)).trans ((fF8.rest 2 (by decide)).trans ((fF7.rest 2 (by decide)).trans ((fF6.rest 2 (by decide)).trans ((fF5.rest 2 (by decide)).trans ((fF4.rest 2 (by decide)).trans ((fF3.rest 2 (by decide)).trans ((fF2.rest 2 (by decide)).trans fv1)))))))))))))))))))))))))))))))))) _ (load_whole hq.h1 hz1)) ?_
  intro f36 fF36 fv36
  have fz36 : f36.tmps.size = 44 := fF36.size.trans fz35
  refine qcallG 41 rfl (sz_lt fz36 (by decide)) ((wanted_by (want := true) rfl rfl (sz_lt fz36 (by decide)) ((fF36.rest 35 (by decide)).trans ((fF35.rest 35 (by decide)).trans ((fF34.rest 35 (by decide)).trans ((fF33.rest 35 (by decide)).trans ((fF32.rest 35 (by decide)).trans fv31)))))).trans rfl) _ _ (.bool D) (fun wq _ => run_call2 _ f36 _ 18 _ _ _ _ _ _ rfl ((fF36.rest 39 (by decide)).trans (fv35 rfl)) (fv36 rfl) (by kernel_rfl)) HT ?_
  intro f37 fF37 fv37
  have fz37 : f37.tmps.size = 44 := fF37.size.trans fz36
  refine qstep 42 rfl (sz_lt fz37 (by decide)) true ((wanted_by (want := true) rfl rfl (sz_lt fz37 (by decide)) ((fF37.rest 35 (by decide)).trans ((fF36.rest 35 (by decide)).trans ((fF35.rest 35 (by decide)).trans ((fF34.rest 35 (by decide)).trans ((fF33.rest 35 (by decide)).trans ((fF32.rest 35 (by decide)).trans fv31))))))).trans rfl) (.bool true) (fun _ wq hq => by rw [run_eqlB _ f37 _ _ _ D D rfl ((fF37.rest 38 (by decide)).trans ((fF36.rest 38 (by decide)).trans ((fF35.rest 38 (by decide)).trans fv34))) fv37, beq_self_eq_true]) ?_
  intro f38 fF38 fv38
  have fz38 : f38.tmps.size = 44 := fF38.size.trans fz37
  refine qstep0 43 rfl (sz_lt fz38 (by decide)) rfl (.bool true) (fun wq hq => by rw [run_pick _ f38 _ _ _ _ true rfl ((fF38.rest 35 (by decide)).trans ((fF37.rest 35 (by decide)).trans ((fF36.rest 35 (by decide)).trans ((fF35.rest 35 (by decide)).trans ((fF34.rest 35 (by decide)).trans ((fF33.rest 35 (by decide)).trans ((fF32.rest 35 (by decide)).trans fv31))))))), if_pos rfl, (fv38 rfl)]) ?_
  intro f39 fF39 fv39
  have fz39 : f39.tmps.size = 44 := fF39.size.trans fz38
  refine qstep0 4 rfl (sz_lt fz39 (by decide)) rfl (.bool true) (fun wq hq => by rw [run_assign _ f39 _ _ rfl, fv39]) ?_
  intro f40 fF40 fv40
  have fz40 : f40.tmps.size = 44 := fF40.size.trans fz39
  refine wpQuiet_nil ?_
  intro we hHe
  refine wp_ret ?_
  refine bodyPost_ret (results_tmp Try.results5 _ _ _) (fF40.defers.trans (fF39.defers.trans (fF38.defers.trans (fF37.defers.trans (fF36.defers.trans (fF35.defers.trans (fF34.defers.trans (fF33.defers.trans (fF32.defers.trans (fF31.defers.trans (fF30.defers.trans (fF29.defers.trans (fF28.defers.trans (fF27.defers.trans (fF26.defers.trans (fF25.defers.trans (fF24.defers.trans (fF23.defers.trans (fF22.defers.trans (fF21.defers.trans (fF20.defers.trans (fF19.defers.trans (fF18.defers.trans (fF17.defers.trans (fF16.defers.trans (fF15.defers.trans (fF14.defers.trans (fF13.defers.trans (fF12.defers.trans (fF11.defers.trans (fF10.defers.trans (fF9.defers.trans (fF8.defers.trans (fF7.defers.trans (fF6.defers.trans (fF5.defers.trans (fF4.defers.trans (fF3.defers.trans (fF2.defers.trans (fF1.defers.trans df)))))))))))))))))))))))))))))))))))))))) ?_
  exact ⟨congrArg Ending.returned fv40, hHe.below⟩
  -- go_enter Try.func5, Try.ntmps5
  -- go_wp2
  -- go_ret
  -- exact ⟨rfl, by repeat (first | exact Grown.refl _ | apply Grown.drew | apply Grown.alloc)⟩

/-! ### THE ROW's STEP: WRITTEN OUT: LEAVE IT -/
set_option maxRecDepth 100000 in
theorem lifted (os : Os) (started : os.Started) (H : Type) (enc : TypeId × Value → H) :
    ReturnsInHanded {} Try.checked os 5 .any (Rows.codeSameSpec.pre6 enc Try.prog Try.f5 Rows.codeSameRow.domain false) (Rows.codeSameSpec.post enc Try.prog Try.f5 false true false false) := by
  refine returnsInHanded_of_change (C := Try.checked) own started (by kernel_rfl) Try.func5
    (ChangeSpec.witness6 (enc := enc) (C := Try.checked) false ⟨#[], #[.agg #[.int .u8 0, .int .u8 0, .int .u16 0, .int .u16 0, .int .u16 0, .int .u16 0, .int .u16 0, .int .u16 0, .int .u16 0, .int .u16 0, .int .u16 0, .int .u16 0, .slice none 0 0, .slice none 0 0, .slice none 0 0, .slice none 0 0, .int .u8 0, .int .u8 0, .int .u8 0, .int .u8 0, .int .u8 0, .slice none 0 0], .agg #[.int .u8 0, .int .u8 0, .int .u16 0, .int .u16 0, .int .u16 0, .int .u16 0, .int .u16 0, .int .u16 0, .int .u16 0, .int .u16 0, .int .u16 0, .int .u16 0, .slice none 0 0, .slice none 0 0, .slice none 0 0, .slice none 0 0, .int .u8 0, .int .u8 0, .int .u8 0, .int .u8 0, .int .u8 0, .slice none 0 0]], []⟩ 8 (by kernel_rfl) (by kernel_rfl) (by kernel_rfl) (by kernel_rfl)) ?_
  intro W base args ds gs before hval0 hW hcnd _
  have hval : ∀ (j : Nat) t v, Try.f5.params[j]? = some t → args[j]? = some v → Value.okWide Try.prog W .any base t v := hval0
  have hW' := hW
  obtain ⟨p, q, hA0, hV, rfl, hfz, hnd⟩ := hW
  have hA : DataW.TrodAll enc Try.prog W 0 (fun _ => true) true Try.f5.params.toList args.toList ds p := hA0
  rw [Try.params5] at hA hval
  obtain ⟨v0, vs0, d0, ds0, p0, q0, hargs, rfl, rfl, h0, r0⟩ := trodAll_cons hA
  obtain ⟨v1, vs1, d1, ds1, p1, q1, rfl, rfl, rfl, h1, r1⟩ := trodAll_cons r0
  obtain ⟨rfl, rfl, rfl⟩ := trodAll_nil r1
  obtain rfl : args = #[v0, v1] := by cases args; simp_all
  obtain ⟨rfl, rfl⟩ := trodVars_none hV
  have k0 := h0
  have lt0 : ∀ x ∈ p0, x.block < W.heap.size := by obtain ⟨m, hm⟩ := k0; exact DataW.trod_lt m _ _ _ hm
  obtain ⟨m0, w0⟩ := MsgAt.ofTrod (hval 0 35 v0 rfl rfl) h0
  have k1 := h1
  have lt1 : ∀ x ∈ p1, x.block < W.heap.size := by obtain ⟨m, hm⟩ := k1; exact DataW.trod_lt m _ _ _ hm
  obtain ⟨m1, w1⟩ := MsgAt.ofTrod (hval 1 35 v1 rfl rfl) h1
  clear hA0 hval0
  refine (walk v0 m0 v1 m1 W w0 w1).mono fun e W' ⟨he, bel⟩ => ?_
  subst he
  exact ⟨_, rfl, _, _, _, [], _, [], hW', (trodAll_cons_mk (shut_bool Try.underlying4 _) trodAll_mk0), (trodAll_cons_mk (Below.trod laidOut (by kernel_rfl) (of_decide_eq_true (by kernel_rfl)) k0 bel lt0) (trodAll_cons_mk (Below.trod laidOut (by kernel_rfl) (of_decide_eq_true (by kernel_rfl)) k1 bel lt1) trodAll_mk0)), rfl, bel.frame _, fun h => by cases h⟩

theorem over : Rows.codeSameRow.holds Try.pinned (OpenSpec.ofChange Rows.codeSameSpec) :=
  OpenClaim.holds_of_wide 5 Try.f5 rfl rfl rfl rfl rfl rfl rfl ⟨rfl, rfl, rfl, rfl, rfl⟩ rfl rfl rfl rfl rfl (by kernel_rfl) Try.func5 (by kernel_rfl)
    (of_decide_eq_true (by kernel_rfl)) (by unfold Func.isWrapper; first | (rw [if_pos (by decide +kernel)]; kernel_rfl) | (rw [if_neg (by decide +kernel)]; exact ⟨rfl, rfl⟩))
    (fun os started H enc _ => lifted os started H enc)

/-- ████ THE STATEMENT ████ -/
theorem proved : Rows.CodeSameSaid :=
  over
#print axioms proved
end Go.Proofs.Ytbleeadpangflaa.codeSame
