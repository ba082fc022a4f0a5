/-
  Package code: when two messages are one.
-/
import Derived.Test.YtjacnghndnkcnaaNumbers
import Derived.Test.YtjacnghndnkcnaaEqualFunc
import Derived.Test.YtjacnghndnkcnaaFrames2
namespace Go.Proofs.Ytjacnghndnkcnaa
open Go.RowKit

/-- Two messages are one: their numbers, and each list. -/
def MsgM.same (m n : MsgM) : Bool := decide (m.nums = n.nums) && decide (m.words = n.words) && decide (m.bits = n.bits) && decide (m.data = n.data) && allSame RecM.same m.recs n.recs && allSame ObjM.same m.objects n.objects
theorem MsgM.same_iff (m n : MsgM) : MsgM.same m n = true ↔ m = n := by
  obtain ⟨x0, x1, x2, x3, x4, x5, x6, x7, x8, x9, x10, x11, x12, x13, x14, x15, x16, x17, x18, x19, x20, x21⟩ := m
  obtain ⟨y0, y1, y2, y3, y4, y5, y6, y7, y8, y9, y10, y11, y12, y13, y14, y15, y16, y17, y18, y19, y20, y21⟩ := n
  simp only [MsgM.same, Bool.and_eq_true, decide_eq_true_eq, allSame_iff RecM.same_iff, allSame_iff ObjM.same_iff, MsgM.nums, List.cons.injEq, UInt8.toNat_inj, UInt16.toNat_inj, MsgM.mk.injEq, and_true]
  constructor
  · rintro ⟨⟨⟨⟨⟨⟨rfl, rfl, rfl, rfl, rfl, rfl, rfl, rfl, rfl, rfl, rfl, rfl, rfl, rfl, rfl, rfl, rfl⟩, rfl⟩, rfl⟩, rfl⟩, rfl⟩, rfl⟩
    simp
  · rintro ⟨rfl, rfl, rfl, rfl, rfl, rfl, rfl, rfl, rfl, rfl, rfl, rfl, rfl, rfl, rfl, rfl, rfl, rfl, rfl, rfl, rfl, rfl⟩
    simp

theorem isA8 (w : World) : (isAgg 5).run Try.prog w = .ok false w := by kernel_rfl
theorem isA16 (w : World) : (isAgg 24).run Try.prog w = .ok false w := by kernel_rfl
theorem isAw (w : World) : (isAgg 25).run Try.prog w = .ok false w := by kernel_rfl
theorem isAl (w : World) : (isAgg 26).run Try.prog w = .ok false w := by kernel_rfl
theorem isAd (w : World) : (isAgg 22).run Try.prog w = .ok false w := by kernel_rfl
theorem isAr (w : World) : (isAgg 27).run Try.prog w = .ok false w := by kernel_rfl
theorem isAo (w : World) : (isAgg 28).run Try.prog w = .ok false w := by kernel_rfl

/-- Two new blocks hold the two messages; all that was there is as it was. -/
structure Held (w : World) (cs1 cs2 : Array Value) (w' : World) : Prop where
  h1 : w'.heap[w.heap.size]? = some (.cells cs1 30 (0, 0))
  h2 : w'.heap[w.heap.size + 1]? = some (.cells cs2 30 (0, 0))
  below : Below w.heap.size w w'
theorem Held.made (w : World) (cs1 cs2 : Array Value) : Held w cs1 cs2 ((w.alloc (.cells cs1 30 (0, 0))).alloc (.cells cs2 30 (0, 0))) :=
  ⟨by rw [Below.heap_alloc _ _ _ (by simp), heap_alloc_new], heap_alloc2_new _ _ _, ((Below.refl _ _).alloc (Nat.le_refl _) _).alloc (by simp) _⟩
theorem Held.next {w : World} {cs1 cs2 : Array Value} {a b : World} (h : Held w cs1 cs2 a) (hb : Below a.heap.size a b) : Held w cs1 cs2 b :=
  ⟨(hb.block _ (Array.getElem?_eq_some_iff.1 h.h1).1).trans h.h1, (hb.block _ (Array.getElem?_eq_some_iff.1 h.h2).1).trans h.h2, below_next h.below hb (Nat.le_refl _)⟩
theorem Held.drew {w : World} {cs1 cs2 : Array Value} {a : World} (h : Held w cs1 cs2 a) : Held w cs1 cs2 a.drew := h.next (Below.refl _ _).drew
theorem Held.cell1 {w : World} {cs1 cs2 : Array Value} {a : World} (h : Held w cs1 cs2 a) {i : Nat} {v : Value} (hc : cs1[i]? = some v) : a.cell? ⟨w.heap.size, i, none⟩ = some v := by
  rw [cell_of_row a w.heap.size i cs1 _ _ h.h1]; exact hc
theorem Held.cell2 {w : World} {cs1 cs2 : Array Value} {a : World} (h : Held w cs1 cs2 a) {i : Nat} {v : Value} (hc : cs2[i]? = some v) : a.cell? ⟨w.heap.size + 1, i, none⟩ = some v := by
  rw [cell_of_row a (w.heap.size + 1) i cs2 _ _ h.h2]; exact hc

/-- A message that lies in a block of its own, loaded whole. -/
theorem load_whole {w : World} {g : Nat} {cs : Array Value} (hg : w.heap[g]? = some (.cells cs 30 (0, 0))) (hs : cs.size = 22) : (loadVar 30 ⟨g, 0, none⟩).run Try.prog w = .ok (.agg cs) w :=
  run_loadVar_row w g 30 30 cs (0, 0) _ hg Try.underlying30 rfl (by rw [hs]; kernel_rfl)
theorem load_take {o : Oper} {a : Act} {w : World} (ty : TypeId) (x : Operand) (ho : o.op = .load ty x) (g : Nat) (hx : a.eval x = .pointer (some ⟨g, 0, none⟩)) (cs : Array Value)
    (hl : (loadVar ty ⟨g, 0, none⟩).run Try.prog w = .ok (.agg cs) w) : (execOp a.eval o).run Try.prog w = .ok (.value (.agg cs)) w := by
  unfold execOp
  simp only [ho, hx, Instr.loadAt, Instr.sureAddr, Sem.run_bind, Sem.run_pure, Result.andThen_ok, hl]

set_option maxRecDepth 20000 in
set_option maxHeartbeats 1000000 in
theorem codeSame_raw (x0 x1 x2 x3 x4 x5 x6 x7 x8 x9 x10 x11 x12 x13 x14 x15 x16 x17 x18 x19 x20 x21 y0 y1 y2 y3 y4 y5 y6 y7 y8 y9 y10 y11 y12 y13 y14 y15 y16 y17 y18 y19 y20 y21 : Value) (N1 N2 : Array Value) (D0 D1 D2 D3 D4 D5 : Bool) (w : World)
    (HN1 : Hid (∀ wx, Calls Try.prog 27 #[.agg #[x0, x1, x2, x3, x4, x5, x6, x7, x8, x9, x10, x11, x12, x13, x14, x15, x16, x17, x18, x19, x20, x21]] wx fun e w' => e = .returned (.agg N1) ∧ Below wx.heap.size wx w'))
    (HN2 : Hid (∀ wx, Calls Try.prog 27 #[.agg #[y0, y1, y2, y3, y4, y5, y6, y7, y8, y9, y10, y11, y12, y13, y14, y15, y16, y17, y18, y19, y20, y21]] wx fun e w' => e = .returned (.agg N2) ∧ Below wx.heap.size wx w'))
    (heq : ∀ wx, (Op.equalIn 10000 56 (.agg N1) (.agg N2)).run Try.prog wx = .ok D0 wx)
    (HEw : Hid (∀ wx, Below w.heap.size w wx → Calls Try.prog 28 #[x12, y12] wx fun e w' => e = .returned (.bool D1) ∧ Below wx.heap.size wx w'))
    (HEl : Hid (∀ wx, Below w.heap.size w wx → Calls Try.prog 29 #[x13, y13] wx fun e w' => e = .returned (.bool D2) ∧ Below wx.heap.size wx w'))
    (HEd : Hid (∀ wx, Below w.heap.size w wx → Calls Try.prog 30 #[x14, y14] wx fun e w' => e = .returned (.bool D3) ∧ Below wx.heap.size wx w'))
    (HEr : Hid (∀ wx, Below w.heap.size w wx → Calls Try.prog 31 #[x15, y15, .func (.func 32) #[] #[]] wx fun e w' => e = .returned (.bool D4) ∧ Below wx.heap.size wx w'))
    (HEo : Hid (∀ wx, Below w.heap.size w wx → Calls Try.prog 33 #[x21, y21, .func (.func 34) #[] #[]] wx fun e w' => e = .returned (.bool D5) ∧ Below wx.heap.size wx w')) :
    Calls Try.prog 26 #[.agg #[x0, x1, x2, x3, x4, x5, x6, x7, x8, x9, x10, x11, x12, x13, x14, x15, x16, x17, x18, x19, x20, x21], .agg #[y0, y1, y2, y3, y4, y5, y6, y7, y8, y9, y10, y11, y12, y13, y14, y15, y16, y17, y18, y19, y20, y21]] w fun e w' => e = .returned (.bool (D0 && D1 && D2 && D3 && D4 && D5)) ∧ Below w.heap.size w w' := by
  go_enter Try.func26, Try.ntmps26
  obtain ⟨A, hA⟩ : ∃ A : Act, A = ⟨#[.agg #[x0, x1, x2, x3, x4, x5, x6, x7, x8, x9, x10, x11, x12, x13, x14, x15, x16, x17, x18, x19, x20, x21], .agg #[y0, y1, y2, y3, y4, y5, y6, y7, y8, y9, y10, y11, y12, y13, y14, y15, y16, y17, y18, y19, y20, y21], undef, undef, undef, undef, undef, undef, undef, undef, undef, undef, undef, undef, undef, undef, undef, undef, undef, undef, undef, undef, undef, undef, undef, undef, undef, undef, undef, undef, undef, undef, undef, undef, undef, undef, undef, undef, undef, undef, undef, undef, undef, undef, undef], []⟩ := ⟨_, rfl⟩
  rw [← hA]
  have zA : A.tmps.size = 45 := by rw [hA]; rfl
  have df : A.defers = [] := by rw [hA]
  have e0 : A.eval (.tmp 0) = .agg #[x0, x1, x2, x3, x4, x5, x6, x7, x8, x9, x10, x11, x12, x13, x14, x15, x16, x17, x18, x19, x20, x21] := by rw [hA]; rfl
  have e1 : A.eval (.tmp 1) = .agg #[y0, y1, y2, y3, y4, y5, y6, y7, y8, y9, y10, y11, y12, y13, y14, y15, y16, y17, y18, y19, y20, y21] := by rw [hA]; rfl
  clear hA
  refine seq_region ?_
  refine fstepW 2 rfl (sz_lt zA (by decide)) rfl _ _ (run_box w A _ _ _ _ rfl e0) ?_
  intro f1 fF1 fv1
  have fz1 : f1.tmps.size = 45 := fF1.size.trans zA
  refine fstepW 3 rfl (sz_lt fz1 (by decide)) rfl _ _ (run_box _ f1 _ _ _ _ rfl ((fF1.rest 1 (by decide)).trans e1)) ?_
  intro f2 fF2 fv2
  have fz2 : f2.tmps.size = 45 := fF2.size.trans fz1
  rw [show (w.alloc (.cells #[x0, x1, x2, x3, x4, x5, x6, x7, x8, x9, x10, x11, x12, x13, x14, x15, x16, x17, x18, x19, x20, x21] 30 (0, 0))).heap.size = w.heap.size + 1 from by simp] at fv2
  have hH := Held.made w #[x0, x1, x2, x3, x4, x5, x6, x7, x8, x9, x10, x11, x12, x13, x14, x15, x16, x17, x18, x19, x20, x21] #[y0, y1, y2, y3, y4, y5, y6, y7, y8, y9, y10, y11, y12, y13, y14, y15, y16, y17, y18, y19, y20, y21]
  generalize ((w.alloc (.cells #[x0, x1, x2, x3, x4, x5, x6, x7, x8, x9, x10, x11, x12, x13, x14, x15, x16, x17, x18, x19, x20, x21] 30 (0, 0))).alloc (.cells #[y0, y1, y2, y3, y4, y5, y6, y7, y8, y9, y10, y11, y12, y13, y14, y15, y16, y17, y18, y19, y20, y21] 30 (0, 0))) = W at *
  refine fstep0 4 rfl (sz_lt fz2 (by decide)) rfl _ (run_assign _ f2 _ _ rfl) ?_
  intro f3 fF3 fv3
  have fz3 : f3.tmps.size = 45 := fF3.size.trans fz2
  refine list_end ?_
  refine seq_drawn _ (by kernel_rfl) (by kernel_rfl) hH.drew ?_
  refine qstep0 5 rfl (sz_lt fz3 (by decide)) rfl _ (fun wq hq => load_take _ _ rfl _ ((fF3.rest 2 (by decide)).trans ((fF2.rest 2 (by decide)).trans fv1)) _ (load_whole hq.h1 rfl)) ?_
  intro f4 fF4 fv4
  have fz4 : f4.tmps.size = 45 := fF4.size.trans fz3
  refine qcall 6 rfl (sz_lt fz4 (by decide)) rfl _ _ _ (fun wq _ => run_call1 _ f4 _ 27 _ _ _ rfl fv4 (by kernel_rfl)) (fun wq hq => (HN1.out wq).mono fun e w' hh => ⟨hh.1, hq.next hh.2⟩) ?_
  intro f5 fF5 fv5
  have fz5 : f5.tmps.size = 45 := fF5.size.trans fz4
  refine qstep0 7 rfl (sz_lt fz5 (by decide)) rfl _ (fun wq hq => load_take _ _ rfl _ ((fF5.rest 3 (by decide)).trans ((fF4.rest 3 (by decide)).trans ((fF3.rest 3 (by decide)).trans fv2))) _ (load_whole hq.h2 rfl)) ?_
  intro f6 fF6 fv6
  have fz6 : f6.tmps.size = 45 := fF6.size.trans fz5
  refine qcall 8 rfl (sz_lt fz6 (by decide)) rfl _ _ _ (fun wq _ => run_call1 _ f6 _ 27 _ _ _ rfl fv6 (by kernel_rfl)) (fun wq hq => (HN2.out wq).mono fun e w' hh => ⟨hh.1, hq.next hh.2⟩) ?_
  intro f7 fF7 fv7
  have fz7 : f7.tmps.size = 45 := fF7.size.trans fz6
  refine qstep0 9 rfl (sz_lt fz7 (by decide)) rfl _ (fun wq hq => run_eqlA _ f7 _ _ _ _ N1 N2 D0 rfl ((fF7.rest 6 (by decide)).trans ((fF6.rest 6 (by decide)).trans fv5)) fv7 (heq wq) (by kernel_rfl)) ?_
  intro f8 fF8 fv8
  have fz8 : f8.tmps.size = 45 := fF8.size.trans fz7
  refine qstep0 10 rfl (sz_lt fz8 (by decide)) rfl (.bool D0) (fun wq hq => by rw [run_move _ f8 _ _ rfl, fv8]) ?_
  intro f9 fF9 fv9
  have fz9 : f9.tmps.size = 45 := fF9.size.trans fz8
  refine qunit 11 10 5 12 25 28 _ w.heap.size (w.heap.size + 1) x12 y12 _ D1 _ _ Try.underlying30 rfl (by kernel_rfl) rfl isAw rfl (by decide) (by decide) (sz_lt fz9 (by decide)) ((fF9.rest 2 (by decide)).trans ((fF8.rest 2 (by decide)).trans ((fF7.rest 2 (by decide)).trans ((fF6.rest 2 (by decide)).trans ((fF5.rest 2 (by decide)).trans ((fF4.rest 2 (by decide)).trans ((fF3.rest 2 (by decide)).trans ((fF2.rest 2 (by decide)).trans fv1)))))))) ((fF9.rest 3 (by decide)).trans ((fF8.rest 3 (by decide)).trans ((fF7.rest 3 (by decide)).trans ((fF6.rest 3 (by decide)).trans ((fF5.rest 3 (by decide)).trans ((fF4.rest 3 (by decide)).trans ((fF3.rest 3 (by decide)).trans fv2))))))) fv9 (fun wq hq => hq.cell1 rfl) (fun wq hq => hq.cell2 rfl) (fun b h1 h2 wq => run_call2 wq b _ 28 _ _ _ _ _ _ rfl h1 h2 (by kernel_rfl)) (fun wq hq => (HEw.out wq hq.below).mono fun e w' hh => ⟨hh.1, hq.next hh.2⟩) rfl rfl rfl rfl rfl rfl rfl rfl rfl rfl rfl rfl rfl rfl rfl rfl rfl ?_
  intro f10 fF10 fv10
  have fz10 : f10.tmps.size = 45 := fF10.size.trans fz9
  refine qstep0 17 rfl (sz_lt fz10 (by decide)) rfl _ (fun wq hq => run_move _ f10 _ _ rfl) ?_
  intro f11 fF11 fv11
  have fz11 : f11.tmps.size = 45 := fF11.size.trans fz10
  replace fv11 := fv11.trans fv10
  refine qunit 18 17 12 13 26 29 _ w.heap.size (w.heap.size + 1) x13 y13 _ D2 _ _ Try.underlying30 rfl (by kernel_rfl) rfl isAl rfl (by decide) (by decide) (sz_lt fz11 (by decide)) ((fF11.rest 2 (by decide)).trans ((fF10.rest 2 (by decide)).trans ((fF9.rest 2 (by decide)).trans ((fF8.rest 2 (by decide)).trans ((fF7.rest 2 (by decide)).trans ((fF6.rest 2 (by decide)).trans ((fF5.rest 2 (by decide)).trans ((fF4.rest 2 (by decide)).trans ((fF3.rest 2 (by decide)).trans ((fF2.rest 2 (by decide)).trans fv1)))))))))) ((fF11.rest 3 (by decide)).trans ((fF10.rest 3 (by decide)).trans ((fF9.rest 3 (by decide)).trans ((fF8.rest 3 (by decide)).trans ((fF7.rest 3 (by decide)).trans ((fF6.rest 3 (by decide)).trans ((fF5.rest 3 (by decide)).trans ((fF4.rest 3 (by decide)).trans ((fF3.rest 3 (by decide)).trans fv2))))))))) fv11 (fun wq hq => hq.cell1 rfl) (fun wq hq => hq.cell2 rfl) (fun b h1 h2 wq => run_call2 wq b _ 29 _ _ _ _ _ _ rfl h1 h2 (by kernel_rfl)) (fun wq hq => (HEl.out wq hq.below).mono fun e w' hh => ⟨hh.1, hq.next hh.2⟩) rfl rfl rfl rfl rfl rfl rfl rfl rfl rfl rfl rfl rfl rfl rfl rfl rfl ?_
  intro f12 fF12 fv12
  have fz12 : f12.tmps.size = 45 := fF12.size.trans fz11
  refine qstep0 24 rfl (sz_lt fz12 (by decide)) rfl _ (fun wq hq => run_move _ f12 _ _ rfl) ?_
  intro f13 fF13 fv13
  have fz13 : f13.tmps.size = 45 := fF13.size.trans fz12
  replace fv13 := fv13.trans fv12
  refine qunit 25 24 19 14 22 30 _ w.heap.size (w.heap.size + 1) x14 y14 _ D3 _ _ Try.underlying30 rfl (by kernel_rfl) rfl isAd rfl (by decide) (by decide) (sz_lt fz13 (by decide)) ((fF13.rest 2 (by decide)).trans ((fF12.rest 2 (by decide)).trans ((fF11.rest 2 (by decide)).trans ((fF10.rest 2 (by decide)).trans ((fF9.rest 2 (by decide)).trans ((fF8.rest 2 (by decide)).trans ((fF7.rest 2 (by decide)).trans ((fF6.rest 2 (by decide)).trans ((fF5.rest 2 (by decide)).trans ((fF4.rest 2 (by decide)).trans ((fF3.rest 2 (by decide)).trans ((fF2.rest 2 (by decide)).trans fv1)))))))))))) ((fF13.rest 3 (by decide)).trans ((fF12.rest 3 (by decide)).trans ((fF11.rest 3 (by decide)).trans ((fF10.rest 3 (by decide)).trans ((fF9.rest 3 (by decide)).trans ((fF8.rest 3 (by decide)).trans ((fF7.rest 3 (by decide)).trans ((fF6.rest 3 (by decide)).trans ((fF5.rest 3 (by decide)).trans ((fF4.rest 3 (by decide)).trans ((fF3.rest 3 (by decide)).trans fv2))))))))))) fv13 (fun wq hq => hq.cell1 rfl) (fun wq hq => hq.cell2 rfl) (fun b h1 h2 wq => run_call2 wq b _ 30 _ _ _ _ _ _ rfl h1 h2 (by kernel_rfl)) (fun wq hq => (HEd.out wq hq.below).mono fun e w' hh => ⟨hh.1, hq.next hh.2⟩) rfl rfl rfl rfl rfl rfl rfl rfl rfl rfl rfl rfl rfl rfl rfl rfl rfl ?_
  intro f14 fF14 fv14
  have fz14 : f14.tmps.size = 45 := fF14.size.trans fz13
  refine qstep0 31 rfl (sz_lt fz14 (by decide)) rfl _ (fun wq hq => run_move _ f14 _ _ rfl) ?_
  intro f15 fF15 fv15
  have fz15 : f15.tmps.size = 45 := fF15.size.trans fz14
  replace fv15 := fv15.trans fv14
  refine qunit 32 31 26 15 27 31 _ w.heap.size (w.heap.size + 1) x15 y15 _ D4 _ _ Try.underlying30 rfl (by kernel_rfl) rfl isAr rfl (by decide) (by decide) (sz_lt fz15 (by decide)) ((fF15.rest 2 (by decide)).trans ((fF14.rest 2 (by decide)).trans ((fF13.rest 2 (by decide)).trans ((fF12.rest 2 (by decide)).trans ((fF11.rest 2 (by decide)).trans ((fF10.rest 2 (by decide)).trans ((fF9.rest 2 (by decide)).trans ((fF8.rest 2 (by decide)).trans ((fF7.rest 2 (by decide)).trans ((fF6.rest 2 (by decide)).trans ((fF5.rest 2 (by decide)).trans ((fF4.rest 2 (by decide)).trans ((fF3.rest 2 (by decide)).trans ((fF2.rest 2 (by decide)).trans fv1)))))))))))))) ((fF15.rest 3 (by decide)).trans ((fF14.rest 3 (by decide)).trans ((fF13.rest 3 (by decide)).trans ((fF12.rest 3 (by decide)).trans ((fF11.rest 3 (by decide)).trans ((fF10.rest 3 (by decide)).trans ((fF9.rest 3 (by decide)).trans ((fF8.rest 3 (by decide)).trans ((fF7.rest 3 (by decide)).trans ((fF6.rest 3 (by decide)).trans ((fF5.rest 3 (by decide)).trans ((fF4.rest 3 (by decide)).trans ((fF3.rest 3 (by decide)).trans fv2))))))))))))) fv15 (fun wq hq => hq.cell1 rfl) (fun wq hq => hq.cell2 rfl) (fun b h1 h2 wq => run_callF wq b _ 31 32 _ _ _ _ _ _ _ rfl h1 h2 (by kernel_rfl)) (fun wq hq => (HEr.out wq hq.below).mono fun e w' hh => ⟨hh.1, hq.next hh.2⟩) rfl rfl rfl rfl rfl rfl rfl rfl rfl rfl rfl rfl rfl rfl rfl rfl rfl ?_
  intro f16 fF16 fv16
  have fz16 : f16.tmps.size = 45 := fF16.size.trans fz15
  refine qstep0 38 rfl (sz_lt fz16 (by decide)) rfl _ (fun wq hq => run_move _ f16 _ _ rfl) ?_
  intro f17 fF17 fv17
  have fz17 : f17.tmps.size = 45 := fF17.size.trans fz16
  replace fv17 := fv17.trans fv16
  refine qunit 39 38 33 21 28 33 _ w.heap.size (w.heap.size + 1) x21 y21 _ D5 _ _ Try.underlying30 rfl (by kernel_rfl) rfl isAo rfl (by decide) (by decide) (sz_lt fz17 (by decide)) ((fF17.rest 2 (by decide)).trans ((fF16.rest 2 (by decide)).trans ((fF15.rest 2 (by decide)).trans ((fF14.rest 2 (by decide)).trans ((fF13.rest 2 (by decide)).trans ((fF12.rest 2 (by decide)).trans ((fF11.rest 2 (by decide)).trans ((fF10.rest 2 (by decide)).trans ((fF9.rest 2 (by decide)).trans ((fF8.rest 2 (by decide)).trans ((fF7.rest 2 (by decide)).trans ((fF6.rest 2 (by decide)).trans ((fF5.rest 2 (by decide)).trans ((fF4.rest 2 (by decide)).trans ((fF3.rest 2 (by decide)).trans ((fF2.rest 2 (by decide)).trans fv1)))))))))))))))) ((fF17.rest 3 (by decide)).trans ((fF16.rest 3 (by decide)).trans ((fF15.rest 3 (by decide)).trans ((fF14.rest 3 (by decide)).trans ((fF13.rest 3 (by decide)).trans ((fF12.rest 3 (by decide)).trans ((fF11.rest 3 (by decide)).trans ((fF10.rest 3 (by decide)).trans ((fF9.rest 3 (by decide)).trans ((fF8.rest 3 (by decide)).trans ((fF7.rest 3 (by decide)).trans ((fF6.rest 3 (by decide)).trans ((fF5.rest 3 (by decide)).trans ((fF4.rest 3 (by decide)).trans ((fF3.rest 3 (by decide)).trans fv2))))))))))))))) fv17 (fun wq hq => hq.cell1 rfl) (fun wq hq => hq.cell2 rfl) (fun b h1 h2 wq => run_callF wq b _ 33 34 _ _ _ _ _ _ _ rfl h1 h2 (by kernel_rfl)) (fun wq hq => (HEo.out wq hq.below).mono fun e w' hh => ⟨hh.1, hq.next hh.2⟩) rfl rfl rfl rfl rfl rfl rfl rfl rfl rfl rfl rfl rfl rfl rfl rfl rfl ?_
  intro f18 fF18 fv18
  have fz18 : f18.tmps.size = 45 := fF18.size.trans fz17
  refine qstep0 4 rfl (sz_lt fz18 (by decide)) rfl _ (fun wq hq => run_assign _ f18 _ _ rfl) ?_
  intro f19 fF19 fv19
  have fz19 : f19.tmps.size = 45 := fF19.size.trans fz18
  replace fv19 := fv19.trans fv18
  refine wpQuiet_nil ?_
  intro we hHe
  refine wp_ret ?_
  refine bodyPost_ret (results_tmp Try.results26 _ _ _) (fF19.defers.trans (fF18.defers.trans (fF17.defers.trans (fF16.defers.trans (fF15.defers.trans (fF14.defers.trans (fF13.defers.trans (fF12.defers.trans (fF11.defers.trans (fF10.defers.trans (fF9.defers.trans (fF8.defers.trans (fF7.defers.trans (fF6.defers.trans (fF5.defers.trans (fF4.defers.trans (fF3.defers.trans (fF2.defers.trans (fF1.defers.trans df))))))))))))))))))) ?_
  exact ⟨congrArg Ending.returned fv19, hHe.below⟩

theorem codeSame_any (v1 v2 : Value) (m n : MsgM) (w : World) (h1 : MsgAt w v1 m) (h2 : MsgAt w v2 n) :
    Calls Try.prog 26 #[v1, v2] w fun e w' => e = .returned (.bool (MsgM.same m n)) ∧ Below w.heap.size w w' := by
  obtain ⟨aw, lw, cw, al, ll, cl, ad, ld, cd, ar, lr, cr, ao, lo, co, rfl, hw, hl, hd, hr, ho⟩ := h1
  obtain ⟨aw', lw', cw', al', ll', cl', ad', ld', cd', ar', lr', cr', ao', lo', co', rfl, hw', hl', hd', hr', ho'⟩ := h2
  refine codeSame_raw _ _ _ _ _ _ _ _ _ _ _ _ _ _ _ _ _ _ _ _ _ _ _ _ _ _ _ _ _ _ _ _ _ _ _ _ _ _ _ _ _ _ _ _ (m.nums.map num16).toArray (n.nums.map num16).toArray _ _ _ _ _ _ w (hide fun wx => numbers_any m _ _ _ _ _ wx) (hide fun wx => numbers_any n _ _ _ _ _ wx) (nums_eq m n)
    (hide fun wx hb => equal16_any _ _ _ _ _ _ _ _ wx (hw.mono hb) (hw'.mono hb)) (hide fun wx hb => equalL_any _ _ _ _ _ _ _ _ wx (hl.mono hb) (hl'.mono hb))
    (hide fun wx hb => (bytesEqual_any _ _ _ _ _ _ _ _ wx (hd.mono hb) (hd'.mono hb)).mono fun e w' h => ⟨h.1, h.2 ▸ Below.refl _ _⟩)
    (hide fun wx hb => equalRecs_any _ _ _ _ _ _ _ _ wx (hr.mono hb) (hr'.mono hb)) (hide fun wx hb => equalObjs_any _ _ _ _ _ _ _ _ wx (ho.mono hb) (ho'.mono hb))

end Go.Proofs.Ytjacnghndnkcnaa
