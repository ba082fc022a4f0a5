/-
  The document's own answers for mei: what holds while things are read.
-/
import Derived.Test.YtaokbaddleplfaaRefRd
import Derived.Test.YtaokbaddleplfaaObjApp
import Derived.Test.YtaokbaddleplfaaMsgRow
import Derived.Test.YtaokbaddleplfaaMeiPack
namespace Go.Proofs.Ytaokbaddleplfaa
open Go.RowKit
open Word Bits Cursor

theorem RRd.put_mei {w0 wb : World} {hi gm gc : Nat} {a : Option Addr} {len cap : Nat} {all : List UInt8} {m : MsgM} {c : St} {w : World} (h : RRd w0 wb hi gm gc a len cap all m c w) (x : UInt8) : RRd w0 wb hi gm gc a len cap all (m.put_mei x) c (w.setCell ⟨gm, 16, none⟩ (byteV x)) := h.put _ _ fun _ _ _ hm => hm.set_mei x
theorem RRd.put_kind {w0 wb : World} {hi gm gc : Nat} {a : Option Addr} {len cap : Nat} {all : List UInt8} {m : MsgM} {c : St} {w : World} (h : RRd w0 wb hi gm gc a len cap all m c w) (x : UInt8) : RRd w0 wb hi gm gc a len cap all (m.put_kind x) c (w.setCell ⟨gm, 17, none⟩ (byteV x)) := h.put _ _ fun _ _ _ hm => hm.set_kind x
theorem RRd.put_level {w0 wb : World} {hi gm gc : Nat} {a : Option Addr} {len cap : Nat} {all : List UInt8} {m : MsgM} {c : St} {w : World} (h : RRd w0 wb hi gm gc a len cap all m c w) (x : UInt8) : RRd w0 wb hi gm gc a len cap all (m.put_level x) c (w.setCell ⟨gm, 18, none⟩ (byteV x)) := h.put _ _ fun _ _ _ hm => hm.set_level x
theorem RRd.put_more {w0 wb : World} {hi gm gc : Nat} {a : Option Addr} {len cap : Nat} {all : List UInt8} {m : MsgM} {c : St} {w : World} (h : RRd w0 wb hi gm gc a len cap all m c w) (x : UInt8) : RRd w0 wb hi gm gc a len cap all (m.put_more x) c (w.setCell ⟨gm, 19, none⟩ (byteV x)) := h.put _ _ fun _ _ _ hm => hm.set_more x
theorem RRd.put_next {w0 wb : World} {hi gm gc : Nat} {a : Option Addr} {len cap : Nat} {all : List UInt8} {m : MsgM} {c : St} {w : World} (h : RRd w0 wb hi gm gc a len cap all m c w) (x : UInt8) : RRd w0 wb hi gm gc a len cap all (m.put_next x) c (w.setCell ⟨gm, 20, none⟩ (byteV x)) := h.put _ _ fun _ _ _ hm => hm.set_next x

/-- No thing has been put into the message. -/
def Z21 (w : World) (gm : Nat) : Prop := w.cell? ⟨gm, 21, none⟩ = some (.slice none 0 0)
theorem Z21.set {w : World} {gm i : Nat} (h : Z21 w gm) (hi : i ≠ 21) (v : Value) : Z21 (w.setCell ⟨gm, i, none⟩ v) gm := by
  unfold Z21 at h ⊢
  have hlt : (w.cell? ⟨gm, 21, none⟩).isSome = true := by rw [h]; rfl
  obtain ⟨cs, t, fr, hb⟩ := block_of_cell hlt
  rw [cell_of_row w gm 21 _ _ _ hb] at h
  rw [cell_of_row _ gm 21 _ _ _ (set_block hb v), Array.set!_eq_setIfInBounds, Array.getElem?_setIfInBounds, if_neg hi, h]
theorem rz_byte {w0 wb : World} {hi gm gc : Nat} {a : Option Addr} {len cap : Nat} {all : List UInt8} {m : MsgM} {c : St} {w : World} (h : RRd w0 wb hi gm gc a len cap all m c w) (z : Z21 w gm) :
    Calls Try.prog 25 #[ptrV gc] w fun r w' => r = .returned (byteV c.byte) ∧ RRd w0 wb hi gm gc a len cap all m c.afterB w' ∧ Z21 w' gm := by
  refine (refByte_any gc a len cap all c w h.cur).mono ?_
  rintro r w1 ⟨rfl, h1, h2⟩
  exact ⟨by rw [byteV_byte], h.step h1 h2, (h2.cell (p := ⟨gm, 21, none⟩) h.mb.lt h.ne).trans z⟩
theorem rz_need {w0 wb : World} {hi gm gc : Nat} {a : Option Addr} {len cap : Nat} {all : List UInt8} {m : MsgM} {c : St} {w : World} (h : RRd w0 wb hi gm gc a len cap all m c w) (z : Z21 w gm) (ok : Bool) (e : Int) :
    Calls Try.prog 26 #[ptrV gc, .bool ok, .int .i64 e] w fun r w' => r = .returned (.tuple #[]) ∧ RRd w0 wb hi gm gc a len cap all m (c.need ok e) w' ∧ Z21 w' gm := by
  refine (refNeed_any gc a len cap all c w h.cur ok e).mono ?_
  rintro r w1 ⟨rfl, h1, h2⟩
  exact ⟨rfl, h.step h1 h2, (h2.cell (p := ⟨gm, 21, none⟩) h.mb.lt h.ne).trans z⟩

/-- Where the document's Parse begins. -/
theorem rr_entry {w w1 : World} {a : Option Addr} {len cap : Nat} {xs : List UInt8} {c : UInt8} {x z : Obj} (hx : Bs w a len cap xs) (hlen : len ≤ 100000) (h1 : w1.heap[w.heap.size + 1 + 1]? = some (.cells (codeCells c) apiT (0, 0)))
    (b1 : ∀ B, B ≤ w.heap.size + 1 + 1 → Below B (((w.alloc x).alloc (refObj a len cap 0 false 0)).alloc z) w1) : RRd w w1 (w.heap.size + 3) (w.heap.size + 1 + 1) (w.heap.size + 1) a len cap xs (MsgM.of c) (St.new xs) w1 ∧ w1.heap[w.heap.size]? = some x := by
  have hb : Below (w.heap.size + 1 + 1) ((w.alloc x).alloc (refObj a len cap 0 false 0)) w1 := ((Below.refl _ _).alloc (by simp) _).trans (b1 _ (Nat.le_refl _))
  have hw : Below w.heap.size w w1 := (((Below.refl w.heap.size w).alloc (Nat.le_refl _) _).alloc (by simp) _).trans (hb.mono (by omega))
  refine ⟨RRd.made hx hlen (by omega) (by omega) (by omega) (by omega) (by omega) (lt_of_block h1) hw h1 (fun v => MsgAt.of v c) ((hb.block _ (by omega)).trans (heap_alloc2_new _ _ _)), ?_⟩
  rw [hb.block _ (by omega), Below.heap_alloc _ _ _ (by simp), heap_alloc_new]

/-- The loop that reads things: the message lies in 'gm', its last field holds what was read so far, in memory of the call's own from 'hi' on. -/
structure ORd (w0 wb u0 : World) (hi gm gc : Nat) (a : Option Addr) (len cap : Nat) (all : List UInt8) (cs0 : Array Value) (pre : List ObjM) (c : St) (a1 : Option Addr) (l1 c1 : Nat) (w : World) : Prop where
  ne : gm ≠ gc
  lm : w0.heap.size ≤ gm
  lc : w0.heap.size ≤ gc
  mh : gm < hi
  ch : gc < hi
  hs : hi ≤ w.heap.size
  whole : Bs w0 a len cap all
  below : Below w0.heap.size w0 w
  keep : ∀ k, k < hi → k ≠ gm → k ≠ gc → w.heap[k]? = wb.heap[k]?
  cur : RCur w gc a len cap all c
  box : w.heap[gm]? = some (.cells (cs0.set! 21 (.slice a1 l1 c1)) apiT (0, 0))
  own : OwnO (fun u => Bs u a len cap all) w u0.heap.size a1 l1 c1 pre
  hu : hi ≤ u0.heap.size
  off : Off 0 hi u0 w
  blw : Below w0.heap.size w0 u0

section
variable {w0 wb u0 : World} {hi gm gc : Nat} {a : Option Addr} {len cap : Nat} {all : List UInt8} {cs0 : Array Value} {pre : List ObjM} {m : MsgM} {c c' : St} {a1 : Option Addr} {l1 c1 : Nat} {w w' : World}
theorem ORd.step (h : ORd w0 wb u0 hi gm gc a len cap all cs0 pre c a1 l1 c1 w) (hc : RCur w' gc a len cap all c') (hb : But gc w w') : ORd w0 wb u0 hi gm gc a len cap all cs0 pre c' a1 l1 c1 w' :=
  ⟨h.ne, h.lm, h.lc, h.mh, h.ch, Nat.le_trans h.hs hb.size, h.whole, h.below.trans (hb.below h.lc h.below.size), fun k h1 h2 h3 => (hb.block k (Nat.lt_of_lt_of_le h1 h.hs) h3).trans (h.keep k h1 h2 h3), hc,
    (hb.block gm (lt_of_block h.box) h.ne).trans h.box, h.own.offs h.hu (Off.but hb (Nat.zero_le _) h.ch), h.hu, h.off.trans (Off.but hb (Nat.zero_le _) h.ch), h.blw⟩
theorem ORd.low (h : ORd w0 wb u0 hi gm gc a len cap all cs0 pre c a1 l1 c1 w) (hbu : Below u0.heap.size w w') {a2 : Option Addr} {l2 c2 : Nat} {pre' : List ObjM} (ho : OwnO (fun u => Bs u a len cap all) w' u0.heap.size a2 l2 c2 pre') : ORd w0 wb u0 hi gm gc a len cap all cs0 pre' c a2 l2 c2 (w'.setCell ⟨gm, 21, none⟩ (.slice a2 l2 c2)) := by
  have hb : Below hi w w' := hbu.mono h.hu
  have hlm := h.lm
  have hlc := h.lc
  have hmh := h.mh
  have hch := h.ch
  have hne := h.ne
  have hz := hb.size
  have hx := (hb.block _ hmh).trans h.box
  have hbm : But gm w' (w'.setCell ⟨gm, 21, none⟩ (.slice a2 l2 c2)) := But.setCell gm 21 w' _
  have hb0 : Below w0.heap.size w0 w' := h.below.trans (hb.mono (by omega))
  have hb1 := hb0.trans (hbm.below hlm hb0.size)
  have hs' : hi ≤ w'.heap.size := Nat.le_trans h.hs hz
  obtain ⟨k, q1, q2, q3, _, q5⟩ := h.cur
  refine ⟨hne, hlm, hlc, hmh, hch, Nat.le_trans hs' hbm.size, h.whole, hb1, fun i h1 h2 h3 => (hbm.block i (by omega) h2).trans ((hb.block i h1).trans (h.keep i h1 h2 h3)),
    ⟨k, q1, q2, (hbm.block gc (by omega) (Ne.symm hne)).trans ((hb.block gc hch).trans q3), h.whole.mono hb1, q5⟩, ?_, ho.offs h.hu (Off.but hbm (Nat.zero_le _) hmh), h.hu, ⟨Nat.le_trans h.off.size (Nat.le_trans hz hbm.size), fun i hi' hn => ?_⟩, h.blw⟩
  · have := set_block (i := 21) hx (.slice a2 l2 c2)
    rw [this]
    simp
  · exact (hbm.block i (Nat.lt_of_lt_of_le hi' (Nat.le_trans h.off.size hz)) (by omega)).trans ((hbu.block i hi').trans (h.off.block i hi' hn))
theorem ORd.mono (h : ORd w0 wb u0 hi gm gc a len cap all cs0 pre c a1 l1 c1 w) (hb : Below w.heap.size w w') : ORd w0 wb u0 hi gm gc a len cap all cs0 pre c a1 l1 c1 w' :=
  ⟨h.ne, h.lm, h.lc, h.mh, h.ch, Nat.le_trans h.hs hb.size, h.whole, h.below.trans (hb.mono h.below.size), fun k h1 h2 h3 => (hb.block k (Nat.lt_of_lt_of_le h1 h.hs)).trans (h.keep k h1 h2 h3), h.cur.mono hb,
    (hb.block gm (lt_of_block h.box)).trans h.box, h.own.mono hb, h.hu, h.off.trans (Off.of hb), h.blw⟩
theorem ORd.cell (h : ORd w0 wb u0 hi gm gc a len cap all cs0 pre c a1 l1 c1 w) (hz : cs0.size = 22) : w.cell? ⟨gm, 21, none⟩ = some (.slice a1 l1 c1) := by
  rw [cell_of_row w gm 21 _ _ _ h.box]
  simp [hz]
theorem ORd.free (h : ORd w0 wb u0 hi gm gc a len cap all cs0 pre c a1 l1 c1 w) (i : Nat) : w.frozen? ⟨gm, i, none⟩ = false := fr_block h.box i

/-- It begins with none. -/
theorem RRd.things (h : RRd w0 wb hi gm gc a len cap all m c w) (hc : w.cell? ⟨gm, 21, none⟩ = some (.slice none 0 0)) :
    ∃ cs0, cs0.size = 22 ∧ (∀ v, Off w0.heap.size hi w v → MsgAt v (.agg cs0) m) ∧ ORd w0 wb w hi gm gc a len cap all cs0 [] c none 0 0 w := by
  obtain ⟨cs0, hg, hm⟩ := h.box
  have hz := (hm _ (Off.refl _ _ _)).row.1
  refine ⟨cs0, hz, hm, ⟨h.ne, h.lm, h.lc, h.mh, h.ch, h.hs, h.whole, h.below, h.keep, h.cur, ?_, OwnO.empty _ _ _ _, h.hs, Off.refl _ _ _, h.below⟩⟩
  have h1 : cs0[21]? = some (.slice none 0 0) := (cell_of_row w gm 21 _ _ _ hg).symm.trans hc
  have h2 : cs0.set! 21 (.slice none 0 0) = cs0 := by
    apply Array.ext_getElem?
    intro i
    rw [Array.set!_eq_setIfInBounds, Array.getElem?_setIfInBounds]
    split
    · rename_i e
      subst e
      rw [if_pos (by omega), h1]
    · rfl
  rw [h2]
  exact hg
/-- .. and ends with all. -/
theorem ORd.rd (h : ORd w0 wb u0 hi gm gc a len cap all cs0 pre c a1 l1 c1 w) (hm : ∀ v, Off w0.heap.size hi u0 v → MsgAt v (.agg cs0) m) : RRd w0 wb hi gm gc a len cap all (m.put_objects pre) c w := by
  refine ⟨h.ne, h.lm, h.lc, h.mh, h.ch, h.hs, h.whole, h.below, h.keep, ⟨_, h.box, fun v hv => ?_⟩, h.cur⟩
  have hov : Off w0.heap.size hi u0 v := ⟨Nat.le_trans h.off.size hv.size, fun i hi' hn => by
    rcases hn with hn | hn
    · exact (hv.block i (Nat.lt_of_lt_of_le hi' h.off.size) (.inl hn)).trans ((h.below.block i hn).trans (h.blw.block i hn).symm)
    · exact (hv.block i (Nat.lt_of_lt_of_le hi' h.off.size) (.inr hn)).trans (h.off.block i hi' (.inr hn))⟩
  have hwv : Bs v a len cap all := ⟨h.whole.hlen, h.whole.hle, h.whole.hmax, fun i hi' => by
    obtain ⟨b, off, ha, hlt, hc⟩ := h.whole.hcell i hi'
    exact ⟨b, off, ha, Nat.lt_of_lt_of_le hlt (Nat.le_trans h.below.size hv.size), (World.cell?_of_block (w := w0) (a := ⟨b, off + i, none⟩) ((hv.block b (Nat.lt_of_lt_of_le hlt h.below.size) (.inl hlt)).trans (h.below.block b hlt))).trans hc⟩⟩
  exact (hm v hov).set_objects (h.own.off h.hu (lo := w0.heap.size) hv hwv)

theorem or_byte (h : ORd w0 wb u0 hi gm gc a len cap all cs0 pre c a1 l1 c1 w) : Calls Try.prog 25 #[ptrV gc] w fun r w' => r = .returned (byteV c.byte) ∧ ORd w0 wb u0 hi gm gc a len cap all cs0 pre c.afterB a1 l1 c1 w' ∧ But gc w w' := by
  refine (refByte_any gc a len cap all c w h.cur).mono ?_
  rintro r w1 ⟨rfl, h1, h2⟩
  exact ⟨by rw [byteV_byte], h.step h1 h2, h2⟩
theorem or_bytes (h : ORd w0 wb u0 hi gm gc a len cap all cs0 pre c a1 l1 c1 w) (n : Int) : Calls Try.prog 28 #[ptrV gc, .int .i64 n] w fun r w' =>
    (∃ a' cap', r = .returned (.slice a' (c.got n 1).length cap') ∧ ∀ v, Bs v a len cap all → Bs v a' (c.got n 1).length cap' (c.got n 1)) ∧ ORd w0 wb u0 hi gm gc a len cap all cs0 pre (c.next n 1) a1 l1 c1 w' ∧ But gc w w' := by
  refine (refBytes_sub gc a len cap all c w h.cur n).mono ?_
  rintro r w1 ⟨h0, h1, h2⟩
  exact ⟨h0, h.step h1 h2, h2⟩
end

namespace Mei
/-- What is told in all, when the rounds so far have told 'pre' and 'n' are still to be read. -/
theorem tot_round {k : Nat} {s : St} {pre : List ObjM} {T : List ObjM × St} (h : pre ++ (rObjs (k + 1) s).1 = T.1 ∧ (rObjs (k + 1) s).2 = T.2) : (pre ++ [(rObj s).1]) ++ (rObjs k (rObj s).2).1 = T.1 ∧ (rObjs k (rObj s).2).2 = T.2 := by
  refine ⟨?_, h.2⟩
  rw [List.append_assoc]
  exact h.1
end Mei

end Go.Proofs.Ytaokbaddleplfaa
