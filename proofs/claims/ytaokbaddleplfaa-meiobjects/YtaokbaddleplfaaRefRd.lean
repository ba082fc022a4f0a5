/-
  A message that is read, field by field, by the document's own cursor: what holds on the way.
-/
import Derived.Test.YtaokbaddleplfaaMsgSet
import Derived.Test.YtaokbaddleplfaaMsgBox
import Derived.Test.YtaokbaddleplfaaForm
import Derived.Test.YtaokbaddleplfaaRefRead
import Derived.Test.YtaokbaddleplfaaOff
namespace Go.Proofs.Ytaokbaddleplfaa
open Go.RowKit
open Word Cursor

abbrev apiT : TypeId := 30

structure RRd (w0 wb : World) (hi gm gc : Nat) (a : Option Addr) (len cap : Nat) (all : List UInt8) (m : MsgM) (c : St) (w : World) : Prop where
  ne : gm ≠ gc
  lm : w0.heap.size ≤ gm
  lc : w0.heap.size ≤ gc
  mh : gm < hi
  ch : gc < hi
  hs : hi ≤ w.heap.size
  whole : Bs w0 a len cap all
  below : Below w0.heap.size w0 w
  keep : ∀ k, k < hi → k ≠ gm → k ≠ gc → w.heap[k]? = wb.heap[k]?
  box : ∃ cs, w.heap[gm]? = some (.cells cs apiT (0, 0)) ∧ ∀ v, Off w0.heap.size hi w v → MsgAt v (.agg cs) m
  cur : RCur w gc a len cap all c

section
variable {w0 wb : World} {hi gm gc : Nat} {a : Option Addr} {len cap : Nat} {all : List UInt8} {m m' : MsgM} {c c' : St} {w w' : World}

theorem RRd.mb (h : RRd w0 wb hi gm gc a len cap all m c w) : MB apiT w gm m := by
  obtain ⟨cs, hg, hm⟩ := h.box
  exact ⟨cs, hg, hm _ (Off.refl _ _ _)⟩
theorem RRd.step (h : RRd w0 wb hi gm gc a len cap all m c w) (hc : RCur w' gc a len cap all c') (hb : But gc w w') : RRd w0 wb hi gm gc a len cap all m c' w' := by
  obtain ⟨cs, hg, hm⟩ := h.box
  exact ⟨h.ne, h.lm, h.lc, h.mh, h.ch, Nat.le_trans h.hs hb.size, h.whole, h.below.trans (hb.below h.lc h.below.size), fun k h1 h2 h3 => (hb.block k (Nat.lt_of_lt_of_le h1 h.hs) h3).trans (h.keep k h1 h2 h3),
    ⟨cs, (hb.block gm (lt_of_block hg) h.ne).trans hg, fun v hv => hm v ((Off.but hb h.lc h.ch).trans hv)⟩, hc⟩
theorem RRd.mono (h : RRd w0 wb hi gm gc a len cap all m c w) (hb : Below w.heap.size w w') : RRd w0 wb hi gm gc a len cap all m c w' := by
  obtain ⟨cs, hg, hm⟩ := h.box
  exact ⟨h.ne, h.lm, h.lc, h.mh, h.ch, Nat.le_trans h.hs hb.size, h.whole, h.below.trans (hb.mono h.below.size), fun k h1 h2 h3 => (hb.block k (Nat.lt_of_lt_of_le h1 h.hs)).trans (h.keep k h1 h2 h3),
    ⟨cs, (hb.block gm (lt_of_block hg)).trans hg, fun v hv => hm v ((Off.of hb).trans hv)⟩, h.cur.mono hb⟩
theorem RRd.drew (h : RRd w0 wb hi gm gc a len cap all m c w) : RRd w0 wb hi gm gc a len cap all m c w.drew := h.mono (Below.refl _ _).drew
/-- All bytes read as they did, whatever becomes of the two blocks. -/
theorem RRd.off (h : RRd w0 wb hi gm gc a len cap all m c w) (hv : Off w0.heap.size hi w w') : Bs w' a len cap all :=
  ⟨h.whole.hlen, h.whole.hle, h.whole.hmax, fun i hi => by
    obtain ⟨b, off, ha, hlt, hc⟩ := h.whole.hcell i hi
    have h1 := h.below.block b hlt
    have h2 := hv.block b (Nat.lt_of_lt_of_le hlt h.below.size) (.inl hlt)
    exact ⟨b, off, ha, Nat.lt_of_lt_of_le hlt (Nat.le_trans h.below.size hv.size), (World.cell?_of_block (w := w0) (a := ⟨b, off + i, none⟩) (h2.trans h1)).trans hc⟩⟩
theorem RRd.put (h : RRd w0 wb hi gm gc a len cap all m c w) (k : Nat) (v : Value) (hp : ∀ u cs, Off w0.heap.size hi w u → MsgAt u (.agg cs) m → MsgAt u (.agg (cs.set! k v)) m') : RRd w0 wb hi gm gc a len cap all m' c (w.setCell ⟨gm, k, none⟩ v) := by
  obtain ⟨cs, hg, hm⟩ := h.box
  have hb : But gm w (w.setCell ⟨gm, k, none⟩ v) := But.setCell gm k w v
  obtain ⟨j, hj, hxs, hgc, hx, hl⟩ := h.cur
  have ho := Off.but hb h.lm h.mh
  exact ⟨h.ne, h.lm, h.lc, h.mh, h.ch, Nat.le_trans h.hs hb.size, h.whole, h.below.trans (hb.below h.lm h.below.size), fun i h1 h2 h3 => (hb.block i (Nat.lt_of_lt_of_le h1 h.hs) h2).trans (h.keep i h1 h2 h3),
    ⟨_, set_block hg _, fun u hu => hp u cs (ho.trans hu) (hm u (ho.trans hu))⟩,
    ⟨j, hj, hxs, (hb.block gc (lt_of_block hgc) (Ne.symm h.ne)).trans hgc, h.off ho, hl⟩⟩
theorem RRd.put_addr (h : RRd w0 wb hi gm gc a len cap all m c w) (x : UInt16) : RRd w0 wb hi gm gc a len cap all (m.put_addr x) c (w.setCell ⟨gm, 2, none⟩ (wordV x)) := h.put _ _ fun _ _ _ hm => hm.set_addr x
theorem RRd.put_count (h : RRd w0 wb hi gm gc a len cap all m c w) (x : UInt16) : RRd w0 wb hi gm gc a len cap all (m.put_count x) c (w.setCell ⟨gm, 3, none⟩ (wordV x)) := h.put _ _ fun _ _ _ hm => hm.set_count x
theorem RRd.put_value (h : RRd w0 wb hi gm gc a len cap all m c w) (x : UInt16) : RRd w0 wb hi gm gc a len cap all (m.put_value x) c (w.setCell ⟨gm, 4, none⟩ (wordV x)) := h.put _ _ fun _ _ _ hm => hm.set_value x
theorem RRd.put_and (h : RRd w0 wb hi gm gc a len cap all m c w) (x : UInt16) : RRd w0 wb hi gm gc a len cap all (m.put_and x) c (w.setCell ⟨gm, 5, none⟩ (wordV x)) := h.put _ _ fun _ _ _ hm => hm.set_and x
theorem RRd.put_or (h : RRd w0 wb hi gm gc a len cap all m c w) (x : UInt16) : RRd w0 wb hi gm gc a len cap all (m.put_or x) c (w.setCell ⟨gm, 6, none⟩ (wordV x)) := h.put _ _ fun _ _ _ hm => hm.set_or x
theorem RRd.put_addr2 (h : RRd w0 wb hi gm gc a len cap all m c w) (x : UInt16) : RRd w0 wb hi gm gc a len cap all (m.put_addr2 x) c (w.setCell ⟨gm, 7, none⟩ (wordV x)) := h.put _ _ fun _ _ _ hm => hm.set_addr2 x
theorem RRd.put_sub (h : RRd w0 wb hi gm gc a len cap all m c w) (x : UInt16) : RRd w0 wb hi gm gc a len cap all (m.put_sub x) c (w.setCell ⟨gm, 8, none⟩ (wordV x)) := h.put _ _ fun _ _ _ hm => hm.set_sub x
theorem RRd.put_status (h : RRd w0 wb hi gm gc a len cap all m c w) (x : UInt16) : RRd w0 wb hi gm gc a len cap all (m.put_status x) c (w.setCell ⟨gm, 9, none⟩ (wordV x)) := h.put _ _ fun _ _ _ hm => hm.set_status x
theorem RRd.put_events (h : RRd w0 wb hi gm gc a len cap all m c w) (x : UInt16) : RRd w0 wb hi gm gc a len cap all (m.put_events x) c (w.setCell ⟨gm, 10, none⟩ (wordV x)) := h.put _ _ fun _ _ _ hm => hm.set_events x
theorem RRd.put_messages (h : RRd w0 wb hi gm gc a len cap all m c w) (x : UInt16) : RRd w0 wb hi gm gc a len cap all (m.put_messages x) c (w.setCell ⟨gm, 11, none⟩ (wordV x)) := h.put _ _ fun _ _ _ hm => hm.set_messages x
theorem RRd.put_data (h : RRd w0 wb hi gm gc a len cap all m c w) {a' : Option Addr} {l' c1 : Nat} {xs : List UInt8} (hx : ∀ u, Off w0.heap.size hi w u → Bs u a' l' c1 xs) : RRd w0 wb hi gm gc a len cap all (m.put_data xs) c (w.setCell ⟨gm, 14, none⟩ (.slice a' l' c1)) := h.put _ _ fun u _ hu hm => hm.set_data (hx u hu)
theorem RRd.put_bits (h : RRd w0 wb hi gm gc a len cap all m c w) {a' : Option Addr} {l' c1 : Nat} {xs : List Bool} (hx : ∀ u, Off w0.heap.size hi w u → Ls u a' l' c1 xs) : RRd w0 wb hi gm gc a len cap all (m.put_bits xs) c (w.setCell ⟨gm, 13, none⟩ (.slice a' l' c1)) := h.put _ _ fun u _ hu hm => hm.set_bits (hx u hu)
theorem RRd.put_words (h : RRd w0 wb hi gm gc a len cap all m c w) {a' : Option Addr} {l' c1 : Nat} {xs : List UInt16} (hx : ∀ u, Off w0.heap.size hi w u → Ws u a' l' c1 xs) : RRd w0 wb hi gm gc a len cap all (m.put_words xs) c (w.setCell ⟨gm, 12, none⟩ (.slice a' l' c1)) := h.put _ _ fun u _ hu hm => hm.set_words (hx u hu)

/-- A message that is made, and a cursor ahead of all bytes. -/
theorem RRd.made {cs : Array Value} (hx : Bs w0 a len cap all) (hlen : len ≤ 100000) (ne : gm ≠ gc) (lm : w0.heap.size ≤ gm) (lc : w0.heap.size ≤ gc) (mh : gm < hi) (ch : gc < hi) (hs : hi ≤ w.heap.size) (hb : Below w0.heap.size w0 w)
    (hm : w.heap[gm]? = some (.cells cs apiT (0, 0))) (hv : ∀ v, MsgAt v (.agg cs) m) (hc : w.heap[gc]? = some (refObj a len cap 0 false 0)) : RRd w0 w hi gm gc a len cap all m (St.new all) w :=
  ⟨ne, lm, lc, mh, ch, hs, hx, hb, fun _ _ _ _ => rfl, ⟨cs, hm, fun v _ => hv v⟩, ⟨0, by omega, rfl, hc, hx.mono hb, hlen⟩⟩

theorem rr_byte (h : RRd w0 wb hi gm gc a len cap all m c w) :
    Calls Try.prog 25 #[ptrV gc] w fun r w' => r = .returned (byteV c.byte) ∧ RRd w0 wb hi gm gc a len cap all m c.afterB w' := by
  refine (refByte_any gc a len cap all c w h.cur).mono ?_
  rintro r w1 ⟨rfl, h1, h2⟩
  exact ⟨by rw [byteV_byte], h.step h1 h2⟩

theorem rr_need (h : RRd w0 wb hi gm gc a len cap all m c w) (ok : Bool) (e : Int) :
    Calls Try.prog 26 #[ptrV gc, .bool ok, .int .i64 e] w fun r w' => r = .returned (.tuple #[]) ∧ RRd w0 wb hi gm gc a len cap all m (c.need ok e) w' := by
  refine (refNeed_any gc a len cap all c w h.cur ok e).mono ?_
  rintro r w1 ⟨rfl, h1, h2⟩
  exact ⟨rfl, h.step h1 h2⟩

theorem rr_needO (h : RRd w0 wb hi gm gc a len cap all m c w) (ok : Bool) (e : Int) :
    Calls Try.prog 26 #[ptrV gc, .bool ok, .int .i64 e] w fun r w' => r = .returned (.tuple #[]) ∧ RRd w0 wb hi gm gc a len cap all m (c.need ok e) w' ∧ Off w0.heap.size hi w w' := by
  refine (refNeed_any gc a len cap all c w h.cur ok e).mono ?_
  rintro r w1 ⟨rfl, h1, h2⟩
  exact ⟨rfl, h.step h1 h2, Off.but h2 h.lc h.ch⟩

theorem rr_end (h : RRd w0 wb hi gm gc a len cap all m c w) :
    Calls Try.prog 29 #[ptrV gc] w fun r w' => r = .returned (.tuple #[]) ∧ RRd w0 wb hi gm gc a len cap all m c.end_ w' := by
  refine (refEnd_any gc a len cap all c w h.cur).mono ?_
  rintro r w1 ⟨rfl, h1, h2⟩
  exact ⟨rfl, h.step h1 h2⟩

theorem rr_left (h : RRd w0 wb hi gm gc a len cap all m c w) :
    Calls Try.prog 27 #[ptrV gc] w fun r w' => r = .returned (.int .i64 c.xs.length) ∧ RRd w0 wb hi gm gc a len cap all m c w' := by
  refine (refLeft_any gc a len cap all c w h.cur).mono ?_
  rintro r w1 ⟨rfl, n, rfl⟩
  exact ⟨rfl, h.mono (below_draws (Below.refl _ _) n)⟩

theorem rr_bytes (h : RRd w0 wb hi gm gc a len cap all m c w) (n : Int) :
    Calls Try.prog 28 #[ptrV gc, .int .i64 n] w fun r w' =>
      (∃ a' cap', r = .returned (.slice a' (c.got n 1).length cap') ∧ ∀ v, Off w0.heap.size hi w' v → Bs v a' (c.got n 1).length cap' (c.got n 1)) ∧ RRd w0 wb hi gm gc a len cap all m (c.next n 1) w' := by
  refine (refBytes_sub gc a len cap all c w h.cur n).mono ?_
  rintro r w1 ⟨⟨a', cap', hr, hx⟩, h1, h2⟩
  have h' := h.step h1 h2
  exact ⟨⟨a', cap', hr, fun v hv => hx v (h'.off hv)⟩, h'⟩

end

end Go.Proofs.Ytaokbaddleplfaa
