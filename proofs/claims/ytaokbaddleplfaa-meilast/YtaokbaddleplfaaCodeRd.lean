/-
  A message that is read, field by field, by the program's own cursor: what holds on the way.
-/
import Derived.Test.YtaokbaddleplfaaMsgSet
import Derived.Test.YtaokbaddleplfaaMsgBox
import Derived.Test.YtaokbaddleplfaaForm
import Derived.Test.YtaokbaddleplfaaCursorOwn
import Derived.Test.YtaokbaddleplfaaOff
namespace Go.Proofs.Ytaokbaddleplfaa
open Go.RowKit
open Word Cursor

/-- A cursor beside a block that holds something that is no byte, and is written. -/
theorem Cur.asideB {w : World} {g : Nat} {c : St} (h : Cur w g c) {q i j : Nat} (hn : g ≠ q) {u : Value} (hp : w.cell? ⟨q, i, none⟩ = some u) (hu : ∀ x, u ≠ byteV x) (v : Value) : Cur (w.setCell ⟨q, j, none⟩ v) g c := by
  obtain ⟨a, len, cap, hg, hx, hl⟩ := h
  exact ⟨a, len, cap, (Below.heap_setCell _ _ _ _ hn).trans hg, hx.cellSet hp hu v, hl⟩
theorem Cur.aside {w : World} {g : Nat} {c : St} (h : Cur w g c) {p : Addr} (hn : g ≠ p.block) {u : Value} (hp : w.cell? p = some u) (hu : ∀ x, u ≠ byteV x) (v : Value) : Cur (w.setCell p v) g c := by
  obtain ⟨hp', _⟩ := none_spot hp
  rw [hp'] at hp ⊢
  exact h.asideB hn hp hu v

/-- The bytes that a cursor tells are memory of its own. -/
theorem cbytes_own (g : Nat) (c : St) (n : Int) (w : World) (h : Cur w g c) :
    Calls Try.prog 53 #[.pointer (some ⟨g, 0, none⟩), .int .i64 n] w fun r w' =>
      (∃ a cap, r = .returned (.slice a (c.got n 1).length cap) ∧ Own byteV w' w.heap.size a (c.got n 1).length cap (c.got n 1)) ∧ Cur w' g (c.next n 1) ∧ But g w w' := by
  have hs := Nat.le_trans (St.got_length c n 1) h.small
  have H := hide h
  obtain ⟨a0, l0, c0, hg, _, _⟩ := h
  have c3 := cur_c3 hg
  clear hg
  go_enter Try.func53, Try.ntmps53
  go_wp2_with fail
  refine (ctake_any g c n 1 (.inl rfl) w H.out).mono ?_
  rintro r w1 ⟨⟨a1, c1, rfl, hx1⟩, hc1, hb1⟩
  go_wp2_with fail
  refine (clone_own _ _ _ _ _ hx1 hs).mono ?_
  rintro r w2 ⟨⟨a2, c2, rfl, hx2⟩, hb2⟩
  go_wp2
  go_ret
  exact ⟨⟨a2, c2, rfl, ⟨hx2.sl, fun i hi => by
    obtain ⟨b, off, h1, h2, h3⟩ := hx2.room i hi
    exact ⟨b, off, h1, Nat.le_trans hb1.size h2, h3⟩⟩⟩, hc1.mono hb2, hb1.trans (But.of hb2)⟩

/-- In block 'gm' (of type 't') lies the message, in 'gc' the cursor; below 'w0' all is as it was; from there up to 'hi' all but the two is as in 'wb'; the message's lists lie from 'hi' on. -/
structure CRd (t : TypeId) (w0 wb : World) (hi gm gc : Nat) (m : MsgM) (c : St) (w : World) : Prop where
  ne : gm ≠ gc
  lm : w0.heap.size ≤ gm
  lc : w0.heap.size ≤ gc
  mh : gm < hi
  ch : gc < hi
  hs : hi ≤ w.heap.size
  below : Below w0.heap.size w0 w
  keep : ∀ k, k < hi → k ≠ gm → k ≠ gc → w.heap[k]? = wb.heap[k]?
  box : ∃ cs, w.heap[gm]? = some (.cells cs t (0, 0)) ∧ ∀ v, Off 0 hi w v → MsgAt v (.agg cs) m
  cur : Cur w gc c

section
variable {t : TypeId} {w0 wb : World} {hi gm gc : Nat} {m m' : MsgM} {c c' : St} {w w' : World}

theorem CRd.mb (h : CRd t w0 wb hi gm gc m c w) : MB t w gm m := by
  obtain ⟨cs, hg, hm⟩ := h.box
  exact ⟨cs, hg, hm _ (Off.refl _ _ _)⟩
theorem CRd.step (h : CRd t w0 wb hi gm gc m c w) (hc : Cur w' gc c') (hb : But gc w w') : CRd t w0 wb hi gm gc m c' w' := by
  obtain ⟨cs, hg, hm⟩ := h.box
  exact ⟨h.ne, h.lm, h.lc, h.mh, h.ch, Nat.le_trans h.hs hb.size, h.below.trans (hb.below h.lc h.below.size), fun k h1 h2 h3 => (hb.block k (Nat.lt_of_lt_of_le h1 h.hs) h3).trans (h.keep k h1 h2 h3),
    ⟨cs, (hb.block gm (lt_of_block hg) h.ne).trans hg, fun v hv => hm v ((Off.but hb (Nat.zero_le _) h.ch).trans hv)⟩, hc⟩
theorem CRd.mono (h : CRd t w0 wb hi gm gc m c w) (hb : Below w.heap.size w w') : CRd t w0 wb hi gm gc m c w' := by
  obtain ⟨cs, hg, hm⟩ := h.box
  exact ⟨h.ne, h.lm, h.lc, h.mh, h.ch, Nat.le_trans h.hs hb.size, h.below.trans (hb.mono h.below.size), fun k h1 h2 h3 => (hb.block k (Nat.lt_of_lt_of_le h1 h.hs)).trans (h.keep k h1 h2 h3),
    ⟨cs, (hb.block gm (lt_of_block hg)).trans hg, fun v hv => hm v ((Off.of hb).trans hv)⟩, h.cur.mono hb⟩
theorem CRd.drew (h : CRd t w0 wb hi gm gc m c w) : CRd t w0 wb hi gm gc m c w.drew := h.mono (Below.refl _ _).drew
theorem CRd.put (h : CRd t w0 wb hi gm gc m c w) (k : Nat) (v : Value) {u : Value} (hk : w.cell? ⟨gm, k, none⟩ = some u) (hu : ∀ x, u ≠ byteV x) (hp : ∀ z cs, Off 0 hi w z → MsgAt z (.agg cs) m → MsgAt z (.agg (cs.set! k v)) m') :
    CRd t w0 wb hi gm gc m' c (w.setCell ⟨gm, k, none⟩ v) := by
  obtain ⟨cs, hg, hm⟩ := h.box
  have hb : But gm w (w.setCell ⟨gm, k, none⟩ v) := But.setCell gm k w v
  have ho := Off.but hb (Nat.zero_le _) h.mh
  exact ⟨h.ne, h.lm, h.lc, h.mh, h.ch, Nat.le_trans h.hs hb.size, h.below.trans (hb.below h.lm h.below.size), fun i h1 h2 h3 => (hb.block i (Nat.lt_of_lt_of_le h1 h.hs) h2).trans (h.keep i h1 h2 h3),
    ⟨_, set_block hg _, fun z hz => hp z cs (ho.trans hz) (hm z (ho.trans hz))⟩, h.cur.aside (Ne.symm h.ne) hk hu v⟩
/-- A field that is a byte. -/
theorem CRd.putB (h : CRd t w0 wb hi gm gc m c w) (k : Nat) (v : Value) (hp : ∀ z cs, Off 0 hi w z → MsgAt z (.agg cs) m → MsgAt z (.agg (cs.set! k v)) m') :
    CRd t w0 wb hi gm gc m' c (w.setCell ⟨gm, k, none⟩ v) := by
  obtain ⟨cs, hg, hm⟩ := h.box
  have hb : But gm w (w.setCell ⟨gm, k, none⟩ v) := But.setCell gm k w v
  have ho := Off.but hb (Nat.zero_le _) h.mh
  obtain ⟨a12, l12, c12, hk, _⟩ := h.mb.c_words
  exact ⟨h.ne, h.lm, h.lc, h.mh, h.ch, Nat.le_trans h.hs hb.size, h.below.trans (hb.below h.lm h.below.size), fun i h1 h2 h3 => (hb.block i (Nat.lt_of_lt_of_le h1 h.hs) h2).trans (h.keep i h1 h2 h3),
    ⟨_, set_block hg _, fun z hz => hp z cs (ho.trans hz) (hm z (ho.trans hz))⟩, h.cur.asideB (Ne.symm h.ne) hk (fun _ e => by cases e) v⟩
theorem CRd.put_mei (h : CRd t w0 wb hi gm gc m c w) (x : UInt8) : CRd t w0 wb hi gm gc (m.put_mei x) c (w.setCell ⟨gm, 16, none⟩ (byteV x)) := h.putB _ _ fun _ _ _ hm => hm.set_mei x
theorem CRd.put_kind (h : CRd t w0 wb hi gm gc m c w) (x : UInt8) : CRd t w0 wb hi gm gc (m.put_kind x) c (w.setCell ⟨gm, 17, none⟩ (byteV x)) := h.putB _ _ fun _ _ _ hm => hm.set_kind x
theorem CRd.put_level (h : CRd t w0 wb hi gm gc m c w) (x : UInt8) : CRd t w0 wb hi gm gc (m.put_level x) c (w.setCell ⟨gm, 18, none⟩ (byteV x)) := h.putB _ _ fun _ _ _ hm => hm.set_level x
theorem CRd.put_more (h : CRd t w0 wb hi gm gc m c w) (x : UInt8) : CRd t w0 wb hi gm gc (m.put_more x) c (w.setCell ⟨gm, 19, none⟩ (byteV x)) := h.putB _ _ fun _ _ _ hm => hm.set_more x
theorem CRd.put_next (h : CRd t w0 wb hi gm gc m c w) (x : UInt8) : CRd t w0 wb hi gm gc (m.put_next x) c (w.setCell ⟨gm, 20, none⟩ (byteV x)) := h.putB _ _ fun _ _ _ hm => hm.set_next x
theorem CRd.put_addr (h : CRd t w0 wb hi gm gc m c w) (x : UInt16) : CRd t w0 wb hi gm gc (m.put_addr x) c (w.setCell ⟨gm, 2, none⟩ (wordV x)) := h.put _ _ h.mb.c_addr (fun _ e => by cases e) fun _ _ _ hm => hm.set_addr x
theorem CRd.put_count (h : CRd t w0 wb hi gm gc m c w) (x : UInt16) : CRd t w0 wb hi gm gc (m.put_count x) c (w.setCell ⟨gm, 3, none⟩ (wordV x)) := h.put _ _ h.mb.c_count (fun _ e => by cases e) fun _ _ _ hm => hm.set_count x
theorem CRd.put_value (h : CRd t w0 wb hi gm gc m c w) (x : UInt16) : CRd t w0 wb hi gm gc (m.put_value x) c (w.setCell ⟨gm, 4, none⟩ (wordV x)) := h.put _ _ h.mb.c_value (fun _ e => by cases e) fun _ _ _ hm => hm.set_value x
theorem CRd.put_and (h : CRd t w0 wb hi gm gc m c w) (x : UInt16) : CRd t w0 wb hi gm gc (m.put_and x) c (w.setCell ⟨gm, 5, none⟩ (wordV x)) := h.put _ _ h.mb.c_and (fun _ e => by cases e) fun _ _ _ hm => hm.set_and x
theorem CRd.put_or (h : CRd t w0 wb hi gm gc m c w) (x : UInt16) : CRd t w0 wb hi gm gc (m.put_or x) c (w.setCell ⟨gm, 6, none⟩ (wordV x)) := h.put _ _ h.mb.c_or (fun _ e => by cases e) fun _ _ _ hm => hm.set_or x
theorem CRd.put_addr2 (h : CRd t w0 wb hi gm gc m c w) (x : UInt16) : CRd t w0 wb hi gm gc (m.put_addr2 x) c (w.setCell ⟨gm, 7, none⟩ (wordV x)) := h.put _ _ h.mb.c_addr2 (fun _ e => by cases e) fun _ _ _ hm => hm.set_addr2 x
theorem CRd.put_sub (h : CRd t w0 wb hi gm gc m c w) (x : UInt16) : CRd t w0 wb hi gm gc (m.put_sub x) c (w.setCell ⟨gm, 8, none⟩ (wordV x)) := h.put _ _ h.mb.c_sub (fun _ e => by cases e) fun _ _ _ hm => hm.set_sub x
theorem CRd.put_status (h : CRd t w0 wb hi gm gc m c w) (x : UInt16) : CRd t w0 wb hi gm gc (m.put_status x) c (w.setCell ⟨gm, 9, none⟩ (wordV x)) := h.put _ _ h.mb.c_status (fun _ e => by cases e) fun _ _ _ hm => hm.set_status x
theorem CRd.put_events (h : CRd t w0 wb hi gm gc m c w) (x : UInt16) : CRd t w0 wb hi gm gc (m.put_events x) c (w.setCell ⟨gm, 10, none⟩ (wordV x)) := h.put _ _ h.mb.c_events (fun _ e => by cases e) fun _ _ _ hm => hm.set_events x
theorem CRd.put_messages (h : CRd t w0 wb hi gm gc m c w) (x : UInt16) : CRd t w0 wb hi gm gc (m.put_messages x) c (w.setCell ⟨gm, 11, none⟩ (wordV x)) := h.put _ _ h.mb.c_messages (fun _ e => by cases e) fun _ _ _ hm => hm.set_messages x
theorem CRd.put_words (h : CRd t w0 wb hi gm gc m c w) {a' : Option Addr} {l' c1 : Nat} {xs : List UInt16} (hx : ∀ u, Off 0 hi w u → Ws u a' l' c1 xs) : CRd t w0 wb hi gm gc (m.put_words xs) c (w.setCell ⟨gm, 12, none⟩ (.slice a' l' c1)) := by
  obtain ⟨a1, l1, c2, hk, _⟩ := h.mb.c_words
  exact h.put _ _ hk (fun _ e => by cases e) fun u _ hu hm => hm.set_words (hx u hu)
theorem CRd.put_data (h : CRd t w0 wb hi gm gc m c w) {a' : Option Addr} {l' c1 : Nat} {xs : List UInt8} (hx : ∀ u, Off 0 hi w u → Bs u a' l' c1 xs) : CRd t w0 wb hi gm gc (m.put_data xs) c (w.setCell ⟨gm, 14, none⟩ (.slice a' l' c1)) := by
  obtain ⟨a1, l1, c2, hk, _⟩ := h.mb.c_data
  exact h.put _ _ hk (fun _ e => by cases e) fun u _ hu hm => hm.set_data (hx u hu)
theorem CRd.made {cs : Array Value} (ne : gm ≠ gc) (lm : w0.heap.size ≤ gm) (lc : w0.heap.size ≤ gc) (mh : gm < hi) (ch : gc < hi) (hs : hi ≤ w.heap.size) (hb : Below w0.heap.size w0 w)
    (hm : w.heap[gm]? = some (.cells cs t (0, 0))) (hv : ∀ v, MsgAt v (.agg cs) m) (hc : Cur w gc c) : CRd t w0 w hi gm gc m c w :=
  ⟨ne, lm, lc, mh, ch, hs, hb, fun _ _ _ _ => rfl, ⟨cs, hm, fun v _ => hv v⟩, hc⟩

theorem cr_byte (h : CRd t w0 wb hi gm gc m c w) :
    Calls Try.prog 21 #[ptrV gc] w fun r w' => r = .returned (byteV c.byte) ∧ CRd t w0 wb hi gm gc m c.afterB w' := by
  refine (byte_any gc c w h.cur).mono ?_
  rintro r w1 ⟨rfl, h1, h2⟩
  exact ⟨by rw [byteV_byte], h.step h1 h2⟩

theorem cr_need (h : CRd t w0 wb hi gm gc m c w) (ok : Bool) (e : Int) :
    Calls Try.prog 22 #[ptrV gc, .bool ok, .int .i64 e] w fun r w' => r = .returned (.tuple #[]) ∧ CRd t w0 wb hi gm gc m (c.need ok e) w' ∧ Off 0 hi w w' := by
  refine (need_any gc c ok e w h.cur).mono ?_
  rintro r w1 ⟨rfl, h1, h2⟩
  exact ⟨rfl, h.step h1 h2, Off.but h2 (Nat.zero_le _) h.ch⟩

theorem cr_end (h : CRd t w0 wb hi gm gc m c w) :
    Calls Try.prog 23 #[ptrV gc] w fun r w' => r = .returned (.tuple #[]) ∧ CRd t w0 wb hi gm gc m c.end_ w' := by
  refine (end_any gc c w h.cur).mono ?_
  rintro r w1 ⟨rfl, h1, h2⟩
  exact ⟨rfl, h.step h1 h2⟩

theorem cr_left (h : CRd t w0 wb hi gm gc m c w) :
    Calls Try.prog 41 #[ptrV gc] w fun r w' => r = .returned (.int .i64 c.xs.length) ∧ w' = w := left_any gc c w h.cur

theorem cr_bytes (h : CRd t w0 wb hi gm gc m c w) (n : Int) :
    Calls Try.prog 53 #[ptrV gc, .int .i64 n] w fun r w' =>
      (∃ a' cap', r = .returned (.slice a' (c.got n 1).length cap') ∧ ∀ v, Off 0 hi w' v → Bs v a' (c.got n 1).length cap' (c.got n 1)) ∧ CRd t w0 wb hi gm gc m (c.next n 1) w' := by
  refine (cbytes_own gc c n w h.cur).mono ?_
  rintro r w1 ⟨⟨a', cap', hr, hx⟩, h1, h2⟩
  exact ⟨⟨a', cap', hr, fun v hv => hx.off h.hs hv⟩, h.step h1 h2⟩

end

end Go.Proofs.Ytaokbaddleplfaa
