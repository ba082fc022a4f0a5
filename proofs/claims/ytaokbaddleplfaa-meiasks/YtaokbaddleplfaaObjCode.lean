/-
  Things that the program's own cursor reads, put behind one another while a message lies beside them.
-/
import Derived.Test.YtaokbaddleplfaaCodeRd
import Derived.Test.YtaokbaddleplfaaObjApp
import Derived.Test.YtaokbaddleplfaaMsgRow
namespace Go.Proofs.Ytaokbaddleplfaa
open Go.RowKit
open Word Cursor

/-- A cursor beside a row that grows, whose block holds something that is no byte. -/
theorem Cur.keptO {w w' : World} {g B : Nat} {a : Option Addr} {c : St} (h : Cur w g c) (hg : g < B) (hb : Below B w w') (hk : KeepC B a w w') (nb : ∀ x, a = some x → ∃ i v, w.cell? ⟨x.block, i, none⟩ = some v ∧ ∀ y, v ≠ byteV y) : Cur w' g c := by
  obtain ⟨a0, l0, c0, hgb, hx, hl⟩ := h
  refine ⟨a0, l0, c0, (hb.block g hg).trans hgb, hx.moved hb.size fun b off ha hl' hlt => ?_, hl⟩
  by_cases hB : b < B
  · exact hb.block b hB
  · refine hk.block b (by omega) hlt fun off' e => ?_
    obtain ⟨i, v, hv, hn⟩ := nb _ e
    exact hx.apart ha hl' hv hn rfl
/-- A row of things holds something that is no byte. -/
theorem OwnO.noByte {Q : World → Prop} {w : World} {B : Nat} {a : Option Addr} {len cap : Nat} {xs : List ObjM} (h : OwnO Q w B a len cap xs) (hz : len = 0 → a = none) : ∀ x, a = some x → ∃ i v, w.cell? ⟨x.block, i, none⟩ = some v ∧ ∀ y, v ≠ byteV y := by
  intro x e
  obtain ⟨l, rfl, hc, hw⟩ := h
  have hl := hc.hlen
  rw [objRow_length] at hl
  have h0 : 0 < l.length := by
    rcases Nat.eq_zero_or_pos len with h | h
    · rw [hz h] at e; cases e
    · omega
  obtain ⟨_, r1⟩ := objRow_at l 0 h0
  obtain ⟨ad, ld, cd, h1, _⟩ := hw l[0] (List.getElem_mem h0)
  have hj : 1 < (objRow l).length := by rw [objRow_length]; omega
  obtain ⟨b, off, ha, _, hcell⟩ := hc.hcell 1 hj
  rw [e] at ha
  cases ha
  rw [Nat.zero_mul, Nat.zero_add, List.getElem?_eq_getElem hj] at r1
  injection r1 with r1
  exact ⟨off + 1, _, hcell, fun y => by rw [r1, h1]; simp⟩

/-- While things are read: the message's cells stay as they are, the row lies in memory made behind 'u0'. -/
structure OCd (t : TypeId) (w0 wb u0 : World) (hi gm gc : Nat) (cs : Array Value) (pre : List ObjM) (c : St) (a1 : Option Addr) (l1 c1 : Nat) (w : World) : Prop where
  ne : gm ≠ gc
  lm : w0.heap.size ≤ gm
  lc : w0.heap.size ≤ gc
  mh : gm < hi
  ch : gc < hi
  hs : hi ≤ w.heap.size
  below : Below w0.heap.size w0 w
  keep : ∀ k, k < hi → k ≠ gm → k ≠ gc → w.heap[k]? = wb.heap[k]?
  cur : Cur w gc c
  box : w.heap[gm]? = some (.cells cs t (0, 0))
  own : OwnO (fun _ => True) w u0.heap.size a1 l1 c1 pre
  hat : ∀ x, a1 = some x → x.block < w.heap.size
  hz : l1 = 0 → a1 = none
  hu : hi ≤ u0.heap.size
  off : Off 0 hi u0 w

section
variable {t : TypeId} {w0 wb u0 : World} {hi gm gc : Nat} {cs : Array Value} {pre : List ObjM} {m : MsgM} {c c' : St} {a1 : Option Addr} {l1 c1 : Nat} {w w' : World}
theorem OCd.step (h : OCd t w0 wb u0 hi gm gc cs pre c a1 l1 c1 w) (hc : Cur w' gc c') (hb : But gc w w') : OCd t w0 wb u0 hi gm gc cs pre c' a1 l1 c1 w' :=
  ⟨h.ne, h.lm, h.lc, h.mh, h.ch, Nat.le_trans h.hs hb.size, h.below.trans (hb.below h.lc h.below.size), fun k h1 h2 h3 => (hb.block k (Nat.lt_of_lt_of_le h1 h.hs) h3).trans (h.keep k h1 h2 h3), hc,
    (hb.block gm (lt_of_block h.box) h.ne).trans h.box, h.own.offs h.hu (Off.but hb (Nat.zero_le _) h.ch), fun x e => Nat.lt_of_lt_of_le (h.hat x e) hb.size, h.hz, h.hu, h.off.trans (Off.but hb (Nat.zero_le _) h.ch)⟩
theorem OCd.mono (h : OCd t w0 wb u0 hi gm gc cs pre c a1 l1 c1 w) (hb : Below w.heap.size w w') : OCd t w0 wb u0 hi gm gc cs pre c a1 l1 c1 w' :=
  ⟨h.ne, h.lm, h.lc, h.mh, h.ch, Nat.le_trans h.hs hb.size, h.below.trans (hb.mono h.below.size), fun k h1 h2 h3 => (hb.block k (Nat.lt_of_lt_of_le h1 h.hs)).trans (h.keep k h1 h2 h3), h.cur.mono hb,
    (hb.block gm (lt_of_block h.box)).trans h.box, h.own.mono hb, fun x e => Nat.lt_of_lt_of_le (h.hat x e) hb.size, h.hz, h.hu, h.off.trans (Off.of hb)⟩
/-- The row has grown. -/
theorem OCd.low (h : OCd t w0 wb u0 hi gm gc cs pre c a1 l1 c1 w) (hbu : Below u0.heap.size w w') (hk : KeepC u0.heap.size a1 w w') {a2 : Option Addr} {l2 c2 : Nat} {pre' : List ObjM} (ho : OwnO (fun _ => True) w' u0.heap.size a2 (l2 + 1) c2 pre') : OCd t w0 wb u0 hi gm gc cs pre' c a2 (l2 + 1) c2 w' := by
  have hb : Below hi w w' := hbu.mono h.hu
  have hlm := h.lm
  have hmh := h.mh
  refine ⟨h.ne, hlm, h.lc, hmh, h.ch, Nat.le_trans h.hs hb.size, h.below.trans (hb.mono (by omega)), fun i h1 h2 h3 => (hb.block i h1).trans (h.keep i h1 h2 h3),
    h.cur.keptO (Nat.lt_of_lt_of_le h.ch h.hu) hbu hk (h.own.noByte h.hz), (hb.block _ hmh).trans h.box, ho, fun x e => ?_, fun e => by omega, h.hu, ⟨Nat.le_trans h.off.size hb.size, fun i hi' hn => (hbu.block i hi').trans (h.off.block i hi' hn)⟩⟩
  obtain ⟨b, off, ha, _, hlt⟩ := ho.low (by omega)
  rw [ha] at e
  injection e with e
  rw [← e]
  exact hlt
/-- A field of the message is written. -/
theorem OCd.put (h : OCd t w0 wb u0 hi gm gc cs pre c a1 l1 c1 w) (k : Nat) (v : Value) {i : Nat} {u : Value} (hi' : cs[i]? = some u) (hu' : ∀ y, u ≠ byteV y) : OCd t w0 wb u0 hi gm gc (cs.set! k v) pre c a1 l1 c1 (w.setCell ⟨gm, k, none⟩ v) := by
  have hb : But gm w (w.setCell ⟨gm, k, none⟩ v) := But.setCell gm k w v
  have ho := Off.but hb (Nat.zero_le _) h.mh
  exact ⟨h.ne, h.lm, h.lc, h.mh, h.ch, Nat.le_trans h.hs hb.size, h.below.trans (hb.below h.lm h.below.size), fun i h1 h2 h3 => (hb.block i (Nat.lt_of_lt_of_le h1 h.hs) h2).trans (h.keep i h1 h2 h3),
    h.cur.asideB (Ne.symm h.ne) ((cell_of_row w gm i _ _ _ h.box).trans hi') hu' v, set_block h.box _, h.own.offs h.hu ho, fun x e => Nat.lt_of_lt_of_le (h.hat x e) hb.size, h.hz, h.hu, h.off.trans ho⟩
/-- It begins with none. -/
theorem CRd.things (h : CRd t w0 wb hi gm gc m c w) : ∃ cs, cs.size = 22 ∧ (∀ v, Off 0 hi w v → MsgAt v (.agg cs) m) ∧ OCd t w0 wb w hi gm gc cs [] c none 0 0 w := by
  obtain ⟨cs, hg, hm⟩ := h.box
  exact ⟨cs, (hm _ (Off.refl _ _ _)).row.1, hm, ⟨h.ne, h.lm, h.lc, h.mh, h.ch, h.hs, h.below, h.keep, h.cur, hg, OwnO.empty _ _ _ _, fun x e => (by cases e), fun _ => rfl, h.hs, Off.refl _ _ _⟩⟩
/-- .. and ends with a message whose cells are known. -/
theorem OCd.rd (h : OCd t w0 wb u0 hi gm gc cs pre c a1 l1 c1 w) (hm : ∀ v, Off 0 hi u0 v → Obs v a1 l1 c1 pre → MsgAt v (.agg cs) m) : CRd t w0 wb hi gm gc m c w :=
  ⟨h.ne, h.lm, h.lc, h.mh, h.ch, h.hs, h.below, h.keep, ⟨cs, h.box, fun v hv => hm v (h.off.trans hv) (h.own.off h.hu hv trivial)⟩, h.cur⟩

theorem oc_byte (h : OCd t w0 wb u0 hi gm gc cs pre c a1 l1 c1 w) : Calls Try.prog 21 #[ptrV gc] w fun r w' => r = .returned (byteV c.byte) ∧ OCd t w0 wb u0 hi gm gc cs pre c.afterB a1 l1 c1 w' ∧ But gc w w' := by
  refine (byte_any gc c w h.cur).mono ?_
  rintro r w1 ⟨rfl, h1, h2⟩
  exact ⟨by rw [byteV_byte], h.step h1 h2, h2⟩
/-- Bytes that are read lie in memory of their own, behind all that was there. -/
theorem oc_bytes (h : OCd t w0 wb u0 hi gm gc cs pre c a1 l1 c1 w) (n : Int) : Calls Try.prog 53 #[ptrV gc, .int .i64 n] w fun r w' =>
    (∃ a' cap', r = .returned (.slice a' (c.got n 1).length cap') ∧ Bs w' a' (c.got n 1).length cap' (c.got n 1) ∧ ∀ v u, Below w'.heap.size w' v → KeepC u0.heap.size a1 v u → Bs u a' (c.got n 1).length cap' (c.got n 1)) ∧ OCd t w0 wb u0 hi gm gc cs pre (c.next n 1) a1 l1 c1 w' ∧ But gc w w' := by
  have hzu := h.off.size
  refine (cbytes_own gc c n w h.cur).mono ?_
  rintro r w1 ⟨⟨a', cap', hr, hx⟩, h1, h2⟩
  refine ⟨⟨a', cap', hr, hx.sl, fun v u hv hu => ⟨hx.sl.hlen, hx.sl.hle, hx.sl.hmax, fun i hi' => ?_⟩⟩, h.step h1 h2, h2⟩
  obtain ⟨b, off, hb, hlt, hc⟩ := hx.sl.hcell i hi'
  obtain ⟨b', off', hb', hB, _⟩ := hx.room i (by have := hx.sl.hlen; have := hx.sl.hle; omega)
  rw [hb] at hb'
  cases hb'
  have h3 : u.heap[b]? = v.heap[b]? := hu.block b (by omega) (Nat.lt_of_lt_of_le hlt hv.size) fun o e => by have := h.hat _ e; simp only at this; omega
  refine ⟨b, off, hb, Nat.lt_of_lt_of_le hlt (Nat.le_trans hv.size hu.size), ?_⟩
  rw [World.cell?_of_block (w := w1) (a := ⟨b, off + i, none⟩) (h3.trans (hv.block b hlt))]
  exact hc
end

end Go.Proofs.Ytaokbaddleplfaa
