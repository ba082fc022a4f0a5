/-
  Two worlds that differ in one block alone.
-/
import Derived.Test.YtjacnghndnkcnaaPure
import Derived.Lib.SliceRun
import Derived.OneCell
import Derived.Laws.EntriesVeiled
namespace Go.Proofs.Ytjacnghndnkcnaa
open Go.RowKit

/-- All blocks but one are as they were. -/
structure But (g : Nat) (w w' : World) : Prop where
  os : w'.os = w.os
  tape : w'.tape = w.tape
  output : w'.output = w.output
  size : w.heap.size ≤ w'.heap.size
  block : ∀ k, k < w.heap.size → k ≠ g → w'.heap[k]? = w.heap[k]?

theorem But.refl (g : Nat) (w : World) : But g w w := ⟨rfl, rfl, rfl, Nat.le_refl _, fun _ _ _ => rfl⟩
theorem But.trans {g : Nat} {a b c : World} (h : But g a b) (k : But g b c) : But g a c :=
  ⟨k.os.trans h.os, k.tape.trans h.tape, k.output.trans h.output, Nat.le_trans h.size k.size, fun i hi hn => (k.block i (Nat.lt_of_lt_of_le hi h.size) hn).trans (h.block i hi hn)⟩
theorem But.of {g : Nat} {a b : World} (h : Below a.heap.size a b) : But g a b := ⟨h.os, h.tape, h.output, h.size, fun k hk _ => h.block k hk⟩
theorem But.below {g B : Nat} {a b : World} (h : But g a b) (hg : B ≤ g) (hB : B ≤ a.heap.size) : Below B a b := ⟨h.os, h.tape, h.output, h.size, fun k hk => h.block k (by omega) (by omega)⟩
theorem But.next {g B : Nat} {a b c : World} (h : Below B a b) (k : But g b c) (hg : B ≤ g) (hB : B ≤ a.heap.size) : Below B a c := h.trans (k.below hg (Nat.le_trans hB h.size))
theorem But.setCell (g i : Nat) (w : World) (u : Value) : But g w (w.setCell ⟨g, i, none⟩ u) :=
  ⟨rfl, rfl, rfl, by simp [World.setCell], fun _ _ hn => Below.heap_setCell _ _ _ _ hn⟩
theorem But.cell {g : Nat} {w w' : World} (h : But g w w') {p : Addr} (hp : p.block < w.heap.size) (hn : p.block ≠ g) : w'.cell? p = w.cell? p := World.cell?_of_block (w := w) (h.block p.block hp hn)

/-- A slice none of whose cells lies in the block. -/
theorem Sl.but {α : Type} {f : α → Value} {w w' : World} {a : Option Addr} {len cap : Nat} {xs : List α} (h : Sl f w a len cap xs) {g : Nat} (hb : But g w w') (hn : ∀ i x, w.cell? ⟨g, i, none⟩ ≠ some (f x)) : Sl f w' a len cap xs :=
  ⟨h.hlen, h.hle, h.hmax, fun i hi => by
    obtain ⟨b, off, ha, hlt, hc⟩ := h.hcell i hi
    exact ⟨b, off, ha, Nat.lt_of_lt_of_le hlt hb.size, (hb.cell (p := ⟨b, off + i, none⟩) hlt (fun e => hn (off + i) xs[i] (by have e' : b = g := e; rw [← e']; exact hc))).trans hc⟩⟩

theorem Bp.but {w w' : World} {a : Option Addr} {len cap : Nat} {xs : List UInt8} (h : Bp w a len cap xs) {g : Nat} (hb : But g w w') (hn : ∀ i x, w.cell? ⟨g, i, none⟩ ≠ some (byteV x)) : Bp w' a len cap xs :=
  h.moved hb.size fun b off ha hl hlt => hb.block b hlt (fun e => by
    obtain ⟨b', off', ha', _, hc⟩ := h.toSl.at hl
    rw [ha] at ha'
    cases ha'
    have h0 : 0 < xs.length := by have := h.hlen; omega
    exact hn (off + 0) xs[0] (by rw [← e]; exact hc 0 h0))

/-- What is cut off at the front, whatever the address. -/
theorem Sl.dropAny {α : Type} {f : α → Value} {w : World} {a : Option Addr} {len cap : Nat} {xs : List α} (h : Sl f w a len cap xs) (n : Nat) (hn : n ≤ len) : Sl f w (if cap = n then a else a.map (·.add n)) (len - n) (cap - n) (xs.drop n) := by
  have h0 := h.hlen
  have h1 := h.hle
  have h2 := h.hmax
  by_cases hl : n < len
  · obtain ⟨b, off, rfl, _, _⟩ := h.at (by omega)
    rw [if_neg (by omega)]
    have := h.drop n hn
    rw [← Addr.add_lit] at this
    exact this
  · have : n = len := by omega
    subst this
    rw [List.drop_eq_nil_of_le (by omega), Nat.sub_self]
    exact Sl.nil _ _ (by omega)

theorem fr_block {w : World} {b : Nat} {cs : Array Value} {t : TypeId} (h : w.heap[b]? = some (.cells cs t (0, 0))) (i : Nat) : w.frozen? ⟨b, i, none⟩ = false := by simp [World.frozen?, h]
theorem set_block {w : World} {b i : Nat} {cs : Array Value} {t : TypeId} {fr : Nat × Nat} (h : w.heap[b]? = some (.cells cs t fr)) (u : Value) : (w.setCell ⟨b, i, none⟩ u).heap[b]? = some (.cells (cs.set! i u) t fr) := by
  have hlt := lt_of_block h
  have h' : w.heap[b] = .cells cs t fr := by simpa [Array.getElem?_eq_getElem hlt] using h
  show (w.heap.modify b _)[b]? = _
  rw [Array.getElem?_eq_getElem (by simpa using hlt), Array.getElem_modify_self, h']
  rfl

end Go.Proofs.Ytjacnghndnkcnaa
