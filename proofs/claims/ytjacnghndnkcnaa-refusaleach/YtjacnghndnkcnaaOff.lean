/-
  Blocks that are as they were, but for a few.
-/
import Derived.Test.YtjacnghndnkcnaaBut
namespace Go.Proofs.Ytjacnghndnkcnaa
open Go.RowKit

abbrev ptrV (g : Nat) : Value := .pointer (some ⟨g, 0, none⟩)

/-- All blocks are as they were, but those from 'lo' up to 'hi'. -/
structure Off (lo hi : Nat) (w w' : World) : Prop where
  size : w.heap.size ≤ w'.heap.size
  block : ∀ i, i < w.heap.size → i < lo ∨ hi ≤ i → w'.heap[i]? = w.heap[i]?
theorem Off.refl (lo hi : Nat) (w : World) : Off lo hi w w := ⟨Nat.le_refl _, fun _ _ _ => rfl⟩
theorem Off.trans {lo hi : Nat} {a b c : World} (h : Off lo hi a b) (h' : Off lo hi b c) : Off lo hi a c :=
  ⟨Nat.le_trans h.size h'.size, fun i hi h1 => (h'.block i (Nat.lt_of_lt_of_le hi h.size) h1).trans (h.block i hi h1)⟩
theorem Off.of {lo hi : Nat} {a b : World} (h : Below a.heap.size a b) : Off lo hi a b := ⟨h.size, fun i hi _ => h.block i hi⟩
theorem Off.but {lo hi g : Nat} {a b : World} (h : But g a b) (h1 : lo ≤ g) (h2 : g < hi) : Off lo hi a b := ⟨h.size, fun i hi hn => h.block i hi (by omega)⟩
/-- What the call itself made lies beside them. -/
theorem Own.off {α : Type} {f : α → Value} {w w' : World} {B : Nat} {a : Option Addr} {len cap : Nat} {xs : List α} (h : Own f w B a len cap xs) {lo hi : Nat} (hB : hi ≤ B) (hb : Off lo hi w w') : Sl f w' a len cap xs :=
  ⟨h.sl.hlen, h.sl.hle, h.sl.hmax, fun i hi => by
    obtain ⟨b, off, ha, hlt, hc⟩ := h.sl.hcell i hi
    obtain ⟨b', off', ha', hB', _⟩ := h.room i (by have := h.sl.hlen; have := h.sl.hle; omega)
    rw [ha] at ha'
    cases ha'
    exact ⟨b, off, ha, Nat.lt_of_lt_of_le hlt hb.size, (World.cell?_of_block (w := w) (a := ⟨b, off + i, none⟩) (hb.block b hlt (.inr (Nat.le_trans hB hB')))).trans hc⟩⟩

end Go.Proofs.Ytjacnghndnkcnaa
