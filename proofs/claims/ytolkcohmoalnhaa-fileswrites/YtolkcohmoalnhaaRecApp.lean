/-
  Slices of parts of files that the call itself has made: 'append' of one part; what they read stays while only other blocks are written.
-/
import Derived.Test.YtolkcohmoalnhaaRowApp
import Derived.Test.YtolkcohmoalnhaaJoinB
import Derived.Test.YtolkcohmoalnhaaOff
namespace Go.Proofs.Ytolkcohmoalnhaa
open Go.RowKit

def recCells (x : RecM) (v : Value) : List Value := [wordV x.file, wordV x.record, wordV x.count, v]
def recRow : List (RecM × Value) → List Value
  | [] => []
  | p :: l => recCells p.1 p.2 ++ recRow l
theorem recRow_length : ∀ l : List (RecM × Value), (recRow l).length = l.length * 4
  | [] => rfl
  | p :: l => by rw [recRow, List.length_append, recRow_length l, List.length_cons]; simp [recCells]; omega
theorem recRow_append (l r : List (RecM × Value)) : recRow (l ++ r) = recRow l ++ recRow r := by
  induction l with
  | nil => rfl
  | cons p l ih => rw [List.cons_append, recRow, recRow, ih, List.append_assoc]
theorem recRow_at : ∀ (l : List (RecM × Value)) (i : Nat) (h : i < l.length), (recRow l)[i * 4]? = some (wordV l[i].1.file) ∧ (recRow l)[i * 4 + 1]? = some (wordV l[i].1.record) ∧ (recRow l)[i * 4 + 2]? = some (wordV l[i].1.count) ∧ (recRow l)[i * 4 + 3]? = some l[i].2
  | p :: l, 0, h => by simp [recRow, recCells]
  | p :: l, i + 1, h => by
    have hi : i < l.length := by simpa using h
    obtain ⟨h0, h1, h2, h3⟩ := recRow_at l i hi
    have hs : ∀ j, (recRow (p :: l))[(i + 1) * 4 + j]? = (recRow l)[i * 4 + j]? := fun j => by
      rw [recRow, List.getElem?_append_right (by simp [recCells]; omega)]
      congr 1
      simp [recCells]; omega
    refine ⟨?_, ?_, ?_, ?_⟩
    · exact (hs 0).trans h0
    · exact (hs 1).trans h1
    · exact (hs 2).trans h2
    · exact (hs 3).trans h3

/-- The slice at 'a' reads parts, is the call's own from 'B' on, and so are the parts' words, in other blocks. -/
def OwnR (w : World) (B : Nat) (a : Option Addr) (len cap : Nat) (xs : List RecM) : Prop :=
  ∃ l : List (RecM × Value), l.map (·.1) = xs ∧ OwnC 4 w B a len cap (recRow l) ∧ ∀ p ∈ l, ∃ aw lw cw, p.2 = .slice aw lw cw ∧ ∀ u, KeepC B a w u → Ws u aw lw cw p.1.words

section
variable {w w' : World} {B : Nat} {a : Option Addr} {len cap : Nat} {xs : List RecM}
theorem OwnR.empty (w : World) (B : Nat) (a : Option Addr) : OwnR w B a 0 0 [] := ⟨[], rfl, OwnC.empty 4 w B a, fun _ h => by cases h⟩
theorem OwnR.count (h : OwnR w B a len cap xs) : xs.length = len := by
  obtain ⟨l, rfl, hc, _⟩ := h
  have := hc.hlen
  rw [recRow_length] at this
  rw [List.length_map]; omega
theorem OwnR.mono (h : OwnR w B a len cap xs) (hb : Below w.heap.size w w') : OwnR w' B a len cap xs := by
  obtain ⟨l, hl, hc, hw⟩ := h
  exact ⟨l, hl, hc.mono hb, fun p hp => by
    obtain ⟨aw, lw, cw, h1, h2⟩ := hw p hp
    exact ⟨aw, lw, cw, h1, fun u hu => h2 u ((KeepC.of hb).trans hu)⟩⟩
/-- It reads so in every world in which the blocks from 'B' on are as they are. -/
theorem OwnR.off (h : OwnR w B a len cap xs) {lo hi : Nat} (hB : hi ≤ B) {u : World} (hu : Off lo hi w u) : Rs u a len cap xs := by
  have hx := h.count
  obtain ⟨l, rfl, hc, hw⟩ := h
  refine ⟨hx, hc.hle, hc.hmax, fun i hi => ?_⟩
  have hi' : i < l.length := by simpa using hi
  have hk : KeepC B a w u := ⟨hu.size, fun k h1 h2 _ => hu.block k h2 (.inr (Nat.le_trans hB h1))⟩
  obtain ⟨aw, lw, cw, h1, h2⟩ := hw l[i] (List.getElem_mem hi')
  have hlen : l.length = len := by simpa using hx
  obtain ⟨b, off, ha, hBb, hlt, _⟩ := hc.room 0 (by have := hc.hle; omega)
  have cell : ∀ j v, (recRow l)[j]? = some v → u.cell? ⟨b, off + j, none⟩ = some v := fun j v hj => by
    have hjl : j < (recRow l).length := by
      rcases Nat.lt_or_ge j (recRow l).length with h | h
      · exact h
      · simp [List.getElem?_eq_none h] at hj
    obtain ⟨b', off', ha', hlt', hcell⟩ := hc.hcell j hjl
    rw [ha] at ha'
    cases ha'
    rw [List.getElem?_eq_getElem hjl] at hj
    rw [World.cell?_of_block (w := w) (a := ⟨b, off + j, none⟩) (hu.block b hlt (.inr (Nat.le_trans hB hBb))), hcell]
    exact hj
  obtain ⟨r0, r1, r2, r3⟩ := recRow_at l i hi'
  refine ⟨b, off, aw, lw, cw, ha, Nat.lt_of_lt_of_le hlt hu.size, ?_, ?_, ?_, ?_, ?_⟩
  · simpa using cell _ _ r0
  · simpa [Nat.add_assoc] using cell _ _ r1
  · simpa [Nat.add_assoc] using cell _ _ r2
  · rw [h1] at r3
    simpa [Nat.add_assoc] using cell _ _ r3
  · simpa using h2 u hk
theorem OwnR.rs (h : OwnR w B a len cap xs) : Rs w a len cap xs := h.off (lo := 0) (hi := 0) (Nat.zero_le _) (Off.refl _ _ _)
/-- One more part, its words the call's own in another block. -/
theorem OwnR.grown (h : OwnR w B a len cap xs) {x : RecM} {aw : Option Addr} {lw cw : Nat} (hx : ∀ u, KeepC B a w u → Ws u aw lw cw x.words) {a' : Option Addr} {cap' : Nat}
    (hc : ∀ l, OwnC 4 w B a len cap (recRow l) → l.map (·.1) = xs → OwnC 4 w' B a' (len + 1) cap' (recRow l ++ recCells x (.slice aw lw cw))) (hk : KeepC B a w w') (ha : a' = a ∨ ∃ g, a' = some ⟨g, 0, none⟩ ∧ w.heap.size ≤ g) : OwnR w' B a' (len + 1) cap' (xs ++ [x]) := by
  obtain ⟨l, hl, hc0, hw⟩ := h
  have key : ∀ u, KeepC B a' w' u → KeepC B a w u := fun u hu => ⟨Nat.le_trans hk.size hu.size, fun k h1 h2 h3 => by
    refine (hu.block k h1 (Nat.lt_of_lt_of_le h2 hk.size) ?_).trans (hk.block k h1 h2 h3)
    rcases ha with rfl | ⟨g, rfl, hg⟩
    · exact h3
    · intro off e
      injection e with e
      injection e with e1
      omega⟩
  refine ⟨l ++ [(x, .slice aw lw cw)], by simp [hl], ?_, fun p hp => ?_⟩
  · rw [recRow_append]
    have := hc l hc0 hl
    simpa [recRow] using this
  · rcases List.mem_append.1 hp with hp | hp
    · obtain ⟨q1, q2, q3, h1, h2⟩ := hw p hp
      exact ⟨q1, q2, q3, h1, fun u hu => h2 u (key u hu)⟩
    · rw [List.mem_singleton] at hp
      subst hp
      exact ⟨aw, lw, cw, rfl, fun u hu => hx u (key u hu)⟩
end

end Go.Proofs.Ytolkcohmoalnhaa
