/-
  Package files: two lists of parts, joined.
-/
import Derived.Test.YtolkcohmoalnhaaFileAns
namespace Go.Proofs.Ytolkcohmoalnhaa
open Go.RowKit
open Word Bits Cursor

/-- Each part's words are read in 'w'. -/
def Worded (w : World) (l : List (RecM × Value)) : Prop := ∀ p ∈ l, ∃ aw lw cw, p.2 = .slice aw lw cw ∧ Ws w aw lw cw p.1.words
theorem Worded.mono {w w' : World} {l : List (RecM × Value)} (h : Worded w l) (hb : Below w.heap.size w w') : Worded w' l := fun p hp => by
  obtain ⟨aw, lw, cw, h1, h2⟩ := h p hp
  exact ⟨aw, lw, cw, h1, h2.mono hb⟩
theorem Worded.append {w : World} {l r : List (RecM × Value)} (h : Worded w l) (k : Worded w r) : Worded w (l ++ r) := fun p hp => (List.mem_append.1 hp).elim (h p) (k p)
/-- The cells of the parts that a slice reads. -/
theorem Rs.pairs {w : World} {a : Option Addr} {len cap : Nat} {xs : List RecM} (h : Rs w a len cap xs) : ∃ l : List (RecM × Value), l.map (·.1) = xs ∧ ∀ u, Below w.heap.size w u → Worded u l ∧ Src Try.prog 4 27 (.slice a len cap) len (recRow l) u := by
  have h1 : ∀ i, ∃ v : Value, ∀ hi : i < xs.length, ∃ b off aw lw cw, v = .slice aw lw cw ∧ a = some ⟨b, off, none⟩ ∧ b < w.heap.size ∧ w.cell? ⟨b, off + i * 4, none⟩ = some (wordV xs[i].file) ∧ w.cell? ⟨b, off + i * 4 + 1, none⟩ = some (wordV xs[i].record) ∧
      w.cell? ⟨b, off + i * 4 + 2, none⟩ = some (wordV xs[i].count) ∧ w.cell? ⟨b, off + i * 4 + 3, none⟩ = some v ∧ Ws w aw lw cw xs[i].words := fun i => by
    by_cases hi : i < xs.length
    · obtain ⟨b, off, aw, lw, cw, ha, hlt, q0, q1, q2, q3, hw⟩ := h.hcell i hi
      exact ⟨.slice aw lw cw, fun _ => ⟨b, off, aw, lw, cw, rfl, ha, hlt, q0, q1, q2, q3, hw⟩⟩
    · exact ⟨.bool true, fun hi' => absurd hi' hi⟩
  obtain ⟨f, hf⟩ := Classical.axiomOfChoice h1
  obtain ⟨l, hl⟩ : ∃ l, l = xs.zip ((List.range len).map f) := ⟨_, rfl⟩
  have hfst : l.map (·.1) = xs := by
    rw [hl]
    exact List.map_fst_zip (by rw [List.length_map, List.length_range, h.hlen]; exact Nat.le_refl _)
  have hll : l.length = len := by rw [← h.hlen, ← hfst, List.length_map]
  have hat : ∀ i (hi : i < l.length) (hx : i < xs.length), l[i] = (xs[i], f i) := fun i hi hx => by
    simp only [hl, List.getElem_zip, List.getElem_map, List.getElem_range]
  have hcell : ∀ j (hj : j < (recRow l).length), ∃ b off, a = some ⟨b, off, none⟩ ∧ b < w.heap.size ∧ w.cell? ⟨b, off + j, none⟩ = some (recRow l)[j] := fun j hj => by
    have hj' : j < l.length * 4 := by rw [← recRow_length]; exact hj
    rw [← List.getElem?_eq_getElem hj]
    have hi : j / 4 < l.length := by omega
    have hx : j / 4 < xs.length := by rw [h.hlen, ← hll]; exact hi
    obtain ⟨b, off, aw, lw, cw, e, ha, hlt, q0, q1, q2, q3, _⟩ := hf (j / 4) hx
    obtain ⟨r0, r1, r2, r3⟩ := recRow_at l (j / 4) hi
    rw [hat _ hi hx] at r0 r1 r2 r3
    refine ⟨b, off, ha, hlt, ?_⟩
    clear hj hj'
    obtain ⟨k, hk⟩ : ∃ k, k = j / 4 := ⟨_, rfl⟩
    have hm : j = k * 4 ∨ j = k * 4 + 1 ∨ j = k * 4 + 2 ∨ j = k * 4 + 3 := by omega
    simp only [← hk] at *
    rcases hm with rfl | rfl | rfl | rfl
    · exact q0.trans r0.symm
    · exact q1.trans r1.symm
    · exact q2.trans r2.symm
    · exact q3.trans r3.symm
  have hlen : (recRow l).length = len * 4 := by rw [recRow_length, hll]
  have first : ∀ w' : World, Below w.heap.size w w' → (Builtin.firstCells 4 len (.slice a len cap)).run Try.prog w' = .ok (recRow l).toArray w' := fun w' hw' => by
    cases a with
    | none =>
      have : recRow l = [] := by
        cases hr : recRow l with
        | nil => rfl
        | cons c r =>
          obtain ⟨_, _, hh, _⟩ := hcell 0 (by rw [hr]; simp)
          cases hh
      rw [this]
      exact run_firstCells_none w' 4 len len cap
    | some x =>
      refine run_firstCells_some w' 4 len x len cap (recRow l) hlen fun j v hv => ?_
      have hj : j < (recRow l).length := by
        rcases Nat.lt_or_ge j (recRow l).length with hj | hj
        · exact hj
        · simp [List.getElem?_eq_none hj] at hv
      obtain ⟨b, off, hx, hlt, hc⟩ := hcell j hj
      cases hx
      rw [List.getElem?_eq_getElem hj] at hv
      injection hv with hv
      rw [← hv, ← hc, Addr.add_lit]
      exact hw'.cell (p := ⟨b, off + j, none⟩) hlt
  refine ⟨l, hfst, fun v hv => ⟨fun p hp => ?_, .inl ⟨_, Try.underlying27⟩, fun _ => rfl, first v hv, first v.drew hv.drew, hlen, fun u hu => ?_⟩⟩
  · obtain ⟨i, hi, rfl⟩ := List.mem_iff_getElem.1 hp
    have hx : i < xs.length := by rw [h.hlen, ← hll]; exact hi
    obtain ⟨b, off, aw, lw, cw, e, _, _, _, _, _, _, hw⟩ := hf i hx
    exact ⟨aw, lw, cw, by rw [hat i hi hx]; exact e, by rw [hat i hi hx]; exact hw.mono hv⟩
  · have key : ∀ (l : List (RecM × Value)), (∀ p ∈ l, ∃ aw lw cw, p.2 = .slice aw lw cw) → ∀ u ∈ recRow l, u.oneCell' = true := by
      intro l
      induction l with
      | nil => intro _ u hu; cases hu
      | cons p l ih =>
        intro hp u hu
        rcases List.mem_append.1 (show u ∈ recCells p.1 p.2 ++ recRow l from hu) with hu | hu
        · obtain ⟨aw, lw, cw, e⟩ := hp p List.mem_cons_self
          rw [e] at hu
          simp [recCells] at hu
          rcases hu with rfl | rfl | rfl | rfl <;> simp [Value.oneCell']
        · exact ih (fun q hq => hp q (List.mem_cons_of_mem _ hq)) u hu
    refine key l (fun p hp => ?_) u hu
    obtain ⟨i, hi, rfl⟩ := List.mem_iff_getElem.1 hp
    have hx : i < xs.length := by rw [h.hlen, ← hll]; exact hi
    obtain ⟨b, off, aw, lw, cw, e, _⟩ := hf i hx
    exact ⟨aw, lw, cw, by rw [hat i hi hx]; exact e⟩
theorem OwnC.rsOf {w : World} {B : Nat} {a : Option Addr} {len cap : Nat} {l : List (RecM × Value)} (h : OwnC 4 w B a len cap (recRow l)) (hw : Worded w l) : Rs w a len cap (l.map (·.1)) := by
  have hlen : l.length = len := by have := h.hlen; rw [recRow_length] at this; omega
  refine ⟨by rw [List.length_map, hlen], h.hle, h.hmax, fun i hi => ?_⟩
  have hi' : i < l.length := by simpa using hi
  obtain ⟨aw, lw, cw, h1, h2⟩ := hw l[i] (List.getElem_mem hi')
  obtain ⟨b, off, ha, hBb, hlt, _⟩ := h.room 0 (by have := h.hle; omega)
  have cell : ∀ j v, (recRow l)[j]? = some v → w.cell? ⟨b, off + j, none⟩ = some v := fun j v hj => by
    have hjl : j < (recRow l).length := by
      rcases Nat.lt_or_ge j (recRow l).length with h | h
      · exact h
      · simp [List.getElem?_eq_none h] at hj
    obtain ⟨b', off', ha', _, hcell⟩ := h.hcell j hjl
    rw [ha] at ha'
    cases ha'
    rw [List.getElem?_eq_getElem hjl] at hj
    rw [hcell]
    exact hj
  obtain ⟨r0, r1, r2, r3⟩ := recRow_at l i hi'
  refine ⟨b, off, aw, lw, cw, ha, hlt, ?_, ?_, ?_, ?_, ?_⟩
  · simpa using cell _ _ r0
  · simpa [Nat.add_assoc] using cell _ _ r1
  · simpa [Nat.add_assoc] using cell _ _ r2
  · rw [h1] at r3
    simpa [Nat.add_assoc] using cell _ _ r3
  · simpa using h2

theorem joined_rs {u : World} {B : Nat} {a : Option Addr} {l1 l2 c : Nat} {r1 r2 : List (RecM × Value)} {z1 z2 : List RecM} (ho : OwnC 4 u B a (l1 + l2) c (recRow r1 ++ recRow r2)) (h1 : r1.map (·.1) = z1) (h2 : r2.map (·.1) = z2) (w1 : Worded u r1) (w2 : Worded u r2) : Rs u a (l1 + l2) c (z1 ++ z2) := by
  rw [← recRow_append] at ho
  have h := ho.rsOf (w1.append w2)
  rw [List.map_append, h1, h2] at h
  exact h

/-- 'append' of parts at an operation. -/
theorem wpList_appR {w : World} {ops : Array Oper} {rest : List Oper} {o : Oper} {act : Act} {Q : Exit → Act → World → Prop} (hw' : Region.wanted o (yielded ops act.tmps) = true) (sl x : Operand)
    (ho : o.op = .call { callee := .builtin .append, args := #[sl, x], argTypes := #[27, 27] }) (B : Nat) {a : Option Addr} {len cap : Nat} {cs : List Value} (hs : act.eval sl = .slice a len cap) (hd : OwnC 4 w B a len cap cs)
    {a2 : Option Addr} {m c2 : Nat} {news : List Value} (hx : act.eval x = .slice a2 m c2) (hsrc : Src Try.prog 4 27 (.slice a2 m c2) m news w) (hm : 0 < m) (hsmall : len + m ≤ 1000) (hB : B ≤ w.heap.size)
    (h : ∀ a' cap' w', OwnC 4 w' B a' (len + m) cap' (cs ++ news) → Below B w w' → wpList Try.prog ops Q rest (act.put o.dst (.slice a' (len + m) cap')) w') : wpList Try.prog ops Q (o :: rest) act w := by
  obtain ⟨iR, hiR, hzR, hsR, hyR⟩ := info_parts Try.infoR
  exact wpList_appC 4 hw' sl x 27 27 ho B 43 iR (.agg zRec) Try.underlying27 hiR hzR hsR rfl a len cap cs hs hd _ m news hm (by omega) hx hsrc (by rw [hyR]; omega) (by unfold maxLen; omega) hB fun a' c' w' h1 h2 _ _ _ => h a' c' w' h1 h2

namespace Files
theorem put_parts {dir : Int} (hd : dir = 0 ∨ dir = 1) {l : List RecM} {x : List UInt8} (h : write dir (partsM 21 l) = some x) : l ≠ [] ∧ l.all okP = true ∧ total l ≤ 251 ∧ 9 ≤ total l ∧ x = [UInt8.ofNat (total l)] ++ encMany (enc 2) l := by
  rw [write_put hd] at h
  split at h
  · rename_i hc
    injection h with h
    exact ⟨hc.1, hc.2.1, hc.2.2, total_low l hc.1 hc.2.1, h.symm⟩
  · cases h
/-- Parts stand one behind the other. -/
theorem write_join {dir : Int} (hd : dir = 0 ∨ dir = 1) {a b : List RecM} {x y : List UInt8} (hx : write dir (partsM 21 a) = some x) (hy : write dir (partsM 21 b) = some y) :
    a ≠ [] ∧ b ≠ [] ∧ ∃ A B : List UInt8, x = [UInt8.ofNat A.length] ++ A ∧ y = [UInt8.ofNat B.length] ++ B ∧ 9 ≤ A.length ∧ 9 ≤ B.length ∧ A.length ≤ 251 ∧ B.length ≤ 251 ∧
      write dir (partsM 21 (a ++ b)) = if A.length + B.length ≤ 251 then some ([UInt8.ofNat (A.length + B.length)] ++ A ++ B) else none := by
  obtain ⟨a1, a2, a3, a4, a5⟩ := put_parts hd hx
  obtain ⟨b1, b2, b3, b4, b5⟩ := put_parts hd hy
  refine ⟨a1, b1, encMany (enc 2) a, encMany (enc 2) b, by rw [total_len]; exact a5, by rw [total_len]; exact b5, by rw [total_len]; exact a4, by rw [total_len]; exact b4, by rw [total_len]; exact a3, by rw [total_len]; exact b3, ?_⟩
  rw [write_put hd, total_append, encMany_append, total_len, total_len]
  have h1 : a ++ b ≠ [] := fun e => a1 (List.append_eq_nil_iff.1 e).1
  have h2 : (a ++ b).all okP = true := by rw [List.all_append, a2, b2]; rfl
  by_cases h : total a + total b ≤ 251
  · rw [if_pos h, if_pos ⟨h1, h2, h⟩, List.append_assoc]
  · rw [if_neg h, if_neg (fun e => h e.2.2)]
end Files

end Go.Proofs.Ytolkcohmoalnhaa
