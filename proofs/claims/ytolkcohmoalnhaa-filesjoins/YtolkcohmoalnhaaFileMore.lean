/-
  Package files: what is written of parts that are told one by one; lists of parts that came in.
-/
import Derived.Test.YtolkcohmoalnhaaFileFacts
namespace Go.Proofs.Ytolkcohmoalnhaa
open Go.RowKit
open Word Bits Cursor

namespace Files
theorem write_ask (f r c : UInt16) : write 0 (partsM 20 [⟨f, r, c, []⟩]) = if 0 < f.toNat ∧ r.toNat ≤ 9999 ∧ 0 < c.toNat ∧ c.toNat ≤ 121 then some ([7, 6] ++ Word.putW [f, r, c]) else none := by
  have h := write_form (dir := 0) (f := 0) (m := partsM 20 [⟨f, r, c, []⟩]) rfl (p := 0 < f.toNat ∧ r.toNat ≤ 9999 ∧ 0 < c.toNat ∧ c.toNat ≤ 121) (by
    constructor
    · rintro ⟨x, e, _, h2, _⟩
      have e1 : [⟨f, r, c, []⟩] = x.2 := congrArg MsgM.recs e
      rw [← e1] at h2
      have h3 : valid 0 0 ⟨f, r, c, []⟩ := h2.1
      obtain ⟨q1, q2, q3, _, q5⟩ := h3
      unfold step at q5
      exact ⟨q1, q2, q3, by simp only at q5; omega⟩
    · rintro ⟨q1, q2, q3, q4⟩
      refine ⟨(7, [⟨f, r, c, []⟩]), rfl, by show ruleN 0 7 = true; decide, ⟨⟨q1, q2, q3, rfl, ?_⟩, trivial⟩, rfl⟩
      unfold step
      simp only
      omega)
  rw [h]
  rfl
/-! parts that are written -/
def okP (x : RecM) : Bool := decide (x.count.toNat = x.words.length) && decide (0 < x.count.toNat) && decide (0 < x.file.toNat) && decide (x.record.toNat ≤ 9999)
def total : List RecM → Nat
  | [] => 0
  | x :: l => 7 + 2 * x.words.length + total l
theorem total_len (l : List RecM) : (encMany (enc 2) l).length = total l := by
  induction l with
  | nil => rfl
  | cons x l ih =>
    rw [encMany, List.length_append, ih]
    show ([6] ++ Word.putW [x.file, x.record, x.count] ++ Word.putW x.words).length + total l = 7 + 2 * x.words.length + total l
    rw [List.length_append, List.length_append, putW_length, putW_length]
    simp only [List.length_cons, List.length_nil]
theorem total_append (l r : List RecM) : total (l ++ r) = total l + total r := by
  induction l with
  | nil => simp [total]
  | cons x l ih => rw [List.cons_append, total, total, ih]; omega
theorem total_take (l : List RecM) (k : Nat) (h : k < l.length) : total (l.take (k + 1)) = total (l.take k) + (7 + 2 * l[k].words.length) := by
  rw [List.take_succ_eq_append_getElem h, total_append]
  rfl
theorem total_le : ∀ (l : List RecM), (∀ x ∈ l, x.words.length ≤ 300) → total l ≤ 607 * l.length
  | [], _ => Nat.le_refl _
  | x :: l, h => by
    have h1 := total_le l (fun y hy => h y (List.mem_cons_of_mem _ hy))
    have h2 := h x List.mem_cons_self
    rw [total, List.length_cons]
    omega
theorem okMany_put : ∀ (l : List RecM) (sum : Nat), okMany step (valid 2) sum l ↔ l.all okP = true
  | [], _ => by simp [okMany]
  | x :: l, sum => by
    rw [List.all_cons, Bool.and_eq_true, ← okMany_put l (sum + step x)]
    refine and_congr ?_ Iff.rfl
    unfold okP
    simp only [Bool.and_eq_true, decide_eq_true_eq]
    show (0 < x.file.toNat ∧ x.record.toNat ≤ 9999 ∧ 0 < x.count.toNat ∧ x.words.length = x.count.toNat) ↔ _
    constructor
    · rintro ⟨h1, h2, h3, h4⟩
      exact ⟨⟨⟨h4.symm, h3⟩, h1⟩, h2⟩
    · rintro ⟨⟨⟨h1, h2⟩, h3⟩, h4⟩
      exact ⟨h3, h4, h2, h1.symm⟩
theorem total_low : ∀ (l : List RecM), l ≠ [] → l.all okP = true → 9 ≤ total l
  | [], h, _ => absurd rfl h
  | x :: l, _, h => by
    rw [List.all_cons, Bool.and_eq_true] at h
    have h1 := h.1
    unfold okP at h1
    simp only [Bool.and_eq_true, decide_eq_true_eq] at h1
    rw [total]
    omega
theorem write_put {dir : Int} (hd : dir = 0 ∨ dir = 1) (l : List RecM) : write dir (partsM 21 l) = if l ≠ [] ∧ l.all okP = true ∧ total l ≤ 251 then some ([UInt8.ofNat (total l)] ++ encMany (enc 2) l) else none := by
  have h := write_form (dir := dir) (f := 2) (m := partsM 21 l) (by rcases hd with rfl | rfl <;> rfl) (p := l ≠ [] ∧ l.all okP = true ∧ total l ≤ 251) (by
    constructor
    · rintro ⟨x, e, h1, h2, h3⟩
      have e1 : l = x.2 := congrArg MsgM.recs e
      rw [← e1] at h2 h3
      rw [total_len] at h3
      have h4 : ruleN 2 x.1.toNat = true := h1
      unfold ruleN at h4
      simp only [Bool.and_eq_true, decide_eq_true_eq] at h4
      refine ⟨fun e2 => ?_, (okMany_put l 0).1 h2, by omega⟩
      rw [e2] at h3
      simp [total] at h3
      omega
    · rintro ⟨h1, h2, h3⟩
      have h9 := total_low l h1 h2
      have hn : (UInt8.ofNat (total l)).toNat = total l := by rw [UInt8.toNat_ofNat', Nat.mod_eq_of_lt (by omega)]
      refine ⟨(UInt8.ofNat (total l), l), rfl, ?_, (okMany_put l 0).2 h2, by rw [total_len]; exact hn.symm⟩
      show ruleN 2 (UInt8.ofNat (total l)).toNat = true
      rw [hn]
      unfold ruleN
      simp only [Bool.and_eq_true, decide_eq_true_eq]
      exact ⟨h9, h3⟩)
  rw [h]
  show (if _ then some ([UInt8.ofNat (encMany (enc 2) l).length] ++ encMany (enc 2) l) else none) = _
  rw [total_len]
theorem put_some {dir : Int} (hd : dir = 0 ∨ dir = 1) (l : List RecM) : (write dir (partsM 21 l)).isSome = (decide (0 < l.length) && l.all okP && decide (total l ≤ 251)) := by
  rw [write_put hd]
  have h0 : l ≠ [] ↔ 0 < l.length := List.length_pos_iff.symm
  by_cases h : l ≠ [] ∧ l.all okP = true ∧ total l ≤ 251
  · rw [if_pos h]
    simp [h.2.1, h.2.2, h0.1 h.1]
  · rw [if_neg h]
    symm
    rw [Option.isSome_none, Bool.eq_false_iff]
    intro hc
    simp only [Bool.and_eq_true, decide_eq_true_eq] at hc
    exact h ⟨h0.2 hc.1.1, hc.1.2, hc.2⟩
theorem put_both (l : List RecM) : write 1 (partsM 21 l) = write 0 (partsM 21 l) := by rw [write_put (.inl rfl), write_put (.inr rfl)]
theorem errW_eq (R : Option (List UInt8)) : (errW R == 0) = R.isSome := by cases R <;> rfl
end Files
theorem all_take (p : RecM → Bool) (l : List RecM) (k : Nat) (h : k < l.length) : (l.take (k + 1)).all p = ((l.take k).all p && p l[k]) := by
  rw [List.take_succ_eq_append_getElem h, List.all_append]
  simp
theorem parts_few {c : UInt8} {l : List RecM} (h : (partsM c l).few = true) : l.length ≤ 100 ∧ ∀ x ∈ l, x.words.length ≤ 300 := ⟨(MsgM.small_of h).recs, (MsgM.small_of h).part⟩
theorem Rs.ofTrod {H : Type} {enc : TypeId × Value → H} {w : World} {base : Nat} {held : Bool} {fuel : Nat} {a : Option Addr} {len cap : Nat} {x : DataW H × List MemPlace}
    (h : DataW.trod enc Try.prog w base (fun _ => true) held fuel 27 [.slice a len cap] = some x) : ∃ xs, Rs w a len cap xs := by
  obtain ⟨a', l', c', xs, e, hr⟩ := recs_trod h
  injection e with e1 e2 e3
  subst e1 e2 e3
  exact ⟨xs, hr⟩

end Go.Proofs.Ytolkcohmoalnhaa
