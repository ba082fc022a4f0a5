/-
  Numbers of 16 bits in bytes, on lists.
-/
import Derived.Test.YtolkcohmoalnhaaWords
namespace Go.Proofs.Ytolkcohmoalnhaa
namespace Word

def hiB (x : UInt16) : UInt8 := UInt8.ofNat (x.toNat / 256)
def loB (x : UInt16) : UInt8 := UInt8.ofNat (x.toNat % 256)
def word (a b : UInt8) : UInt16 := UInt16.ofNat (256 * a.toNat + b.toNat)
def putW : List UInt16 → List UInt8
  | [] => []
  | x :: xs => hiB x :: loB x :: putW xs
def pairs : List UInt8 → List UInt16
  | a :: b :: r => word a b :: pairs r
  | _ => []
/-- What Take tells. -/
def takeW (s : List UInt8) : List UInt16 := if s.length % 2 = 1 then [] else pairs s
/-- What Within tells. -/
def within (addr : Nat) (count : Int) : Bool := decide (1 ≤ count ∧ count + addr ≤ 65536)

theorem putW_length (xs : List UInt16) : (putW xs).length = 2 * xs.length := by
  induction xs with
  | nil => rfl
  | cons x xs ih => simp only [putW, List.length_cons, ih]; omega
theorem putW_append (xs ys : List UInt16) : putW (xs ++ ys) = putW xs ++ putW ys := by
  induction xs with
  | nil => rfl
  | cons x xs ih => simp only [putW, List.cons_append, ih]
theorem putW_take (xs : List UInt16) (k : Nat) (h : k < xs.length) : putW (xs.take (k + 1)) = putW (xs.take k) ++ [hiB xs[k], loB xs[k]] := by
  rw [List.take_succ_eq_append_getElem h, putW_append]; rfl
theorem word_hi_lo (x : UInt16) : word (hiB x) (loB x) = x := by
  have hx := word_lt x
  apply UInt16.toNat.inj
  unfold word hiB loB
  rw [UInt16.toNat_ofNat', UInt8.toNat_ofNat', UInt8.toNat_ofNat']
  omega
theorem word_toNat (a b : UInt8) : (word a b).toNat = 256 * a.toNat + b.toNat := by
  have := byte_lt a
  have := byte_lt b
  unfold word
  rw [UInt16.toNat_ofNat']
  omega
theorem hi_word (a b : UInt8) : hiB (word a b) = a := by
  have := byte_lt a
  have := byte_lt b
  apply UInt8.toNat.inj
  unfold hiB
  rw [UInt8.toNat_ofNat', word_toNat]
  omega
theorem lo_word (a b : UInt8) : loB (word a b) = b := by
  have := byte_lt a
  have := byte_lt b
  apply UInt8.toNat.inj
  unfold loB
  rw [UInt8.toNat_ofNat', word_toNat]
  omega
theorem pairs_putW (xs : List UInt16) : pairs (putW xs) = xs := by
  induction xs with
  | nil => rfl
  | cons x xs ih => simp only [putW, pairs, ih, word_hi_lo]
/-- What is put is taken. -/
theorem takeW_putW (xs : List UInt16) : takeW (putW xs) = xs := by
  unfold takeW
  rw [if_neg (by rw [putW_length]; omega), pairs_putW]
theorem putW_pairs : ∀ (s : List UInt8), s.length % 2 = 0 → putW (pairs s) = s
  | [], _ => rfl
  | [_], h => by simp at h
  | a :: b :: r, h => by
    have := putW_pairs r (by simp at h; omega)
    simp only [pairs, putW, this, hi_word, lo_word]
/-- What is taken is put. -/
theorem putW_takeW (s : List UInt8) : putW (takeW s) = if s.length % 2 = 1 then [] else s := by
  unfold takeW
  split
  · rfl
  · exact putW_pairs s (by omega)
theorem pairs_length (s : List UInt8) (h : s.length % 2 = 0) : 2 * (pairs s).length = s.length := by
  rw [← putW_length, putW_pairs s h]
theorem takeW_length (s : List UInt8) : (takeW s).length ≤ s.length := by
  unfold takeW
  split
  · simp
  · have := pairs_length s (by omega); omega
theorem pairs_append (k : Nat) : ∀ (p q : List UInt8), p.length = 2 * k → pairs (p ++ q) = pairs p ++ pairs q := by
  induction k with
  | zero => intro p q h; have : p = [] := List.eq_nil_of_length_eq_zero (by omega); subst this; simp [pairs]
  | succ k ih =>
    intro p q h
    match p, h with
    | [], h => simp at h
    | [_], h => simp at h; omega
    | a :: b :: r, h =>
      have hr : r.length = 2 * k := by simp at h; omega
      simp only [List.cons_append, pairs, ih r q hr]
theorem pairs_more (s : List UInt8) (k : Nat) (h : 2 * k + 1 < s.length) :
    pairs (s.take (2 * (k + 1))) = pairs (s.take (2 * k)) ++ [word (s[2 * k]'(by omega)) s[2 * k + 1]] := by
  have : s.take (2 * (k + 1)) = s.take (2 * k) ++ [s[2 * k], s[2 * k + 1]] := by
    rw [show 2 * (k + 1) = (2 * k + 1) + 1 from rfl, List.take_succ_eq_append_getElem h, List.take_succ_eq_append_getElem (show 2 * k < s.length by omega), List.append_assoc]; rfl
  rw [this, pairs_append k _ _ (by simp; omega)]
  rfl

end Word
end Go.Proofs.Ytolkcohmoalnhaa
