/-
  Bytes in digits, on lists: what a text of bytes is, and what bytes a text has.
-/
import Derived.Test.YtjidokjajkoneaaDoorBase
namespace Go.Proofs.YtjidokjajkoneaaDoor
namespace Hexa

/-- The sign of a number below 16. -/
def hexN (n : Nat) : Nat := if n < 10 then 48 + n else 55 + n
/-- The number of a sign. -/
def digZ (c : Nat) : Int := if 48 ≤ c ∧ c ≤ 57 then (c : Int) - 48 else if 65 ≤ c ∧ c ≤ 70 then (c : Int) - 55 else -1
def hexB (n : Nat) : UInt8 := UInt8.ofNat (hexN n)
def putL : List UInt8 → List UInt8
  | [] => []
  | x :: xs => hexB (x.toNat / 16) :: hexB (x.toNat % 16) :: putL xs
def pairB (a b : Nat) : UInt8 := UInt8.ofNat (16 * (digZ a).toNat + (digZ b).toNat)
/-- Is one of both no sign? -/
def badP (a b : Nat) : Bool := decide (digZ a < 0) || decide (digZ b < 0)
def takeL : List UInt8 → Option (List UInt8)
  | [] => some []
  | [_] => none
  | a :: b :: r => if badP a.toNat b.toNat then none else (takeL r).map (pairB a.toNat b.toNat :: ·)

theorem hexN_lt (n : Nat) (h : n < 16) : hexN n < 128 := by unfold hexN; split <;> omega
theorem digZ_hexN (n : Nat) (h : n < 16) : digZ (hexN n) = n := by unfold digZ hexN; split <;> split <;> (try split) <;> omega
theorem digZ_lt (c : Nat) : digZ c < 16 := by unfold digZ; split <;> (try split) <;> omega
theorem digZ_ge (c : Nat) : -1 ≤ digZ c := by unfold digZ; split <;> (try split) <;> omega
theorem hexN_digZ (c : Nat) (h : 0 ≤ digZ c) : hexN (digZ c).toNat = c := by
  unfold digZ at h ⊢
  by_cases h1 : 48 ≤ c ∧ c ≤ 57
  · rw [if_pos h1]; unfold hexN; split <;> omega
  · rw [if_neg h1] at h ⊢
    by_cases h2 : 65 ≤ c ∧ c ≤ 70
    · rw [if_pos h2]; unfold hexN; split <;> omega
    · rw [if_neg h2] at h; omega
theorem digZ_of (c n : Nat) (hn : n < 16) (h : hexN n = c) : digZ c = n := by rw [← h]; exact digZ_hexN n hn
theorem digZ_none (c : Nat) (h : ∀ j, j < 16 → hexN j ≠ c) : digZ c = -1 := by
  have h0 := digZ_ge c
  have h1 := digZ_lt c
  by_cases hz : 0 ≤ digZ c
  · exact absurd (hexN_digZ c hz) (h _ (by omega))
  · omega
theorem hexB_toNat (n : Nat) (h : n < 16) : (hexB n).toNat = hexN n := by
  unfold hexB; rw [UInt8.toNat_ofNat']; have := hexN_lt n h; omega

theorem putL_length (xs : List UInt8) : (putL xs).length = 2 * xs.length := by
  induction xs with
  | nil => rfl
  | cons x xs ih => simp only [putL, List.length_cons, ih]; omega
theorem putL_append (xs ys : List UInt8) : putL (xs ++ ys) = putL xs ++ putL ys := by
  induction xs with
  | nil => rfl
  | cons x xs ih => simp only [putL, List.cons_append, ih]
theorem putL_take (xs : List UInt8) (k : Nat) (h : k < xs.length) : putL (xs.take (k + 1)) = putL (xs.take k) ++ [hexB (xs[k].toNat / 16), hexB (xs[k].toNat % 16)] := by
  rw [List.take_succ_eq_append_getElem h, putL_append]; rfl

theorem pairB_toNat (a b : Nat) : (pairB a b).toNat = 16 * (digZ a).toNat + (digZ b).toNat := by
  unfold pairB; rw [UInt8.toNat_ofNat']
  have := digZ_lt a; have := digZ_lt b
  omega
theorem badP_false {a b : Nat} : badP a b = false ↔ 0 ≤ digZ a ∧ 0 ≤ digZ b := by
  unfold badP; simp
theorem badP_hex (m n : Nat) (hm : m < 16) (hn : n < 16) : badP (hexN m) (hexN n) = false := by
  rw [badP_false, digZ_hexN m hm, digZ_hexN n hn]; omega

/-- What is put is taken. -/
theorem takeL_putL (xs : List UInt8) : takeL (putL xs) = some xs := by
  induction xs with
  | nil => rfl
  | cons x xs ih =>
    have hx := byte_lt x
    have h1 : x.toNat / 16 < 16 := by omega
    have h2 : x.toNat % 16 < 16 := by omega
    simp only [putL, takeL, hexB_toNat _ h1, hexB_toNat _ h2, badP_hex _ _ h1 h2, ih, Option.map_some]
    have : pairB (hexN (x.toNat / 16)) (hexN (x.toNat % 16)) = x := by
      apply UInt8.toNat.inj
      rw [pairB_toNat _ _, digZ_hexN _ h1, digZ_hexN _ h2]
      omega
    rw [this]; rfl
/-- What is taken is put. -/
theorem putL_takeL : ∀ (s ys : List UInt8), takeL s = some ys → putL ys = s
  | [], ys, h => by cases h; rfl
  | [_], ys, h => by cases h
  | a :: b :: r, ys, h => by
    simp only [takeL] at h
    by_cases hb : badP a.toNat b.toNat = true
    · simp [hb] at h
    · have hb' : badP a.toNat b.toNat = false := by simpa using hb
      simp only [hb', Bool.false_eq_true, if_false, Option.map_eq_some_iff] at h
      obtain ⟨zs, hz, rfl⟩ := h
      have := putL_takeL r zs hz
      obtain ⟨h1, h2⟩ := badP_false.1 hb'
      have l1 := digZ_lt a.toNat
      have l2 := digZ_lt b.toNat
      simp only [putL, this, pairB_toNat _ _]
      have e1 : (16 * (digZ a.toNat).toNat + (digZ b.toNat).toNat) / 16 = (digZ a.toNat).toNat := by omega
      have e2 : (16 * (digZ a.toNat).toNat + (digZ b.toNat).toNat) % 16 = (digZ b.toNat).toNat := by omega
      rw [e1, e2]
      unfold hexB
      rw [hexN_digZ _ h1, hexN_digZ _ h2]
      simp
theorem takeL_length (s ys : List UInt8) (h : takeL s = some ys) : s.length = 2 * ys.length := by
  rw [← putL_takeL s ys h, putL_length]
/-- Pairs behind pairs. -/
theorem takeL_append (k : Nat) : ∀ (p q : List UInt8), p.length = 2 * k → takeL (p ++ q) = (takeL p).bind fun ys => (takeL q).map (ys ++ ·) := by
  induction k with
  | zero => intro p q h; have : p = [] := List.eq_nil_of_length_eq_zero (by omega); subst this; simp [takeL]
  | succ k ih =>
    intro p q h
    match p, h with
    | [], h => simp at h
    | [_], h => simp at h; omega
    | a :: b :: r, h =>
      have hr : r.length = 2 * k := by simp at h; omega
      simp only [List.cons_append, takeL, ih r q hr]
      by_cases hb : badP a.toNat b.toNat = true
      · simp [hb]
      · simp only [hb, Bool.false_eq_true, if_false]
        cases takeL r <;> simp
        cases takeL q <;> simp
/-- An odd number of signs. -/
theorem takeL_odd (s : List UInt8) (h : s.length % 2 = 1) : takeL s = none := by
  cases e : takeL s with
  | none => rfl
  | some ys => have := takeL_length s ys e; omega
theorem split2 (s : List UInt8) (k : Nat) (h : k + 1 < s.length) : s = s.take k ++ s[k] :: s[k + 1] :: s.drop (k + 2) := by
  conv => lhs; rw [← List.take_append_drop k s, List.drop_eq_getElem_cons (show k < s.length by omega), List.drop_eq_getElem_cons h]
theorem takeL_bad (s : List UInt8) (k : Nat) (h : 2 * k + 1 < s.length) (hb : badP (s[2 * k]'(by omega)).toNat s[2 * k + 1].toNat = true) : takeL s = none := by
  rw [split2 s (2 * k) h, takeL_append k _ _ (by simp; omega)]
  simp [takeL, hb]
theorem takeL_more (s ys : List UInt8) (k : Nat) (h : 2 * k + 1 < s.length) (hy : takeL (s.take (2 * k)) = some ys) (hb : badP (s[2 * k]'(by omega)).toNat s[2 * k + 1].toNat = false) :
    takeL (s.take (2 * k + 2)) = some (ys ++ [pairB (s[2 * k]'(by omega)).toNat s[2 * k + 1].toNat]) := by
  have : s.take (2 * k + 2) = s.take (2 * k) ++ [s[2 * k], s[2 * k + 1]] := by
    rw [show 2 * k + 2 = (2 * k + 1) + 1 from rfl, List.take_succ_eq_append_getElem h, List.take_succ_eq_append_getElem (show 2 * k < s.length by omega), List.append_assoc]; rfl
  rw [this, takeL_append k _ _ (by simp; omega), hy]
  simp [takeL, hb]

end Hexa
end Go.Proofs.YtjidokjajkoneaaDoor
