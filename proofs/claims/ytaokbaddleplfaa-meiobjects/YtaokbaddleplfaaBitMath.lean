/-
  Bits in bytes, on lists.
-/
import Derived.Test.YtaokbaddleplfaaJoinA
namespace Go.Proofs.Ytaokbaddleplfaa
namespace Bits

/-- The number whose bits below 'k' are those of 'f'. -/
def val (f : Nat → Bool) : Nat → Nat
  | 0 => 0
  | k + 1 => val f k + (if f k then 2 ^ k else 0)
theorem val_lt (f : Nat → Bool) (k : Nat) : val f k < 2 ^ k := by
  induction k with
  | zero => simp [val]
  | succ k ih => simp only [val, Nat.pow_succ]; split <;> omega
theorem val_bit (f : Nat → Bool) (k i : Nat) : (val f k).testBit i = (decide (i < k) && f i) := by
  induction k with
  | zero => simp [val]
  | succ k ih =>
    have hlt := val_lt f k
    simp only [val]
    by_cases hk : f k = true
    · rw [if_pos hk, Nat.add_comm]
      by_cases hi : i = k
      · subst hi
        rw [Nat.testBit_two_pow_add_eq, Nat.testBit_lt_two_pow hlt]
        simp [hk]
      · by_cases hik : i < k
        · rw [Nat.testBit_two_pow_add_gt hik, ih]
          simp [hik, show i < k + 1 by omega]
        · have h1 : 2 ^ k + val f k < 2 ^ i := by
            have : 2 ^ (k + 1) ≤ 2 ^ i := Nat.pow_le_pow_right (by omega) (by omega)
            rw [Nat.pow_succ] at this
            omega
          rw [Nat.testBit_lt_two_pow h1]
          simp [show ¬ i < k + 1 by omega]
    · rw [if_neg hk, Nat.add_zero, ih]
      by_cases hi : i = k
      · subst hi; simp [hk]
      · by_cases hik : i < k
        · simp [hik, show i < k + 1 by omega]
        · simp [hik, show ¬ i < k + 1 by omega]
theorem val_congr {f g : Nat → Bool} {k : Nat} (h : ∀ i, i < k → f i = g i) : val f k = val g k := by
  apply Nat.eq_of_testBit_eq
  intro i
  rw [val_bit, val_bit]
  by_cases hi : i < k
  · simp [hi, h i hi]
  · simp [hi]
theorem val_of (n k : Nat) (h : n < 2 ^ k) : val (fun i => n.testBit i) k = n := by
  apply Nat.eq_of_testBit_eq
  intro i
  rw [val_bit]
  by_cases hi : i < k
  · simp [hi]
  · have : n.testBit i = false := Nat.testBit_lt_two_pow (Nat.lt_of_lt_of_le h (Nat.pow_le_pow_right (by omega) (by omega)))
    simp [this]

def byteOf (f : Nat → Bool) : UInt8 := UInt8.ofNat (val f 8)
theorem byteOf_nat (f : Nat → Bool) : (byteOf f).toNat = val f 8 := by
  have := val_lt f 8
  unfold byteOf
  rw [UInt8.toNat_ofNat']
  omega
theorem byteOf_bit (f : Nat → Bool) (i : Nat) : (byteOf f).toNat.testBit i = (decide (i < 8) && f i) := by rw [byteOf_nat, val_bit]
theorem byte_ext {a b : UInt8} (h : ∀ i, i < 8 → a.toNat.testBit i = b.toNat.testBit i) : a = b := by
  apply UInt8.toNat.inj
  rw [← val_of a.toNat 8 (byte_lt a), ← val_of b.toNat 8 (byte_lt b)]
  exact val_congr h

/-- How many bytes. -/
def many (n : Nat) : Nat := (n + 7) / 8
def manyI (n : Int) : Int := if n < 1 then 0 else (n - 1) / 8 + 1
theorem manyI_nat (n : Nat) : manyI n = (many n : Int) := by unfold manyI many; split <;> omega

/-- What Pack tells. -/
def packB (l : List Bool) : List UInt8 := (List.range (many l.length)).map fun j => byteOf fun i => l.getD (8 * j + i) false
/-- Of the first 'k' bits alone. -/
def packTo (l : List Bool) (k : Nat) : List UInt8 := (List.range (many l.length)).map fun j => byteOf fun i => decide (8 * j + i < k) && l.getD (8 * j + i) false

theorem packB_length (l : List Bool) : (packB l).length = many l.length := by simp [packB]
theorem packTo_length (l : List Bool) (k : Nat) : (packTo l k).length = many l.length := by simp [packTo]
theorem packB_get (l : List Bool) (j : Nat) (h : j < (packB l).length) : (packB l)[j] = byteOf fun i => l.getD (8 * j + i) false := by simp [packB]
theorem packTo_get (l : List Bool) (k j : Nat) (h : j < (packTo l k).length) : (packTo l k)[j] = byteOf fun i => decide (8 * j + i < k) && l.getD (8 * j + i) false := by simp [packTo]
theorem packTo_zero (l : List Bool) : packTo l 0 = List.replicate (many l.length) 0 := by
  apply List.ext_getElem
  · simp [packTo_length]
  · intro j h1 h2
    rw [packTo_get, List.getElem_replicate]
    apply byte_ext
    intro i _
    rw [byteOf_bit]
    simp
theorem packTo_all (l : List Bool) : packTo l l.length = packB l := by
  apply List.ext_getElem
  · simp [packTo_length, packB_length]
  · intro j h1 h2
    rw [packTo_get, packB_get]
    apply byte_ext
    intro i _
    rw [byteOf_bit, byteOf_bit]
    by_cases h : 8 * j + i < l.length
    · simp [h]
    · simp [List.getD_eq_getElem?_getD, List.getElem?_eq_none (show l.length ≤ 8 * j + i by omega)]
theorem packTo_false (l : List Bool) (k : Nat) (hk : k < l.length) (h : l[k] = false) : packTo l (k + 1) = packTo l k := by
  apply List.ext_getElem
  · simp [packTo_length]
  · intro j h1 h2
    rw [packTo_get, packTo_get]
    apply byte_ext
    intro i _
    rw [byteOf_bit, byteOf_bit]
    by_cases he : 8 * j + i = k
    · have : l.getD (8 * j + i) false = false := by rw [he, List.getD_eq_getElem?_getD, List.getElem?_eq_getElem hk]; simpa using h
      simp only [this, Bool.and_false]
    · by_cases hlt : 8 * j + i < k
      · simp [hlt, show 8 * j + i < k + 1 by omega]
      · simp [hlt, show ¬ 8 * j + i < k + 1 by omega]
theorem packTo_true (l : List Bool) (k : Nat) (hk : k < l.length) (h : l[k] = true) (h8 : k / 8 < (packTo l k).length) :
    packTo l (k + 1) = (packTo l k).set (k / 8) (UInt8.ofNat ((packTo l k)[k / 8].toNat ||| 2 ^ (k % 8))) := by
  have hlt2 : (packTo l k)[k / 8].toNat ||| 2 ^ (k % 8) < 256 :=
    Nat.or_lt_two_pow (n := 8) (byte_lt _) (Nat.pow_lt_pow_right (by omega) (by omega))
  apply List.ext_getElem
  · simp [packTo_length]
  · intro j h1 h2
    rw [List.getElem_set]
    split
    · rename_i hj
      subst hj
      apply byte_ext
      intro i hi
      rw [UInt8.toNat_ofNat', Nat.mod_eq_of_lt (by simpa using hlt2), Nat.testBit_or, packTo_get, packTo_get, byteOf_bit, byteOf_bit, Nat.testBit_two_pow]
      by_cases he : i = k % 8
      · have e1 : 8 * (k / 8) + i = k := by omega
        have : l.getD (8 * (k / 8) + i) false = true := by rw [e1, List.getD_eq_getElem?_getD, List.getElem?_eq_getElem hk]; simpa using h
        rw [this, e1, he]
        simp [Nat.mod_lt]
      · have e1 : 8 * (k / 8) + i ≠ k := by omega
        by_cases hlt : 8 * (k / 8) + i < k
        · simp [hlt, show 8 * (k / 8) + i < k + 1 by omega, show ¬ k % 8 = i by omega]
        · simp [hlt, show ¬ 8 * (k / 8) + i < k + 1 by omega, show ¬ k % 8 = i by omega]
    · rename_i hj
      rw [packTo_get, packTo_get]
      apply byte_ext
      intro i hi
      rw [byteOf_bit, byteOf_bit]
      have e1 : 8 * j + i ≠ k := by omega
      by_cases hlt : 8 * j + i < k
      · simp [hlt, show 8 * j + i < k + 1 by omega]
      · simp [hlt, show ¬ 8 * j + i < k + 1 by omega]

/-- What Unpack reads. -/
def bitAt (xs : List UInt8) (i : Nat) : Bool := (xs.getD (i / 8) 0).toNat.testBit (i % 8)
def unpackL (xs : List UInt8) (n : Nat) : List Bool := (List.range n).map (bitAt xs)
def unpackTo (xs : List UInt8) (n k : Nat) : List Bool := (List.range n).map fun i => decide (i < k) && bitAt xs i
theorem unpackL_length (xs : List UInt8) (n : Nat) : (unpackL xs n).length = n := by simp [unpackL]
theorem unpackTo_length (xs : List UInt8) (n k : Nat) : (unpackTo xs n k).length = n := by simp [unpackTo]
theorem unpackTo_zero (xs : List UInt8) (n : Nat) : unpackTo xs n 0 = List.replicate n false := by
  apply List.ext_getElem
  · simp [unpackTo]
  · intro j h1 h2
    simp [unpackTo]
theorem unpackTo_all (xs : List UInt8) (n : Nat) : unpackTo xs n n = unpackL xs n := by
  apply List.ext_getElem
  · simp [unpackTo, unpackL]
  · intro j h1 h2
    have : j < n := by simpa [unpackTo] using h1
    simp [unpackTo, unpackL, this]
theorem unpackTo_more (xs : List UInt8) (n k : Nat) : unpackTo xs n (k + 1) = (unpackTo xs n k).set k (bitAt xs k) := by
  apply List.ext_getElem
  · simp [unpackTo]
  · intro j h1 h2
    rw [List.getElem_set]
    split
    · rename_i hj; subst hj; simp [unpackTo]
    · by_cases hlt : j < k
      · simp [unpackTo, hlt, show j < k + 1 by omega]
      · simp [unpackTo, hlt, show ¬ j < k + 1 by omega]
theorem unpackL_more (xs : List UInt8) (k : Nat) : unpackL xs (k + 1) = unpackL xs k ++ [bitAt xs k] := by
  simp [unpackL, List.range_succ]
theorem bitAt_div (xs : List UInt8) (i : Nat) : bitAt xs i = decide ((xs.getD (i / 8) 0).toNat / 2 ^ (i % 8) % 2 = 1) := by
  unfold bitAt; exact Nat.testBit_eq_decide_div_mod_eq

/-- No bit beyond 'n'. -/
def cleanB (xs : List UInt8) (n : Nat) : Bool := decide (n % 8 = 0) || decide ((xs.getD (xs.length - 1) 0).toNat / 2 ^ (n % 8) = 0)
def good (xs : List UInt8) (n : Int) : Bool := decide (0 ≤ n) && decide ((xs.length : Int) = manyI n) && cleanB xs n.toNat
def outU (xs : List UInt8) (n : Int) : List Bool := if good xs n then unpackL xs n.toNat else []

theorem div_zero_of_bits (x m : Nat) (h : ∀ i, m ≤ i → x.testBit i = false) : x / 2 ^ m = 0 := by
  apply Nat.eq_of_testBit_eq
  intro i
  rw [Nat.testBit_div_two_pow, h _ (by omega)]
  simp
theorem bits_of_div_zero (x m i : Nat) (h : x / 2 ^ m = 0) (hi : m ≤ i) : x.testBit i = false := by
  have := Nat.testBit_div_two_pow (x := x) (n := m) (i - m)
  rw [h, show i - m + m = i by omega] at this
  simpa using this.symm

theorem bitAt_packB (l : List Bool) (i : Nat) (h : i < l.length) : bitAt (packB l) i = l[i] := by
  have hj : i / 8 < (packB l).length := by rw [packB_length]; unfold many; omega
  unfold bitAt
  rw [List.getD_eq_getElem?_getD, List.getElem?_eq_getElem hj, Option.getD_some, packB_get, byteOf_bit, show 8 * (i / 8) + i % 8 = i by omega, List.getD_eq_getElem?_getD, List.getElem?_eq_getElem h]
  simp; omega
theorem unpack_pack (l : List Bool) : unpackL (packB l) l.length = l := by
  apply List.ext_getElem
  · simp [unpackL]
  · intro i h1 h2
    rw [← bitAt_packB l i h2]
    simp [unpackL]
theorem clean_pack (l : List Bool) : cleanB (packB l) l.length = true := by
  unfold cleanB
  by_cases h : l.length % 8 = 0
  · simp [h]
  · have hj : (packB l).length - 1 < (packB l).length := by rw [packB_length]; unfold many; omega
    have : (packB l).length - 1 = l.length / 8 := by rw [packB_length]; unfold many; omega
    rw [List.getD_eq_getElem?_getD, List.getElem?_eq_getElem hj, Option.getD_some, packB_get]
    rw [div_zero_of_bits _ _ fun i hi => by
      rw [byteOf_bit, List.getD_eq_getElem?_getD, List.getElem?_eq_none (by rw [this]; omega)]; simp]
    simp
theorem good_pack (l : List Bool) : good (packB l) l.length = true := by
  unfold good
  rw [packB_length, manyI_nat]
  simp [clean_pack]
theorem outU_pack (l : List Bool) : outU (packB l) l.length = l := by
  unfold outU
  rw [if_pos (good_pack l)]
  simpa using unpack_pack l
theorem pack_unpack (xs : List UInt8) (n : Nat) (hl : xs.length = many n) (hc : cleanB xs n = true) : packB (unpackL xs n) = xs := by
  apply List.ext_getElem
  · rw [packB_length, unpackL_length, hl]
  · intro j h1 h2
    rw [packB_get]
    apply byte_ext
    intro i hi
    rw [byteOf_bit]
    by_cases hlt : 8 * j + i < n
    · rw [List.getD_eq_getElem?_getD, List.getElem?_eq_getElem (by rw [unpackL_length]; exact hlt)]
      simp only [unpackL, List.getElem_map, List.getElem_range, Option.getD_some, bitAt, show (8 * j + i) / 8 = j by omega, show (8 * j + i) % 8 = i by omega]
      rw [List.getD_eq_getElem?_getD, List.getElem?_eq_getElem h2]
      simp [hi]
    · rw [List.getD_eq_getElem?_getD, List.getElem?_eq_none (by rw [unpackL_length]; omega)]
      simp only [Option.getD_none, Bool.and_false]
      symm
      have hm : n % 8 ≠ 0 := by unfold many at hl; omega
      have hj : xs.length - 1 = j := by unfold many at hl; omega
      unfold cleanB at hc
      rw [hj, List.getD_eq_getElem?_getD, List.getElem?_eq_getElem h2] at hc
      simp [hm] at hc
      exact bits_of_div_zero _ (n % 8) i (Nat.div_eq_of_lt hc) (by unfold many at hl; omega)
/-- What the document's own Unpack asks, and what Unpack asks, is one. -/
theorem good_iff (xs : List UInt8) (n : Nat) : good xs n = decide (packB (unpackL xs n) = xs) := by
  rw [Bool.eq_iff_iff]
  unfold good
  rw [manyI_nat]
  simp only [Bool.and_eq_true, decide_eq_true_eq, Int.toNat_natCast]
  constructor
  · rintro ⟨⟨_, h1⟩, h2⟩
    exact pack_unpack xs n (by omega) h2
  · intro h
    have hl : xs.length = many n := by rw [← h, packB_length, unpackL_length]
    refine ⟨⟨by omega, by omega⟩, ?_⟩
    have := clean_pack (unpackL xs n)
    rw [h, unpackL_length] at this
    exact this

/-- Bits behind eights. -/
theorem packB_append (a b : List Bool) (m : Nat) (h : a.length = 8 * m) : packB (a ++ b) = packB a ++ packB b := by
  apply List.ext_getElem
  · simp only [packB_length, List.length_append, many]; omega
  · intro j h1 h2
    rw [packB_get]
    by_cases hj : j < m
    · rw [List.getElem_append_left (by rw [packB_length]; unfold many; omega), packB_get]
      apply byte_ext
      intro i hi
      rw [byteOf_bit, byteOf_bit, List.getD_eq_getElem?_getD, List.getElem?_append_left (by omega), List.getD_eq_getElem?_getD]
    · have hl : (packB a).length = m := by rw [packB_length]; unfold many; omega
      rw [List.getElem_append_right (by omega), packB_get]
      apply byte_ext
      intro i hi
      rw [byteOf_bit, byteOf_bit, List.getD_eq_getElem?_getD, List.getElem?_append_right (by omega), List.getD_eq_getElem?_getD, hl, h, show 8 * j + i - 8 * m = 8 * (j - m) + i by omega]
/-- One bit that is another one. -/
theorem packB_set (l : List Bool) (k : Nat) (hk : k < l.length) (j : Nat) (h1 : j < (packB l).length) (h2 : j < (packB (l.set k (!l[k]))).length) :
    decide ((packB l)[j] = (packB (l.set k (!l[k])))[j]) = !decide (j = k / 8) := by
  by_cases hj : j = k / 8
  · have : (packB l)[j] ≠ (packB (l.set k (!l[k])))[j] := by
      intro e
      have := congrArg (fun x => x.toNat.testBit (k % 8)) e
      simp only [packB_get, byteOf_bit, hj, show 8 * (k / 8) + k % 8 = k by omega, List.getD_eq_getElem?_getD] at this
      rw [List.getElem?_eq_getElem hk, List.getElem?_eq_getElem (by simpa using hk)] at this
      simp only [Option.getD_some, List.getElem_set_self, show k % 8 < 8 by omega, decide_true, Bool.true_and] at this
      cases l[k] <;> simp at this
    rw [decide_eq_false this, hj]
    simp
  · have : (packB l)[j] = (packB (l.set k (!l[k])))[j] := by
      rw [packB_get, packB_get]
      apply byte_ext
      intro i hi
      rw [byteOf_bit, byteOf_bit, List.getD_eq_getElem?_getD, List.getD_eq_getElem?_getD, List.getElem?_set_ne (by omega)]
    simp [this, hj]
/-- A bit beyond the end is refused. -/
theorem not_good (xs : List UInt8) (n : Nat) (x : UInt8) (h8 : n % 8 ≠ 0) (hl : 0 < xs.length) (hx : 128 ≤ x.toNat) : good (xs.set (xs.length - 1) x) n = false := by
  have : cleanB (xs.set (xs.length - 1) x) n = false := by
    unfold cleanB
    rw [List.length_set, List.getD_eq_getElem?_getD, List.getElem?_set_self (by omega), Option.getD_some]
    have h7 : 2 ^ (n % 8) ≤ 2 ^ 7 := Nat.pow_le_pow_right (by omega) (by omega)
    have : ¬ x.toNat / 2 ^ (n % 8) = 0 := by
      rw [Nat.div_eq_zero_iff]
      have : 0 < 2 ^ (n % 8) := Nat.two_pow_pos _
      omega
    simp only [this, h8, decide_false, Bool.or_false]
  unfold good
  rw [Int.toNat_natCast, this, Bool.and_false]

end Bits
end Go.Proofs.Ytaokbaddleplfaa
