/-
  Texts that are cut and joined; one sign that is no digit.
-/
import Derived.Test.YtjidokjajkoneaaDoorHexaAwake
import Derived.Test.YtjidokjajkoneaaDoorHexaRef
namespace Go.Proofs.YtjidokjajkoneaaDoor
open Go.RowKit
open Hexa

theorem strOf_extract (xs : List UInt8) (i j : Nat) : (strOf xs).extract i j = strOf ((xs.drop i).take (j - i)) := ByteArray.extract_mk xs i j
theorem slice_to (xs : List UInt8) (k : Nat) (z : Int) (hz : z = k) (hk : k ≤ xs.length) (w : World) :
    (Instr.slice 9 (.string (strOf xs)) none (some (.int .i64 z)) none).run Tryd.prog w = .ok (.string (strOf (xs.take k))) w := by
  subst hz
  rw [Go.run_slice_string_to_if w 9 (strOf xs) .i64 k Tryd.underlying9, if_pos ⟨by omega, by rw [strOf_size]; omega⟩, strOf_extract]
  simp
theorem slice_from (xs : List UInt8) (k : Nat) (z : Int) (hz : z = k) (hk : k ≤ xs.length) (w : World) :
    (Instr.slice 9 (.string (strOf xs)) (some (.int .i64 z)) none none).run Tryd.prog w = .ok (.string (strOf (xs.drop k))) w := by
  subst hz
  rw [Go.run_slice_string_from_if w 9 (strOf xs) .i64 k Tryd.underlying9, if_pos ⟨by omega, by rw [strOf_size]; omega⟩, strOf_extract, strOf_size]
  congr 3
  rw [Int.toNat_natCast, List.take_of_length_le (by simp)]
theorem slice_mid (xs : List UInt8) (k l : Nat) (z y : Int) (hz : z = k) (hy : y = l) (hkl : k ≤ l) (hl : l ≤ xs.length) (w : World) :
    (Instr.slice 9 (.string (strOf xs)) (some (.int .i64 z)) (some (.int .i64 y)) none).run Tryd.prog w = .ok (.string (strOf ((xs.drop k).take (l - k)))) w := by
  subst hz
  subst hy
  rw [Go.run_slice_string w 9 (strOf xs) .i64 .i64 k l Tryd.underlying9 (by omega) (by omega) (by rw [strOf_size]; omega), strOf_extract]
  simp

namespace Hexa
theorem takeL_isSome : ∀ s : List UInt8, (takeL s).isSome = (decide (s.length % 2 = 0) && s.all fun c => decide (0 ≤ digZ c.toNat))
  | [] => rfl
  | [_] => by simp [takeL]
  | a :: b :: r => by
    have ih := takeL_isSome r
    have e : (a :: b :: r).length % 2 = r.length % 2 := by simp; omega
    rw [e]
    simp only [takeL, List.all_cons]
    by_cases hb : badP a.toNat b.toNat = true
    · rw [if_pos hb]
      unfold badP at hb
      simp only [Bool.or_eq_true, decide_eq_true_eq] at hb
      have : (decide (0 ≤ digZ a.toNat) && (decide (0 ≤ digZ b.toNat) && r.all fun c => decide (0 ≤ digZ c.toNat))) = false := by
        rcases hb with h | h
        · rw [decide_eq_false (by omega)]; rfl
        · rw [decide_eq_false (show ¬ 0 ≤ digZ b.toNat by omega)]; simp
      rw [this]; simp
    · have hb' : badP a.toNat b.toNat = false := by simpa using hb
      obtain ⟨h1, h2⟩ := badP_false.1 hb'
      rw [hb', if_neg (by simp), Option.isSome_map, ih, decide_eq_true h1, decide_eq_true h2]
      simp
theorem all_putL (xs : List UInt8) : (putL xs).all (fun c => decide (0 ≤ digZ c.toNat)) = true := by
  have := takeL_isSome (putL xs)
  rw [takeL_putL] at this
  simp only [Option.isSome_some] at this
  have := this.symm
  rw [Bool.and_eq_true] at this
  exact this.2
theorem all_parts (s : List UInt8) (k : Nat) (p : UInt8 → Bool) (h : s.all p = true) : (s.take k).all p = true ∧ (s.drop k).all p = true := by
  rw [← List.take_append_drop k s, List.all_append, Bool.and_eq_true] at h
  exact h
/-- One sign that is another one. -/
theorem one_sign (xs : List UInt8) (k : Nat) (hk : k < 2 * xs.length) (c : UInt8) : (takeL (((putL xs).take k ++ [c]) ++ (putL xs).drop (k + 1))).isSome = decide (0 ≤ digZ c.toNat) := by
  have hl := putL_length xs
  rw [takeL_isSome, List.all_append, List.all_append, (all_parts _ k _ (all_putL xs)).1, (all_parts _ (k + 1) _ (all_putL xs)).2]
  rw [decide_eq_true (by simp [hl]; omega)]
  simp
/-- One sign that is missing. -/
theorem one_less (xs : List UInt8) (k : Nat) (hk : k < 2 * xs.length) : takeL ((putL xs).take k ++ (putL xs).drop (k + 1)) = none := by
  have hl := putL_length xs
  exact takeL_odd _ (by simp [hl]; omega)
end Hexa

end Go.Proofs.YtjidokjajkoneaaDoor
