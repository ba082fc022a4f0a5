/-
  The document's answer for package hexa: what it computes; when two lists of bytes are the same.
-/
import Derived.Test.YtjidokjajkoneaaDoorHexaTake
namespace Go.Proofs.YtjidokjajkoneaaDoor
open Go.RowKit
open Hexa

set_option maxHeartbeats 400000 in
theorem refDigit_any (c : Nat) (w : World) :
    Calls Tryd.prog 12 #[.int .u8 c] w fun e w' => e = .returned (.int .i64 (digZ c)) ∧ w' = w := by
  go_enter Tryd.func12, Tryd.ntmps12
  by_cases h1 : c < 48
  · go_wp2
    go_ret
    exact ⟨ret_int (by unfold digZ; split <;> (try split) <;> omega), rfl⟩
  by_cases h2 : c ≤ 57
  · go_wp2
    go_ret
    exact ⟨ret_int (by unfold digZ; split <;> (try split) <;> omega), rfl⟩
  by_cases h3 : c < 65
  · go_wp2
    go_ret
    exact ⟨ret_int (by unfold digZ; split <;> (try split) <;> omega), rfl⟩
  by_cases h4 : c ≤ 70
  · go_wp2
    go_ret
    exact ⟨ret_int (by unfold digZ; split <;> (try split) <;> omega), rfl⟩
  · go_wp2
    go_ret
    exact ⟨ret_int (by unfold digZ; split <;> (try split) <;> omega), rfl⟩

set_option maxHeartbeats 400000 in
theorem sign_any (z : Int) (n : Nat) (hz : z = n) (hn : n < 16) (w : World) :
    Calls Tryd.prog 16 #[.int .u8 z] w fun e w' => e = .returned (.int .u8 (hexN n)) ∧ w' = w := by
  subst hz
  go_enter Tryd.func16, Tryd.ntmps16
  by_cases h1 : n < 10
  · go_wp2
    go_ret
    exact ⟨ret_int (by unfold hexN; split <;> omega), rfl⟩
  · go_wp2
    go_ret
    exact ⟨ret_int (by unfold hexN; split <;> omega), rfl⟩

set_option maxHeartbeats 400000 in
theorem same_any (a1 a2 : Option Addr) (l1 c1 l2 c2 : Nat) (xs ys : List UInt8) (w : World) (hx : Bs w a1 l1 c1 xs) (hy : Bs w a2 l2 c2 ys) :
    Calls Tryd.prog 15 #[.slice a1 l1 c1, .slice a2 l2 c2] w fun e w' => e = .returned (.bool (decide (xs = ys))) ∧ w' = w := by
  have h1 := Bs.conv (P := Tryd.prog) hx 22 5 Tryd.underlying22 Tryd.underlying5 9 Tryd.underlying9
  have h2 := Bs.conv (P := Tryd.prog) hy 22 5 Tryd.underlying22 Tryd.underlying5 9 Tryd.underlying9
  have hst := strOf_toList
  go_enter Tryd.func15, Tryd.ntmps15
  go_wp2
  go_ret
  exact ⟨ret_bool (by first | rfl | (rw [Bool.eq_iff_iff]; simp)), rfl⟩

theorem strOf_append (xs ys : List UInt8) : strOf xs ++ strOf ys = strOf (xs ++ ys) := ByteArray.mk_append_mk xs ys
theorem add_str (xs ys : List UInt8) (h : xs.length + ys.length ≤ 1000000) (w : World) : (Op.stringOp .add (strOf xs) (strOf ys)).run Tryd.prog w = .ok (.string (strOf (xs ++ ys))) w := by
  rw [run_string_add_sum w _ _ (by rw [strOf_size, strOf_size]; omega), strOf_append]

set_option maxHeartbeats 1000000 in
theorem refPut_any (a : Option Addr) (len cap : Nat) (xs : List UInt8) (w : World) (hx : Bs w a len cap xs) (hlen : len ≤ 300) :
    Calls Tryd.prog 14 #[.slice a len cap] w fun e w' => e = .returned (.string (strOf (putL xs))) ∧ Below w.heap.size w w' := by
  have hml := hide hx.hlen
  have hle := hx.hle
  have hmx := hx.hmax
  unfold maxLen at hmx
  have HX := hide hx
  clear hx
  go_enter Tryd.func14, Tryd.ntmps14
  go_wp2
  go_loopw [4, 3] (fun i s wr => ∃ k : Nat, k ≤ len ∧ i = .int .i64 k ∧ s = .string (strOf (putL (xs.take k))) ∧ Below w.heap.size w wr) (fun i _ _ => len - (intOf i).toNat)
  case atStart => exact ⟨0, Nat.zero_le _, rfl, rfl, Below.refl _ _⟩
  case round =>
    obtain ⟨k, hk, rfl, rfl, hbr⟩ := hrel
    by_cases hlt : k < len
    · have hlt' : k < xs.length := by have := hml.out; omega
      obtain ⟨b, off, rfl, hbl, hc0⟩ := HX.out.hcell k hlt'
      have hc : wr.cell? ⟨b, off + k, none⟩ = some (.int .u8 (xs[k].toNat : Int)) := (hbr.cell (p := ⟨b, off + k, none⟩) hbl).trans hc0
      clear hc0
      have HT := hide (putL_take xs k hlt')
      have hn := byte_lt xs[k]
      generalize xs[k].toNat = n at *
      have hpl : (putL (xs.take k)).length ≤ 600 := by rw [putL_length, List.length_take]; omega
      generalize putL (xs.take k) = ps at *
      have l0 : (0 : Int) ≤ (k : Int) := by omega
      have l1 : (k : Int) < (len : Int) := by omega
      have hne := World.new_ne wr _ hc
      have T1 : Hid (IntKind.u8.wrap ((n : Int) / 16) = ((n / 16 : Nat) : Int)) := hide (by rw [IntKind.wrap_u8]; omega)
      have T2 : Hid ((n : Int).tmod 16 = ((n % 16 : Nat) : Int)) := hide (by rw [Int.tmod_eq_emod_of_nonneg (by omega)]; omega)
      have hlit := two_lit wr (hexN (n / 16)) (hexN (n % 16)) (Nat.lt_trans (hexN_lt _ (by omega)) (by decide)) (Nat.lt_trans (hexN_lt _ (by omega)) (by decide)) 5
      have hcv := Bs.conv (P := Tryd.prog) hlit.drew 22 5 Tryd.underlying22 Tryd.underlying5 9 Tryd.underlying9
      have hadd := add_str ps [UInt8.ofNat (hexN (n / 16)), UInt8.ofNat (hexN (n % 16))] (by simp; omega)
      go_wp2
      refine wp_region_noPanic ?_
      go_region_held (fun w' => w'.cell? ⟨b, off + k, none⟩ = some (.int .u8 (n : Int))) (go_keep)
        (first
          | (go_at_call 16; refine (sign_any _ _ T1.out (by omega) _).mono ?_; rintro e w' ⟨rfl, rfl⟩)
          | (go_at_call 16; refine (sign_any _ _ T2.out (by omega) _).mono ?_; rintro e w' ⟨rfl, rfl⟩))
      refine NoPanic.normal ?_
      go_wp2
      go_roundw
      case rel => exact ⟨k + 1, by omega, by go_num, by rw [HT.out]; rfl, hbr.trans (((Below.refl _ wr).alloc hbr.size _).drew)⟩
      case measure => simp [intOf]; omega
    · go_wp2
      go_ret
      exact ⟨ret_str (by rw [List.take_of_length_le (by rw [hml.out]; omega)]), hbr⟩

end Go.Proofs.YtjidokjajkoneaaDoor
