/-
  The contracts of package lrc: what together, Of and Is answer, at any bytes.
-/
import Derived.Test.YtgkifohjjapifaaBytes
namespace Go.Proofs.Ytgkifohjjapifaa
open Go.RowKit

namespace Lrc
/-- All bytes together. -/
def tot (xs : List UInt8) : Nat := (xs.map UInt8.toNat).sum
theorem tot_nil : tot [] = 0 := rfl
theorem tot_cons (x : UInt8) (xs : List UInt8) : tot (x :: xs) = x.toNat + tot xs := by simp [tot]
theorem tot_append (xs ys : List UInt8) : tot (xs ++ ys) = tot xs + tot ys := by simp [tot]
theorem tot_take (xs : List UInt8) (k : Nat) (h : k < xs.length) : tot (xs.take (k + 1)) = tot (xs.take k) + xs[k].toNat := by
  rw [List.take_succ_eq_append_getElem h, tot_append]; simp [tot]
theorem tot_set (xs : List UInt8) (k : Nat) (h : k < xs.length) (y : UInt8) : tot (xs.set k y) + xs[k].toNat = tot xs + y.toNat := by
  induction xs generalizing k with
  | nil => simp at h
  | cons x xs ih =>
    cases k with
    | zero => simp [tot_cons]; omega
    | succ k => simp only [List.set_cons_succ, tot_cons, List.getElem_cons_succ]; have := ih k (by simpa using h); omega
def ofN (xs : List UInt8) : Nat := (256 - tot xs % 256) % 256
def isB (xs : List UInt8) : Bool := decide (0 < xs.length) && decide (tot xs % 256 = 0)
end Lrc
open Lrc

set_option maxHeartbeats 400000 in
theorem adds (B t x : Nat) (w : World) (hv : w.heap[B]? = some (.cells #[.int .u8 (t % 256 : Nat)] 5 (0, 0))) :
    Calls Try.prog 13 #[.int .u8 x, .pointer (some ⟨B, 0, none⟩)] w fun e w' => e = .returned (.tuple #[]) ∧ w' = w.setCell ⟨B, 0, none⟩ (.int .u8 ((t + x) % 256 : Nat)) := by
  have cB := cell_of_one hv
  have fB := free_of_one hv
  go_enter Try.func13, Try.ntmps13
  go_wp2
  go_end0
  refine ⟨rfl, ?_⟩
  congr 2

set_option maxHeartbeats 400000 in
theorem together_any (a : Option Addr) (len cap : Nat) (xs : List UInt8) (w : World) (hx : Bs w a len cap xs) :
    Calls Try.prog 12 #[.slice a len cap] w fun e w' => e = .returned (.int .u8 (tot xs % 256 : Nat)) ∧ Below w.heap.size w w' := by
  have hmf : ∀ (fn : Fn) (first cap : Array Value) (w : World), (Instr.makeFunc fn first cap).run Try.prog w = .ok (.func fn first cap) w := fun _ _ _ _ => rfl
  go_enter Try.func12, Try.ntmps12
  go_wp2
  generalize hB : w.heap.size = B at *
  have hx0 : ∀ i (h : i < xs.length), ∃ b off, a = some ⟨b, off, none⟩ ∧ b < B ∧ w.cell? ⟨b, off + i, none⟩ = some (.int .u8 (xs[i].toNat : Int)) := by rw [← hB]; exact hx.hcell
  go_loopw [10, 6] (fun i _x wr => ∃ k : Nat, k ≤ len ∧ i = .int .i64 k ∧ wr.heap[B]? = some (.cells #[.int .u8 (tot (xs.take k) % 256 : Nat)] 5 (0, 0)) ∧ Below B w wr) (fun i _ _ => len - (intOf i).toNat)
  case atStart => exact ⟨0, Nat.zero_le _, rfl, by rw [← hB]; exact heap_alloc_new _ _, by rw [← hB]; exact (Below.refl _ _).alloc (Nat.le_refl _) _⟩
  case round =>
    obtain ⟨k, hk, rfl, hv, hbr⟩ := hrel
    have H0 := hide hx.hlen
    have hm := hx.hle
    have hm2 := hx.hmax
    unfold maxLen at hm2
    by_cases hlt : k < len
    · have hlt' : k < xs.length := by have := H0.out; omega
      obtain ⟨b, off, rfl, hbl, hc0⟩ := hx0 k hlt'
      have hc := (hbr.cell (p := ⟨b, off + k, none⟩) hbl).trans hc0
      have HT := hide (tot_take xs k hlt')
      clear hx0 hc0
      have HV := hide hv
      clear hv
      go_wp2_with (go_at_call 13; refine (adds B _ _ _ HV.out).mono ?_; rintro e w1 ⟨rfl, rfl⟩)
      go_roundw
      case rel => exact ⟨k + 1, by omega, by go_num, by rw [HT.out]; exact one_setCell HV.out, hbr.setCell (p := ⟨B, 0, none⟩) (Nat.le_refl _) _⟩
      case measure => simp [intOf]; omega
    · have cB := cell_of_one hv
      go_wp2
      go_ret
      exact ⟨by rw [List.take_of_length_le (by rw [H0.out]; omega)]; rfl, by rw [hB]; exact hbr⟩

set_option maxHeartbeats 400000 in
theorem of_any (a : Option Addr) (len cap : Nat) (xs : List UInt8) (w : World) (hx : Bs w a len cap xs) :
    Calls Try.prog 8 #[.slice a len cap] w fun e w' => e = .returned (.int .u8 (ofN xs)) ∧ Below w.heap.size w w' := by
  go_enter Try.func8, Try.ntmps8
  go_wp2_with fail
  refine (together_any a len cap xs w hx).mono ?_
  rintro e w' ⟨rfl, hb⟩
  go_wp2
  go_ret
  exact ⟨ret_int (by unfold ofN; omega), hb⟩

set_option maxHeartbeats 400000 in
theorem is_any (a : Option Addr) (len cap : Nat) (xs : List UInt8) (w : World) (hx : Bs w a len cap xs) :
    Calls Try.prog 10 #[.slice a len cap] w fun e w' => e = .returned (.bool (isB xs)) ∧ Below w.heap.size w w' := by
  have hm0 := hide hx.hlen
  have hm := hx.hle
  have hm2 := hx.hmax
  unfold maxLen at hm2
  go_enter Try.func10, Try.ntmps10
  by_cases hn : 0 < len
  · go_wp2_with fail
    refine (together_any a len cap xs w hx).mono ?_
    rintro e w' ⟨rfl, hb⟩
    go_wp2
    go_ret
    exact ⟨ret_bool (by unfold isB; rw [hm0.out]; simp [hn]; rw [Bool.eq_iff_iff]; simp; omega), hb⟩
  · go_wp2
    go_ret
    exact ⟨ret_bool (by unfold isB; rw [hm0.out]; simp [hn]), Below.refl _ _⟩

end Go.Proofs.Ytgkifohjjapifaa
