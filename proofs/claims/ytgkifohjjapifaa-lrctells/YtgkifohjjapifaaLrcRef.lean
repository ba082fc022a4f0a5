/-
  The document's answer for package lrc: what it computes.
-/
import Derived.Test.YtgkifohjjapifaaLrc
namespace Go.Proofs.Ytgkifohjjapifaa
open Go.RowKit
open Lrc

set_option maxHeartbeats 1000000 in
theorem refOf_any (a : Option Addr) (len cap : Nat) (xs : List UInt8) (w : World) (hx : Bs w a len cap xs) :
    Calls Try.prog 9 #[.slice a len cap] w fun e w' => e = .returned (.int .u8 (ofN xs)) ∧ w' = w := by
  have hm0 := hide hx.hlen
  have hm := hx.hle
  have hm2 := hx.hmax
  unfold maxLen at hm2
  go_enter Try.func9, Try.ntmps9
  go_wp2
  go_loop [3, 4] (fun n i => ∃ k : Nat, k ≤ len ∧ i = .int .i64 k ∧ n = .int .i64 (tot (xs.take k) % 256 : Nat)) (fun _ i => len - (intOf i).toNat)
  case atStart => exact ⟨0, Nat.zero_le _, rfl, rfl⟩
  case round =>
    obtain ⟨k, hk, rfl, rfl⟩ := hrel
    by_cases hlt : k < len
    · have hlt' : k < xs.length := by have := hm0.out; omega
      obtain ⟨b, off, rfl, hbl, hc⟩ := hx.hcell k hlt'
      have HT := hide (tot_take xs k hlt')
      have hbnd := byte_lt xs[k]
      go_wp2
      go_round
      case rel => exact ⟨k + 1, by omega, by go_num, by rw [HT.out]; first | (congr 1; omega) | (show Value.int _ _ = Value.int _ _; congr 1; omega)⟩
      case measure => simp [intOf]; omega
    · go_wp2
      go_ret
      exact ⟨ret_int (by unfold ofN; rw [List.take_of_length_le (by rw [hm0.out]; omega)]; omega), rfl⟩

set_option maxHeartbeats 1000000 in
theorem refIs_any (a : Option Addr) (len cap : Nat) (xs : List UInt8) (w : World) (hx : Bs w a len cap xs) :
    Calls Try.prog 11 #[.slice a len cap] w fun e w' => e = .returned (.bool (isB xs)) ∧ w' = w := by
  have hm0 := hide hx.hlen
  go_enter Try.func11, Try.ntmps11
  by_cases hn : 0 < len
  · go_wp2_with fail
    refine (refOf_any a len cap xs w hx).mono ?_
    rintro e w' ⟨rfl, rfl⟩
    go_wp2
    go_ret
    exact ⟨ret_bool (by unfold isB ofN; rw [hm0.out]; simp [hn]; rw [Bool.eq_iff_iff]; simp; omega), rfl⟩
  · go_wp2
    go_ret
    exact ⟨ret_bool (by unfold isB; rw [hm0.out]; simp [hn]), rfl⟩

end Go.Proofs.Ytgkifohjjapifaa
