/-
  The contracts of word.Put (what it gives is the call's own) and word.Within.
-/
import Derived.Test.YtolkcohmoalnhaaJoinA
import Derived.BigRegion
namespace Go.Proofs.Ytolkcohmoalnhaa
open Go.RowKit
open Word

set_option maxHeartbeats 1000000 in
theorem put_any (a : Option Addr) (len cap : Nat) (xs : List UInt16) (w : World) (hx : Ws w a len cap xs) (hlen : len ≤ 100000) :
    Calls Try.prog 67 #[.slice a len cap] w fun e w' => (∃ a' c', e = .returned (.slice a' (2 * len) c') ∧ Own byteV w' w.heap.size a' (2 * len) c' (putW xs)) ∧ Below w.heap.size w w' := by
  have hmk : ∀ w, (Instr.makeSlice 22 (.int .i64 0) (.int .i64 (2 * (len : Int)))).run Try.prog w = .ok (.slice (some ⟨w.heap.size, 0, none⟩) 0 (2 * len)) (w.alloc (.cells (madeCells #[.int .u8 0] (2 * len)) 5)) := fun w => by
    have := make_bytes 0 (2 * len) (by omega) (by omega) w
    simpa using this
  have hml := hide hx.hlen
  have HX := hide hx
  have hle := hx.hle
  have hmx := hx.hmax
  unfold maxLen at hmx
  clear hx
  go_enter Try.func67, Try.ntmps67
  go_wp2
  generalize hB : w.heap.size = B at *
  have ho1 : Own byteV (w.alloc (.cells (madeCells #[.int .u8 0] (2 * len)) 5)) B (some ⟨B, 0, none⟩) 0 (2 * len) [] := by rw [← hB]; exact made_own w _ (by omega) _
  have hb1 : Below B w (w.alloc (.cells (madeCells #[.int .u8 0] (2 * len)) 5)) := by rw [← hB]; exact (Below.refl _ _).alloc (Nat.le_refl _) _
  generalize w.alloc (.cells (madeCells #[.int .u8 0] (2 * len)) 5) = w1 at *
  clear hmk
  go_loopw [12, 5, 3] (fun i _x s wr => ∃ (k : Nat) (a' : Option Addr) (c' : Nat), k ≤ len ∧ i = .int .i64 k ∧ s = .slice a' (2 * k) c' ∧ Own byteV wr B a' (2 * k) c' (putW (xs.take k)) ∧ Below B w wr) (fun i _ _ _ => len - (intOf i).toNat)
  case atStart => exact ⟨0, _, _, Nat.zero_le _, rfl, rfl, ho1, hb1⟩
  case round =>
    clear ho1 hb1
    obtain ⟨k, a', c', hk, rfl, rfl, ho, hbr⟩ := hrel
    by_cases hlt : k < len
    · have hlt' : k < xs.length := by have := hml.out; omega
      obtain ⟨b, off, rfl, hbl, hc0⟩ := HX.out.hcell k hlt'
      have hc : wr.cell? ⟨b, off + k, none⟩ = some (.int .u16 (xs[k].toNat : Int)) := (hbr.cell (p := ⟨b, off + k, none⟩) (by rw [← hB]; exact hbl)).trans hc0
      clear hc0
      have HT := hide (putW_take xs k hlt')
      unfold hiB loB at HT
      have hn := word_lt xs[k]
      generalize xs[k].toNat = n at *
      have hszr : B ≤ wr.heap.size := hB ▸ hbr.size
      go_wp2_with (at_builtin; refine app (by rfl) _ _ rfl B rfl (ho.mono ((Below.refl _ _).alloc (Nat.le_refl _) _)) rfl (two_own _ _ _ (n / 256) (n % 256) (by first | omega | (simp; omega)) (by first | omega | (simp; omega)) (by omega) (by omega) _).sl (by omega) (Nat.le_trans hszr (by simp)) ?_)
      intro a3 c3 w3 ho3 hb3
      go_wp2
      go_roundw
      case rel => exact ⟨k + 1, a3, c3, by omega, by go_num, by rw [show 2 * (k + 1) = 2 * k + 2 by omega], by rw [show 2 * (k + 1) = 2 * k + 2 by omega, HT.out]; exact ho3, (hbr.alloc hszr _).trans hb3⟩
      case measure => simp [intOf]; omega
    · obtain rfl : k = len := by omega
      rw [List.take_of_length_le (by rw [hml.out]; omega)] at ho
      go_wp2
      go_ret
      exact ⟨⟨_, _, rfl, by first | exact ho | (rw [hB]; exact ho)⟩, by first | exact hbr | (rw [hB]; exact hbr)⟩

end Go.Proofs.Ytolkcohmoalnhaa
