/-
  The document's own Put (what it gives is the call's own) and Within.
-/
import Derived.Test.YtemomgcapjpaiaaJoinA
import Derived.BigRegion
namespace Go.Proofs.Ytemomgcapjpaiaa
open Go.RowKit
open Word

set_option maxHeartbeats 1000000 in
theorem refPut_any (a : Option Addr) (len cap : Nat) (xs : List UInt16) (w : World) (hx : Ws w a len cap xs) (hlen : len ≤ 100000) :
    Calls Try.prog 51 #[.slice a len cap] w fun e w' => (∃ a' c', e = .returned (.slice a' (2 * len) c') ∧ Own byteV w' w.heap.size a' (2 * len) c' (putW xs)) ∧ Below w.heap.size w w' := by
  have hml := hide hx.hlen
  have HX := hide hx
  have hle := hx.hle
  have hmx := hx.hmax
  unfold maxLen at hmx
  clear hx
  go_enter Try.func51, Try.ntmps51
  go_wp2
  generalize hB : w.heap.size = B at *
  have ho1 : Own byteV w B none 0 0 [] := Own.empty _ _ _
  go_loopw [4, 3] (fun i s wr => ∃ (k : Nat) (a' : Option Addr) (c' : Nat), k ≤ len ∧ i = .int .i64 k ∧ s = .slice a' (2 * k) c' ∧ Own byteV wr B a' (2 * k) c' (putW (xs.take k)) ∧ Below B w wr) (fun i _ _ => len - (intOf i).toNat)
  case atStart => exact ⟨0, _, _, Nat.zero_le _, rfl, rfl, ho1, Below.refl _ _⟩
  case round =>
    clear ho1
    obtain ⟨k, a', c', hk, rfl, rfl, ho, hbr⟩ := hrel
    by_cases hlt : k < len
    · have hlt' : k < xs.length := by have := hml.out; omega
      obtain ⟨b, off, rfl, hbl, hc0⟩ := HX.out.hcell k hlt'
      have hbB : b < B := by rw [← hB]; exact hbl
      have hc : wr.cell? ⟨b, off + k, none⟩ = some (.int .u16 (xs[k].toNat : Int)) := (hbr.cell (p := ⟨b, off + k, none⟩) hbB).trans hc0
      clear hc0
      have HT := hide (putW_take xs k hlt')
      unfold hiB loB at HT
      have hn := word_lt xs[k]
      generalize xs[k].toNat = n at *
      have hszr : B ≤ wr.heap.size := hB ▸ hbr.size
      have T1 : IntKind.u8.wrap (IntKind.u16.wrap ((n : Int) / 256)) = ((n / 256 : Nat) : Int) := by rw [IntKind.wrap_u8, IntKind.wrap_u16]; omega
      have T2 : IntKind.u8.wrap ((n : Int).tmod 256) = ((n % 256 : Nat) : Int) := by rw [IntKind.wrap_u8, Int.tmod_eq_emod_of_nonneg (by omega)]; omega
      have hal := ((Below.refl wr.heap.size wr).alloc (Nat.le_refl _) (.cells #[.int .u8 ((n / 256 : Nat) : Int), .int .u8 ((n % 256 : Nat) : Int)] 5)).drew
      have hoA := ho.mono hal
      have hlit := (two_own wr _ _ (n / 256) (n % 256) rfl rfl (by omega) (by omega) 5).sl.drew
      have hbA := hbr.trans (hal.mono hszr)
      have hszA := hB ▸ hbA.size
      have ne1 := World.new_ne wr _ hc
      have l0 : (0 : Int) ≤ (k : Int) := by omega
      have l1 : (k : Int) < (len : Int) := by omega
      go_wp2
      go_region_held3 (fun w' => w'.cell? ⟨b, off + k, none⟩ = some (.int .u16 (n : Int)))
        (first
          | go_keep
          | (rw [hb3.cell (p := ⟨b, off + k, none⟩) hbB]; assumption))
        ((refine step_app (by rfl) _ _ (by rfl) B (by rfl) hoA (by rfl) hlit (by omega) hszA ?_; intro a3 c3 w3 ho3 hb3))
      go_wp2
      go_roundw
      case rel => exact ⟨k + 1, a3, c3, by omega, by go_num, by rw [show 2 * (k + 1) = 2 * k + 2 by omega], by rw [show 2 * (k + 1) = 2 * k + 2 by omega, HT.out]; exact ho3, hbA.trans hb3⟩
      case measure => simp [intOf]; omega
    · obtain rfl : k = len := by omega
      rw [List.take_of_length_le (by rw [hml.out]; omega)] at ho
      go_wp2
      go_ret
      exact ⟨⟨_, _, rfl, by first | exact ho | (rw [hB]; exact ho)⟩, by first | exact hbr | (rw [hB]; exact hbr)⟩

end Go.Proofs.Ytemomgcapjpaiaa
