/-
  The contract of hexa.Put: what text any bytes have.
-/
import Derived.Test.YtjidokjajkoneaaDoorStep
import Derived.Test.YtjidokjajkoneaaDoorHexaDigit
import Derived.BigRegion
namespace Go.Proofs.YtjidokjajkoneaaDoor
open Go.RowKit
open Hexa

theorem and15 (n : Nat) (h : n < 256) : bits .and .u8 (n : Int) 15 = ((n % 16 : Nat) : Int) := by
  have : ∀ j : Fin 256, bits .and .u8 ((j.val : Nat) : Int) 15 = ((j.val % 16 : Nat) : Int) := by decide +kernel
  exact this ⟨n, h⟩

theorem ret_str {a b : ByteArray} (h : a = b) : Ending.returned (.string a) = .returned (.string b) := by rw [h]
theorem two_lit (w : World) (m n : Nat) (hm : m < 256) (hn : n < 256) (t : TypeId) : Bs (w.alloc (.cells #[.int .u8 m, .int .u8 n] t)) (some ⟨w.heap.size, 0, none⟩) 2 2 [UInt8.ofNat m, UInt8.ofNat n] :=
  Sl.fresh w [UInt8.ofNat m, UInt8.ofNat n] [.int .u8 m, .int .u8 n] t (0, 0) 2 rfl (by unfold maxLen; omega) (by
    simp only [List.map_cons, List.map_nil, byteV, UInt8.toNat_ofNat']
    rw [Nat.mod_eq_of_lt hm, Nat.mod_eq_of_lt hn])

set_option maxHeartbeats 1000000 in
theorem put_any (a : Option Addr) (len cap : Nat) (xs : List UInt8) (w : World) (hx : Bs w a len cap xs) (hD : Laid w) (hlen : len ≤ 300) :
    Calls Tryd.prog 13 #[.slice a len cap] w fun e w' => e = .returned (.string (strOf (putL xs))) ∧ Below w.heap.size w w' := by
  have hmk : ∀ w, (Instr.makeSlice 22 (.int .i64 0) (.int .i64 (2 * (len : Int)))).run Tryd.prog w = .ok (.slice (some ⟨w.heap.size, 0, none⟩) 0 (2 * len)) (w.alloc (.cells (madeCells #[.int .u8 0] (2 * len)) 5)) := fun w => by
    have := make_bytes 0 (2 * len) (by omega) (by omega) w
    simpa using this
  have hml := hide hx.hlen
  go_enter Tryd.func13, Tryd.ntmps13
  go_wp2
  have h0 := hD.pos
  generalize hB : w.heap.size = B at *
  have h0B : 0 < B := by omega
  clear h0
  have ho1 : Own byteV (w.alloc (.cells (madeCells #[.int .u8 0] (2 * len)) 5)) B (some ⟨B, 0, none⟩) 0 (2 * len) [] := by rw [← hB]; exact made_own w _ (by omega) _
  have hb1 : Below B w (w.alloc (.cells (madeCells #[.int .u8 0] (2 * len)) 5)) := by rw [← hB]; exact (Below.refl _ _).alloc (Nat.le_refl _) _
  generalize w.alloc (.cells (madeCells #[.int .u8 0] (2 * len)) 5) = w1 at *
  have HX := hide hx
  clear hx
  clear hmk
  go_loopw [12, 5, 3] (fun i _x s wr => ∃ (k : Nat) (a' : Option Addr) (c' : Nat), k ≤ len ∧ i = .int .i64 k ∧ s = .slice a' (2 * k) c' ∧ Own byteV wr B a' (2 * k) c' (putL (xs.take k)) ∧ Below B w wr) (fun i _ _ _ => len - (intOf i).toNat)
  case atStart => exact ⟨0, _, _, Nat.zero_le _, rfl, rfl, ho1, hb1⟩
  case round =>
    clear ho1 hb1
    obtain ⟨k, a', c', hk, rfl, rfl, ho, hbr⟩ := hrel
    have hbr' : Below w.heap.size w wr := by rw [hB]; exact hbr
    have hle := HX.out.hle
    have hmx := HX.out.hmax
    unfold maxLen at hmx
    by_cases hlt : k < len
    · have hlt' : k < xs.length := by have := hml.out; omega
      obtain ⟨b, off, rfl, hbl, hc0⟩ := HX.out.hcell k hlt'
      have hc : wr.cell? ⟨b, off + k, none⟩ = some (.int .u8 (xs[k].toNat : Int)) := (hbr.cell (p := ⟨b, off + k, none⟩) (by rw [← hB]; exact hbl)).trans hc0
      clear hc0
      have HT := hide (putL_take xs k hlt')
      have hn := byte_lt xs[k]
      generalize xs[k].toNat = n at *
      have hband : bits .and .u8 (n : Int) 15 = ((n % 16 : Nat) : Int) := and15 n hn
      obtain ⟨td, fd, hg⟩ := hD.mono hbr'
      have hd1 : wr.cell? ⟨0, n / 16, none⟩ = some (.int .u8 (hexN (n / 16))) := by rw [cell_of_row wr 0 _ _ _ _ hg]; exact digA_at _ (by omega)
      have hd2 : wr.cell? ⟨0, n % 16, none⟩ = some (.int .u8 (hexN (n % 16))) := by rw [cell_of_row wr 0 _ _ _ _ hg]; exact digA_at _ (by omega)
      have hn1 := World.new_ne wr _ hd1
      have hn2 := World.new_ne wr _ hd2
      have l0 : (0 : Int) ≤ (n : Int) / 16 := by omega
      have l1 : (n : Int) / 16 < 16 := by omega
      have l2 : (0 : Int) ≤ (n : Int) % 16 := by omega
      have l3 : (n : Int) % 16 < 16 := by omega
      have t1 : ((n : Int) / 16).toNat = n / 16 := by omega
      have t2 : ((n : Int) % 16).toNat = n % 16 := by omega
      have hal := ((Below.refl wr.heap.size wr).alloc (Nat.le_refl _) (.cells #[.int .u8 (hexN (n / 16)), .int .u8 (hexN (n % 16))] 5)).drew
      have hoA := ho.mono hal
      have hlit := two_lit wr (hexN (n / 16)) (hexN (n % 16)) (Nat.lt_trans (hexN_lt _ (by omega)) (by decide)) (Nat.lt_trans (hexN_lt _ (by omega)) (by decide)) 5
      have hbA := (hbr.trans (hal.mono (hB ▸ hbr.size)))
      have hszA := hB ▸ hbA.size
      go_wp2
      go_region_held3 (fun w' => w'.cell? ⟨0, n / 16, none⟩ = some (.int .u8 (hexN (n / 16))) ∧ w'.cell? ⟨0, n % 16, none⟩ = some (.int .u8 (hexN (n % 16))))
        (first
          | go_keep
          | (go_split_ands
             refine ⟨?_, ?_⟩
             · (rw [hb3.cell (p := ⟨0, n / 16, none⟩) h0B]; assumption)
             · (rw [hb3.cell (p := ⟨0, n % 16, none⟩) h0B]; assumption)))
        ((refine step_app (by rfl) _ _ (by rfl) B (by rfl) hoA (by rfl) hlit.drew (by omega) hszA ?_; intro a3 c3 w3 ho3 hb3))
      go_wp2
      go_roundw
      case rel => exact ⟨k + 1, a3, c3, by omega, by go_num, by rw [show 2 * (k + 1) = 2 * k + 2 by omega], by rw [show 2 * (k + 1) = 2 * k + 2 by omega, HT.out]; exact ho3, hbA.trans hb3⟩
      case measure => simp [intOf]; omega
    · have hcv := Bs.conv (P := Tryd.prog) ho.sl 22 5 Tryd.underlying22 Tryd.underlying5 9 Tryd.underlying9
      go_wp2
      go_ret
      exact ⟨ret_str (by rw [List.take_of_length_le (by rw [hml.out]; omega)]), by rw [hB]; exact hbr⟩

end Go.Proofs.YtjidokjajkoneaaDoor
