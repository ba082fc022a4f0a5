/-
  The contract of word.Take.
-/
import Derived.Test.YtolkcohmoalnhaaJoinA
import Derived.BigRegion
namespace Go.Proofs.Ytolkcohmoalnhaa
open Go.RowKit
open Word

theorem or256 (p q : Nat) (hp : p < 256) (hq : q < 256) : bits .or .u16 (IntKind.u16.wrap (IntKind.u16.wrap (p : Int) * 256)) (IntKind.u16.wrap (q : Int)) = ((256 * p + q : Nat) : Int) := by
  have h1 : 256 * p ||| q = 256 * p + q := (Nat.two_pow_add_eq_or_of_lt (i := 8) (b := q) (by omega) p).symm
  have e1 : IntKind.u16.wrap (IntKind.u16.wrap (p : Int) * 256) = ((256 * p : Nat) : Int) := by rw [IntKind.wrap_u16, IntKind.wrap_u16]; omega
  have e2 : IntKind.u16.wrap (q : Int) = (q : Int) := by rw [IntKind.wrap_u16]; omega
  rw [e1, e2]
  show IntKind.u16.wrap (((BitVec.ofInt 16 ((256 * p : Nat) : Int) ||| BitVec.ofInt 16 (q : Int)).toNat : Nat) : Int) = _
  rw [BitVec.toNat_or, BitVec.toNat_ofInt, BitVec.toNat_ofInt]
  have f1 : (((256 * p : Nat) : Int) % ((2 ^ 16 : Nat) : Int)).toNat = 256 * p := by omega
  have f2 : ((q : Int) % ((2 ^ 16 : Nat) : Int)).toNat = q := by omega
  rw [f1, f2, h1, IntKind.wrap_u16]
  omega

set_option maxHeartbeats 1000000 in
theorem take_any (a : Option Addr) (len cap : Nat) (xs : List UInt8) (w : World) (hx : Bs w a len cap xs) (hlen : len ≤ 100000) :
    Calls Try.prog 77 #[.slice a len cap] w fun e w' => (∃ a' c', e = .returned (.slice a' (takeW xs).length c') ∧ Own wordV w' w.heap.size a' (takeW xs).length c' (takeW xs)) ∧ Below w.heap.size w w' := by
  have hml := hide hx.hlen
  have HX := hide hx
  have hle := hx.hle
  have hmx := hx.hmax
  unfold maxLen at hmx
  clear hx
  go_enter Try.func77, Try.ntmps77
  by_cases hodd : len % 2 = 1
  · have e0 : takeW xs = [] := by unfold takeW; rw [if_pos (by rw [hml.out]; exact hodd)]
    have E0 := hide e0
    clear e0
    go_wp2
    go_ret
    exact ⟨⟨none, 0, by rw [E0.out]; rfl, by rw [E0.out]; exact Own.empty _ _ _⟩, Below.refl _ _⟩
  · obtain ⟨m, rfl⟩ : ∃ m, len = 2 * m := ⟨len / 2, by omega⟩
    have e0 : takeW xs = pairs xs := by unfold takeW; rw [if_neg (by rw [hml.out]; exact hodd)]
    have E0 := hide e0
    clear e0
    have hmk : ∀ w, (Instr.makeSlice 25 (.int .i64 0) (.int .i64 (m : Int))).run Try.prog w = .ok (.slice (some ⟨w.heap.size, 0, none⟩) 0 m) (w.alloc (.cells (madeCells #[.int .u16 0] m) 24)) := fun w => by
      have := make_words 0 m (by omega) (by omega) w
      simpa using this
    go_wp2
    generalize hB : w.heap.size = B at *
    have ho1 : Own wordV (w.alloc (.cells (madeCells #[.int .u16 0] m) 24)) B (some ⟨B, 0, none⟩) 0 m [] := by rw [← hB]; exact made_own16 w _ (by omega) _
    have hb1 : Below B w (w.alloc (.cells (madeCells #[.int .u16 0] m) 24)) := by rw [← hB]; exact (Below.refl _ _).alloc (Nat.le_refl _) _
    generalize w.alloc (.cells (madeCells #[.int .u16 0] m) 24) = w1 at *
    clear hmk
    go_loopw [4, 3] (fun i s wr => ∃ (k : Nat) (a' : Option Addr) (c' : Nat), k ≤ m ∧ i = .int .i64 (2 * (k : Int)) ∧ s = .slice a' k c' ∧ Own wordV wr B a' k c' (pairs (xs.take (2 * k))) ∧ Below B w wr) (fun i _ _ => 2 * m - (intOf i).toNat)
    case atStart => exact ⟨0, _, _, Nat.zero_le _, rfl, rfl, ho1, hb1⟩
    case round =>
      clear ho1 hb1
      obtain ⟨k, a', c', hk, rfl, rfl, ho, hbr⟩ := hrel
      by_cases hlt : k < m
      · have hi1 : 2 * k + 1 < xs.length := by have := hml.out; omega
        obtain ⟨b, off, rfl, hbl, hc0⟩ := HX.out.hcell (2 * k) (by omega)
        obtain ⟨b', off', hh, _, hc1⟩ := HX.out.hcell (2 * k + 1) hi1
        cases hh
        have hbB : b < B := by rw [← hB]; exact hbl
        have hc : wr.cell? ⟨b, off + 2 * k, none⟩ = some (.int .u8 ((xs[2 * k]'(by omega)).toNat : Int)) := (hbr.cell (p := ⟨b, off + 2 * k, none⟩) hbB).trans hc0
        have hd : wr.cell? ⟨b, off + (2 * k + 1), none⟩ = some (.int .u8 (xs[2 * k + 1].toNat : Int)) := (hbr.cell (p := ⟨b, off + (2 * k + 1), none⟩) hbB).trans hc1
        clear hc0 hc1
        have HT := hide (pairs_more xs k hi1)
        unfold word at HT
        have hn1 := byte_lt (xs[2 * k]'(by omega))
        have hn2 := byte_lt xs[2 * k + 1]
        generalize (xs[2 * k]'(by omega)).toNat = n1 at *
        generalize xs[2 * k + 1].toNat = n2 at *
        have hszr : B ≤ wr.heap.size := hB ▸ hbr.size
        have hwr : IntKind.i64.wrap (2 * (k : Int) + 1) = 2 * (k : Int) + 1 := by rw [IntKind.wrap_i64]; omega
        obtain ⟨r, hr⟩ : ∃ r, r = 256 * n1 + n2 := ⟨_, rfl⟩
        have hor : bits .or .u16 (IntKind.u16.wrap (IntKind.u16.wrap (n1 : Int) * 256)) (IntKind.u16.wrap (n2 : Int)) = (r : Int) := by rw [hr]; exact or256 n1 n2 hn1 hn2
        have hr2 : r < 65536 := by omega
        rw [← hr] at HT
        clear hr
        have hal := ((Below.refl wr.heap.size wr).alloc (Nat.le_refl _) (.cells #[.int .u16 (r : Int)] 24)).drew
        have hoA := ho.mono hal
        have hlit := (one_own16 wr (r : Int) r rfl hr2 24).sl.drew
        have hbA := hbr.trans (hal.mono hszr)
        have hszA := hB ▸ hbA.size
        have ne1 := World.new_ne wr _ hc
        have ne2 := World.new_ne wr _ hd
        have l0 : (0 : Int) ≤ 2 * (k : Int) := by omega
        have l1 : 2 * (k : Int) < 2 * (m : Int) := by omega
        have l2 : (0 : Int) ≤ 2 * (k : Int) + 1 := by omega
        have l3 : 2 * (k : Int) + 1 < 2 * (m : Int) := by omega
        have t1 : (2 * (k : Int)).toNat = 2 * k := by omega
        have t2 : (2 * (k : Int) + 1).toNat = 2 * k + 1 := by omega
        go_wp2
        go_region_held3 (fun w' => w'.cell? ⟨b, off + 2 * k, none⟩ = some (.int .u8 (n1 : Int)) ∧ w'.cell? ⟨b, off + (2 * k + 1), none⟩ = some (.int .u8 (n2 : Int)))
          (first
            | go_keep
            | (go_split_ands
               refine ⟨?_, ?_⟩
               · (rw [hb3.cell (p := ⟨b, off + 2 * k, none⟩) hbB]; assumption)
               · (rw [hb3.cell (p := ⟨b, off + (2 * k + 1), none⟩) hbB]; assumption)))
          ((refine step_app16 (by rfl) _ _ (by rfl) B (by rfl) hoA (by rfl) hlit (by omega) hszA ?_; intro a3 c3 w3 ho3 hb3))
        go_wp2
        go_roundw
        case rel => exact ⟨k + 1, a3, c3, by omega, by go_num, rfl, by rw [HT.out]; exact ho3, hbA.trans hb3⟩
        case measure => simp [intOf]; omega
      · obtain rfl : k = m := by omega
        rw [List.take_of_length_le (by rw [hml.out]; omega)] at ho
        go_wp2
        go_ret
        exact ⟨⟨a', c', by rw [E0.out, ho.sl.hlen]; rfl, by rw [E0.out, ho.sl.hlen]; first | exact ho | (rw [hB]; exact ho)⟩, by first | exact hbr | (rw [hB]; exact hbr)⟩

end Go.Proofs.Ytolkcohmoalnhaa
