/-
  The document's own Many, Pack and Unpack.
-/
import Derived.Test.YtgacfocbdeohaaaBits
namespace Go.Proofs.Ytgacfocbdeohaaa
open Go.RowKit
open Bits

theorem refMany_any (n : Int) (hn : (Lit.int .i64 n).wf = true) (w : World) :
    Calls Try.prog 29 #[.int .i64 n] w fun e w' => e = .returned (.int .i64 (manyI n)) ∧ w' = w := by
  have hb := bounds_i64 hn
  clear hn
  go_enter Try.func29, Try.ntmps29
  by_cases h1 : n < 1
  · go_wp2
    go_ret
    exact ⟨ret_int (by unfold manyI; rw [if_pos h1]), rfl⟩
  · obtain ⟨m, rfl⟩ : ∃ m : Nat, n = m := ⟨n.toNat, by omega⟩
    by_cases h2 : m % 8 = 0
    · go_wp2
      go_ret
      exact ⟨ret_int (by unfold manyI; rw [if_neg (by omega)]; omega), rfl⟩
    · go_wp2
      go_ret
      exact ⟨ret_int (by unfold manyI; rw [if_neg (by omega)]; omega), rfl⟩

theorem val_short {f : Nat → Bool} {j : Nat} (hj : j ≤ 8) (h : ∀ i, j ≤ i → f i = false) : val f j = val f 8 := by
  apply Nat.eq_of_testBit_eq
  intro i
  rw [val_bit, val_bit]
  by_cases hi : i < j
  · simp [hi, show i < 8 by omega]
  · simp [h i (by omega)]

set_option maxHeartbeats 2000000 in
theorem refPack_any (a : Option Addr) (len cap : Nat) (xs : List Bool) (w : World) (hx : Ls w a len cap xs) (hlen : len ≤ 100000) :
    Calls Try.prog 51 #[.slice a len cap] w fun e w' => (∃ a' c', e = .returned (.slice a' (many len) c') ∧ Own byteV w' w.heap.size a' (many len) c' (packB xs)) ∧ Below w.heap.size w w' := by
  have hml := hide hx.hlen
  have HX := hide hx
  have hle := hx.hle
  have hmx := hx.hmax
  unfold maxLen at hmx
  clear hx
  have HPL := hide (packB_length xs)
  rw [hml.out] at HPL
  go_enter Try.func51, Try.ntmps51
  go_wp2
  generalize hB : w.heap.size = B at *
  have ho1 : Own byteV w B none 0 0 [] := Own.empty _ _ _
  have hm1 : len ≤ 8 * many len := by unfold many; omega
  have hm2 : 8 * many len < len + 8 := by unfold many; omega
  generalize hM : many len = M at *
  go_loopw [4, 3] (fun i s wr => ∃ (k : Nat) (a' : Option Addr) (c' : Nat), k ≤ M ∧ i = .int .i64 (8 * (k : Int)) ∧ s = .slice a' k c' ∧ Own byteV wr B a' k c' ((packB xs).take k) ∧ Below B w wr) (fun i _ _ => 8 * M - (intOf i).toNat)
  case atStart => exact ⟨0, _, _, Nat.zero_le _, rfl, rfl, ho1, Below.refl _ _⟩
  case round =>
    clear ho1
    obtain ⟨k, a', c', hk, rfl, rfl, ho, hbr⟩ := hrel
    by_cases hlt : k < M
    · have hlt8 : 8 * k < len := by omega
      have hkp : k < (packB xs).length := by have := HPL.out; omega
      have HT : Hid ((packB xs).take (k + 1) = (packB xs).take k ++ [UInt8.ofNat (val (fun i => xs.getD (8 * k + i) false) 8)]) := hide (by
        rw [List.take_succ_eq_append_getElem hkp, packB_get]; rfl)
      have HV : Hid (∀ j, 8 * k + j = len → j ≤ 8 → val (fun i => xs.getD (8 * k + i) false) j = val (fun i => xs.getD (8 * k + i) false) 8) := hide fun j h1 h2 =>
        val_short h2 fun i hi => by rw [List.getD_eq_getElem?_getD, List.getElem?_eq_none (by rw [hml.out]; omega)]; rfl
      obtain ⟨f, hf⟩ : ∃ f : Nat → Bool, f = fun i => xs.getD (8 * k + i) false := ⟨_, rfl⟩
      rw [← hf] at HT HV
      have HF := hide hf
      clear hf
      have hlt2 : 8 * (k : Int) < (len : Int) := by omega
      go_wp2
      go_loop [5, 6, 7] (fun c u i => ∃ (j y z : Nat), j ≤ 8 ∧ 8 * k + j ≤ len ∧ i = .int .i64 (8 * (k : Int) + (j : Int)) ∧ c = .int .i64 (y : Int) ∧ u = .int .i64 (z : Int) ∧ y = val f j ∧ z = 2 ^ j) (fun _ _ i => len - (intOf i).toNat)
      case atStart => exact ⟨0, 0, 1, by omega, by omega, by simp, rfl, rfl, rfl, rfl⟩
      case round =>
        obtain ⟨j, y, z, hj8, hjl, rfl, rfl, rfl, hy, hz⟩ := hrel
        have hy1 : y < 256 := by
          have h1 := val_lt f j
          have h2 : 2 ^ j ≤ 2 ^ 8 := Nat.pow_le_pow_right (by omega) hj8
          omega
        have hz1 : z ≤ 256 := by
          have h2 : 2 ^ j ≤ 2 ^ 8 := Nat.pow_le_pow_right (by omega) hj8
          omega
        have HY := hide hy
        have HZ := hide hz
        clear hy hz
        by_cases hend : 8 * k + j < len
        · by_cases hend8 : j < 8
          · have hin : 8 * k + j < xs.length := by have := hml.out; omega
            obtain ⟨b, off, rfl, hbl, hc0⟩ := HX.out.hcell (8 * k + j) hin
            have hbB : b < B := by rw [← hB]; exact hbl
            have hc : wr.cell? ⟨b, off + (8 * k + j), none⟩ = some (.bool xs[8 * k + j]) := (hbr.cell (p := ⟨b, off + (8 * k + j), none⟩) hbB).trans hc0
            clear hc0
            have hfj : Hid (f j = xs[8 * k + j]) := hide (by rw [HF.out]; show xs.getD (8 * k + j) false = _; rw [List.getD_eq_getElem?_getD, List.getElem?_eq_getElem hin]; rfl)
            have t2 : (8 * (k : Int) + (j : Int)).toNat = 8 * k + j := by omega
            have l1 : 8 * (k : Int) + (j : Int) < (len : Int) := by omega
            by_cases hv : xs[8 * k + j] = true
            · rw [hv] at hc
              have HS : Hid (val f (j + 1) = y + z) := hide (by simp only [val]; rw [hfj.out, if_pos hv, HY.out, HZ.out])
              clear hv hfj
              go_wp2
              go_round
              case rel => exact ⟨j + 1, y + z, 2 * z, by omega, by omega, by go_num, by go_num, by go_num, HS.out.symm, by rw [HZ.out, Nat.pow_succ]; omega⟩
              case measure => simp [intOf]; omega
            · replace hv : xs[8 * k + j] = false := by simpa using hv
              rw [hv] at hc
              have HS : Hid (val f (j + 1) = y) := hide (by simp only [val]; rw [hfj.out, hv, HY.out]; simp)
              clear hv hfj
              go_wp2
              go_round
              case rel => exact ⟨j + 1, y, 2 * z, by omega, by omega, by go_num, rfl, by go_num, HS.out.symm, by rw [HZ.out, Nat.pow_succ]; omega⟩
              case measure => simp [intOf]; omega
          · obtain rfl : j = 8 := by omega
            have HS : Hid (val f 8 = y) := hide (HY.out.symm)
            have hszr : B ≤ wr.heap.size := hB ▸ hbr.size
            have T1 : IntKind.u8.wrap (y : Int) = (y : Int) := by rw [IntKind.wrap_u8]; omega
            go_wp2_with (at_builtin; refine app (by rfl) _ _ rfl B rfl (ho.mono ((Below.refl _ _).alloc (Nat.le_refl _) _)) rfl (one_own _ _ y (by first | rfl | omega | (simp; omega)) (by omega) _).sl (by omega) (Nat.le_trans hszr (by simp)) ?_)
            intro a3 c3 w3 ho3 hb3
            go_wp2
            go_roundw
            case rel => exact ⟨k + 1, a3, c3, by omega, by go_num, rfl, by rw [HT.out, HS.out]; exact ho3, (hbr.alloc hszr _).trans hb3⟩
            case measure => simp [intOf]; omega
        · have HS : Hid (val f 8 = y) := hide (by rw [HY.out]; exact (HV.out j (by omega) hj8).symm)
          have hszr : B ≤ wr.heap.size := hB ▸ hbr.size
          have T1 : IntKind.u8.wrap (y : Int) = (y : Int) := by rw [IntKind.wrap_u8]; omega
          go_wp2_with (at_builtin; refine app (by rfl) _ _ rfl B rfl (ho.mono ((Below.refl _ _).alloc (Nat.le_refl _) _)) rfl (one_own _ _ y (by first | rfl | omega | (simp; omega)) (by omega) _).sl (by omega) (Nat.le_trans hszr (by simp)) ?_)
          intro a3 c3 w3 ho3 hb3
          go_wp2
          go_roundw
          case rel => exact ⟨k + 1, a3, c3, by omega, by go_num, rfl, by rw [HT.out, HS.out]; exact ho3, (hbr.alloc hszr _).trans hb3⟩
          case measure => simp [intOf]; omega
    · obtain rfl : k = M := by omega
      rw [List.take_of_length_le (by rw [HPL.out]; omega)] at ho
      go_wp2
      go_ret
      exact ⟨⟨_, _, by rw [hM]; rfl, by rw [hM]; first | exact ho | (rw [hB]; exact ho)⟩, by first | exact hbr | (rw [hB]; exact hbr)⟩

set_option maxRecDepth 20000 in
set_option maxHeartbeats 2000000 in
theorem refUnpack_any (a : Option Addr) (len cap : Nat) (xs : List UInt8) (n : Int) (hn : (Lit.int .i64 n).wf = true) (w : World) (hx : Bs w a len cap xs) (hlen : len ≤ 10000) :
    Calls Try.prog 30 #[.slice a len cap, .int .i64 n] w fun e w' => (∃ a' c', e = .returned (.tuple #[.slice a' (outU xs n).length c', .bool (good xs n)]) ∧ Own boolV w' w.heap.size a' (outU xs n).length c' (outU xs n)) ∧ Below w.heap.size w w' := by
  have hml := hide hx.hlen
  have HX := hide hx
  have hle := hx.hle
  have hmx := hx.hmax
  unfold maxLen at hmx
  have hb := bounds_i64 hn
  clear hx hn
  have HO : Hid (good xs n = false → outU xs n = []) := hide fun h => by unfold outU; rw [h]; rfl
  have HNil : Hid (∀ w', Own boolV w' w.heap.size none 0 0 []) := hide fun w' => Own.empty _ _ _
  go_enter Try.func30, Try.ntmps30
  by_cases h0 : n < 0
  · have hg : good xs n = false := by unfold good; simp [show ¬ 0 ≤ n by omega]
    have E0 := hide (HO.out hg)
    have G0 := hide hg
    clear hg
    go_wp2
    go_ret2
    exact ⟨⟨none, 0, by rw [E0.out, G0.out]; rfl, by rw [E0.out]; exact Own.empty _ _ _⟩, Below.refl _ _⟩
  obtain ⟨N, rfl⟩ : ∃ N : Nat, n = N := ⟨n.toNat, by omega⟩
  clear h0
  by_cases h1 : 8 * len < N
  · have hg : good xs N = false := by unfold good; rw [hml.out, manyI_nat, show decide ((len : Int) = (many N : Int)) = false by unfold many; simp; omega]; simp
    have E0 := hide (HO.out hg)
    have G0 := hide hg
    clear hg
    have h1' : 8 * (len : Int) < (N : Int) := by omega
    go_wp2
    go_ret2
    exact ⟨⟨none, 0, by rw [E0.out, G0.out]; rfl, by rw [E0.out]; exact Own.empty _ _ _⟩, Below.refl _ _⟩
  have h1' : (N : Int) ≤ 8 * (len : Int) := by omega
  go_wp2
  generalize hB : w.heap.size = B at *
  have ho1 : Own boolV w B none 0 0 [] := Own.empty _ _ _
  go_loopw [7, 6] (fun i s wr => ∃ (k : Nat) (a' : Option Addr) (c' : Nat), k ≤ N ∧ i = .int .i64 (k : Int) ∧ s = .slice a' k c' ∧ Own boolV wr B a' k c' (unpackL xs k) ∧ Below B w wr) (fun i _ _ => N - (intOf i).toNat)
  case atStart => exact ⟨0, _, _, Nat.zero_le _, rfl, rfl, ho1, Below.refl _ _⟩
  case round =>
    clear ho1
    obtain ⟨k, a', c', hk, rfl, rfl, ho, hbr⟩ := hrel
    by_cases hlt : k < N
    · have hlt' : k / 8 < xs.length := by have := hml.out; omega
      have hszr : B ≤ wr.heap.size := hB ▸ hbr.size
      obtain ⟨b, off, rfl, hbl, hc0⟩ := HX.out.hcell (k / 8) hlt'
      have hbB : b < B := by rw [← hB]; exact hbl
      have hc : wr.cell? ⟨b, off + k / 8, none⟩ = some (.int .u8 (xs[k / 8].toNat : Int)) := (hbr.cell (p := ⟨b, off + k / 8, none⟩) hbB).trans hc0
      clear hc0
      have hu := unpackL_more xs k
      rw [bitAt_div, List.getD_eq_getElem?_getD, List.getElem?_eq_getElem hlt', Option.getD_some] at hu
      have HU := hide hu
      clear hu
      have hx8 := byte_lt xs[k / 8]
      generalize xs[k / 8].toNat = x at *
      have hli : ((k : Int) / 8) < (len : Int) := by omega
      go_wp2
      go_loop [8, 9] (fun c j => ∃ (m y : Nat), m ≤ k % 8 ∧ j = .int .i64 (m : Int) ∧ c = .int .i64 (y : Int) ∧ y = x / 2 ^ m) (fun _ j => 8 - (intOf j).toNat)
      case atStart => exact ⟨0, x, by omega, rfl, rfl, by simp⟩
      case round =>
        obtain ⟨m, y, hm, rfl, rfl, hy⟩ := hrel
        have hy1 : y < 256 := by have := Nat.div_le_self x (2 ^ m); omega
        have HY := hide hy
        clear hy
        by_cases hend : m < k % 8
        · go_wp2
          go_round
          case rel => exact ⟨m + 1, y / 2, by omega, by go_num, by go_num, by rw [HY.out, Nat.div_div_eq_div_mul, Nat.pow_succ]⟩
          case measure => simp [intOf]; omega
        · obtain rfl : m = k % 8 := by omega
          have HV : Hid (((y : Int) % 2 == 1) = decide (x / 2 ^ (k % 8) % 2 = 1)) := hide (by rw [HY.out, Bool.eq_iff_iff]; simp only [beq_iff_eq, decide_eq_true_eq]; omega)
          go_wp2_with (at_builtin; refine appL (by rfl) _ _ rfl B rfl (ho.mono ((Below.refl _ _).alloc (Nat.le_refl _) _)) rfl (one_ownL _ _ _).sl (by omega) (Nat.le_trans hszr (by simp)) ?_)
          intro a3 c3 w3 ho3 hb3
          go_wp2
          go_roundw
          case rel => exact ⟨k + 1, a3, c3, by omega, by go_num, rfl, by rw [HU.out, ← HV.out]; exact ho3, (hbr.alloc hszr _).trans hb3⟩
          case measure => simp [intOf]; omega
    · obtain rfl : k = N := by omega
      have HE : Hid (good xs k = decide (packB (unpackL xs k) = xs)) := hide (good_iff xs k)
      have HC : Hid (good xs k = true → outU xs k = unpackL xs k) := hide fun h => by unfold outU; rw [if_pos h]; simp
      have HL := hide (unpackL_length xs k)
      have hcb := fun W (h : Below w.heap.size w W) => Bs.conv (P := Try.prog) (HX.out.mono h) 22 5 Try.underlying22 Try.underlying5 9 Try.underlying9
      have hbr' : Below w.heap.size w wr := by rw [hB]; exact hbr
      have hst := strOf_toList
      have hr := hcb wr.drew (hbr'.drew)
      have HCB := hide hcb
      have HBR := hide hbr'
      clear hcb hbr'
      go_wp2
      refine wp_region_noPanic ?_
      go_region_held (fun w' => (convert 22 9 (.slice a len cap)).run Try.prog w' = .ok (.string (strOf xs)) w')
        (first | assumption | exact HCB.out _ (below_next HBR.out.drew hb1 (Nat.le_refl _)))
        (first | (go_at_call 51; refine (refPack_any _ _ _ _ _ ho.sl.drew (by omega)).mono ?_; rintro e w1 ⟨⟨p1, c1, rfl, hp1⟩, hb1⟩; have hcv := Bs.conv (P := Try.prog) hp1.sl 22 5 Try.underlying22 Try.underlying5 9 Try.underlying9))
      refine NoPanic.normal ?_
      have hE := below_next HBR.out.drew hb1 (Nat.le_refl _)
      have hO := (ho.drew).mono hb1
      clear hb1 hp1 hcv hr
      go_wp2
      · rename_i hq
        have hg : good xs k = false := by rw [HE.out]; simpa using hq
        rw [HO.out hg, hg]
        go_ret2
        exact ⟨⟨none, 0, rfl, Own.empty _ _ _⟩, hE⟩
      · rename_i hq
        have hg : good xs k = true := by rw [HE.out]; simpa using hq
        rw [HC.out hg, hg, HL.out]
        go_wp2
        go_ret2
        exact ⟨⟨a', c', rfl, by first | exact hO | (rw [hB]; exact hO)⟩, hE⟩

end Go.Proofs.Ytgacfocbdeohaaa
