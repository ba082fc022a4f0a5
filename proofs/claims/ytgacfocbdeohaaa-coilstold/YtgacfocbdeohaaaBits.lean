/-
  The contracts of package bits: Many, Pack, Unpack, clean.
-/
import Derived.Test.YtgacfocbdeohaaaBitMath
import Derived.BigRegion
namespace Go.Proofs.Ytgacfocbdeohaaa
open Go.RowKit
open Bits

theorem quo_zero (x m : Nat) : ((x : Int) / 2 ^ m == 0) = decide (x / 2 ^ m = 0) := by
  have : ((x : Int) / 2 ^ m) = ((x / 2 ^ m : Nat) : Int) := by simp
  rw [this, Bool.eq_iff_iff]
  simp only [beq_iff_eq, decide_eq_true_eq]
  omega

theorem quo_odd (x m : Nat) : ((x : Int) / 2 ^ m % 2 == 1) = decide (x / 2 ^ m % 2 = 1) := by
  have : ((x : Int) / 2 ^ m) = ((x / 2 ^ m : Nat) : Int) := by simp
  rw [this, Bool.eq_iff_iff]
  simp only [beq_iff_eq, decide_eq_true_eq]
  omega
theorem or_u8 (p q : Nat) (hp : p < 256) (hq : q < 256) : bits .or .u8 (p : Int) (q : Int) = ((p ||| q : Nat) : Int) := by
  show IntKind.u8.wrap (((BitVec.ofInt 8 (p : Int) ||| BitVec.ofInt 8 (q : Int)).toNat : Nat) : Int) = _
  rw [BitVec.toNat_or, BitVec.toNat_ofInt, BitVec.toNat_ofInt]
  have f1 : ((p : Int) % ((2 ^ 8 : Nat) : Int)).toNat = p := by omega
  have f2 : ((q : Int) % ((2 ^ 8 : Nat) : Int)).toNat = q := by omega
  have := Nat.or_lt_two_pow (n := 8) hp hq
  rw [f1, f2, IntKind.wrap_u8]
  omega
theorem or_pow (x : UInt8) (m : Nat) (hm : m < 8) : bits .or .u8 (x.toNat : Int) (2 ^ m % 256) = ((UInt8.ofNat (x.toNat ||| 2 ^ m)).toNat : Int) := by
  have h1 : 2 ^ m < 256 := Nat.pow_lt_pow_right (n := 8) (by omega) hm
  have h2 : ((2 : Int) ^ m % 256) = ((2 ^ m : Nat) : Int) := by
    have : ((2 ^ m : Nat) : Int) = (2 : Int) ^ m := by simp
    rw [← this]
    generalize 2 ^ m = p at *
    omega
  have h3 := Nat.or_lt_two_pow (n := 8) (byte_lt x) h1
  rw [h2, or_u8 _ _ (byte_lt x) h1, UInt8.toNat_ofNat', Nat.mod_eq_of_lt h3]

theorem many_any (n : Int) (hn : (Lit.int .i64 n).wf = true) (w : World) :
    Calls Try.prog 68 #[.int .i64 n] w fun e w' => e = .returned (.int .i64 (manyI n)) ∧ w' = w := by
  have hb := bounds_i64 hn
  clear hn
  go_enter Try.func68, Try.ntmps68
  by_cases h1 : n < 1
  · go_wp2
    go_ret
    exact ⟨ret_int (by unfold manyI; rw [if_pos h1]), rfl⟩
  · have hq : (n - 1).tdiv 8 = (n - 1) / 8 := Int.tdiv_eq_ediv_of_nonneg (by omega)
    go_wp2
    go_ret
    exact ⟨ret_int (by unfold manyI; rw [if_neg (by omega)]), rfl⟩

set_option maxHeartbeats 1000000 in
theorem clean_any (a : Option Addr) (len cap : Nat) (xs : List UInt8) (n : Nat) (w : World) (hx : Bs w a len cap xs) (hn : n ≤ 100000) (hl : n % 8 ≠ 0 → 0 < len) :
    Calls Try.prog 76 #[.slice a len cap, .int .i64 (n : Int)] w fun e w' => e = .returned (.bool (cleanB xs n)) ∧ w' = w := by
  have hml := hide hx.hlen
  have hle := hx.hle
  have hmx := hx.hmax
  unfold maxLen at hmx
  have HX := hide hx
  clear hx
  go_enter Try.func76, Try.ntmps76
  by_cases h0 : n % 8 = 0
  · go_wp2
    go_ret
    exact ⟨ret_bool (by unfold cleanB; simp [h0]), rfl⟩
  · have hpos := hl h0
    have hlt : len - 1 < xs.length := by have := hml.out; omega
    obtain ⟨b, off, rfl, hbl, hc0⟩ := HX.out.hcell (len - 1) hlt
    have hc : w.cell? ⟨b, off + (len - 1), none⟩ = some (.int .u8 (xs[len - 1].toNat : Int)) := hc0
    clear hc0
    have HE : Hid (cleanB xs n = decide (xs[len - 1].toNat / 2 ^ (n % 8) = 0)) := hide (by
      unfold cleanB
      rw [show xs.length - 1 = len - 1 by rw [hml.out], List.getD_eq_getElem?_getD, List.getElem?_eq_getElem hlt]
      simp [h0])
    have hx := byte_lt xs[len - 1]
    generalize xs[len - 1].toNat = x at *
    go_wp2
    go_ret
    exact ⟨ret_bool (by rw [HE.out]; exact quo_zero x (n % 8)), rfl⟩

set_option maxHeartbeats 1000000 in
theorem pack_any (a : Option Addr) (len cap : Nat) (xs : List Bool) (w : World) (hx : Ls w a len cap xs) (hlen : len ≤ 100000) :
    Calls Try.prog 70 #[.slice a len cap] w fun e w' => (∃ a' c', e = .returned (.slice a' (many len) c') ∧ Own byteV w' w.heap.size a' (many len) c' (packB xs)) ∧ Below w.heap.size w w' := by
  have hmk : ∀ w, (Instr.makeSlice 22 (.int .i64 (many len : Int)) (.int .i64 (many len : Int))).run Try.prog w = .ok (.slice (some ⟨w.heap.size, 0, none⟩) (many len) (many len)) (w.alloc (.cells (madeCells #[.int .u8 0] (many len)) 5)) := fun w =>
    make_bytes (many len) (many len) (Nat.le_refl _) (by unfold many; omega) w
  have hml := hide hx.hlen
  have HX := hide hx
  have hle := hx.hle
  have hmx := hx.hmax
  unfold maxLen at hmx
  clear hx
  have HW : Hid ((Lit.int .i64 (len : Int)).wf = true) := hide (by simp [Lit.wf, IntKind.min, IntKind.max, IntKind.bits, IntKind.signed]; omega)
  go_enter Try.func70, Try.ntmps70
  go_wp2_with fail
  refine (many_any _ HW.out _).mono ?_
  rintro e w1 ⟨rfl, rfl⟩
  rw [manyI_nat]
  go_wp2
  generalize hB : w1.heap.size = B at *
  have hmany : many len = (len + 7) / 8 := rfl
  have ho1 : Own byteV (w1.alloc (.cells (madeCells #[.int .u8 0] (many len)) 5)) B (some ⟨B, 0, none⟩) (many len) (many len) (packTo xs 0) := by
    rw [← hB, packTo_zero, hml.out]; exact made_all (f := byteV) 0 w1 _ (by omega) _
  have hb1 : Below B w1 (w1.alloc (.cells (madeCells #[.int .u8 0] (many len)) 5)) := by rw [← hB]; exact (Below.refl _ _).alloc (Nat.le_refl _) _
  generalize w1.alloc (.cells (madeCells #[.int .u8 0] (many len)) 5) = w2 at *
  generalize hM : many len = M at *
  clear hmk
  go_loopw [11] (fun i wr => ∃ (k : Nat), k ≤ len ∧ i = .int .i64 k ∧ Own byteV wr B (some ⟨B, 0, none⟩) M M (packTo xs k) ∧ Below B w1 wr) (fun i _ => len - (intOf i).toNat)
  case atStart => exact ⟨0, Nat.zero_le _, rfl, ho1, hb1⟩
  case round =>
    clear ho1 hb1
    obtain ⟨k, hk, rfl, ho, hbr⟩ := hrel
    by_cases hlt : k < len
    · have hlt' : k < xs.length := by have := hml.out; omega
      obtain ⟨b, off, rfl, hbl, hc0⟩ := HX.out.hcell k hlt'
      have hbB : b < B := by rw [← hB]; exact hbl
      have hc : wr.cell? ⟨b, off + k, none⟩ = some (.bool xs[k]) := (hbr.cell (p := ⟨b, off + k, none⟩) hbB).trans hc0
      clear hc0
      by_cases hv : xs[k] = true
      · rw [hv] at hc
        have hi8 : k / 8 < (packTo xs k).length := by rw [packTo_length, hml.out]; unfold many; omega
        have HT := hide (packTo_true xs k hlt' hv hi8)
        obtain ⟨_, _, hh, hbB2, hd0⟩ := ho.sl.hcell (k / 8) hi8
        cases hh
        have hd : wr.cell? ⟨B, k / 8, none⟩ = some (.int .u8 ((packTo xs k)[k / 8].toNat : Int)) := by rw [Nat.zero_add] at hd0; exact hd0
        clear hd0
        obtain ⟨_, _, hh, _, _, _, hf0⟩ := ho.room (k / 8) (by omega)
        cases hh
        have hf : wr.frozen? ⟨B, k / 8, none⟩ = false := by rw [Nat.zero_add] at hf0; exact hf0
        clear hf0
        have ev := or_pow (packTo xs k)[k / 8] (k % 8) (by omega)
        have hoA := (ho.set (k / 8) hi8 (UInt8.ofNat ((packTo xs k)[k / 8].toNat ||| 2 ^ (k % 8)))).drew
        have hbA := (hbr.setCell (p := ⟨B, 0 + k / 8, none⟩) (Nat.le_refl _) (byteV (UInt8.ofNat ((packTo xs k)[k / 8].toNat ||| 2 ^ (k % 8))))).drew
        rw [← HT.out] at hoA
        clear HT
        simp only [byteV, Nat.zero_add] at hoA hbA
        rw [← ev] at hoA hbA
        clear ev
        go_wp2
        go_region
        generalize (wr.setCell ⟨B, k / 8, none⟩ (.int .u8 (bits BinOp.or IntKind.u8 ((packTo xs k)[k / 8].toNat : Int) (2 ^ (k % 8) % 256)))).drew = W2 at *
        clear ho hd hf hc hbr
        go_wp2
        go_roundw
        case rel => exact ⟨k + 1, by omega, by go_num, hoA, hbA⟩
        case measure => simp [intOf]; omega
      · replace hv : xs[k] = false := by simpa using hv
        rw [hv] at hc
        have HT := hide (packTo_false xs k hlt' hv)
        go_wp2
        go_roundw
        case rel => exact ⟨k + 1, by omega, by go_num, by rw [HT.out]; exact ho, hbr⟩
        case measure => simp [intOf]; omega
    · obtain rfl : k = len := by omega
      go_wp2
      go_ret
      exact ⟨⟨_, _, by rw [hM]; rfl, by rw [← packTo_all, hml.out]; rw [hM]; first | exact ho | (rw [hB]; exact ho)⟩, by first | exact hbr | (rw [hB]; exact hbr)⟩

theorem bit_one (x m : Nat) (_hx : x < 256) : bits .and .u8 ((x : Int) / 2 ^ m) 1 = ((x / 2 ^ m % 2 : Nat) : Int) := by
  have h0 : ((x : Int) / 2 ^ m) = ((x / 2 ^ m : Nat) : Int) := by simp
  have h1 : x / 2 ^ m ≤ x := Nat.div_le_self _ _
  rw [h0]
  generalize x / 2 ^ m = q at *
  show IntKind.u8.wrap (((BitVec.ofInt 8 (q : Int) &&& BitVec.ofInt 8 1).toNat : Nat) : Int) = _
  rw [BitVec.toNat_and, BitVec.toNat_ofInt, BitVec.toNat_ofInt]
  have f1 : ((q : Int) % ((2 ^ 8 : Nat) : Int)).toNat = q := by omega
  have f2 : ((1 : Int) % ((2 ^ 8 : Nat) : Int)).toNat = 1 := by omega
  rw [f1, f2, Nat.and_one_is_mod, IntKind.wrap_u8]
  omega

theorem ret_pair {a : Option Addr} {l l' c : Nat} {b b' : Bool} (h1 : l = l') (h2 : b = b') : Ending.returned (.tuple #[.slice a l c, .bool b]) = .returned (.tuple #[.slice a l' c, .bool b']) := by rw [h1, h2]

set_option maxHeartbeats 2000000 in
theorem unpack_any (a : Option Addr) (len cap : Nat) (xs : List UInt8) (n : Int) (hn : (Lit.int .i64 n).wf = true) (w : World) (hx : Bs w a len cap xs) (hlen : len ≤ 10000) :
    Calls Try.prog 69 #[.slice a len cap, .int .i64 n] w fun e w' => (∃ a' c', e = .returned (.tuple #[.slice a' (outU xs n).length c', .bool (good xs n)]) ∧ Own boolV w' w.heap.size a' (outU xs n).length c' (outU xs n)) ∧ Below w.heap.size w w' := by
  have hml := hide hx.hlen
  have HX := hide hx
  have hle := hx.hle
  have hmx := hx.hmax
  unfold maxLen at hmx
  have hb := bounds_i64 hn
  have HN := hide hn
  clear hx hn
  have HO : Hid (good xs n = false → outU xs n = []) := hide fun h => by unfold outU; rw [h]; rfl
  have hnil : Own boolV w w.heap.size none 0 0 [] := Own.empty _ _ _
  go_enter Try.func69, Try.ntmps69
  by_cases h0 : n < 0
  · have hg : good xs n = false := by unfold good; simp [show ¬ 0 ≤ n by omega]
    have E0 := hide (HO.out hg)
    have G0 := hide hg
    clear hg
    go_wp2
    go_ret2
    exact ⟨⟨none, 0, by rw [E0.out, G0.out]; rfl, by rw [E0.out]; exact hnil⟩, Below.refl _ _⟩
  go_wp2_with fail
  refine (many_any _ HN.out _).mono ?_
  rintro e w1 ⟨rfl, rfl⟩
  by_cases h1 : (len : Int) = manyI n
  · obtain ⟨N, rfl⟩ : ∃ N : Nat, n = N := ⟨n.toNat, by omega⟩
    rw [← h1]
    have hN1 : N ≤ 8 * len := by rw [manyI_nat] at h1; unfold many at h1; omega
    have hN2 : 8 * len < N + 8 := by rw [manyI_nat] at h1; unfold many at h1; omega
    have HG : Hid (good xs N = cleanB xs N) := hide (by unfold good; rw [hml.out]; simp [h1])
    clear h1 h0 hb
    go_wp2_with fail
    refine (clean_any _ _ _ _ N _ HX.out (by omega) (by omega)).mono ?_
    rintro e w2 ⟨rfl, rfl⟩
    by_cases h2 : cleanB xs N = true
    · have HC : Hid (outU xs N = unpackL xs N) := hide (by unfold outU; rw [HG.out, if_pos h2]; simp)
      have G0 : Hid (good xs N = true) := hide (HG.out.trans h2)
      rw [h2]
      clear h2
      have hmk : ∀ w, (Instr.makeSlice 26 (.int .i64 (N : Int)) (.int .i64 (N : Int))).run Try.prog w = .ok (.slice (some ⟨w.heap.size, 0, none⟩) N N) (w.alloc (.cells (madeCells #[.bool false] N) 4)) := fun w =>
        make_bools N N (Nat.le_refl _) (by omega) w
      go_wp2
      generalize hB : w2.heap.size = B at *
      have ho1 : Own boolV (w2.alloc (.cells (madeCells #[.bool false] N) 4)) B (some ⟨B, 0, none⟩) N N (unpackTo xs N 0) := by
        rw [← hB, unpackTo_zero]; exact made_all (f := boolV) false w2 _ (by omega) _
      have hb1 : Below B w2 (w2.alloc (.cells (madeCells #[.bool false] N) 4)) := by rw [← hB]; exact (Below.refl _ _).alloc (Nat.le_refl _) _
      generalize w2.alloc (.cells (madeCells #[.bool false] N) 4) = w3 at *
      clear hmk hnil
      go_loopw [26] (fun i wr => ∃ (k : Nat), k ≤ N ∧ i = .int .i64 k ∧ Own boolV wr B (some ⟨B, 0, none⟩) N N (unpackTo xs N k) ∧ Below B w2 wr) (fun i _ => N - (intOf i).toNat)
      case atStart => exact ⟨0, Nat.zero_le _, rfl, ho1, hb1⟩
      case round =>
        clear ho1 hb1
        obtain ⟨k, hk, rfl, ho, hbr⟩ := hrel
        by_cases hlt : k < N
        · have hlt' : k / 8 < xs.length := by have := hml.out; omega
          obtain ⟨b, off, rfl, hbl, hc0⟩ := HX.out.hcell (k / 8) hlt'
          have hbB : b < B := by rw [← hB]; exact hbl
          have hc : wr.cell? ⟨b, off + k / 8, none⟩ = some (.int .u8 (xs[k / 8].toNat : Int)) := (hbr.cell (p := ⟨b, off + k / 8, none⟩) hbB).trans hc0
          clear hc0
          have hik : k < (unpackTo xs N k).length := by rw [unpackTo_length]; exact hlt
          have hu := unpackTo_more xs N k
          rw [bitAt_div, List.getD_eq_getElem?_getD, List.getElem?_eq_getElem hlt', Option.getD_some] at hu
          have hand := bit_one xs[k / 8].toNat (k % 8) (byte_lt _)
          have hx8 := byte_lt xs[k / 8]
          generalize xs[k / 8].toNat = x at *
          obtain ⟨_, _, hh, _, _, hsm, hf0⟩ := ho.room k (by omega)
          cases hh
          have hf : wr.frozen? ⟨B, k, none⟩ = false := by rw [Nat.zero_add] at hf0; exact hf0
          obtain ⟨vo, hvo⟩ : ∃ v, wr.cell? ⟨B, k, none⟩ = some v := by rw [Nat.zero_add] at hsm; exact Option.isSome_iff_exists.1 hsm
          clear hf0 hsm
          have hoA := ho.set k hik (decide (x / 2 ^ (k % 8) % 2 = 1))
          have hbA := hbr.setCell (p := ⟨B, 0 + k, none⟩) (Nat.le_refl _) (boolV (decide (x / 2 ^ (k % 8) % 2 = 1)))
          rw [← hu] at hoA
          simp only [boolV, Nat.zero_add] at hoA hbA
          have HQ := hide (quo_odd x (k % 8))
          clear hu
          go_wp2
          rw [HQ.out]
          go_roundw
          case rel => exact ⟨k + 1, by omega, by go_num, hoA, hbA⟩
          case measure => simp [intOf]; omega
        · obtain rfl : k = N := by omega
          go_wp2
          go_ret2
          exact ⟨⟨_, _, by rw [HC.out, G0.out, unpackL_length]; rfl, by rw [HC.out, unpackL_length, ← unpackTo_all]; first | exact ho | (rw [hB]; exact ho)⟩, by first | exact hbr | (rw [hB]; exact hbr)⟩
    · replace h2 : cleanB xs N = false := by simpa using h2
      have hg := HG.out.trans h2
      have E0 := hide (HO.out hg)
      have G0 := hide hg
      clear hg
      rw [h2]
      go_wp2
      go_ret2
      exact ⟨⟨none, 0, by rw [E0.out, G0.out]; rfl, by rw [E0.out]; exact hnil⟩, Below.refl _ _⟩
  · have hg : good xs n = false := by unfold good; rw [hml.out]; simp [h1]
    have E0 := hide (HO.out hg)
    have G0 := hide hg
    clear hg
    generalize manyI n = m at *
    go_wp2
    go_ret2
    exact ⟨⟨none, 0, by rw [E0.out, G0.out]; rfl, by rw [E0.out]; exact hnil⟩, Below.refl _ _⟩

end Go.Proofs.Ytgacfocbdeohaaa
