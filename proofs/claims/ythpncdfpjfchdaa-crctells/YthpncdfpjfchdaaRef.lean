/-
  The document's answer for package crc, bit by bit: what it computes.
-/
import Derived.Test.YthpncdfpjfchdaaCrc
namespace Go.Proofs.Ythpncdfpjfchdaa
open Go.RowKit
open Crc

theorem iter_snoc (n s : Nat) : iter (n + 1) s = bitStep (iter n s) := by
  rw [iter_add]; rfl

theorem bitStep_odd (s : Nat) (hs : s < 65536) (h : s % 2 = 1) : bits BinOp.xor IntKind.u16 ((s : Int) / 2) 40961 = ((bitStep s : Nat) : Int) := by
  unfold bitStep
  rw [if_pos h, show ((s : Int) / 2) = ((s / 2 : Nat) : Int) by omega]
  exact u16_xor_nat _ 40961 (by omega) (by omega)
theorem bitStep_even (s : Nat) (h : ¬ s % 2 = 1) : ((s : Int) / 2) = ((bitStep s : Nat) : Int) := by
  unfold bitStep
  rw [if_neg h]; omega

set_option maxHeartbeats 1000000 in
theorem refThen_any (a : Option Addr) (len cap : Nat) (s : Nat) (hs : s < 65536) (xs : List UInt8) (w : World) (hx : Bs w a len cap xs) :
    Calls Try.prog 10 #[.int .u16 s, .slice a len cap] w fun e w' => e = .returned (.int .u16 (thenN s xs)) ∧ w' = w := by
  have hm0 := hide hx.hlen
  have hm := hx.hle
  have hm2 := hx.hmax
  unfold maxLen at hm2
  go_enter Try.func10, Try.ntmps10
  go_wp2
  go_loop [0, 5, 6, 7] (fun s' i _k _o => ∃ k : Nat, k ≤ len ∧ i = .int .i64 k ∧ s' = .int .u16 (thenN s (xs.take k))) (fun _ i _ _ => len - (intOf i).toNat)
  case atStart => exact ⟨0, Nat.zero_le _, rfl, rfl⟩
  case round =>
    obtain ⟨k, hk, rfl, rfl⟩ := hrel
    by_cases hlt : k < len
    · have hlt' : k < xs.length := by have := hm0.out; omega
      obtain ⟨b, off, rfl, hbl, hc⟩ := hx.hcell k hlt'
      have hth := thenN_lt s (xs.take k) hs
      have HT := hide (thenN_take_succ s xs k hlt')
      have hxk := u8_lt xs[k]
      have e1 : bits BinOp.xor IntKind.u16 (thenN s (xs.take k) : Int) (xs[k].toNat : Int) = ((thenN s (xs.take k) ^^^ xs[k].toNat : Nat) : Int) := u16_xor_nat _ _ hth (by omega)
      have hq : thenN s (xs.take k) ^^^ xs[k].toNat < 65536 := xor_lt 16 hth (by omega)
      have HQ : Hid (tabStep (thenN s (xs.take k)) xs[k].toNat = iter 8 (thenN s (xs.take k) ^^^ xs[k].toNat)) := hide (tabStep_eq _ _ hxk)
      generalize hqq : thenN s (xs.take k) ^^^ xs[k].toNat = q at *
      go_wp2
      go_loop [0, 6, 7] (fun s' j _o => ∃ n : Nat, n ≤ 8 ∧ j = .int .i64 n ∧ s' = .int .u16 (iter n q)) (fun _ j _ => 8 - (intOf j).toNat)
      case atStart => exact ⟨0, Nat.zero_le _, rfl, rfl⟩
      case round =>
        obtain ⟨n, hn, rfl, rfl⟩ := hrel
        have hi := iter_lt n hq
        by_cases hn8 : n < 8
        · have HI := hide (iter_snoc n q)
          by_cases hodd : iter n q % 2 = 1
          · have ho : ((iter n q : Int) % 2 == 1) = true := by rw [show ((iter n q : Int) % 2) = ((iter n q % 2 : Nat) : Int) by omega, hodd]; rfl
            have HX := hide (bitStep_odd (iter n q) hi hodd)
            clear hodd
            go_wp2
            go_round
            case rel => exact ⟨n + 1, by omega, by go_num, by rw [HX.out, HI.out]⟩
            case measure => simp [intOf]; omega
          · have ho : ((iter n q : Int) % 2 == 1) = false := by
              rw [show ((iter n q : Int) % 2) = ((iter n q % 2 : Nat) : Int) by omega, show iter n q % 2 = 0 by omega]; rfl
            have HX := hide (bitStep_even (iter n q) hodd)
            clear hodd
            go_wp2
            go_round
            case rel => exact ⟨n + 1, by omega, by go_num, by rw [HX.out, HI.out]⟩
            case measure => simp [intOf]; omega
        · go_wp2
          go_round
          case rel => exact ⟨k + 1, by omega, by go_num, by rw [HT.out, HQ.out, show n = 8 by omega]⟩
          case measure => simp [intOf]; omega
    · go_wp2
      go_ret
      exact ⟨by rw [List.take_of_length_le (by rw [hm0.out]; omega)]; rfl, rfl⟩

set_option maxHeartbeats 400000 in
theorem refSame_any (a b : Option Addr) (la lb ca cb : Nat) (xs ys : List UInt8) (w : World) (hx : Bs w a la ca xs) (hy : Bs w b lb cb ys) :
    Calls Try.prog 12 #[.slice a la ca, .slice b lb cb] w fun e w' => e = .returned (.bool (xs == ys)) ∧ w' = w := by
  have c1 := hx.conv (P := Try.prog) 22 5 Try.underlying22 Try.underlying5 9 Try.underlying9
  have c2 := hy.conv (P := Try.prog) 22 5 Try.underlying22 Try.underlying5 9 Try.underlying9
  clear hx hy
  go_enter Try.func12, Try.ntmps12
  go_wp2
  go_ret
  exact ⟨ret_bool (by rw [strOf_toList, strOf_toList]), rfl⟩

theorem isB_two (xs : List UInt8) (m : Nat) (hl : xs.length = m + 2) : isB xs = (decide ((xs[m]'(by omega)).toNat = thenN 65535 (xs.take m) % 256) && decide ((xs[m + 1]'(by omega)).toNat = thenN 65535 (xs.take m) / 256)) := by
  have hs := thenN_lt 65535 (xs.take m) (by omega)
  unfold isB
  rw [show xs.length - 2 = m by omega]
  have hd : xs.drop m = [xs[m]'(by omega), xs[m + 1]'(by omega)] := by
    rw [List.drop_eq_getElem_cons (by omega), List.drop_eq_getElem_cons (by omega), List.drop_of_length_le (by omega)]
  rw [hd, Bool.eq_iff_iff]
  generalize thenN 65535 (xs.take m) = T at *
  simp only [two, hl, ← UInt8.toNat_inj, UInt8.toNat_ofNat', Bool.and_eq_true, decide_eq_true_eq, beq_iff_eq, List.cons.injEq, and_true]
  omega

set_option maxHeartbeats 1000000 in
theorem refIs_any (a : Option Addr) (len cap : Nat) (xs : List UInt8) (w : World) (hx : Bs w a len cap xs) :
    Calls Try.prog 15 #[.slice a len cap] w fun e w' => e = .returned (.bool (isB xs)) ∧ w' = w := by
  have hm0 := hide hx.hlen
  have hm := hx.hle
  have hm2 := hx.hmax
  unfold maxLen at hm2
  by_cases hn : 2 ≤ len
  · obtain ⟨m, hm3⟩ : ∃ m, m + 2 = len := ⟨len - 2, by omega⟩
    have H3 := hide hm3
    have ht := hx.take m (by omega)
    obtain ⟨b, off, rfl, hlt, hcc⟩ := hx.at (by omega)
    have hc1 : w.cell? ⟨b, off + m, none⟩ = some (.int .u8 ((xs[m]'(by have := hm0.out; omega)).toNat : Int)) := hcc m (by have := hm0.out; omega)
    have hc2 : w.cell? ⟨b, off + (m + 1), none⟩ = some (.int .u8 ((xs[m + 1]'(by have := hm0.out; omega)).toNat : Int)) := hcc (m + 1) (by have := hm0.out; omega)
    clear hcc
    have hs := thenN_lt 65535 (xs.take m) (by omega)
    subst hm3
    go_enter Try.func15, Try.ntmps15
    go_wp2_with fail
    refine (refThen_any _ _ _ 65535 (by omega) _ _ ht).mono ?_
    rintro e w' ⟨rfl, rfl⟩
    have HB := hide (isB_two xs m hm0.out)
    generalize thenN 65535 (xs.take m) = T at *
    have hb1 := u8_lt (xs[m]'(by have := hm0.out; omega))
    have hb2 := u8_lt (xs[m + 1]'(by have := hm0.out; omega))
    generalize (xs[m]'(by have := hm0.out; omega)).toNat = p1 at *
    generalize (xs[m + 1]'(by have := hm0.out; omega)).toNat = p2 at *
    by_cases h1 : p1 = T % 256
    · have h1' : ((p1 : Int) == (T : Int) % 256) = true := by rw [h1]; simp
      have HH := hide h1
      clear h1
      go_wp2
      go_ret
      exact ⟨ret_bool (by rw [HB.out, show ((T : Int) / 256) = ((T / 256 : Nat) : Int) by omega, beq_cast]; simp [HH.out]), rfl⟩
    · have h1' : ((p1 : Int) == (T : Int) % 256) = false := by simp; omega
      have HH := hide h1
      clear h1
      go_wp2
      go_ret
      exact ⟨ret_bool (by rw [HB.out]; simp [HH.out]), rfl⟩
  · have HB := hide (show isB xs = false by unfold isB; simp [hm0.out, hn])
    go_enter Try.func15, Try.ntmps15
    go_wp2
    go_ret
    exact ⟨ret_bool HB.out.symm, rfl⟩

end Go.Proofs.Ythpncdfpjfchdaa
