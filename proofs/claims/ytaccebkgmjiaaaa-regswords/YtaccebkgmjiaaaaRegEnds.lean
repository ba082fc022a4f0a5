/-
  The law's own 'ends': bytes that end in words.
-/
import Derived.Test.YtaccebkgmjiaaaaJoinA
import Derived.BigRegion
import Derived.BigQuiet
import Derived.Deep.CutBlock
import Derived.Deep.DeepCutAuto
namespace Go.Proofs.Ytaccebkgmjiaaaa
open Go.RowKit
open Word

theorem ends_at (pre : List UInt8) (ys : List UInt16) (k : Nat) (hk : k < ys.length) : ∃ (h1 : pre.length + 2 * k < (pre ++ putW ys).length) (h2 : pre.length + 2 * k + 1 < (pre ++ putW ys).length), (pre ++ putW ys)[pre.length + 2 * k] = hiB ys[k] ∧ (pre ++ putW ys)[pre.length + 2 * k + 1] = loB ys[k] := by
  have hl := putW_length ys
  refine ⟨by simp; omega, by simp; omega, ?_, ?_⟩
  · have h := putW_take ys k hk
    have e : (putW ys)[2 * k]'(by omega) = hiB ys[k] := by
      have h1 : (putW (ys.take (k + 1)))[2 * k]'(by rw [putW_length]; simp; omega) = hiB ys[k] := by
        simp only [h]
        rw [List.getElem_append_right (by rw [putW_length]; simp; omega)]
        simp only [putW_length, List.length_take]
        have : 2 * k - 2 * min k ys.length = 0 := by omega
        simp [this]
      have h2 : putW ys = putW (ys.take (k + 1)) ++ putW (ys.drop (k + 1)) := by rw [← putW_append, List.take_append_drop]
      rw [← h1]
      simp only [h2]
      rw [List.getElem_append_left (by rw [putW_length]; simp; omega)]
    rw [List.getElem_append_right (by omega)]
    simpa using e
  · have h := putW_take ys k hk
    have e : (putW ys)[2 * k + 1]'(by omega) = loB ys[k] := by
      have h1 : (putW (ys.take (k + 1)))[2 * k + 1]'(by rw [putW_length]; simp; omega) = loB ys[k] := by
        simp only [h]
        rw [List.getElem_append_right (by rw [putW_length]; simp; omega)]
        simp only [putW_length, List.length_take]
        have : 2 * k + 1 - 2 * min k ys.length = 1 := by omega
        simp [this]
      have h2 : putW ys = putW (ys.take (k + 1)) ++ putW (ys.drop (k + 1)) := by rw [← putW_append, List.take_append_drop]
      rw [← h1]
      simp only [h2]
      rw [List.getElem_append_left (by rw [putW_length]; simp; omega)]
    rw [List.getElem_append_right (by omega)]
    have : pre.length + 2 * k + 1 - pre.length = 2 * k + 1 := by omega
    simpa [this] using e

set_option maxRecDepth 20000 in
set_option maxHeartbeats 2000000 in
theorem ends_any (a a2 : Option Addr) (len cap len2 cap2 : Nat) (pre : List UInt8) (ys : List UInt16) (w : World) (hx : Bs w a len cap (pre ++ putW ys)) (hy : Ws w a2 len2 cap2 ys) (hs : len ≤ 100000) (hs2 : len2 ≤ 50000) :
    Calls Try.prog 19 #[.slice a len cap, .slice a2 len2 cap2] w fun e w' => e = .returned (.bool true) ∧ Below w.heap.size w w' := by
  have HX := hide hx
  have HY := hide hy
  obtain ⟨p, hp⟩ : ∃ p, p = pre.length := ⟨_, rfl⟩
  have hlen : len = p + 2 * len2 := by rw [← hx.hlen, List.length_append, putW_length, hy.hlen, hp]
  have HL2 := hide hy.hlen
  have HP := hide hp
  subst hlen
  clear hx hy hp
  have e1 : IntKind.i64.wrap (2 * (len2 : Int)) = 2 * (len2 : Int) := by rw [IntKind.wrap_i64]; omega
  have e2 : IntKind.i64.wrap ((p : Int) + 2 * (len2 : Int) - 2 * (len2 : Int)) = (p : Int) := by rw [IntKind.wrap_i64]; omega
  have e3 : ¬ (p : Int) < 0 := by omega
  go_enter Try.func19, Try.ntmps19
  go_wp2
  go_loopw [6] (fun i wr => ∃ (k : Nat), k ≤ len2 ∧ i = .int .i64 k ∧ Below w.heap.size w wr) (fun i _ => len2 - (intOf i).toNat)
  case atStart => exact ⟨0, Nat.zero_le _, rfl, Below.refl _ _⟩
  case round =>
    obtain ⟨k, hk, rfl, hbr⟩ := hrel
    by_cases hlt : k < len2
    · have hk' : k < ys.length := by rw [HL2.out]; exact hlt
      obtain ⟨g1, g2, v1, v2⟩ := ends_at pre ys k hk'
      obtain ⟨b, off, rfl, hbl, hc⟩ := HX.out.at (by omega)
      obtain ⟨b2, off2, rfl, hbl2, hc2⟩ := HY.out.at (by omega)
      have hn := word_lt ys[k]
      have c1 : wr.cell? ⟨b, off + (p + 2 * k), none⟩ = some (.int .u8 ((ys[k].toNat : Int) / 256)) := by
        rw [hbr.cell (p := ⟨b, off + (p + 2 * k), none⟩) hbl, HP.out, hc _ g1, v1]
        unfold hiB
        simp only [byteV, UInt8.toNat_ofNat']
        congr 2
        omega
      have c2 : wr.cell? ⟨b, off + (p + 2 * k + 1), none⟩ = some (.int .u8 ((ys[k].toNat : Int) % 256)) := by
        rw [hbr.cell (p := ⟨b, off + (p + 2 * k + 1), none⟩) hbl, HP.out, hc _ g2, v2]
        unfold loB
        simp only [byteV, UInt8.toNat_ofNat']
        congr 2
        omega
      have c3 : wr.cell? ⟨b2, off2 + k, none⟩ = some (.int .u16 (ys[k].toNat : Int)) := (hbr.cell (p := ⟨b2, off2 + k, none⟩) hbl2).trans (hc2 k hk')
      clear hc hc2 v1 v2 g1 g2
      generalize ys[k].toNat = n at *
      have hand : bits .and .u16 (n : Int) 255 = (n : Int) % 256 := by
        show IntKind.u16.wrap (((BitVec.ofInt 16 (n : Int) &&& BitVec.ofInt 16 255).toNat : Nat) : Int) = _
        rw [BitVec.toNat_and, BitVec.toNat_ofInt, BitVec.toNat_ofInt]
        have f1 : ((n : Int) % ((2 ^ 16 : Nat) : Int)).toNat = n := by omega
        have f2 : ((255 : Int) % ((2 ^ 16 : Nat) : Int)).toNat = 2 ^ 8 - 1 := by decide
        rw [f1, f2, Nat.and_two_pow_sub_one_eq_mod, IntKind.wrap_u16]
        omega
      have w1 : IntKind.u8.wrap ((n : Int) / 256) = (n : Int) / 256 := by rw [IntKind.wrap_u8]; omega
      have w2 : IntKind.u8.wrap ((n : Int) % 256) = (n : Int) % 256 := by rw [IntKind.wrap_u8]; omega
      have t0 : IntKind.i64.wrap (2 * (k : Int)) = 2 * (k : Int) := by rw [IntKind.wrap_i64]; omega
      have t1 : IntKind.i64.wrap ((p : Int) + 2 * (k : Int)) = (p : Int) + 2 * (k : Int) := by rw [IntKind.wrap_i64]; omega
      have t2 : IntKind.i64.wrap ((p : Int) + 2 * (k : Int) + 1) = (p : Int) + 2 * (k : Int) + 1 := by rw [IntKind.wrap_i64]; omega
      have t3 : ((p : Int) + 2 * (k : Int)).toNat = p + 2 * k := by omega
      have t4 : ((p : Int) + 2 * (k : Int) + 1).toNat = p + 2 * k + 1 := by omega
      have l0 : (0 : Int) ≤ (p : Int) + 2 * (k : Int) := by omega
      have l1 : (p : Int) + 2 * (k : Int) < (p : Int) + 2 * (len2 : Int) := by omega
      have l2 : (0 : Int) ≤ (p : Int) + 2 * (k : Int) + 1 := by omega
      have l3 : (p : Int) + 2 * (k : Int) + 1 < (p : Int) + 2 * (len2 : Int) := by omega
      have l4 : (0 : Int) ≤ (k : Int) := by omega
      have l5 : (k : Int) < (len2 : Int) := by omega
      go_upto_region 7 with fail
      go_quiet (fail)
      clear c1 c2 c3 l0 l1 l2 l3 t2 t3 t4
      have hi : IntKind.i64.wrap ((k : Int) + 1) = ((k + 1 : Nat) : Int) := by rw [IntKind.wrap_i64]; omega
      have hbn := below_draws hbr nq
      generalize wr.drewN nq = wn at *
      go_wp2
      go_roundw
      case rel => exact ⟨k + 1, by omega, by first | rfl | go_num, hbn⟩
      case measure => simp [intOf]; omega
    · obtain rfl : k = len2 := by omega
      go_wp2
      go_ret
      exact ⟨rfl, hbr⟩

end Go.Proofs.Ytaccebkgmjiaaaa
