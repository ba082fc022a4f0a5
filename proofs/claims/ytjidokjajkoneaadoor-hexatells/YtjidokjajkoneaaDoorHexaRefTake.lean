/-
  The document's answer for hexa.Take: what it computes.
-/
import Derived.Test.YtjidokjajkoneaaDoorHexaRef
namespace Go.Proofs.YtjidokjajkoneaaDoor
open Go.RowKit
open Hexa

set_option maxHeartbeats 1000000 in
theorem refTake_any (xs : List UInt8) (w : World) (hlen : xs.length ≤ 600) :
    Calls Tryd.prog 10 #[.string (strOf xs)] w fun e w' => Taken xs e w' ∧ Below w.heap.size w w' := by
  have hsz := strOf_size xs
  have HI := hide (index_str xs)
  obtain ⟨L, hL⟩ : ∃ L, xs.length = L := ⟨_, rfl⟩
  generalize strOf xs = S at *
  rw [hL] at hlen hsz
  have HL := hide hL
  clear hL
  go_enter Tryd.func10, Tryd.ntmps10
  by_cases hodd : L % 2 = 1
  · have hb : ((L : Int) % 2 == 1) = true := by simp; omega
    go_wp2
    go_ret2
    exact ⟨.inl ⟨takeL_odd xs (by rw [HL.out]; exact hodd), rfl⟩, Below.refl _ _⟩
  · obtain ⟨m, rfl⟩ : ∃ m, L = 2 * m := ⟨L / 2, by omega⟩
    go_wp2
    go_loopw [5, 6, 7, 4] (fun i _h _l s wr => ∃ (k : Nat) (a' : Option Addr) (c' : Nat) (ys : List UInt8), k ≤ m ∧ i = .int .i64 (2 * (k : Int)) ∧ s = .slice a' k c' ∧ Own byteV wr w.heap.size a' k c' ys ∧ takeL (xs.take (2 * k)) = some ys ∧ Below w.heap.size w wr) (fun i _ _ _ _ => 2 * m - (intOf i).toNat)
    case atStart => exact ⟨0, _, _, [], Nat.zero_le _, rfl, rfl, Own.empty _ _ _, rfl, Below.refl _ _⟩
    case round =>
      obtain ⟨k, a', c', ys, hk, rfl, rfl, ho, hy, hbr⟩ := hrel
      have HY := hide hy
      clear hy
      by_cases hlt : k < m
      · have hi1 : 2 * k + 1 < xs.length := by have := HL.out; omega
        have hx0 := HI.out (2 * k) (by omega) (2 * (k : Int)) (by omega)
        have hx1 := HI.out (2 * k + 1) hi1 (2 * (k : Int) + 1) (by omega)
        have HB := hide (takeL_bad xs k hi1)
        have HM := hide fun h => takeL_more xs ys k hi1 HY.out h
        generalize xs[2 * k].toNat = n1 at *
        generalize xs[2 * k + 1].toNat = n2 at *
        have g1 := digZ_lt n1
        have g2 := digZ_lt n2
        have f1 := digZ_ge n1
        have f2 := digZ_ge n2
        go_wp2_with fail
        refine (refDigit_any _ _).mono ?_
        rintro e w' ⟨rfl, rfl⟩
        go_wp2_with fail
        refine (refDigit_any _ _).mono ?_
        rintro e w' ⟨rfl, rfl⟩
        by_cases hz1 : digZ n1 = -1
        · go_wp2
          go_ret2
          exact ⟨.inl ⟨HB.out (by unfold badP; simp [hz1]), rfl⟩, hbr⟩
        have hz1' : (digZ n1 == -1) = false := by simpa using hz1
        by_cases hz2 : digZ n2 = -1
        · go_wp2
          go_ret2
          exact ⟨.inl ⟨HB.out (by unfold badP; simp [hz2]), rfl⟩, hbr⟩
        have hz2' : (digZ n2 == -1) = false := by simpa using hz2
        have hnb : badP n1 n2 = false := badP_false.2 ⟨by omega, by omega⟩
        have HM2 := hide (HM.out hnb)
        have HP := hide (pairB_toNat n1 n2)
        obtain ⟨p, hp⟩ : ∃ p : Nat, digZ n1 = p := ⟨(digZ n1).toNat, by omega⟩
        obtain ⟨q, hq⟩ : ∃ q : Nat, digZ n2 = q := ⟨(digZ n2).toNat, by omega⟩
        have hpq : p < 16 ∧ q < 16 := ⟨by omega, by omega⟩
        obtain ⟨hp16, hq16⟩ := hpq
        have HR : Hid (UInt8.ofNat (16 * p + q) = pairB n1 n2) := by
          apply UInt8.toNat.inj
          rw [HP.out, UInt8.toNat_ofNat', hp, hq]; omega
        rw [hp] at hz1' g1 f1
        rw [hq] at hz2' g2 f2
        clear hz1 hz2
        go_wp2_with (at_builtin; refine app (by rfl) _ _ rfl w.heap.size rfl (ho.mono ((Below.refl _ _).alloc (Nat.le_refl _) _)) rfl (one_own _ _ (16 * p + q) (by omega) (by omega) _).sl (by omega) (Nat.le_trans hbr.size (size_step _ 0 _)) ?_)
        intro a3 c3 w3 ho3 hb3
        go_wp2
        go_roundw
        case rel => exact ⟨k + 1, a3, c3, ys ++ [pairB n1 n2], by omega, by go_num, rfl, by rw [← HR.out]; simpa using ho3, HM2.out, (hbr.alloc hbr.size _).trans hb3⟩
        case measure => simp [intOf]; omega
      · go_wp2
        go_ret2
        refine ⟨.inr ⟨ys, a', c', ?_, ?_, ?_⟩, hbr⟩
        · rw [← HY.out, List.take_of_length_le (by rw [HL.out]; omega)]
        · exact congrArg (fun n => Ending.returned (.tuple #[.slice a' n c', .int .i64 0])) ho.sl.hlen.symm
        · rw [ho.sl.hlen]; exact ho.sl

theorem refTake_none (xs : List UInt8) (w : World) (hlen : xs.length ≤ 600) (h : takeL xs = none) :
    Calls Tryd.prog 10 #[.string (strOf xs)] w fun e w' => e = .returned (.tuple #[.slice none 0 0, .int .i64 11]) ∧ Below w.heap.size w w' := by
  refine (refTake_any xs w hlen).mono ?_
  rintro e w' ⟨⟨_, he⟩ | ⟨ys, a, c, hs, _, _⟩, hb⟩
  · exact ⟨he, hb⟩
  · rw [h] at hs; cases hs
theorem refTake_some (xs ys : List UInt8) (w : World) (hlen : xs.length ≤ 600) (h : takeL xs = some ys) :
    Calls Tryd.prog 10 #[.string (strOf xs)] w fun e w' => (∃ a c, e = .returned (.tuple #[.slice a ys.length c, .int .i64 0]) ∧ Bs w' a ys.length c ys) ∧ Below w.heap.size w w' := by
  refine (refTake_any xs w hlen).mono ?_
  rintro e w' ⟨⟨hn, _⟩ | ⟨zs, a, c, hs, he, hx⟩, hb⟩
  · rw [h] at hn; cases hn
  · rw [h] at hs; cases hs
    exact ⟨⟨a, c, he, hx⟩, hb⟩

end Go.Proofs.YtjidokjajkoneaaDoor
