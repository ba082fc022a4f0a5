/-
  The contract of hexa.Take: what bytes any text has, or that it has none.
-/
import Derived.Test.YtjidokjajkoneaaDoorHexaPut
namespace Go.Proofs.YtjidokjajkoneaaDoor
open Go.RowKit
open Hexa

theorem strOf_size (xs : List UInt8) : (strOf xs).size = xs.length := rfl
theorem strOf_of (a : ByteArray) : strOf a.toList = a := by rw [Lib.toList_data]; rfl
theorem Laid.drewN {w : World} (h : Laid w) (n : Nat) : Laid (w.drewN n) := h.mono (below_draws (Below.refl _ _) n)
theorem index_str (xs : List UInt8) (i : Nat) (h : i < xs.length) (z : Int) (hz : z = i) (w : World) : (Instr.index 9 (.string (strOf xs)) (.int .i64 z)).run Tryd.prog w = .ok (.int .u8 (xs[i].toNat : Int)) w := by
  subst hz
  rw [run_index_string w 9 (strOf xs) .i64 i Tryd.underlying9, dif_pos ⟨by omega, by rw [strOf_size]; omega⟩]
  rfl

theorem or16 (p q : Nat) (hp : p < 16) (hq : q < 16) : bits .or .i64 ((p : Int) * 16) (q : Int) = ((16 * p + q : Nat) : Int) := by
  have : ∀ i j : Fin 16, bits .or .i64 (((i.val : Nat) : Int) * 16) ((j.val : Nat) : Int) = ((16 * i.val + j.val : Nat) : Int) := by decide +kernel
  exact this ⟨p, hp⟩ ⟨q, hq⟩
theorem size_step (w : World) (n : Nat) (o : Obj) : w.heap.size ≤ ((w.drewN n).alloc o).heap.size := ((below_draws (Below.refl 0 w) n).alloc (Nat.zero_le _) o).size

/-- What Take answers. -/
def Taken (xs : List UInt8) (e : Ending) (w' : World) : Prop :=
  (takeL xs = none ∧ e = .returned (.tuple #[.slice none 0 0, .int .i64 11])) ∨ ∃ ys a c, takeL xs = some ys ∧ e = .returned (.tuple #[.slice a ys.length c, .int .i64 0]) ∧ Bs w' a ys.length c ys

set_option maxHeartbeats 1000000 in
theorem take_any (xs : List UInt8) (w : World) (hD : Laid w) (hlen : xs.length ≤ 600) :
    Calls Tryd.prog 9 #[.string (strOf xs)] w fun e w' => Taken xs e w' ∧ Below w.heap.size w w' := by
  have hsz := strOf_size xs
  have HI := hide (index_str xs)
  obtain ⟨L, hL⟩ : ∃ L, xs.length = L := ⟨_, rfl⟩
  generalize strOf xs = S at *
  rw [hL] at hlen hsz
  have HL := hide hL
  clear hL
  go_enter Tryd.func9, Tryd.ntmps9
  by_cases hodd : L % 2 = 1
  · go_wp2
    go_ret2
    exact ⟨.inl ⟨takeL_odd xs (by rw [HL.out]; exact hodd), rfl⟩, Below.refl _ _⟩
  · obtain ⟨m, rfl⟩ : ∃ m, L = 2 * m := ⟨L / 2, by omega⟩
    have hmk : ∀ w, (Instr.makeSlice 22 (.int .i64 0) (.int .i64 (m : Int))).run Tryd.prog w = .ok (.slice (some ⟨w.heap.size, 0, none⟩) 0 m) (w.alloc (.cells (madeCells #[.int .u8 0] m) 5)) := fun w => by
      have := make_bytes 0 m (by omega) (by omega) w
      simpa using this
    go_wp2
    have h0 := hD.pos
    generalize hB : w.heap.size = B at *
    have ho1 : Own byteV (w.alloc (.cells (madeCells #[.int .u8 0] m) 5)) B (some ⟨B, 0, none⟩) 0 m [] := by rw [← hB]; exact made_own w _ (by omega) _
    have hb1 : Below B w (w.alloc (.cells (madeCells #[.int .u8 0] m) 5)) := by rw [← hB]; exact (Below.refl _ _).alloc (Nat.le_refl _) _
    generalize w.alloc (.cells (madeCells #[.int .u8 0] m) 5) = w1 at *
    clear hmk
    go_loopw [5, 6, 7, 4] (fun i _h _l s wr => ∃ (k : Nat) (a' : Option Addr) (c' : Nat) (ys : List UInt8), k ≤ m ∧ i = .int .i64 (2 * (k : Int)) ∧ s = .slice a' k c' ∧ Own byteV wr B a' k c' ys ∧ takeL (xs.take (2 * k)) = some ys ∧ Below B w wr) (fun i _ _ _ _ => 2 * m - (intOf i).toNat)
    case atStart => exact ⟨0, _, _, [], Nat.zero_le _, rfl, rfl, ho1, rfl, hb1⟩
    case round =>
      clear ho1 hb1
      obtain ⟨k, a', c', ys, hk, rfl, rfl, ho, hy, hbr⟩ := hrel
      have HY := hide hy
      clear hy
      have hbr' : Below w.heap.size w wr := by rw [hB]; exact hbr
      have hDr := hD.mono hbr'
      by_cases hlt : k < m
      · have hi1 : 2 * k + 1 < xs.length := by have := HL.out; omega
        have hx0 := HI.out (2 * k) (by omega) (2 * (k : Int)) (by omega)
        have hx1 := HI.out (2 * k + 1) hi1 (2 * (k : Int) + 1) (by omega)
        have HB := hide (takeL_bad xs k hi1)
        have HM := hide fun h => takeL_more xs ys k hi1 HY.out h
        have hc1 := byte_lt xs[2 * k]
        have hc2 := byte_lt xs[2 * k + 1]
        generalize xs[2 * k].toNat = n1 at *
        generalize xs[2 * k + 1].toNat = n2 at *
        have hwr : IntKind.i64.wrap (2 * (k : Int) + 1) = 2 * (k : Int) + 1 := by rw [IntKind.wrap_i64]; omega
        go_wp2
        go_quiet (first | (go_at_call 11; refine Calls.quiet_of_same (digit_any _ _ (hDr.drewN _))))
        have g1 := digZ_lt n1
        have g2 := digZ_lt n2
        by_cases hz1 : digZ n1 < 0
        · go_wp2
          go_ret2
          exact ⟨.inl ⟨HB.out (by unfold badP; simp [hz1]), rfl⟩, by first | exact below_draws hbr _ | (rw [hB]; exact below_draws hbr _)⟩
        by_cases hz2 : digZ n2 < 0
        · go_wp2
          go_ret2
          exact ⟨.inl ⟨HB.out (by unfold badP; simp [hz2]), rfl⟩, by first | exact below_draws hbr _ | (rw [hB]; exact below_draws hbr _)⟩
        have hnb : badP n1 n2 = false := badP_false.2 ⟨by omega, by omega⟩
        have HM2 := hide (HM.out hnb)
        have HP := hide (pairB_toNat n1 n2)
        obtain ⟨p, hp⟩ : ∃ p : Nat, digZ n1 = p := ⟨(digZ n1).toNat, by omega⟩
        obtain ⟨q, hq⟩ : ∃ q : Nat, digZ n2 = q := ⟨(digZ n2).toNat, by omega⟩
        rw [hp] at g1
        rw [hq] at g2
        have hpq : p < 16 ∧ q < 16 := ⟨by omega, by omega⟩
        obtain ⟨r, hr⟩ : ∃ r, r = 16 * p + q := ⟨_, rfl⟩
        have hor : bits .or .i64 ((p : Int) * 16) (q : Int) = (r : Int) := by rw [hr]; exact or16 p q hpq.1 hpq.2
        have hr2 : r < 256 := by omega
        have HR : Hid (UInt8.ofNat r = pairB n1 n2) := by
          apply UInt8.toNat.inj
          rw [HP.out, UInt8.toNat_ofNat', hp, hq, hr]; omega
        clear hr
        have hszr : B ≤ wr.heap.size := hB ▸ hbr.size
        go_wp2_with (at_builtin; refine app (by rfl) _ _ rfl B rfl ((ho.mono (below_draws (Below.refl _ _) nq)).mono ((Below.refl _ _).alloc (Nat.le_refl _) _)) rfl (one_own _ _ r (by omega) hr2 _).sl (by omega) (Nat.le_trans hszr (size_step _ _ _)) ?_)
        intro a3 c3 w3 ho3 hb3
        go_wp2
        go_roundw
        case rel => exact ⟨k + 1, a3, c3, ys ++ [pairB n1 n2], by omega, by go_num, rfl, by rw [← HR.out]; exact ho3, HM2.out, ((below_draws hbr nq).alloc hszr _).trans hb3⟩
        case measure => simp [intOf]; omega
      · go_wp2
        go_ret2
        refine ⟨.inr ⟨ys, a', c', ?_, ?_, ?_⟩, by first | exact hbr | (rw [hB]; exact hbr)⟩
        · rw [← HY.out, List.take_of_length_le (by rw [HL.out]; omega)]
        · exact congrArg (fun n => Ending.returned (.tuple #[.slice a' n c', .int .i64 0])) ho.sl.hlen.symm
        · rw [ho.sl.hlen]; exact ho.sl

theorem take_none (xs : List UInt8) (w : World) (hD : Laid w) (hlen : xs.length ≤ 600) (h : takeL xs = none) :
    Calls Tryd.prog 9 #[.string (strOf xs)] w fun e w' => e = .returned (.tuple #[.slice none 0 0, .int .i64 11]) ∧ Below w.heap.size w w' := by
  refine (take_any xs w hD hlen).mono ?_
  rintro e w' ⟨⟨_, he⟩ | ⟨ys, a, c, hs, _, _⟩, hb⟩
  · exact ⟨he, hb⟩
  · rw [h] at hs; cases hs
theorem take_some (xs ys : List UInt8) (w : World) (hD : Laid w) (hlen : xs.length ≤ 600) (h : takeL xs = some ys) :
    Calls Tryd.prog 9 #[.string (strOf xs)] w fun e w' => (∃ a c, e = .returned (.tuple #[.slice a ys.length c, .int .i64 0]) ∧ Bs w' a ys.length c ys) ∧ Below w.heap.size w w' := by
  refine (take_any xs w hD hlen).mono ?_
  rintro e w' ⟨⟨hn, _⟩ | ⟨zs, a, c, hs, he, hx⟩, hb⟩
  · rw [h] at hn; cases hn
  · rw [h] at hs; cases hs
    exact ⟨⟨a, c, he, hx⟩, hb⟩

end Go.Proofs.YtjidokjajkoneaaDoor
