/-
  The chapter's examples hold: 'awake' answers true, and turns nothing that was there.
-/
import Derived.Test.YtjidokjajkoneaaDoorHexaTake
import Derived.Lib.SlBytesConst
namespace Go.Proofs.YtjidokjajkoneaaDoor
open Go.RowKit
open Hexa

theorem ex1 : takeL [48, 97, 70, 70] = none := by decide +kernel
theorem ex2 : takeL [48, 65, 70, 70] = some [10, 255] := by decide +kernel
theorem ex3 : putL [10, 255] = [48, 65, 70, 70] := by decide +kernel
theorem ex4 : digZ 67 = 12 := by decide +kernel

set_option maxHeartbeats 1000000 in
theorem awake_any (w : World) (hD : Laid w) : Calls Tryd.prog 8 #[] w fun e w' => e = .returned (.bool true) ∧ Below w.heap.size w w' := by
  have hst := strOf_toList
  go_enter Tryd.func8, Tryd.ntmps8
  go_wp2_with fail
  refine (take_none [48, 97, 70, 70] _ hD (by decide) ex1).mono ?_
  rintro e w1 ⟨rfl, hb1⟩
  go_wp2_with fail
  refine (take_some [48, 65, 70, 70] [10, 255] _ (hD.mono hb1) (by decide) ex2).mono ?_
  rintro e w2 ⟨⟨a, c, rfl, hx⟩, hb2⟩
  replace hb2 := below_next hb1 hb2 (Nat.le_refl _)
  have hDa := (hD.mono hb2).mono ((Below.refl w2.heap.size w2).alloc (Nat.le_refl _) (.cells #[.int .u8 10, .int .u8 255] 5))
  go_wp2_with fail
  refine (put_any _ _ _ [10, 255] _ (Sl.fresh w2 _ _ 5 _ 2 rfl (by unfold maxLen; omega) (by rfl)) hDa (by decide)).mono ?_
  rintro e w3 ⟨rfl, hb3⟩
  rw [ex3]
  replace hb3 := below_next ((Below.refl w2.heap.size w2).alloc (Nat.le_refl _) _) hb3 (Nat.le_refl _)
  have hx3 : Bs w3 a 2 c [10, 255] := hx.mono hb3
  have hcv := Bs.conv (P := Tryd.prog) hx3 22 5 Tryd.underlying22 Tryd.underlying5 9 Tryd.underlying9
  have hD3 := (hD.mono hb2).mono hb3
  go_wp2_with fail
  refine (digit_any 67 _ hD3).mono ?_
  rintro e w4 ⟨rfl, rfl⟩
  rw [ex4]
  go_wp2
  go_ret
  exact ⟨rfl, below_next hb2 hb3 (Nat.le_refl _)⟩

end Go.Proofs.YtjidokjajkoneaaDoor
