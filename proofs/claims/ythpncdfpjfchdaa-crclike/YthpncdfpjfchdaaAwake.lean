/-
  The chapter's examples hold: 'awake' answers true, and turns nothing that was there.
-/
import Derived.Test.YthpncdfpjfchdaaCrc
import Derived.Lib.SlBytesConst
namespace Go.Proofs.Ythpncdfpjfchdaa
open Go.RowKit
open Crc

theorem ex1 : thenN 65535 [49, 50, 51, 52, 53, 54, 55, 56, 57] = 19255 := by decide +kernel
theorem ex2 : thenN 65535 [1, 4, 2, 255, 255] = 32952 := by decide +kernel
theorem ex3 : isB [1, 4, 2, 255, 255, 184, 128] = true := by decide +kernel
theorem ex4 : isB [] = false := by decide +kernel

set_option maxHeartbeats 1000000 in
theorem awake_any (w : World) : Calls Try.prog 8 #[] w fun e w' => e = .returned (.bool true) ∧ Below w.heap.size w w' := by
  have kc := fun (w : World) (C : Array Value) (n c : Nat) => Lib.run_convert_bytes_const (P := Try.prog) w 22 5 C n c Try.underlying22 Try.underlying5
  go_enter Try.func8, Try.ntmps8
  go_wp2_with fail
  refine (of_any _ _ _ [49, 50, 51, 52, 53, 54, 55, 56, 57] _ (Sl.fresh w _ _ 5 _ 9 rfl (by unfold maxLen; omega) (by rfl))).mono ?_
  rintro e w1 ⟨rfl, hb1⟩
  rw [ex1]
  replace hb1 := below_next ((Below.refl w.heap.size w).alloc (Nat.le_refl _) _) hb1 (Nat.le_refl _)
  go_wp2_with fail
  refine (of_any _ _ _ [1, 4, 2, 255, 255] _ (Sl.fresh w1 _ _ 5 _ 5 rfl (by unfold maxLen; omega) (by rfl))).mono ?_
  rintro e w2 ⟨rfl, hb2⟩
  rw [ex2]
  replace hb2 := below_next ((Below.refl w1.heap.size w1).alloc (Nat.le_refl _) _) hb2 (Nat.le_refl _)
  go_wp2_with fail
  refine (is_any _ _ _ [1, 4, 2, 255, 255, 184, 128] _ (Sl.fresh w2 _ _ 5 _ 7 rfl (by unfold maxLen; omega) (by rfl))).mono ?_
  rintro e w3 ⟨rfl, hb3⟩
  rw [ex3]
  replace hb3 := below_next ((Below.refl w2.heap.size w2).alloc (Nat.le_refl _) _) hb3 (Nat.le_refl _)
  go_wp2_with fail
  refine (is_any none 0 0 [] _ (Sl.nil _ _ (by unfold maxLen; omega))).mono ?_
  rintro e w4 ⟨rfl, hb4⟩
  rw [ex4]
  go_wp2
  go_ret
  exact ⟨rfl, below_next (below_next (below_next hb1 hb2 (Nat.le_refl _)) hb3 (Nat.le_refl _)) hb4 (Nat.le_refl _)⟩

end Go.Proofs.Ythpncdfpjfchdaa
