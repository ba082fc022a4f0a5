/-
  The chapter's examples hold: 'awake' answers true, and turns nothing that was there.
-/
import Derived.Test.YtgkifohjjapifaaLrc
import Derived.Lib.SlBytesConst
namespace Go.Proofs.Ytgkifohjjapifaa
open Go.RowKit
open Lrc

theorem ex1 : ofN [1, 2] = 253 := by decide +kernel
theorem ex2 : isB [1, 2, 253] = true := by decide +kernel
theorem ex3 : isB [] = false := by decide +kernel

set_option maxHeartbeats 1000000 in
theorem awake_any (w : World) : Calls Try.prog 7 #[] w fun e w' => e = .returned (.bool true) ∧ Below w.heap.size w w' := by
  go_enter Try.func7, Try.ntmps7
  go_wp2_with fail
  refine (of_any _ _ _ [1, 2] _ (Sl.fresh w _ _ 5 _ 2 rfl (by unfold maxLen; omega) (by rfl))).mono ?_
  rintro e w1 ⟨rfl, hb1⟩
  rw [ex1]
  replace hb1 := below_next ((Below.refl w.heap.size w).alloc (Nat.le_refl _) _) hb1 (Nat.le_refl _)
  go_wp2_with fail
  refine (is_any _ _ _ [1, 2, 253] _ (Sl.fresh w1 _ _ 5 _ 3 rfl (by unfold maxLen; omega) (by rfl))).mono ?_
  rintro e w3 ⟨rfl, hb3⟩
  rw [ex2]
  replace hb3 := below_next ((Below.refl w1.heap.size w1).alloc (Nat.le_refl _) _) hb3 (Nat.le_refl _)
  go_wp2_with fail
  refine (is_any none 0 0 [] _ (Sl.nil _ _ (by unfold maxLen; omega))).mono ?_
  rintro e w4 ⟨rfl, hb4⟩
  rw [ex3]
  go_wp2
  go_ret
  exact ⟨rfl, below_next (below_next hb1 hb3 (Nat.le_refl _)) hb4 (Nat.le_refl _)⟩

end Go.Proofs.Ytgkifohjjapifaa
