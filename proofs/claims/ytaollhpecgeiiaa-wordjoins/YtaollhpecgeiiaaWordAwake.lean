/-
  The chapter's examples hold: 'awake' answers true, and turns nothing that was there.
-/
import Derived.Test.YtaollhpecgeiiaaWord
import Derived.Lib.SlBytesConst
namespace Go.Proofs.Ytaollhpecgeiiaa
open Go.RowKit
open Word

theorem ex1 : putW [258, 3] = [1, 2, 0, 3] := by decide +kernel
theorem ex2 : takeW [1, 2] = [258] := by decide +kernel
theorem ex3 : within 65535 1 = true := by decide +kernel
theorem ex4 : within 65535 2 = false := by decide +kernel

set_option maxHeartbeats 1000000 in
theorem awake_any (w : World) : Calls Try.prog 7 #[] w fun e w' => e = .returned (.bool true) ∧ Below w.heap.size w w' := by
  have hst := strOf_toList
  go_enter Try.func7, Try.ntmps7
  go_wp2_with fail
  refine (put_any _ _ _ [258, 3] _ (Sl.fresh w _ _ 24 _ 2 rfl (by unfold maxLen; omega) (by rfl)) (by decide)).mono ?_
  rintro e w1 ⟨⟨a1, c1, rfl, hx1⟩, hb1⟩
  rw [ex1] at hx1
  replace hb1 := below_next ((Below.refl w.heap.size w).alloc (Nat.le_refl _) _) hb1 (Nat.le_refl _)
  have hcv := Bs.conv (P := Try.prog) hx1 23 5 Try.underlying23 Try.underlying5 9 Try.underlying9
  go_wp2_with fail
  refine (within_any 65535 (by decide) 1 (by decide) _).mono ?_
  rintro e w2 ⟨rfl, rfl⟩
  rw [ex3]
  go_wp2_with fail
  refine (within_any 65535 (by decide) 2 (by decide) _).mono ?_
  rintro e w3 ⟨rfl, rfl⟩
  rw [ex4]
  go_wp2_with fail
  refine (take_any _ _ _ [1, 2] _ (Sl.fresh w3 _ _ 5 _ 2 rfl (by unfold maxLen; omega) (by rfl)) (by decide)).mono ?_
  rintro e w4 ⟨⟨a4, c4, rfl, hx4⟩, hb4⟩
  rw [ex2]
  replace hb4 := below_next ((Below.refl w3.heap.size w3).alloc (Nat.le_refl _) _) hb4 (Nat.le_refl _)
  go_wp2
  go_ret
  exact ⟨rfl, below_next hb1 hb4 (Nat.le_refl _)⟩

end Go.Proofs.Ytaollhpecgeiiaa
