/-
  The chapter's example holds: 'awake' answers true, and turns nothing that was there.
-/
import Derived.Test.YtcnilpnehddanaaCursorRead
import Derived.Lib.SlBytesConst
namespace Go.Proofs.Ytcnilpnehddanaa
open Go.RowKit
open Word Cursor

theorem ex1 : head16 (takeW ((St.new [1, 2, 3]).got 1 2)) = 258 := by decide +kernel
theorem ex2 : (St.new [1, 2, 3]).next 1 2 = ⟨[3], false, 0⟩ := by rfl
theorem ex3 : head16 (takeW (St.got ⟨[3], false, 0⟩ 1 2)) = 0 := by decide +kernel
theorem ex4 : St.next ⟨[3], false, 0⟩ 1 2 = ⟨[], true, 2⟩ := by rfl

set_option maxHeartbeats 1000000 in
theorem awake_any (w : World) : Calls Try.prog 8 #[] w fun e w' => e = .returned (.bool true) ∧ Below w.heap.size w w' := by
  go_enter Try.func8, Try.ntmps8
  go_wp2_with fail
  refine (new_any _ _ _ [1, 2, 3] _ (Sl.fresh w _ _ 5 _ 3 rfl (by unfold maxLen; omega) (by rfl)) (by decide)).mono ?_
  rintro e w1 ⟨⟨g, rfl, hg, hc1⟩, hb1⟩
  replace hg : w.heap.size ≤ g := Nat.le_trans (by simp) hg
  replace hb1 := below_next ((Below.refl w.heap.size w).alloc (Nat.le_refl _) _) hb1 (Nat.le_refl _)
  go_wp2_with fail
  refine (word_any g _ _ hc1).mono ?_
  rintro e w2 ⟨rfl, hc2, hb2⟩
  rw [ex2] at hc2
  rw [ex1]
  replace hb2 := But.next hb1 hb2 hg (Nat.le_refl _)
  go_wp2_with fail
  refine (left_any g _ _ hc2).mono ?_
  rintro e w3 ⟨rfl, rfl⟩
  go_wp2_with fail
  refine (word_any g _ _ hc2).mono ?_
  rintro e w4 ⟨rfl, hc4, hb4⟩
  rw [ex4] at hc4
  rw [ex3]
  replace hb4 := But.next hb2 hb4 hg (Nat.le_refl _)
  go_wp2_with fail
  refine (short_any g _ _ hc4).mono ?_
  rintro e w5 ⟨rfl, rfl⟩
  go_wp2_with fail
  refine (left_any g _ _ hc4).mono ?_
  rintro e w6 ⟨rfl, rfl⟩
  go_wp2_with fail
  refine (err_any g _ _ hc4).mono ?_
  rintro e w7 ⟨rfl, rfl⟩
  go_wp2
  go_ret
  exact ⟨rfl, hb4⟩

end Go.Proofs.Ytcnilpnehddanaa
