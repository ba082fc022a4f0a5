/-
  The chapter's examples hold: 'awake' answers true, and turns nothing that was there.
-/
import Derived.Test.YtflkibjbemgacaaBitRef
import Derived.Lib.SlBytesConst
namespace Go.Proofs.Ytflkibjbemgacaa
open Go.RowKit
open Bits

theorem ex1 : packB [true, false, true] = [5] := by decide +kernel
theorem ex2 : good [5] 3 = true := by decide +kernel
theorem ex3 : outU [5] 3 = [true, false, true] := by decide +kernel
theorem ex4 : good [13] 3 = false := by decide +kernel
theorem ex5 : manyI 9 = 2 := by decide +kernel
theorem ex6 : outU [13] 3 = [] := by decide +kernel
theorem ex7 : many 3 = 1 := by decide +kernel

set_option maxHeartbeats 1000000 in
theorem awake_any (w : World) : Calls Try.prog 7 #[] w fun e w' => e = .returned (.bool true) ∧ Below w.heap.size w w' := by
  have hst := strOf_toList
  go_enter Try.func7, Try.ntmps7
  go_wp2_with fail
  refine (unpack_any _ _ _ [5] 3 (by decide) _ (Sl.fresh w _ _ 5 _ 1 rfl (by unfold maxLen; omega) (by rfl)) (by decide)).mono ?_
  rintro e w1 ⟨⟨a1, c1, rfl, hx1⟩, hb1⟩
  rw [ex3] at hx1
  rw [ex2, ex3]
  replace hb1 := below_next ((Below.refl w.heap.size w).alloc (Nat.le_refl _) _) hb1 (Nat.le_refl _)
  go_wp2_with fail
  refine (unpack_any _ _ _ [13] 3 (by decide) _ (Sl.fresh w1 _ _ 5 _ 1 rfl (by unfold maxLen; omega) (by rfl)) (by decide)).mono ?_
  rintro e w2 ⟨⟨a2, c2, rfl, hx2⟩, hb2⟩
  rw [ex4, ex6]
  clear hx2
  replace hb2 := ((Below.refl w1.heap.size w1).alloc (Nat.le_refl _) _).trans (hb2.mono (by simp))
  replace hx1 := hx1.mono hb2
  replace hb2 := below_next hb1 hb2 (Nat.le_refl _)
  go_wp2_with fail
  refine (pack_any _ _ _ [true, false, true] _ (Sl.fresh w2 _ _ 4 _ 3 rfl (by unfold maxLen; omega) (by rfl)) (by decide)).mono ?_
  rintro e w3 ⟨⟨a3, c3, rfl, hx3⟩, hb3⟩
  rw [ex1, ex7] at hx3
  rw [ex7]
  replace hb3 := ((Below.refl w2.heap.size w2).alloc (Nat.le_refl _) _).trans (hb3.mono (by simp))
  replace hx1 := hx1.mono hb3
  replace hb3 := below_next hb2 hb3 (Nat.le_refl _)
  have hcv := Bs.conv (P := Try.prog) hx3.sl 23 5 Try.underlying23 Try.underlying5 9 Try.underlying9
  go_wp2_with fail
  refine (bools_any _ _ _ _ _ _ _ [true, false, true] _ (hx1.alloc _) (Sl.fresh w3 _ _ 4 _ 3 rfl (by unfold maxLen; omega) (by rfl))).mono ?_
  rintro e w4 ⟨rfl, hb4⟩
  rw [show decide ([true, false, true] = [true, false, true]) = true by simp]
  replace hb4 := below_next hb3 (((Below.refl w3.heap.size w3).alloc (Nat.le_refl _) _).trans (hb4.mono (by simp))) (Nat.le_refl _)
  go_wp2_with fail
  refine (many_any 9 (by decide) _).mono ?_
  rintro e w5 ⟨rfl, rfl⟩
  rw [ex5]
  go_wp2
  go_ret
  exact ⟨rfl, hb4⟩

end Go.Proofs.Ytflkibjbemgacaa
