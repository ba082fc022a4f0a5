/-
  The chapter's example of layer 13.
-/
import Derived.Test.YtjacnghndnkcnaaFusPut
import Derived.Lib.SlBytesConst
namespace Go.Proofs.Ytjacnghndnkcnaa
open Go.RowKit

theorem ex13a : Fus.parse [131, 2] = (Fus.ofM 3 2, 0) := Fus.parse_two (c := 3) (y := 2) (by decide +kernel) (by decide +kernel)
theorem ex13b : Fus.write (Fus.ofM 3 2) = some [131, 2] := Fus.write_iff.2 ⟨by decide +kernel, by decide +kernel, rfl, rfl⟩

set_option maxRecDepth 20000 in
set_option maxHeartbeats 2000000 in
theorem awake_any (w : World) : Calls Try.prog 7 #[] w fun e w' => e = .returned (.bool true) ∧ Below w.heap.size w w' := by
  have hst := strOf_toList
  go_enter Try.func7, Try.ntmps7
  go_wp2_with fail
  refine (fusParse_any _ _ _ [131, 2] _ (Sl.fresh w _ _ 5 _ 2 rfl (by unfold maxLen; omega) (by rfl)) (by decide)).mono ?_
  rintro e w1 ⟨⟨v1, rfl, hm1⟩, hb1⟩
  replace hb1 := below_next ((Below.refl w.heap.size w).alloc (Nat.le_refl _) _) hb1 (Nat.le_refl _)
  rw [ex13a] at hm1 ⊢
  obtain ⟨cs1, rfl, hs1, ho1, _⟩ := hm1.agg
  have HM1 := hide hm1
  clear hm1
  go_wp2_with ((with_reducible show wpList _ _ _ (⟨_, .store _ _ _, _, _, _, _⟩ :: _) _ _); refine wpList_store_new rfl 30 _ _ rfl cs1 rfl rfl (msg_size cs1 hs1) hs1.symm ho1 ?_)
  intro w2 h2 b2
  have hmb2 : MB 30 w2 w1.heap.size (Fus.ofM 3 2) := ⟨cs1, h2, HM1.out.mono b2⟩
  replace hb1 := below_next hb1 b2 (Nat.le_refl _)
  clear h2 b2 HM1
  generalize w1.heap.size = g1 at *
  have HMB2 := hide hmb2
  clear hmb2
  go_wp2_with fail
  refine (fusWrite_any _ (Fus.ofM 3 2) w2 (Fus.at_cells _ (k := 3) (j := 2) rfl rfl)).mono ?_
  rintro e w3 ⟨⟨a3, l3, c3, rfl, hx⟩, hb3⟩
  have hmb3 := HMB2.out.mono hb3
  replace hb1 := below_next hb1 hb3 (Nat.le_refl _)
  rw [ex13b] at hx ⊢
  replace hx : Bs w3 a3 l3 c3 [131, 2] := hx
  obtain rfl : l3 = 2 := hx.hlen.symm
  have k1 : w3.cell? ⟨g1, 0, none⟩ = some (.int .u8 3) := hmb3.c_code
  have k2 : w3.cell? ⟨g1, 1, none⟩ = some (.int .u8 2) := hmb3.c_fail
  have hcv := Bs.conv (P := Try.prog) hx 22 5 Try.underlying22 Try.underlying5 9 Try.underlying9
  rw [show Fus.errW (some [131, 2]) = (0 : Int) from rfl]
  clear hx hmb3 HMB2 hb3
  go_wp2
  go_ret
  exact ⟨rfl, hb1⟩

end Go.Proofs.Ytjacnghndnkcnaa
