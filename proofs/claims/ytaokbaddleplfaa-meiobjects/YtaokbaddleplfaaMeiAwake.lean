/-
  The chapter's example of layer 12.
-/
import Derived.Test.YtaokbaddleplfaaMeiPut
import Derived.Test.YtaokbaddleplfaaMsgRow
import Derived.Test.YtaokbaddleplfaaMsgBox
import Derived.Lib.SlBytesConst
namespace Go.Proofs.Ytaokbaddleplfaa
open Go.RowKit
open Word Bits Cursor

theorem ex12a : (Mei.parse 0 43 [14, 1, 0]).2 = 0 ∧ (Mei.parse 0 43 [14, 1, 0]).1.mei.toNat = 14 ∧ (Mei.parse 0 43 [14, 1, 0]).1.kind.toNat = 1 := by decide +kernel
theorem ex12b : (Mei.parse 1 43 [14, 1, 1, 0, 0, 1, 0, 2, 65, 66]).2 = 0 ∧ (Mei.parse 1 43 [14, 1, 1, 0, 0, 1, 0, 2, 65, 66]).1.level.toNat = 1 := by decide +kernel
theorem ex12c : (Mei.parse 1 43 [14, 1, 1, 0, 0, 1, 0, 2, 65, 66]).1.objects = [⟨0, [65, 66]⟩] := by kernel_rfl

set_option maxRecDepth 20000 in
set_option maxHeartbeats 2000000 in
theorem awake_any (w : World) : Calls Try.prog 11 #[] w fun e w' => e = .returned (.bool true) ∧ Below w.heap.size w w' := by
  have hst := strOf_toList
  go_enter Try.func11, Try.ntmps11
  go_wp2_with fail
  refine (meiParse_any 0 43 _ _ _ [14, 1, 0] _ (Sl.fresh w _ _ 5 _ 3 rfl (by unfold maxLen; omega) (by rfl)) (by decide)).mono ?_
  rintro e w1 ⟨⟨v1, rfl, hm1⟩, hb1⟩
  replace hb1 := below_next ((Below.refl w.heap.size w).alloc (Nat.le_refl _) _) hb1 (Nat.le_refl _)
  obtain ⟨x1, x2, x3⟩ := ex12a
  rw [x1]
  generalize (Mei.parse 0 43 [14, 1, 0]).1 = m1 at *
  obtain ⟨cs1, rfl, hs1, ho1, _⟩ := hm1.agg
  have HM1 := hide hm1
  clear hm1 x1
  go_wp2_with ((with_reducible (show wpList _ _ _ ({ dst := _, op := Op.store _ _ _, type := _, pos := _, after := _, guard := _ } :: _) _ _)); refine wpList_store_new rfl 30 _ _ rfl cs1 rfl rfl (msg_size cs1 hs1) hs1.symm ho1 ?_)
  intro w2 h2 b2
  have hmb2 : MB 30 w2 w1.heap.size m1 := ⟨cs1, h2, HM1.out.mono b2⟩
  replace hb1 := below_next hb1 b2 (Nat.le_refl _)
  clear h2 b2 HM1
  have hg1 := hmb2.lt
  generalize w1.heap.size = g1 at *
  have HMB2 := hide hmb2
  clear hmb2
  go_wp2_with fail
  refine (meiParse_any 1 43 _ _ _ [14, 1, 1, 0, 0, 1, 0, 2, 65, 66] _ (Sl.fresh w2 _ _ 5 _ 10 rfl (by unfold maxLen; omega) (by rfl)) (by decide)).mono ?_
  rintro e w3 ⟨⟨v3, rfl, hm3⟩, hb3⟩
  replace hb3 := ((Below.refl w2.heap.size w2).alloc (Nat.le_refl _) _).trans (hb3.mono (by simp))
  replace HMB2 := hide (HMB2.out.mono hb3)
  replace hb1 := below_next hb1 hb3 (Nat.le_refl _)
  obtain ⟨y1, y2⟩ := ex12b
  have y3 := ex12c
  rw [y1]
  generalize (Mei.parse 1 43 [14, 1, 1, 0, 0, 1, 0, 2, 65, 66]).1 = m3 at *
  obtain ⟨cs3, rfl, hs3, ho3, _⟩ := hm3.agg
  have HM3 := hide hm3
  clear hm3 y1 hb3
  go_wp2_with ((with_reducible (show wpList _ _ _ ({ dst := _, op := Op.store _ _ _, type := _, pos := _, after := _, guard := _ } :: _) _ _)); refine wpList_store_new rfl 30 _ _ rfl cs3 rfl rfl (msg_size cs3 hs3) hs3.symm ho3 ?_)
  intro w4 h4 b4
  have hmb4 : MB 30 w4 w3.heap.size m3 := ⟨cs3, h4, HM3.out.mono b4⟩
  have hmb2 := HMB2.out.mono b4
  replace hb1 := below_next hb1 b4 (Nat.le_refl _)
  have k1 : w4.cell? ⟨g1, 16, none⟩ = some (.int .u8 14) := by rw [hmb2.c_mei]; show some (Value.int .u8 (m1.mei.toNat : Int)) = _; rw [x2]; rfl
  have k2 : w4.cell? ⟨g1, 17, none⟩ = some (.int .u8 1) := by rw [hmb2.c_kind]; show some (Value.int .u8 (m1.kind.toNat : Int)) = _; rw [x3]; rfl
  have k3 : w4.cell? ⟨w3.heap.size, 18, none⟩ = some (.int .u8 1) := by rw [hmb4.c_level]; show some (Value.int .u8 (m3.level.toNat : Int)) = _; rw [y2]; rfl
  obtain ⟨ao, lo, co, k4, hobs⟩ := hmb4.c_objects
  rw [y3] at hobs
  have hl1 : lo = 1 := hobs.hlen.symm
  subst hl1
  obtain ⟨b, off, ad, ld, cd, rfl, hbl, hc0, hc1, hx⟩ := hobs.hcell 0 (by simp)
  have k5 : w4.cell? ⟨b, off + 1, none⟩ = some (.slice ad ld cd) := by simpa using hc1
  have hl2 : ld = 2 := hx.hlen.symm
  subst hl2
  have hcv := Bs.conv (P := Try.prog) hx 22 5 Try.underlying22 Try.underlying5 9 Try.underlying9
  have q1 : (([⟨0, [65, 66]⟩] : List ObjM)[0]'(by simp)).value = [65, 66] := rfl
  rw [q1] at hcv
  clear h4 b4 HM3 hmb2 hmb4 hobs hc0 hc1 hx q1 HMB2
  go_wp2
  go_ret
  exact ⟨rfl, hb1⟩

end Go.Proofs.Ytaokbaddleplfaa
