/-
  The chapter's examples of layer 10.
-/
import Derived.Test.YtemomgcapjpaiaaDiagPut
import Derived.Lib.SlBytesConst
namespace Go.Proofs.Ytemomgcapjpaiaa
open Go.RowKit
open Word Bits Cursor

theorem ex10a : (Diag.parse 0 8 [0, 0, 165, 55]).2 = 0 ∧ (Diag.parse 0 8 [0, 0, 165, 55]).1.sub.toNat = 0 ∧ (Diag.parse 0 8 [0, 0, 165, 55]).1.words.length = 1 := by decide +kernel
theorem ex10b : (Diag.parse 1 11 [255, 255, 1, 8]).2 = 0 ∧ (Diag.parse 1 11 [255, 255, 1, 8]).1.status.toNat = 65535 ∧ (Diag.parse 1 11 [255, 255, 1, 8]).1.events.toNat = 264 := by decide +kernel
theorem ex10c : Diag.write 0 (MsgM.of 7) = some [] := by decide +kernel

set_option maxRecDepth 20000 in
set_option maxHeartbeats 2000000 in
theorem awake_any (w : World) : Calls Try.prog 11 #[] w fun e w' => e = .returned (.bool true) ∧ Below w.heap.size w w' := by
  go_enter Try.func11, Try.ntmps11
  go_wp2_with fail
  refine (diagParse_any 0 8 _ _ _ [0, 0, 165, 55] _ (Sl.fresh w _ _ 5 _ 4 rfl (by unfold maxLen; omega) (by rfl)) (by decide)).mono ?_
  rintro e w1 ⟨⟨v1, rfl, hm1⟩, hb1⟩
  replace hb1 := below_next ((Below.refl w.heap.size w).alloc (Nat.le_refl _) _) hb1 (Nat.le_refl _)
  obtain ⟨x1, x2, x3⟩ := ex10a
  rw [x1]
  generalize (Diag.parse 0 8 [0, 0, 165, 55]).1 = m1 at *
  obtain ⟨cs1, rfl, hs1, ho1, _⟩ := hm1.agg
  have HM1 := hide hm1
  clear hm1 x1
  go_wp2_with ((with_reducible (show wpList _ _ _ ({ dst := _, op := Op.store _ _ _, type := _, pos := _, after := _, guard := _ } :: _) _ _)); refine wpList_store_new rfl 30 _ _ rfl cs1 rfl rfl (msg_size cs1 hs1) hs1.symm ho1 ?_)
  intro w2 h2 b2
  have hmb2 : MB 30 w2 w1.heap.size m1 := ⟨cs1, h2, HM1.out.mono b2⟩
  replace hb1 := below_next hb1 b2 (Nat.le_refl _)
  clear h2 b2 HM1
  have hg1 := hmb2.lt
  generalize w1.heap.size = g1 at *
  have HMB2 := hide hmb2
  clear hmb2
  go_wp2_with fail
  refine (diagParse_any 1 11 _ _ _ [255, 255, 1, 8] _ (Sl.fresh w2 _ _ 5 _ 4 rfl (by unfold maxLen; omega) (by rfl)) (by decide)).mono ?_
  rintro e w3 ⟨⟨v3, rfl, hm3⟩, hb3⟩
  replace hb3 := ((Below.refl w2.heap.size w2).alloc (Nat.le_refl _) _).trans (hb3.mono (by simp))
  replace HMB2 := hide (HMB2.out.mono hb3)
  replace hb1 := below_next hb1 hb3 (Nat.le_refl _)
  obtain ⟨y1, y2, y3⟩ := ex10b
  rw [y1]
  generalize (Diag.parse 1 11 [255, 255, 1, 8]).1 = m3 at *
  obtain ⟨cs3, rfl, hs3, ho3, _⟩ := hm3.agg
  have HM3 := hide hm3
  clear hm3 y1 hb3
  go_wp2_with ((with_reducible (show wpList _ _ _ ({ dst := _, op := Op.store _ _ _, type := _, pos := _, after := _, guard := _ } :: _) _ _)); refine wpList_store_new rfl 30 _ _ rfl cs3 rfl rfl (msg_size cs3 hs3) hs3.symm ho3 ?_)
  intro w4 h4 b4
  have hmb4 : MB 30 w4 w3.heap.size m3 := ⟨cs3, h4, HM3.out.mono b4⟩
  replace HMB2 := hide (HMB2.out.mono b4)
  replace hb1 := below_next hb1 b4 (Nat.le_refl _)
  clear h4 b4 HM3
  generalize w3.heap.size = g3 at *
  have HMB4 := hide hmb4
  clear hmb4
  go_wp2_with fail
  refine (diagWrite_any 0 _ (MsgM.of 7) w4 (MsgAt.of w4 7) (MsgM.bare_of 7).small).mono ?_
  rintro e w5 ⟨⟨a5, l5, c5, rfl, hx5⟩, hb5⟩
  rw [ex10c] at hx5 ⊢
  have hmb2 := HMB2.out.mono hb5
  have hmb4 := HMB4.out.mono hb5
  replace hb1 := below_next hb1 hb5 (Nat.le_refl _)
  have k1 : w5.cell? ⟨g1, 8, none⟩ = some (.int .u16 0) := by rw [hmb2.c_sub]; show some (Value.int .u16 (m1.sub.toNat : Int)) = _; rw [x2]; rfl
  obtain ⟨a6, l6, c6, k3, hx6⟩ := hmb2.c_words
  have h6 : l6 = 1 := by rw [← hx6.hlen]; exact x3
  subst h6
  have k4 : w5.cell? ⟨g3, 9, none⟩ = some (.int .u16 65535) := by rw [hmb4.c_status]; show some (Value.int .u16 (m3.status.toNat : Int)) = _; rw [y2]; rfl
  have k5 : w5.cell? ⟨g3, 10, none⟩ = some (.int .u16 264) := by rw [hmb4.c_events]; show some (Value.int .u16 (m3.events.toNat : Int)) = _; rw [y3]; rfl
  have e0 : errO (some ([] : List UInt8)) = 0 := rfl
  have h5 : l5 = 0 := hx5.hlen.symm
  subst h5
  rw [e0]
  clear hmb2 hmb4 hx5 hx6 hb5 HMB2 HMB4
  go_wp2
  go_ret
  exact ⟨rfl, hb1⟩

end Go.Proofs.Ytemomgcapjpaiaa
