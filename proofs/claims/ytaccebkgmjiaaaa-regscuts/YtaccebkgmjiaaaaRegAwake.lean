/-
  The chapter's examples of layer 9.
-/
import Derived.Test.YtaccebkgmjiaaaaRegPut
import Derived.Lib.SlBytesConst
namespace Go.Proofs.Ytaccebkgmjiaaaa
open Go.RowKit
open Word Bits Cursor

theorem ex9a : (Regs.parse 0 3 [0, 107, 0, 3]).2 = 0 ∧ (Regs.parse 0 3 [0, 107, 0, 3]).1.addr.toNat = 107 ∧ (Regs.parse 0 3 [0, 107, 0, 3]).1.count.toNat = 3 := by decide +kernel
theorem ex9b : (Regs.parse 1 24 [0, 6, 0, 2, 1, 184, 18, 132]).2 = 0 ∧ (Regs.parse 1 24 [0, 6, 0, 2, 1, 184, 18, 132]).1.words.length = 2 := by decide +kernel
def one9 : MsgM := ((MsgM.of 6).put_addr 1).put_value 3
theorem ex9c : Regs.write 0 one9 = some [0, 1, 0, 3] := by decide +kernel

set_option maxRecDepth 20000 in
set_option maxHeartbeats 2000000 in
theorem awake_any (w : World) : Calls Try.prog 11 #[] w fun e w' => e = .returned (.bool true) ∧ Below w.heap.size w w' := by
  have hst := strOf_toList
  go_enter Try.func11, Try.ntmps11
  go_wp2_with fail
  refine (regsParse_any 0 3 _ _ _ [0, 107, 0, 3] _ (Sl.fresh w _ _ 5 _ 4 rfl (by unfold maxLen; omega) (by rfl)) (by decide)).mono ?_
  rintro e w1 ⟨⟨v1, rfl, hm1⟩, hb1⟩
  replace hb1 := below_next ((Below.refl w.heap.size w).alloc (Nat.le_refl _) _) hb1 (Nat.le_refl _)
  obtain ⟨x1, x2, x3⟩ := ex9a
  rw [x1]
  generalize (Regs.parse 0 3 [0, 107, 0, 3]).1 = m1 at *
  obtain ⟨cs1, rfl, hs1, ho1, _⟩ := hm1.agg
  have HM1 := hide hm1
  clear hm1 x1
  go_wp2_with ((with_reducible (show wpList _ _ _ ({ dst := _, op := Op.store _ _ _, type := _, pos := _, after := _, guard := _ } :: _) _ _)); refine wpList_store_new rfl 30 _ _ rfl cs1 rfl rfl (msg_size cs1 hs1) hs1.symm ho1 ?_)
  intro w2 h2 b2
  have hmb2 : MB 30 w2 w1.heap.size m1 := ⟨cs1, h2, HM1.out.mono b2⟩
  replace hb1 := below_next hb1 b2 (Nat.le_refl _)
  clear h2 b2 HM1
  have hg1 := hmb2.lt
  generalize w1.heap.size = g1 at *
  have HMB2 := hide hmb2
  clear hmb2
  go_wp2_with fail
  refine (regsParse_any 1 24 _ _ _ [0, 6, 0, 2, 1, 184, 18, 132] _ (Sl.fresh w2 _ _ 5 _ 8 rfl (by unfold maxLen; omega) (by rfl)) (by decide)).mono ?_
  rintro e w3 ⟨⟨v3, rfl, hm3⟩, hb3⟩
  replace hb3 := ((Below.refl w2.heap.size w2).alloc (Nat.le_refl _) _).trans (hb3.mono (by simp))
  replace HMB2 := hide (HMB2.out.mono hb3)
  replace hb1 := below_next hb1 hb3 (Nat.le_refl _)
  obtain ⟨y1, y2⟩ := ex9b
  rw [y1]
  generalize (Regs.parse 1 24 [0, 6, 0, 2, 1, 184, 18, 132]).1 = m3 at *
  obtain ⟨cs3, rfl, hs3, ho3, _⟩ := hm3.agg
  have HM3 := hide hm3
  clear hm3 y1 hb3
  go_wp2_with ((with_reducible (show wpList _ _ _ ({ dst := _, op := Op.store _ _ _, type := _, pos := _, after := _, guard := _ } :: _) _ _)); refine wpList_store_new rfl 30 _ _ rfl cs3 rfl rfl (msg_size cs3 hs3) hs3.symm ho3 ?_)
  intro w4 h4 b4
  have hmb4 : MB 30 w4 w3.heap.size m3 := ⟨cs3, h4, HM3.out.mono b4⟩
  replace HMB2 := hide (HMB2.out.mono b4)
  replace hb1 := below_next hb1 b4 (Nat.le_refl _)
  clear h4 b4 HM3
  generalize w3.heap.size = g3 at *
  have HMB4 := hide hmb4
  clear hmb4
  go_wp2_with fail
  refine (regsWrite_any 0 _ one9 w4 ⟨none, 0, 0, none, 0, 0, none, 0, 0, none, 0, 0, none, 0, 0, rfl, Sl.nil _ _ (Nat.zero_le _), Sl.nil _ _ (Nat.zero_le _), Sl.nil _ _ (Nat.zero_le _), Rs.nil _ _ (Nat.zero_le _), Obs.nil _ _ (Nat.zero_le _)⟩).mono ?_
  rintro e w5 ⟨⟨a5, l5, c5, rfl, hx5⟩, hb5⟩
  rw [ex9c] at hx5 ⊢
  have hmb2 := HMB2.out.mono hb5
  have hmb4 := HMB4.out.mono hb5
  replace hb1 := below_next hb1 hb5 (Nat.le_refl _)
  have k1 : w5.cell? ⟨g1, 2, none⟩ = some (.int .u16 107) := by rw [hmb2.c_addr]; show some (Value.int .u16 (m1.addr.toNat : Int)) = _; rw [x2]; rfl
  have k2 : w5.cell? ⟨g1, 3, none⟩ = some (.int .u16 3) := by rw [hmb2.c_count]; show some (Value.int .u16 (m1.count.toNat : Int)) = _; rw [x3]; rfl
  obtain ⟨a6, l6, c6, k3, hx6⟩ := hmb4.c_words
  have h6 : l6 = 2 := by rw [← hx6.hlen]; exact y2
  subst h6
  have hcv := Bs.conv (P := Try.prog) hx5 22 5 Try.underlying22 Try.underlying5 9 Try.underlying9
  have e0 : errW (some [0, 1, 0, 3]) = 0 := rfl
  have e1 : outW (some [0, 1, 0, 3]) = [0, 1, 0, 3] := rfl
  rw [e1] at hcv
  rw [e0]
  clear hmb2 hmb4 hx5 hx6 hb5 HMB2 HMB4
  go_wp2
  go_ret
  exact ⟨rfl, hb1⟩

end Go.Proofs.Ytaccebkgmjiaaaa
