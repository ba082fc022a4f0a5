/-
  The document's own answers for mei: Parse, requests.
-/
import Derived.Test.YtaokbaddleplfaaMeiRefRow
import Derived.Test.YtaokbaddleplfaaStoreStep
import Derived.Test.YtaokbaddleplfaaJoinA
import Derived.BigRegion
import Derived.Deep.LoopGhost
import Derived.Deep.CutBlock
import Derived.Deep.DeepCutAuto
import Derived.Deep.QuietTactic
import Derived.Deep.RegionHeld3
namespace Go.Proofs.Ytaokbaddleplfaa
open Go.RowKit
open Word Bits Cursor

set_option maxRecDepth 20000 in
set_option maxHeartbeats 4000000 in
theorem mp_ask (a : Option Addr) (len cap : Nat) (xs : List UInt8) (w : World) (hx : Bs w a len cap xs) (hlen : len ≤ 100000) (h13 : (St.new xs).byte ≠ 13) :
    Calls Try.prog 13 #[.int .i64 0, byteV 43, .slice a len cap] w fun e w' =>
      (∃ v, e = .returned (.tuple #[v, .int .i64 (Mei.parse 0 43 xs).2]) ∧ MsgAt w' v (Mei.parse 0 43 xs).1) ∧ Below w.heap.size w w' := by
  have HX := hide hx
  clear hx
  have HRf : Hid (Mei.parse 0 43 xs = finish (Mei.Frm.read 0 (MsgM.of 43, St.new xs))) := hide (Mei.parse_some (by decide))
  obtain ⟨R, hR⟩ : ∃ R, R = Mei.parse 0 43 xs := ⟨_, rfl⟩
  rw [← hR] at HRf ⊢
  clear hR
  obtain ⟨s0, hs0⟩ : ∃ s, s = St.new xs := ⟨_, rfl⟩
  rw [← hs0] at h13 HRf
  obtain ⟨x0, hx0⟩ : ∃ x, x = s0.byte := ⟨_, rfl⟩
  rw [← hx0] at h13
  obtain ⟨n0, hn0⟩ : ∃ n : Nat, n = x0.toNat := ⟨_, rfl⟩
  have hb0 : n0 < 256 := by rw [hn0]; exact byte_lt _
  obtain ⟨s1, hs1⟩ : ∃ s, s = s0.afterB.need (Mei.isMei x0) 8 := ⟨_, rfl⟩
  have hmei : ∃ o0 : Bool, o0 = Mei.isMei x0 := ⟨_, rfl⟩
  obtain ⟨o0, ho0⟩ := hmei
  have n13 : n0 ≠ 13 := fun e => h13 (UInt8.toNat_inj.1 (by rw [← hn0, e]; rfl))
  have q13 : ((n0 : Int) == 13) = false := by simp; omega
  have r14 : ((n0 : Int) == 14) = o0 := by
    rw [ho0]
    unfold Mei.isMei
    rw [← hn0]
    by_cases h : n0 = 14 <;> simp [h, n13] <;> omega
  rw [← ho0] at hs1
  obtain ⟨n1, hn1⟩ : ∃ n : Nat, n = s1.byte.toNat := ⟨_, rfl⟩
  have hb1 : n1 < 256 := by rw [hn1]; exact byte_lt _
  have HK1 : Hid (byteV s1.byte = .int .u8 (n1 : Int)) := hide (by rw [hn1])
  obtain ⟨o1, ho1⟩ : ∃ b : Bool, b = Mei.okKind s1.byte := ⟨_, rfl⟩
  have HO1 : Hid (o1 = (decide (0 < n1) && decide (n1 < 5))) := hide (by rw [ho1]; unfold Mei.okKind; rw [hn1])
  obtain ⟨s2, hs2⟩ : ∃ s, s = s1.afterB.need o1 6 := ⟨_, rfl⟩
  have HS2 := hide hs2
  obtain ⟨n2, hn2⟩ : ∃ n : Nat, n = s2.byte.toNat := ⟨_, rfl⟩
  have hb2 : n2 < 256 := by rw [hn2]; exact byte_lt _
  have HK2 : Hid (byteV s2.byte = .int .u8 (n2 : Int)) := hide (by rw [hn2])
  have HF : Hid (R = finish ((((MsgM.of 43).put_mei s0.byte).put_kind s1.byte).put_next s2.byte, s2.afterB)) := hide (by
    rw [HRf.out, hs2, ho1, hs1, ho0, hx0]
    show finish (Mei.body 0 ((MsgM.of 43).put_mei s0.byte) s0.byte (s0.afterB.need (Mei.isMei s0.byte) 8)) = _
    unfold Mei.body
    rw [if_neg (by rw [← hx0]; exact h13)]
    rfl)
  clear hn1 hn2 ho0 ho1 hs2 h13 n13
  have HS0 := hide hs0
  have HK0 : Hid (byteV s0.byte = .int .u8 (n0 : Int)) := hide (by rw [hn0, hx0])
  have HX0 := hide hx0
  have HS1 := hide hs1
  rw [show byteV 43 = .int .u8 (43 : Int) from rfl]
  clear hs0 hx0 hn0 hs1 HRf
  go_enter Try.func13, Try.ntmps13
  go_upto_region 7 with ((with_reducible (show wpList _ _ _ ({ dst := _, op := Op.store _ _ _, type := _, pos := _, after := _, guard := _ } :: _) _ _)); refine wpList_store_lies rfl 30 _ _ rfl (w.heap.size + 1 + 1) (codeCells 43) rfl rfl _ _ (heap_alloc3_new _ _ _ _) (msg_size _ rfl) rfl (by simp [Value.oneCell']) ?_; intro w1 h1 b1 n1 z1)
  obtain ⟨h, hz⟩ := rr_entry HX.out hlen h1 b1
  rw [← HS0.out] at h
  have z21 : Z21 w1 (w.heap.size + 1 + 1) := (cell_of_row w1 _ 21 _ _ _ h1).trans rfl
  have HA := hide h
  have HZ := hide hz
  have HZ0 := hide z21
  clear h hz h1 b1 n1 z1 HX HS0 z21
  have HZA := HZ0
  clear HZ0
  go_wp2_with fail
  refine (rz_byte HA.out HZA.out).mono ?_
  rintro e v0 ⟨rfl, h, z⟩
  have f0 := h.mb.fr 16
  have k0 := h.mb.c_mei
  replace h := h.put_mei s0.byte
  replace z := z.set (i := 16) (by decide) (byteV s0.byte)
  rw [HK0.out] at h z ⊢
  have G0 := hide h
  have GZ0 := hide z
  clear h z HA HZA
  go_upto_region 8 with fail
  generalize v0.setCell ⟨w.heap.size + 1 + 1, 16, none⟩ (.int .u8 (n0 : Int)) = u0w at *
  clear f0 k0
  have kc0 : u0w.cell? ⟨w.heap.size + 1 + 1, 16, none⟩ = some (.int .u8 (n0 : Int)) := by
    rw [G0.out.mb.c_mei]
    show some (byteV s0.byte) = _
    rw [HK0.out]
  go_wp2_with fail
  refine (rz_need G0.out GZ0.out o0 8).mono ?_
  rintro e v ⟨rfl, h, z⟩
  rw [← HS1.out] at h
  have kd0 : v.cell? ⟨w.heap.size + 1 + 1, 16, none⟩ = some (.int .u8 (n0 : Int)) := by
    rw [h.mb.c_mei]
    show some (byteV s0.byte) = _
    rw [HK0.out]
  have Hs := hide h
  have HZs := hide z
  clear h z G0 GZ0 kc0
  go_wp2_with fail
  refine (rz_byte Hs.out HZs.out).mono ?_
  rintro e v1 ⟨rfl, h, z⟩
  have f1 := h.mb.fr 17
  have k1 := h.mb.c_kind
  replace h := h.put_kind s1.byte
  replace z := z.set (i := 17) (by decide) (byteV s1.byte)
  rw [HK1.out] at h z ⊢
  have G1 := hide h
  have GZ1 := hide z
  clear h z Hs HZs
  go_upto_region 33 with fail
  generalize v1.setCell ⟨w.heap.size + 1 + 1, 17, none⟩ (.int .u8 (n1 : Int)) = u1w at *
  clear f1 k1
  have kc1 : u1w.cell? ⟨w.heap.size + 1 + 1, 17, none⟩ = some (.int .u8 (n1 : Int)) := by
    rw [G1.out.mb.c_kind]
    show some (byteV s1.byte) = _
    rw [HK1.out]
  go_cut [] (fun wx => RRd w w1 (w.heap.size + 3) (w.heap.size + 1 + 1) (w.heap.size + 1) a len cap xs (((MsgM.of 43).put_mei s0.byte).put_kind s1.byte) s2 wx ∧ Z21 wx (w.heap.size + 1 + 1))
  case first =>
    by_cases hq : 0 < n1
    · skip
      have g1 : (0 : Int) < (n1 : Int) := by omega
      have r1 : decide ((n1 : Int) < 5) = o1 := by rw [HO1.out]; by_cases hz : n1 < 5 <;> simp [hq, hz] <;> omega
      go_wp2_with fail
      refine (rz_need G1.out GZ1.out o1 6).mono ?_
      rintro e v ⟨rfl, h, z⟩
      go_wp2
      go_meet
      case rel => exact ⟨by rw [HS2.out]; exact h, z⟩
    · skip
      obtain rfl : n1 = 0 := by omega
      obtain rfl : o1 = false := by rw [HO1.out]; rfl
      go_wp2_with fail
      refine (rz_need G1.out GZ1.out false 6).mono ?_
      rintro e v ⟨rfl, h, z⟩
      go_wp2
      go_meet
      case rel => exact ⟨by rw [HS2.out]; exact h, z⟩
  case rest =>
  obtain ⟨h, z⟩ := hcut
  have H1b := hide h
  have HZ1b := hide z
  clear h z G1 GZ1 kc1
  go_wp2_with fail
  refine (rz_byte H1b.out HZ1b.out).mono ?_
  rintro e v2 ⟨rfl, h, z⟩
  have f2 := h.mb.fr 20
  have k2 := h.mb.c_next
  replace h := h.put_next s2.byte
  replace z := z.set (i := 20) (by decide) (byteV s2.byte)
  rw [HK2.out] at h z ⊢
  have G2 := hide h
  have GZ2 := hide z
  clear h z H1b HZ1b
  go_upto_region 35 with fail
  generalize v2.setCell ⟨w.heap.size + 1 + 1, 20, none⟩ (.int .u8 (n2 : Int)) = u2w at *
  clear f2 k2
  have H := G2
  clear G2 GZ2
  go_wp2_with fail
  refine (rr_end H.out).mono ?_
  rintro e w9 ⟨rfl, h9⟩
  obtain ⟨kc, _, _, hg9, _, _⟩ := h9.cur
  have c9 := rcur_c3 hg9
  obtain ⟨cs, hb9, hm9⟩ := h9.box
  have e1 := (h9.keep w.heap.size (by omega) (by omega) (by omega)).trans HZ.out
  obtain ⟨hsz, hone⟩ := (hm9 _ (Off.refl _ _ _)).row
  have HM9 := hide hm9
  have HB9 := hide h9.below
  have hw9 : w.heap.size ≤ w9.heap.size := h9.below.size
  unfold finish at HF
  simp only at HF
  generalize St.e _ = E at *
  clear h9 hm9 hg9 H
  by_cases hE : E = 0
  · have hR : Hid (R = (_, 0)) := hide (by rw [HF.out, if_pos hE])
    clear HF
    subst hE
    go_wp2_with (first | ((with_reducible (show wpList _ _ _ ({ dst := _, op := Op.load _ _, type := _, pos := _, after := _, guard := _ } :: _) _ _)); refine wpList_load_row rfl 30 _ rfl (w.heap.size + 1 + 1) rfl 30 cs (0, 0) _ hb9 Try.underlying30 rfl (msg_size cs hsz) ?_) | ((with_reducible (show wpList _ _ _ ({ dst := _, op := Op.store _ _ _, type := _, pos := _, after := _, guard := _ } :: _) _ _)); refine wpList_store_lies rfl 30 _ _ rfl w.heap.size cs rfl rfl _ _ e1 (msg_size cs hsz) hsz.symm hone ?_))
    intro w7 h7 b7 n7 z7
    go_wp2
    (try simp only [Exit.inBlock, Exit.then])
    rw [hR.out]
    exact bodyPost_ret (results_row_tmp Try.results13 _ _ w.heap.size _ _ _ _ rfl h7 Try.underlying30 rfl (msg_size _ hsz) _ rfl) rfl ⟨⟨_, rfl, HM9.out _ ⟨Nat.le_of_eq z7.symm, fun k _ hk => n7 k (by omega)⟩⟩, HB9.out.trans (b7 _ (Nat.le_refl _))⟩
  · have hR : Hid (R = (MsgM.zero, E)) := hide (by rw [HF.out, if_neg hE])
    have hE' : (E != 0) = true := by simpa using hE
    clear HF
    go_upto_region 37 with fail
    refine wp_region_noPanic ?_
    refine wp_region_held_drew (S := fun w' => w'.heap[w.heap.size]? = some (.cells zeroCells 30 (0, 0)) ∧ w'.cell? ⟨w.heap.size + 1, 3, none⟩ = some (.int .i64 E) ∧ Below w.heap.size w9 w') (by kernel_rfl) (⟨e1, c9, (Below.refl _ _).drew⟩) (fun hHeld => ?_)
    refine wpAnyH_take (i := 0) (oi := ⟨some 170, .build 30 #[], _, _, _, none⟩) (v := ?_) rfl (by kernel_rfl) (by kernel_rfl) (by kernel_rfl) (fun _ _ _ h => h) (Or.inl ⟨by rfl, ?_⟩) hHeld ?_
    rotate_left
    · (intro wq hSw; go_simp; try with_reducible rfl)
    simp only [Act.put, List.setIfInBounds_toArray, List.set_cons_zero, List.set_cons_succ]
    refine wpAnyH_take (i := 1) (oi := ⟨some 171, .move (.tmp 8), _, _, _, none⟩) (v := ?_) rfl (by kernel_rfl) (by kernel_rfl) (by kernel_rfl) (fun _ _ _ h => h) (Or.inl ⟨by rfl, ?_⟩) hHeld ?_
    rotate_left
    · (intro wq hSw; go_simp; try with_reducible rfl)
    simp only [Act.put, List.setIfInBounds_toArray, List.set_cons_zero, List.set_cons_succ]
    refine wpAnyH_take (i := 2) (oi := ⟨some 172, .nilCheck (.tmp 171), _, _, _, none⟩) (v := ?_) rfl (by kernel_rfl) (by kernel_rfl) (by kernel_rfl) (fun _ _ _ h => h) (Or.inl ⟨by rfl, ?_⟩) hHeld ?_
    rotate_left
    · (intro wq hSw; go_simp; try with_reducible rfl)
    simp only [Act.put, List.setIfInBounds_toArray, List.set_cons_zero, List.set_cons_succ]
    refine wpAnyH_take (i := 3) (oi := ⟨some 173, .fieldAddr 65 (.tmp 172) 3, _, _, _, none⟩) (v := ?_) rfl (by kernel_rfl) (by kernel_rfl) (by kernel_rfl) (fun _ _ _ h => h) (Or.inl ⟨by rfl, ?_⟩) hHeld ?_
    rotate_left
    · (intro wq hSw; go_simp; try with_reducible rfl)
    simp only [Act.put, List.setIfInBounds_toArray, List.set_cons_zero, List.set_cons_succ]
    refine wpAnyH_take (i := 4) (oi := ⟨some 174, .load 31 (.tmp 173), _, _, _, none⟩) (v := ?_) rfl (by kernel_rfl) (by kernel_rfl) (by kernel_rfl) (fun _ _ _ h => h) (Or.inl ⟨by rfl, ?_⟩) hHeld ?_
    rotate_left
    · (intro wq hSw; have hcv := hSw.2.1; go_simp; try with_reducible rfl)
    simp only [Act.put, List.setIfInBounds_toArray, List.set_cons_zero, List.set_cons_succ]
    refine wpAnyH_ready (rs := [5]) (by kernel_rfl) (by simp) ?_
    refine AllReadyH.cons (o := ⟨none, .store 30 (.tmp 6) (.tmp 170), _, _, _, none⟩) rfl (fun K hK => ?_) ?_
    · refine step_store (by rfl) _ _ _ (by rfl) w.heap.size zeroCells (by rfl) (by rfl) _ _ hHeld.1 (msg_size _ rfl) rfl zero_one ?_
      intro w6 h6 b6 n6 z6
      refine hK.out _ _ ?_ (fun hHeld => ?_)
      · exact ⟨h6, (World.cell?_of_block (n6 (w.heap.size + 1) (by omega))).trans hHeld.2.1, hHeld.2.2.trans (b6 _ (Nat.le_refl _))⟩
      clear hK K
      try simp only [Act.put]
      refine wpAnyH_take (i := 6) (oi := ⟨some 7, .assign (.tmp 174), _, _, _, none⟩) (v := ?_) rfl (by kernel_rfl) (by kernel_rfl) (by kernel_rfl) (fun _ _ _ h => h) (Or.inl ⟨by rfl, ?_⟩) hHeld ?_
      rotate_left
      · (intro wq hSw; go_simp; try with_reducible rfl)
      simp only [Act.put, List.setIfInBounds_toArray, List.set_cons_zero, List.set_cons_succ]
      refine wpAnyH_done (by kernel_rfl) ?_ _
      refine NoPanic.normal ?_
      go_wp2
      (try simp only [Exit.inBlock, Exit.then])
      rw [hR.out]
      exact bodyPost_ret (results_row_tmp Try.results13 _ _ w.heap.size _ _ _ _ rfl h6 Try.underlying30 rfl (msg_size _ rfl) _ rfl) rfl ⟨⟨_, rfl, MsgAt.zero _⟩, HB9.out.trans hHeld.2.2⟩
    exact AllReadyH.nil

end Go.Proofs.Ytaokbaddleplfaa
