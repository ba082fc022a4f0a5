/-
  The document's own answers for mei: Parse, another protocol.
-/
import Derived.Test.YtaokbaddleplfaaMeiRefRow
import Derived.Test.YtaokbaddleplfaaStoreStep
import Derived.Test.YtaokbaddleplfaaJoinA
import Derived.BigRegion
import Derived.Deep.LoopGhost
import Derived.Deep.CutBlock
import Derived.Deep.DeepCutAuto
import Derived.Deep.QuietTactic
import Derived.Deep.RegionHeld3
namespace Go.Proofs.Ytaokbaddleplfaa
open Go.RowKit
open Word Bits Cursor

set_option maxRecDepth 20000 in
set_option maxHeartbeats 4000000 in
theorem mp_other0 (a : Option Addr) (len cap : Nat) (xs : List UInt8) (w : World) (hx : Bs w a len cap xs) (hlen : len ≤ 100000) (h13 : (St.new xs).byte = 13) :
    Calls Try.prog 13 #[.int .i64 0, byteV 43, .slice a len cap] w fun e w' =>
      (∃ v, e = .returned (.tuple #[v, .int .i64 (Mei.parse 0 43 xs).2]) ∧ MsgAt w' v (Mei.parse 0 43 xs).1) ∧ Below w.heap.size w w' := by
  have HX := hide hx
  clear hx
  have HRf : Hid (Mei.parse 0 43 xs = finish (Mei.Frm.read 0 (MsgM.of 43, St.new xs))) := hide (Mei.parse_some (by decide))
  obtain ⟨R, hR⟩ : ∃ R, R = Mei.parse 0 43 xs := ⟨_, rfl⟩
  rw [← hR] at HRf ⊢
  clear hR
  obtain ⟨s0, hs0⟩ : ∃ s, s = St.new xs := ⟨_, rfl⟩
  rw [← hs0] at h13 HRf
  obtain ⟨x0, hx0⟩ : ∃ x, x = s0.byte := ⟨_, rfl⟩
  rw [← hx0] at h13
  obtain ⟨n0, hn0⟩ : ∃ n : Nat, n = x0.toNat := ⟨_, rfl⟩
  have hb0 : n0 < 256 := by rw [hn0]; exact byte_lt _
  obtain ⟨s1, hs1⟩ : ∃ s, s = s0.afterB.need (Mei.isMei x0) 8 := ⟨_, rfl⟩
  have hmei : Mei.isMei x0 = true := by rw [h13]; rfl
  have hn13 : n0 = 13 := by rw [hn0, h13]; rfl
  rw [hmei] at hs1
  obtain ⟨L, hL⟩ : ∃ n : Nat, n = s1.xs.length := ⟨_, rfl⟩
  obtain ⟨o, ho⟩ : ∃ b : Bool, b = decide (L ≤ 251) := ⟨_, rfl⟩
  have r1 : decide ((L : Int) ≤ 251) = o := by rw [ho, Bool.eq_iff_iff]; simp; omega
  obtain ⟨s2, hs2⟩ : ∃ s, s = s1.need o 5 := ⟨_, rfl⟩
  obtain ⟨d, hd⟩ : ∃ l, l = s2.got (L : Int) 1 := ⟨_, rfl⟩
  obtain ⟨s3, hs3⟩ : ∃ s, s = s2.next (L : Int) 1 := ⟨_, rfl⟩
  have HF : Hid (R = finish (((MsgM.of 43).put_mei x0).put_data d, s3)) := hide (by
    rw [HRf.out, hs3, hd, hs2, ho, hL, hs1, ← hmei]
    show finish (Mei.body 0 ((MsgM.of 43).put_mei s0.byte) s0.byte (s0.afterB.need (Mei.isMei s0.byte) 8)) = _
    rw [← hx0]
    unfold Mei.body
    rw [if_pos h13]
    rfl)
  have HL := hide hL
  have HS2 := hide hs2
  have HD := hide hd
  have HS3 := hide hs3
  clear hL ho hs2 hd hs3
  have HS0 := hide hs0
  have HK0 : Hid (byteV s0.byte = .int .u8 (n0 : Int)) := hide (by rw [hn0, hx0])
  have HX0 := hide hx0
  have HS1 := hide hs1
  rw [show byteV 43 = .int .u8 (43 : Int) from rfl]
  clear hs0 hx0 hn0 hs1 HRf
  go_enter Try.func13, Try.ntmps13
  go_upto_region 7 with ((with_reducible (show wpList _ _ _ ({ dst := _, op := Op.store _ _ _, type := _, pos := _, after := _, guard := _ } :: _) _ _)); refine wpList_store_lies rfl 30 _ _ rfl (w.heap.size + 1 + 1) (codeCells 43) rfl rfl _ _ (heap_alloc3_new _ _ _ _) (msg_size _ rfl) rfl (by simp [Value.oneCell']) ?_; intro w1 h1 b1 n1 z1)
  obtain ⟨h, hz⟩ := rr_entry HX.out hlen h1 b1
  rw [← HS0.out] at h
  have z21 : Z21 w1 (w.heap.size + 1 + 1) := (cell_of_row w1 _ 21 _ _ _ h1).trans rfl
  have HA := hide h
  have HZ := hide hz
  have HZ0 := hide z21
  clear h hz h1 b1 n1 z1 HX HS0 z21
  subst hn13
  go_wp2_with fail
  refine (rr_byte HA.out).mono ?_
  rintro e v0 ⟨rfl, h⟩
  have f0 := h.mb.fr 16
  have k0 := h.mb.c_mei
  replace h := h.put_mei s0.byte
  rw [HK0.out] at h ⊢
  have H0 := hide h
  clear h HA
  go_upto_region 8 with fail
  generalize v0.setCell ⟨w.heap.size + 1 + 1, 16, none⟩ (.int .u8 13) = u0 at *
  clear f0 k0
  have k16 : u0.cell? ⟨w.heap.size + 1 + 1, 16, none⟩ = some (.int .u8 13) := by
    have := H0.out.mb.c_mei
    rw [this]
    show some (byteV s0.byte) = _
    rw [HK0.out]; rfl
  go_wp2_with fail
  refine (rr_need H0.out true 8).mono ?_
  rintro e w4 ⟨rfl, h4⟩
  rw [← HX0.out, ← HS1.out] at h4
  have k17 : w4.cell? ⟨w.heap.size + 1 + 1, 16, none⟩ = some (.int .u8 13) := by
    have := h4.mb.c_mei
    rw [this]
    show some (byteV x0) = _
    rw [HX0.out, HK0.out]; rfl
  have H4 := hide h4
  clear h4 H0 k16
  go_wp2_with fail
  refine (rr_left H4.out).mono ?_
  rintro e w5 ⟨rfl, h5⟩
  rw [← HL.out]
  have H5 := hide h5
  clear h5 H4 k17
  go_wp2_with fail
  refine (rr_need H5.out o 5).mono ?_
  rintro e w6 ⟨rfl, h6⟩
  rw [← HS2.out] at h6
  have H6 := hide h6
  clear h6 H5
  go_wp2_with fail
  refine (rr_bytes H6.out (L : Int)).mono ?_
  rintro e w7 ⟨⟨a7, c7, rfl, hx7⟩, h7⟩
  rw [← HD.out] at hx7 ⊢
  rw [← HS3.out] at h7
  have f7 := h7.mb.fr 14
  obtain ⟨q1, q2, q3, k7, _⟩ := h7.mb.c_data
  have H := hide (h7.put_data hx7)
  clear h7 hx7 H6
  go_upto_region 35 with fail
  generalize w7.setCell ⟨w.heap.size + 1 + 1, 14, none⟩ (.slice a7 d.length c7) = w8 at *
  clear f7 k7
  go_wp2_with fail
  refine (rr_end H.out).mono ?_
  rintro e w9 ⟨rfl, h9⟩
  obtain ⟨kc, _, _, hg9, _, _⟩ := h9.cur
  have c9 := rcur_c3 hg9
  obtain ⟨cs, hb9, hm9⟩ := h9.box
  have e1 := (h9.keep w.heap.size (by omega) (by omega) (by omega)).trans HZ.out
  obtain ⟨hsz, hone⟩ := (hm9 _ (Off.refl _ _ _)).row
  have HM9 := hide hm9
  have HB9 := hide h9.below
  have hw9 : w.heap.size ≤ w9.heap.size := h9.below.size
  unfold finish at HF
  simp only at HF
  generalize St.e _ = E at *
  clear h9 hm9 hg9 H
  by_cases hE : E = 0
  · have hR : Hid (R = (_, 0)) := hide (by rw [HF.out, if_pos hE])
    clear HF
    subst hE
    go_wp2_with (first | ((with_reducible (show wpList _ _ _ ({ dst := _, op := Op.load _ _, type := _, pos := _, after := _, guard := _ } :: _) _ _)); refine wpList_load_row rfl 30 _ rfl (w.heap.size + 1 + 1) rfl 30 cs (0, 0) _ hb9 Try.underlying30 rfl (msg_size cs hsz) ?_) | ((with_reducible (show wpList _ _ _ ({ dst := _, op := Op.store _ _ _, type := _, pos := _, after := _, guard := _ } :: _) _ _)); refine wpList_store_lies rfl 30 _ _ rfl w.heap.size cs rfl rfl _ _ e1 (msg_size cs hsz) hsz.symm hone ?_))
    intro w7 h7 b7 n7 z7
    go_wp2
    (try simp only [Exit.inBlock, Exit.then])
    rw [hR.out]
    exact bodyPost_ret (results_row_tmp Try.results13 _ _ w.heap.size _ _ _ _ rfl h7 Try.underlying30 rfl (msg_size _ hsz) _ rfl) rfl ⟨⟨_, rfl, HM9.out _ ⟨Nat.le_of_eq z7.symm, fun k _ hk => n7 k (by omega)⟩⟩, HB9.out.trans (b7 _ (Nat.le_refl _))⟩
  · have hR : Hid (R = (MsgM.zero, E)) := hide (by rw [HF.out, if_neg hE])
    have hE' : (E != 0) = true := by simpa using hE
    clear HF
    go_upto_region 37 with fail
    refine wp_region_noPanic ?_
    refine wp_region_held_drew (S := fun w' => w'.heap[w.heap.size]? = some (.cells zeroCells 30 (0, 0)) ∧ w'.cell? ⟨w.heap.size + 1, 3, none⟩ = some (.int .i64 E) ∧ Below w.heap.size w9 w') (by kernel_rfl) (⟨e1, c9, (Below.refl _ _).drew⟩) (fun hHeld => ?_)
    refine wpAnyH_take (i := 0) (oi := ⟨some 170, .build 30 #[], _, _, _, none⟩) (v := ?_) rfl (by kernel_rfl) (by kernel_rfl) (by kernel_rfl) (fun _ _ _ h => h) (Or.inl ⟨by rfl, ?_⟩) hHeld ?_
    rotate_left
    · (intro wq hSw; go_simp; try with_reducible rfl)
    simp only [Act.put, List.setIfInBounds_toArray, List.set_cons_zero, List.set_cons_succ]
    refine wpAnyH_take (i := 1) (oi := ⟨some 171, .move (.tmp 8), _, _, _, none⟩) (v := ?_) rfl (by kernel_rfl) (by kernel_rfl) (by kernel_rfl) (fun _ _ _ h => h) (Or.inl ⟨by rfl, ?_⟩) hHeld ?_
    rotate_left
    · (intro wq hSw; go_simp; try with_reducible rfl)
    simp only [Act.put, List.setIfInBounds_toArray, List.set_cons_zero, List.set_cons_succ]
    refine wpAnyH_take (i := 2) (oi := ⟨some 172, .nilCheck (.tmp 171), _, _, _, none⟩) (v := ?_) rfl (by kernel_rfl) (by kernel_rfl) (by kernel_rfl) (fun _ _ _ h => h) (Or.inl ⟨by rfl, ?_⟩) hHeld ?_
    rotate_left
    · (intro wq hSw; go_simp; try with_reducible rfl)
    simp only [Act.put, List.setIfInBounds_toArray, List.set_cons_zero, List.set_cons_succ]
    refine wpAnyH_take (i := 3) (oi := ⟨some 173, .fieldAddr 65 (.tmp 172) 3, _, _, _, none⟩) (v := ?_) rfl (by kernel_rfl) (by kernel_rfl) (by kernel_rfl) (fun _ _ _ h => h) (Or.inl ⟨by rfl, ?_⟩) hHeld ?_
    rotate_left
    · (intro wq hSw; go_simp; try with_reducible rfl)
    simp only [Act.put, List.setIfInBounds_toArray, List.set_cons_zero, List.set_cons_succ]
    refine wpAnyH_take (i := 4) (oi := ⟨some 174, .load 31 (.tmp 173), _, _, _, none⟩) (v := ?_) rfl (by kernel_rfl) (by kernel_rfl) (by kernel_rfl) (fun _ _ _ h => h) (Or.inl ⟨by rfl, ?_⟩) hHeld ?_
    rotate_left
    · (intro wq hSw; have hcv := hSw.2.1; go_simp; try with_reducible rfl)
    simp only [Act.put, List.setIfInBounds_toArray, List.set_cons_zero, List.set_cons_succ]
    refine wpAnyH_ready (rs := [5]) (by kernel_rfl) (by simp) ?_
    refine AllReadyH.cons (o := ⟨none, .store 30 (.tmp 6) (.tmp 170), _, _, _, none⟩) rfl (fun K hK => ?_) ?_
    · refine step_store (by rfl) _ _ _ (by rfl) w.heap.size zeroCells (by rfl) (by rfl) _ _ hHeld.1 (msg_size _ rfl) rfl zero_one ?_
      intro w6 h6 b6 n6 z6
      refine hK.out _ _ ?_ (fun hHeld => ?_)
      · exact ⟨h6, (World.cell?_of_block (n6 (w.heap.size + 1) (by omega))).trans hHeld.2.1, hHeld.2.2.trans (b6 _ (Nat.le_refl _))⟩
      clear hK K
      try simp only [Act.put]
      refine wpAnyH_take (i := 6) (oi := ⟨some 7, .assign (.tmp 174), _, _, _, none⟩) (v := ?_) rfl (by kernel_rfl) (by kernel_rfl) (by kernel_rfl) (fun _ _ _ h => h) (Or.inl ⟨by rfl, ?_⟩) hHeld ?_
      rotate_left
      · (intro wq hSw; go_simp; try with_reducible rfl)
      simp only [Act.put, List.setIfInBounds_toArray, List.set_cons_zero, List.set_cons_succ]
      refine wpAnyH_done (by kernel_rfl) ?_ _
      refine NoPanic.normal ?_
      go_wp2
      (try simp only [Exit.inBlock, Exit.then])
      rw [hR.out]
      exact bodyPost_ret (results_row_tmp Try.results13 _ _ w.heap.size _ _ _ _ rfl h6 Try.underlying30 rfl (msg_size _ rfl) _ rfl) rfl ⟨⟨_, rfl, MsgAt.zero _⟩, HB9.out.trans hHeld.2.2⟩
    exact AllReadyH.nil

set_option maxRecDepth 20000 in
set_option maxHeartbeats 4000000 in
theorem mp_other1 (a : Option Addr) (len cap : Nat) (xs : List UInt8) (w : World) (hx : Bs w a len cap xs) (hlen : len ≤ 100000) (h13 : (St.new xs).byte = 13) :
    Calls Try.prog 13 #[.int .i64 1, byteV 43, .slice a len cap] w fun e w' =>
      (∃ v, e = .returned (.tuple #[v, .int .i64 (Mei.parse 1 43 xs).2]) ∧ MsgAt w' v (Mei.parse 1 43 xs).1) ∧ Below w.heap.size w w' := by
  have HX := hide hx
  clear hx
  have HRf : Hid (Mei.parse 1 43 xs = finish (Mei.Frm.read 1 (MsgM.of 43, St.new xs))) := hide (Mei.parse_some (by decide))
  obtain ⟨R, hR⟩ : ∃ R, R = Mei.parse 1 43 xs := ⟨_, rfl⟩
  rw [← hR] at HRf ⊢
  clear hR
  obtain ⟨s0, hs0⟩ : ∃ s, s = St.new xs := ⟨_, rfl⟩
  rw [← hs0] at h13 HRf
  obtain ⟨x0, hx0⟩ : ∃ x, x = s0.byte := ⟨_, rfl⟩
  rw [← hx0] at h13
  obtain ⟨n0, hn0⟩ : ∃ n : Nat, n = x0.toNat := ⟨_, rfl⟩
  have hb0 : n0 < 256 := by rw [hn0]; exact byte_lt _
  obtain ⟨s1, hs1⟩ : ∃ s, s = s0.afterB.need (Mei.isMei x0) 8 := ⟨_, rfl⟩
  have hmei : Mei.isMei x0 = true := by rw [h13]; rfl
  have hn13 : n0 = 13 := by rw [hn0, h13]; rfl
  rw [hmei] at hs1
  obtain ⟨L, hL⟩ : ∃ n : Nat, n = s1.xs.length := ⟨_, rfl⟩
  obtain ⟨o, ho⟩ : ∃ b : Bool, b = decide (L ≤ 251) := ⟨_, rfl⟩
  have r1 : decide ((L : Int) ≤ 251) = o := by rw [ho, Bool.eq_iff_iff]; simp; omega
  obtain ⟨s2, hs2⟩ : ∃ s, s = s1.need o 5 := ⟨_, rfl⟩
  obtain ⟨d, hd⟩ : ∃ l, l = s2.got (L : Int) 1 := ⟨_, rfl⟩
  obtain ⟨s3, hs3⟩ : ∃ s, s = s2.next (L : Int) 1 := ⟨_, rfl⟩
  have HF : Hid (R = finish (((MsgM.of 43).put_mei x0).put_data d, s3)) := hide (by
    rw [HRf.out, hs3, hd, hs2, ho, hL, hs1, ← hmei]
    show finish (Mei.body 1 ((MsgM.of 43).put_mei s0.byte) s0.byte (s0.afterB.need (Mei.isMei s0.byte) 8)) = _
    rw [← hx0]
    unfold Mei.body
    rw [if_pos h13]
    rfl)
  have HL := hide hL
  have HS2 := hide hs2
  have HD := hide hd
  have HS3 := hide hs3
  clear hL ho hs2 hd hs3
  have HS0 := hide hs0
  have HK0 : Hid (byteV s0.byte = .int .u8 (n0 : Int)) := hide (by rw [hn0, hx0])
  have HX0 := hide hx0
  have HS1 := hide hs1
  rw [show byteV 43 = .int .u8 (43 : Int) from rfl]
  clear hs0 hx0 hn0 hs1 HRf
  go_enter Try.func13, Try.ntmps13
  go_upto_region 7 with ((with_reducible (show wpList _ _ _ ({ dst := _, op := Op.store _ _ _, type := _, pos := _, after := _, guard := _ } :: _) _ _)); refine wpList_store_lies rfl 30 _ _ rfl (w.heap.size + 1 + 1) (codeCells 43) rfl rfl _ _ (heap_alloc3_new _ _ _ _) (msg_size _ rfl) rfl (by simp [Value.oneCell']) ?_; intro w1 h1 b1 n1 z1)
  obtain ⟨h, hz⟩ := rr_entry HX.out hlen h1 b1
  rw [← HS0.out] at h
  have z21 : Z21 w1 (w.heap.size + 1 + 1) := (cell_of_row w1 _ 21 _ _ _ h1).trans rfl
  have HA := hide h
  have HZ := hide hz
  have HZ0 := hide z21
  clear h hz h1 b1 n1 z1 HX HS0 z21
  subst hn13
  go_wp2_with fail
  refine (rr_byte HA.out).mono ?_
  rintro e v0 ⟨rfl, h⟩
  have f0 := h.mb.fr 16
  have k0 := h.mb.c_mei
  replace h := h.put_mei s0.byte
  rw [HK0.out] at h ⊢
  have H0 := hide h
  clear h HA
  go_upto_region 8 with fail
  generalize v0.setCell ⟨w.heap.size + 1 + 1, 16, none⟩ (.int .u8 13) = u0 at *
  clear f0 k0
  have k16 : u0.cell? ⟨w.heap.size + 1 + 1, 16, none⟩ = some (.int .u8 13) := by
    have := H0.out.mb.c_mei
    rw [this]
    show some (byteV s0.byte) = _
    rw [HK0.out]; rfl
  go_wp2_with fail
  refine (rr_need H0.out true 8).mono ?_
  rintro e w4 ⟨rfl, h4⟩
  rw [← HX0.out, ← HS1.out] at h4
  have k17 : w4.cell? ⟨w.heap.size + 1 + 1, 16, none⟩ = some (.int .u8 13) := by
    have := h4.mb.c_mei
    rw [this]
    show some (byteV x0) = _
    rw [HX0.out, HK0.out]; rfl
  have H4 := hide h4
  clear h4 H0 k16
  go_wp2_with fail
  refine (rr_left H4.out).mono ?_
  rintro e w5 ⟨rfl, h5⟩
  rw [← HL.out]
  have H5 := hide h5
  clear h5 H4 k17
  go_wp2_with fail
  refine (rr_need H5.out o 5).mono ?_
  rintro e w6 ⟨rfl, h6⟩
  rw [← HS2.out] at h6
  have H6 := hide h6
  clear h6 H5
  go_wp2_with fail
  refine (rr_bytes H6.out (L : Int)).mono ?_
  rintro e w7 ⟨⟨a7, c7, rfl, hx7⟩, h7⟩
  rw [← HD.out] at hx7 ⊢
  rw [← HS3.out] at h7
  have f7 := h7.mb.fr 14
  obtain ⟨q1, q2, q3, k7, _⟩ := h7.mb.c_data
  have H := hide (h7.put_data hx7)
  clear h7 hx7 H6
  go_upto_region 35 with fail
  generalize w7.setCell ⟨w.heap.size + 1 + 1, 14, none⟩ (.slice a7 d.length c7) = w8 at *
  clear f7 k7
  go_wp2_with fail
  refine (rr_end H.out).mono ?_
  rintro e w9 ⟨rfl, h9⟩
  obtain ⟨kc, _, _, hg9, _, _⟩ := h9.cur
  have c9 := rcur_c3 hg9
  obtain ⟨cs, hb9, hm9⟩ := h9.box
  have e1 := (h9.keep w.heap.size (by omega) (by omega) (by omega)).trans HZ.out
  obtain ⟨hsz, hone⟩ := (hm9 _ (Off.refl _ _ _)).row
  have HM9 := hide hm9
  have HB9 := hide h9.below
  have hw9 : w.heap.size ≤ w9.heap.size := h9.below.size
  unfold finish at HF
  simp only at HF
  generalize St.e _ = E at *
  clear h9 hm9 hg9 H
  by_cases hE : E = 0
  · have hR : Hid (R = (_, 0)) := hide (by rw [HF.out, if_pos hE])
    clear HF
    subst hE
    go_wp2_with (first | ((with_reducible (show wpList _ _ _ ({ dst := _, op := Op.load _ _, type := _, pos := _, after := _, guard := _ } :: _) _ _)); refine wpList_load_row rfl 30 _ rfl (w.heap.size + 1 + 1) rfl 30 cs (0, 0) _ hb9 Try.underlying30 rfl (msg_size cs hsz) ?_) | ((with_reducible (show wpList _ _ _ ({ dst := _, op := Op.store _ _ _, type := _, pos := _, after := _, guard := _ } :: _) _ _)); refine wpList_store_lies rfl 30 _ _ rfl w.heap.size cs rfl rfl _ _ e1 (msg_size cs hsz) hsz.symm hone ?_))
    intro w7 h7 b7 n7 z7
    go_wp2
    (try simp only [Exit.inBlock, Exit.then])
    rw [hR.out]
    exact bodyPost_ret (results_row_tmp Try.results13 _ _ w.heap.size _ _ _ _ rfl h7 Try.underlying30 rfl (msg_size _ hsz) _ rfl) rfl ⟨⟨_, rfl, HM9.out _ ⟨Nat.le_of_eq z7.symm, fun k _ hk => n7 k (by omega)⟩⟩, HB9.out.trans (b7 _ (Nat.le_refl _))⟩
  · have hR : Hid (R = (MsgM.zero, E)) := hide (by rw [HF.out, if_neg hE])
    have hE' : (E != 0) = true := by simpa using hE
    clear HF
    go_upto_region 37 with fail
    refine wp_region_noPanic ?_
    refine wp_region_held_drew (S := fun w' => w'.heap[w.heap.size]? = some (.cells zeroCells 30 (0, 0)) ∧ w'.cell? ⟨w.heap.size + 1, 3, none⟩ = some (.int .i64 E) ∧ Below w.heap.size w9 w') (by kernel_rfl) (⟨e1, c9, (Below.refl _ _).drew⟩) (fun hHeld => ?_)
    refine wpAnyH_take (i := 0) (oi := ⟨some 170, .build 30 #[], _, _, _, none⟩) (v := ?_) rfl (by kernel_rfl) (by kernel_rfl) (by kernel_rfl) (fun _ _ _ h => h) (Or.inl ⟨by rfl, ?_⟩) hHeld ?_
    rotate_left
    · (intro wq hSw; go_simp; try with_reducible rfl)
    simp only [Act.put, List.setIfInBounds_toArray, List.set_cons_zero, List.set_cons_succ]
    refine wpAnyH_take (i := 1) (oi := ⟨some 171, .move (.tmp 8), _, _, _, none⟩) (v := ?_) rfl (by kernel_rfl) (by kernel_rfl) (by kernel_rfl) (fun _ _ _ h => h) (Or.inl ⟨by rfl, ?_⟩) hHeld ?_
    rotate_left
    · (intro wq hSw; go_simp; try with_reducible rfl)
    simp only [Act.put, List.setIfInBounds_toArray, List.set_cons_zero, List.set_cons_succ]
    refine wpAnyH_take (i := 2) (oi := ⟨some 172, .nilCheck (.tmp 171), _, _, _, none⟩) (v := ?_) rfl (by kernel_rfl) (by kernel_rfl) (by kernel_rfl) (fun _ _ _ h => h) (Or.inl ⟨by rfl, ?_⟩) hHeld ?_
    rotate_left
    · (intro wq hSw; go_simp; try with_reducible rfl)
    simp only [Act.put, List.setIfInBounds_toArray, List.set_cons_zero, List.set_cons_succ]
    refine wpAnyH_take (i := 3) (oi := ⟨some 173, .fieldAddr 65 (.tmp 172) 3, _, _, _, none⟩) (v := ?_) rfl (by kernel_rfl) (by kernel_rfl) (by kernel_rfl) (fun _ _ _ h => h) (Or.inl ⟨by rfl, ?_⟩) hHeld ?_
    rotate_left
    · (intro wq hSw; go_simp; try with_reducible rfl)
    simp only [Act.put, List.setIfInBounds_toArray, List.set_cons_zero, List.set_cons_succ]
    refine wpAnyH_take (i := 4) (oi := ⟨some 174, .load 31 (.tmp 173), _, _, _, none⟩) (v := ?_) rfl (by kernel_rfl) (by kernel_rfl) (by kernel_rfl) (fun _ _ _ h => h) (Or.inl ⟨by rfl, ?_⟩) hHeld ?_
    rotate_left
    · (intro wq hSw; have hcv := hSw.2.1; go_simp; try with_reducible rfl)
    simp only [Act.put, List.setIfInBounds_toArray, List.set_cons_zero, List.set_cons_succ]
    refine wpAnyH_ready (rs := [5]) (by kernel_rfl) (by simp) ?_
    refine AllReadyH.cons (o := ⟨none, .store 30 (.tmp 6) (.tmp 170), _, _, _, none⟩) rfl (fun K hK => ?_) ?_
    · refine step_store (by rfl) _ _ _ (by rfl) w.heap.size zeroCells (by rfl) (by rfl) _ _ hHeld.1 (msg_size _ rfl) rfl zero_one ?_
      intro w6 h6 b6 n6 z6
      refine hK.out _ _ ?_ (fun hHeld => ?_)
      · exact ⟨h6, (World.cell?_of_block (n6 (w.heap.size + 1) (by omega))).trans hHeld.2.1, hHeld.2.2.trans (b6 _ (Nat.le_refl _))⟩
      clear hK K
      try simp only [Act.put]
      refine wpAnyH_take (i := 6) (oi := ⟨some 7, .assign (.tmp 174), _, _, _, none⟩) (v := ?_) rfl (by kernel_rfl) (by kernel_rfl) (by kernel_rfl) (fun _ _ _ h => h) (Or.inl ⟨by rfl, ?_⟩) hHeld ?_
      rotate_left
      · (intro wq hSw; go_simp; try with_reducible rfl)
      simp only [Act.put, List.setIfInBounds_toArray, List.set_cons_zero, List.set_cons_succ]
      refine wpAnyH_done (by kernel_rfl) ?_ _
      refine NoPanic.normal ?_
      go_wp2
      (try simp only [Exit.inBlock, Exit.then])
      rw [hR.out]
      exact bodyPost_ret (results_row_tmp Try.results13 _ _ w.heap.size _ _ _ _ rfl h6 Try.underlying30 rfl (msg_size _ rfl) _ rfl) rfl ⟨⟨_, rfl, MsgAt.zero _⟩, HB9.out.trans hHeld.2.2⟩
    exact AllReadyH.nil

end Go.Proofs.Ytaokbaddleplfaa
