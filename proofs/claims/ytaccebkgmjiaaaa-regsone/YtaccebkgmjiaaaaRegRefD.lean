/-
  The document's own answers for regs: Parse, way by way.
-/
import Derived.Test.YtaccebkgmjiaaaaRegRef
import Derived.Test.YtaccebkgmjiaaaaJoinB
import Derived.Test.YtaccebkgmjiaaaaJoinA
import Derived.Deep.QuietTactic
import Derived.Deep.RegionHeld3
namespace Go.Proofs.Ytaccebkgmjiaaaa
open Go.RowKit
open Word Bits Cursor

set_option maxRecDepth 20000 in
set_option maxHeartbeats 4000000 in
theorem refParse_0_4 (c : UInt8) (hc : c = 4) (a : Option Addr) (len cap : Nat) (xs : List UInt8) (w : World) (hx : Bs w a len cap xs) (hlen : len ≤ 100000) :
    Calls Try.prog 13 #[.int .i64 0, byteV c, .slice a len cap] w fun e w' =>
      (∃ v, e = .returned (.tuple #[v, .int .i64 (Regs.parse 0 c xs).2]) ∧ MsgAt w' v (Regs.parse 0 c xs).1) ∧ Below w.heap.size w w' := by
  have HX := hide hx
  clear hx
  have hb : Hid (byteV c = .int .u8 (4 : Int)) := hide (by rw [hc]; rfl)
  have HRf : Hid (Regs.parse 0 c xs = finish (Regs.Frm.read 0 (MsgM.of c, St.new xs))) := hide (Regs.parse_some (by rw [hc]; decide))
  obtain ⟨R, hR⟩ : ∃ R, R = Regs.parse 0 c xs := ⟨_, rfl⟩
  rw [← hR] at HRf ⊢
  clear hc hR
  go_enter Try.func13, Try.ntmps13
  go_upto_region 6 with ((with_reducible (show wpList _ _ _ ({ dst := _, op := Op.store _ _ _, type := _, pos := _, after := _, guard := _ } :: _) _ _)); refine wpList_store_lies rfl 30 _ _ rfl (w.heap.size + 1 + 1) (codeCells c) rfl rfl _ _ (heap_alloc3_new _ _ _ _) (msg_size _ rfl) rfl (by simp [Value.oneCell']) ?_; intro w1 h1 b1 n1 z1)
  obtain ⟨h, hz⟩ := rr_entry HX.out hlen h1 b1
  have H0 := hide h
  have HZ := hide hz
  clear h hz h1 b1 n1 z1 HX
  rw [hb.out]
  clear hb
  go_wp2_with fail
  refine (rr_word H0.out).mono ?_
  rintro e w2 ⟨rfl, h_⟩
  have f_ := h_.mb.fr 2
  have k_ := h_.mb.c_addr
  have Hw2' := hide (h_.put_addr (St.new xs).word)
  clear h_ H0
  go_upto_region 12 with fail
  generalize w2.setCell ⟨w.heap.size + 1 + 1, 2, none⟩ (wordV (St.new xs).word) = w2' at *
  clear f_ k_
  have k_ : w2'.cell? ⟨w.heap.size + 1 + 1, 2, none⟩ = some (wordV (St.new xs).word) := Hw2'.out.mb.c_addr
  go_wp2_with fail
  refine (span_any Hw2'.out (St.new xs).word 125).mono ?_
  rintro e w4 ⟨rfl, h_⟩
  obtain ⟨S, hS⟩ : ∃ S, S = Regs.span 125 (St.new xs).word (St.new xs).afterW := ⟨_, rfl⟩
  rw [← hS] at h_ ⊢
  obtain ⟨kk, hkk⟩ : ∃ n : Nat, n = S.1.toNat := ⟨_, rfl⟩
  have bkk : kk < 65536 := by rw [hkk]; exact word_lt _
  rw [← hkk]
  have hwkk : IntKind.u16.wrap (kk : Int) = (kk : Int) := by rw [IntKind.wrap_u16]; omega
  have hikk : IntKind.i64.wrap (kk : Int) = (kk : Int) := by rw [IntKind.wrap_i64]; omega
  have HS := hide hS
  have HKkk := hide hkk
  clear k_ hS hkk
  have f_ := h_.mb.fr 3
  have k_ := h_.mb.c_count
  have hv : (wordV S.1 : Value) = .int .u16 (kk : Int) := by rw [HKkk.out]
  have hp := h_.put_count S.1
  rw [hv] at hp
  have Hw4' := hide hp
  clear h_ hp hv Hw2'
  go_upto_region 43 with fail
  generalize w4.setCell ⟨w.heap.size + 1 + 1, 3, none⟩ (.int .u16 (kk : Int)) = w4' at *
  clear f_ k_
  have HF : Hid (R = finish (((MsgM.of c).put_addr (St.new xs).word).put_count S.1, S.2)) := hide (by rw [HRf.out, HS.out]; rfl)
  have H := Hw4'
  clear HRf HS HKkk Hw4'
  generalize ((MsgM.of c).put_addr (St.new xs).word).put_count S.1 = m4 at *
  generalize S.2 = s4 at *
  go_wp2_with fail
  refine (rr_end H.out).mono ?_
  rintro e w9 ⟨rfl, h9⟩
  obtain ⟨kc, _, _, hg9, _, _⟩ := h9.cur
  have c9 := rcur_c3 hg9
  obtain ⟨cs, hb9, hm9⟩ := h9.box
  have e1 := (h9.keep w.heap.size (by omega) (by omega) (by omega)).trans HZ.out
  obtain ⟨hsz, hone⟩ := (hm9 _ (Off.refl _ _ _)).row
  have HM9 := hide hm9
  have HB9 := hide h9.below
  have hw9 : w.heap.size ≤ w9.heap.size := h9.below.size
  unfold finish at HF
  simp only at HF
  generalize St.e _ = E at *
  clear h9 hm9 hg9 H
  by_cases hE : E = 0
  · have hR : Hid (R = (_, 0)) := hide (by rw [HF.out, if_pos hE])
    clear HF
    subst hE
    go_wp2_with (first | ((with_reducible (show wpList _ _ _ ({ dst := _, op := Op.load _ _, type := _, pos := _, after := _, guard := _ } :: _) _ _)); refine wpList_load_row rfl 30 _ rfl (w.heap.size + 1 + 1) rfl 30 cs (0, 0) _ hb9 Try.underlying30 rfl (msg_size cs hsz) ?_) | ((with_reducible (show wpList _ _ _ ({ dst := _, op := Op.store _ _ _, type := _, pos := _, after := _, guard := _ } :: _) _ _)); refine wpList_store_lies rfl 30 _ _ rfl w.heap.size cs rfl rfl _ _ e1 (msg_size cs hsz) hsz.symm hone ?_))
    intro w7 h7 b7 n7 z7
    go_wp2
    (try simp only [Exit.inBlock, Exit.then])
    rw [hR.out]
    exact bodyPost_ret (results_row_tmp Try.results13 _ _ w.heap.size _ _ _ _ rfl h7 Try.underlying30 rfl (msg_size _ hsz) _ rfl) rfl ⟨⟨_, rfl, HM9.out _ ⟨Nat.le_of_eq z7.symm, fun k _ hk => n7 k (by omega)⟩⟩, HB9.out.trans (b7 _ (Nat.le_refl _))⟩
  · have hR : Hid (R = (MsgM.zero, E)) := hide (by rw [HF.out, if_neg hE])
    have hE' : (E == 0) = false := by simpa using hE
    clear HF
    go_upto_region 45 with fail
    refine wp_region_noPanic ?_
    refine wp_region_held_drew (S := fun w' => w'.heap[w.heap.size]? = some (.cells zeroCells 30 (0, 0)) ∧ w'.cell? ⟨w.heap.size + 1, 3, none⟩ = some (.int .i64 E) ∧ Below w.heap.size w9 w') (by kernel_rfl) (⟨e1, c9, (Below.refl _ _).drew⟩) (fun hHeld => ?_)
    refine wpAnyH_take (i := 0) (oi := ⟨some 215, .build 30 #[], _, _, _, none⟩) (v := ?_) rfl (by kernel_rfl) (by kernel_rfl) (by kernel_rfl) (fun _ _ _ h => h) (Or.inl ⟨by rfl, ?_⟩) hHeld ?_
    rotate_left
    · (intro wq hSw; go_simp; try with_reducible rfl)
    simp only [Act.put, List.setIfInBounds_toArray, List.set_cons_zero, List.set_cons_succ]
    refine wpAnyH_take (i := 1) (oi := ⟨some 216, .move (.tmp 8), _, _, _, none⟩) (v := ?_) rfl (by kernel_rfl) (by kernel_rfl) (by kernel_rfl) (fun _ _ _ h => h) (Or.inl ⟨by rfl, ?_⟩) hHeld ?_
    rotate_left
    · (intro wq hSw; go_simp; try with_reducible rfl)
    simp only [Act.put, List.setIfInBounds_toArray, List.set_cons_zero, List.set_cons_succ]
    refine wpAnyH_take (i := 2) (oi := ⟨some 217, .nilCheck (.tmp 216), _, _, _, none⟩) (v := ?_) rfl (by kernel_rfl) (by kernel_rfl) (by kernel_rfl) (fun _ _ _ h => h) (Or.inl ⟨by rfl, ?_⟩) hHeld ?_
    rotate_left
    · (intro wq hSw; go_simp; try with_reducible rfl)
    simp only [Act.put, List.setIfInBounds_toArray, List.set_cons_zero, List.set_cons_succ]
    refine wpAnyH_take (i := 3) (oi := ⟨some 218, .fieldAddr 60 (.tmp 217) 3, _, _, _, none⟩) (v := ?_) rfl (by kernel_rfl) (by kernel_rfl) (by kernel_rfl) (fun _ _ _ h => h) (Or.inl ⟨by rfl, ?_⟩) hHeld ?_
    rotate_left
    · (intro wq hSw; go_simp; try with_reducible rfl)
    simp only [Act.put, List.setIfInBounds_toArray, List.set_cons_zero, List.set_cons_succ]
    refine wpAnyH_take (i := 4) (oi := ⟨some 219, .load 31 (.tmp 218), _, _, _, none⟩) (v := ?_) rfl (by kernel_rfl) (by kernel_rfl) (by kernel_rfl) (fun _ _ _ h => h) (Or.inl ⟨by rfl, ?_⟩) hHeld ?_
    rotate_left
    · (intro wq hSw; have hcv := hSw.2.1; go_simp; try with_reducible rfl)
    simp only [Act.put, List.setIfInBounds_toArray, List.set_cons_zero, List.set_cons_succ]
    refine wpAnyH_ready (rs := [5]) (by kernel_rfl) (by simp) ?_
    refine AllReadyH.cons (o := ⟨none, .store 30 (.tmp 6) (.tmp 215), _, _, _, none⟩) rfl (fun K hK => ?_) ?_
    · refine step_store (by rfl) _ _ _ (by rfl) w.heap.size zeroCells (by rfl) (by rfl) _ _ hHeld.1 (msg_size _ rfl) rfl zero_one ?_
      intro w6 h6 b6 n6 z6
      refine hK.out _ _ ?_ (fun hHeld => ?_)
      · exact ⟨h6, (World.cell?_of_block (n6 (w.heap.size + 1) (by omega))).trans hHeld.2.1, hHeld.2.2.trans (b6 _ (Nat.le_refl _))⟩
      clear hK K
      try simp only [Act.put]
      refine wpAnyH_take (i := 6) (oi := ⟨some 7, .assign (.tmp 219), _, _, _, none⟩) (v := ?_) rfl (by kernel_rfl) (by kernel_rfl) (by kernel_rfl) (fun _ _ _ h => h) (Or.inl ⟨by rfl, ?_⟩) hHeld ?_
      rotate_left
      · (intro wq hSw; go_simp; try with_reducible rfl)
      simp only [Act.put, List.setIfInBounds_toArray, List.set_cons_zero, List.set_cons_succ]
      refine wpAnyH_done (by kernel_rfl) ?_ _
      refine NoPanic.normal ?_
      go_wp2
      (try simp only [Exit.inBlock, Exit.then])
      rw [hR.out]
      exact bodyPost_ret (results_row_tmp Try.results13 _ _ w.heap.size _ _ _ _ rfl h6 Try.underlying30 rfl (msg_size _ rfl) _ rfl) rfl ⟨⟨_, rfl, MsgAt.zero _⟩, HB9.out.trans hHeld.2.2⟩
    exact AllReadyH.nil

set_option maxRecDepth 20000 in
set_option maxHeartbeats 4000000 in
theorem refParse_1_16 (c : UInt8) (hc : c = 16) (a : Option Addr) (len cap : Nat) (xs : List UInt8) (w : World) (hx : Bs w a len cap xs) (hlen : len ≤ 100000) :
    Calls Try.prog 13 #[.int .i64 1, byteV c, .slice a len cap] w fun e w' =>
      (∃ v, e = .returned (.tuple #[v, .int .i64 (Regs.parse 1 c xs).2]) ∧ MsgAt w' v (Regs.parse 1 c xs).1) ∧ Below w.heap.size w w' := by
  have HX := hide hx
  clear hx
  have hb : Hid (byteV c = .int .u8 (16 : Int)) := hide (by rw [hc]; rfl)
  have HRf : Hid (Regs.parse 1 c xs = finish (Regs.Frm.read 4 (MsgM.of c, St.new xs))) := hide (Regs.parse_some (by rw [hc]; decide))
  obtain ⟨R, hR⟩ : ∃ R, R = Regs.parse 1 c xs := ⟨_, rfl⟩
  rw [← hR] at HRf ⊢
  clear hc hR
  go_enter Try.func13, Try.ntmps13
  go_upto_region 6 with ((with_reducible (show wpList _ _ _ ({ dst := _, op := Op.store _ _ _, type := _, pos := _, after := _, guard := _ } :: _) _ _)); refine wpList_store_lies rfl 30 _ _ rfl (w.heap.size + 1 + 1) (codeCells c) rfl rfl _ _ (heap_alloc3_new _ _ _ _) (msg_size _ rfl) rfl (by simp [Value.oneCell']) ?_; intro w1 h1 b1 n1 z1)
  obtain ⟨h, hz⟩ := rr_entry HX.out hlen h1 b1
  have H0 := hide h
  have HZ := hide hz
  clear h hz h1 b1 n1 z1 HX
  rw [hb.out]
  clear hb
  go_wp2_with fail
  refine (rr_word H0.out).mono ?_
  rintro e w2 ⟨rfl, h_⟩
  have f_ := h_.mb.fr 2
  have k_ := h_.mb.c_addr
  have Hw2' := hide (h_.put_addr (St.new xs).word)
  clear h_ H0
  go_upto_region 18 with fail
  generalize w2.setCell ⟨w.heap.size + 1 + 1, 2, none⟩ (wordV (St.new xs).word) = w2' at *
  clear f_ k_
  have k_ : w2'.cell? ⟨w.heap.size + 1 + 1, 2, none⟩ = some (wordV (St.new xs).word) := Hw2'.out.mb.c_addr
  go_wp2_with fail
  refine (span_any Hw2'.out (St.new xs).word 123).mono ?_
  rintro e w4 ⟨rfl, h_⟩
  obtain ⟨S, hS⟩ : ∃ S, S = Regs.span 123 (St.new xs).word (St.new xs).afterW := ⟨_, rfl⟩
  rw [← hS] at h_ ⊢
  obtain ⟨kk, hkk⟩ : ∃ n : Nat, n = S.1.toNat := ⟨_, rfl⟩
  have bkk : kk < 65536 := by rw [hkk]; exact word_lt _
  rw [← hkk]
  have hwkk : IntKind.u16.wrap (kk : Int) = (kk : Int) := by rw [IntKind.wrap_u16]; omega
  have hikk : IntKind.i64.wrap (kk : Int) = (kk : Int) := by rw [IntKind.wrap_i64]; omega
  have HS := hide hS
  have HKkk := hide hkk
  clear k_ hS hkk
  have f_ := h_.mb.fr 3
  have k_ := h_.mb.c_count
  have hv : (wordV S.1 : Value) = .int .u16 (kk : Int) := by rw [HKkk.out]
  have hp := h_.put_count S.1
  rw [hv] at hp
  have Hw4' := hide hp
  clear h_ hp hv Hw2'
  go_upto_region 19 with fail
  generalize w4.setCell ⟨w.heap.size + 1 + 1, 3, none⟩ (.int .u16 (kk : Int)) = w4' at *
  clear f_ k_
  have HF : Hid (R = finish (((MsgM.of c).put_addr (St.new xs).word).put_count S.1, S.2)) := hide (by rw [HRf.out, HS.out]; rfl)
  have H := Hw4'
  clear HRf HS HKkk Hw4'
  generalize ((MsgM.of c).put_addr (St.new xs).word).put_count S.1 = m4 at *
  generalize S.2 = s4 at *
  go_wp2_with fail
  refine (rr_end H.out).mono ?_
  rintro e w9 ⟨rfl, h9⟩
  obtain ⟨kc, _, _, hg9, _, _⟩ := h9.cur
  have c9 := rcur_c3 hg9
  obtain ⟨cs, hb9, hm9⟩ := h9.box
  have e1 := (h9.keep w.heap.size (by omega) (by omega) (by omega)).trans HZ.out
  obtain ⟨hsz, hone⟩ := (hm9 _ (Off.refl _ _ _)).row
  have HM9 := hide hm9
  have HB9 := hide h9.below
  have hw9 : w.heap.size ≤ w9.heap.size := h9.below.size
  unfold finish at HF
  simp only at HF
  generalize St.e _ = E at *
  clear h9 hm9 hg9 H
  by_cases hE : E = 0
  · have hR : Hid (R = (_, 0)) := hide (by rw [HF.out, if_pos hE])
    clear HF
    subst hE
    go_wp2_with (first | ((with_reducible (show wpList _ _ _ ({ dst := _, op := Op.load _ _, type := _, pos := _, after := _, guard := _ } :: _) _ _)); refine wpList_load_row rfl 30 _ rfl (w.heap.size + 1 + 1) rfl 30 cs (0, 0) _ hb9 Try.underlying30 rfl (msg_size cs hsz) ?_) | ((with_reducible (show wpList _ _ _ ({ dst := _, op := Op.store _ _ _, type := _, pos := _, after := _, guard := _ } :: _) _ _)); refine wpList_store_lies rfl 30 _ _ rfl w.heap.size cs rfl rfl _ _ e1 (msg_size cs hsz) hsz.symm hone ?_))
    intro w7 h7 b7 n7 z7
    go_wp2
    (try simp only [Exit.inBlock, Exit.then])
    rw [hR.out]
    exact bodyPost_ret (results_row_tmp Try.results13 _ _ w.heap.size _ _ _ _ rfl h7 Try.underlying30 rfl (msg_size _ hsz) _ rfl) rfl ⟨⟨_, rfl, HM9.out _ ⟨Nat.le_of_eq z7.symm, fun k _ hk => n7 k (by omega)⟩⟩, HB9.out.trans (b7 _ (Nat.le_refl _))⟩
  · have hR : Hid (R = (MsgM.zero, E)) := hide (by rw [HF.out, if_neg hE])
    have hE' : (E == 0) = false := by simpa using hE
    clear HF
    go_upto_region 45 with fail
    refine wp_region_noPanic ?_
    refine wp_region_held_drew (S := fun w' => w'.heap[w.heap.size]? = some (.cells zeroCells 30 (0, 0)) ∧ w'.cell? ⟨w.heap.size + 1, 3, none⟩ = some (.int .i64 E) ∧ Below w.heap.size w9 w') (by kernel_rfl) (⟨e1, c9, (Below.refl _ _).drew⟩) (fun hHeld => ?_)
    refine wpAnyH_take (i := 0) (oi := ⟨some 215, .build 30 #[], _, _, _, none⟩) (v := ?_) rfl (by kernel_rfl) (by kernel_rfl) (by kernel_rfl) (fun _ _ _ h => h) (Or.inl ⟨by rfl, ?_⟩) hHeld ?_
    rotate_left
    · (intro wq hSw; go_simp; try with_reducible rfl)
    simp only [Act.put, List.setIfInBounds_toArray, List.set_cons_zero, List.set_cons_succ]
    refine wpAnyH_take (i := 1) (oi := ⟨some 216, .move (.tmp 8), _, _, _, none⟩) (v := ?_) rfl (by kernel_rfl) (by kernel_rfl) (by kernel_rfl) (fun _ _ _ h => h) (Or.inl ⟨by rfl, ?_⟩) hHeld ?_
    rotate_left
    · (intro wq hSw; go_simp; try with_reducible rfl)
    simp only [Act.put, List.setIfInBounds_toArray, List.set_cons_zero, List.set_cons_succ]
    refine wpAnyH_take (i := 2) (oi := ⟨some 217, .nilCheck (.tmp 216), _, _, _, none⟩) (v := ?_) rfl (by kernel_rfl) (by kernel_rfl) (by kernel_rfl) (fun _ _ _ h => h) (Or.inl ⟨by rfl, ?_⟩) hHeld ?_
    rotate_left
    · (intro wq hSw; go_simp; try with_reducible rfl)
    simp only [Act.put, List.setIfInBounds_toArray, List.set_cons_zero, List.set_cons_succ]
    refine wpAnyH_take (i := 3) (oi := ⟨some 218, .fieldAddr 60 (.tmp 217) 3, _, _, _, none⟩) (v := ?_) rfl (by kernel_rfl) (by kernel_rfl) (by kernel_rfl) (fun _ _ _ h => h) (Or.inl ⟨by rfl, ?_⟩) hHeld ?_
    rotate_left
    · (intro wq hSw; go_simp; try with_reducible rfl)
    simp only [Act.put, List.setIfInBounds_toArray, List.set_cons_zero, List.set_cons_succ]
    refine wpAnyH_take (i := 4) (oi := ⟨some 219, .load 31 (.tmp 218), _, _, _, none⟩) (v := ?_) rfl (by kernel_rfl) (by kernel_rfl) (by kernel_rfl) (fun _ _ _ h => h) (Or.inl ⟨by rfl, ?_⟩) hHeld ?_
    rotate_left
    · (intro wq hSw; have hcv := hSw.2.1; go_simp; try with_reducible rfl)
    simp only [Act.put, List.setIfInBounds_toArray, List.set_cons_zero, List.set_cons_succ]
    refine wpAnyH_ready (rs := [5]) (by kernel_rfl) (by simp) ?_
    refine AllReadyH.cons (o := ⟨none, .store 30 (.tmp 6) (.tmp 215), _, _, _, none⟩) rfl (fun K hK => ?_) ?_
    · refine step_store (by rfl) _ _ _ (by rfl) w.heap.size zeroCells (by rfl) (by rfl) _ _ hHeld.1 (msg_size _ rfl) rfl zero_one ?_
      intro w6 h6 b6 n6 z6
      refine hK.out _ _ ?_ (fun hHeld => ?_)
      · exact ⟨h6, (World.cell?_of_block (n6 (w.heap.size + 1) (by omega))).trans hHeld.2.1, hHeld.2.2.trans (b6 _ (Nat.le_refl _))⟩
      clear hK K
      try simp only [Act.put]
      refine wpAnyH_take (i := 6) (oi := ⟨some 7, .assign (.tmp 219), _, _, _, none⟩) (v := ?_) rfl (by kernel_rfl) (by kernel_rfl) (by kernel_rfl) (fun _ _ _ h => h) (Or.inl ⟨by rfl, ?_⟩) hHeld ?_
      rotate_left
      · (intro wq hSw; go_simp; try with_reducible rfl)
      simp only [Act.put, List.setIfInBounds_toArray, List.set_cons_zero, List.set_cons_succ]
      refine wpAnyH_done (by kernel_rfl) ?_ _
      refine NoPanic.normal ?_
      go_wp2
      (try simp only [Exit.inBlock, Exit.then])
      rw [hR.out]
      exact bodyPost_ret (results_row_tmp Try.results13 _ _ w.heap.size _ _ _ _ rfl h6 Try.underlying30 rfl (msg_size _ rfl) _ rfl) rfl ⟨⟨_, rfl, MsgAt.zero _⟩, HB9.out.trans hHeld.2.2⟩
    exact AllReadyH.nil

set_option maxRecDepth 20000 in
set_option maxHeartbeats 4000000 in
theorem refParse_1_24 (c : UInt8) (hc : c = 24) (a : Option Addr) (len cap : Nat) (xs : List UInt8) (w : World) (hx : Bs w a len cap xs) (hlen : len ≤ 100000) :
    Calls Try.prog 13 #[.int .i64 1, byteV c, .slice a len cap] w fun e w' =>
      (∃ v, e = .returned (.tuple #[v, .int .i64 (Regs.parse 1 c xs).2]) ∧ MsgAt w' v (Regs.parse 1 c xs).1) ∧ Below w.heap.size w w' := by
  have HX := hide hx
  clear hx
  have hb : Hid (byteV c = .int .u8 (24 : Int)) := hide (by rw [hc]; rfl)
  have HRf : Hid (Regs.parse 1 c xs = finish (Regs.Frm.read 8 (MsgM.of c, St.new xs))) := hide (Regs.parse_some (by rw [hc]; decide))
  obtain ⟨R, hR⟩ : ∃ R, R = Regs.parse 1 c xs := ⟨_, rfl⟩
  rw [← hR] at HRf ⊢
  clear hc hR
  go_enter Try.func13, Try.ntmps13
  go_upto_region 6 with ((with_reducible (show wpList _ _ _ ({ dst := _, op := Op.store _ _ _, type := _, pos := _, after := _, guard := _ } :: _) _ _)); refine wpList_store_lies rfl 30 _ _ rfl (w.heap.size + 1 + 1) (codeCells c) rfl rfl _ _ (heap_alloc3_new _ _ _ _) (msg_size _ rfl) rfl (by simp [Value.oneCell']) ?_; intro w1 h1 b1 n1 z1)
  obtain ⟨h, hz⟩ := rr_entry HX.out hlen h1 b1
  have H0 := hide h
  have HZ := hide hz
  clear h hz h1 b1 n1 z1 HX
  rw [hb.out]
  clear hb
  go_wp2_with fail
  refine (rr_word H0.out).mono ?_
  rintro e w2 ⟨rfl, h2⟩
  have H2 := hide h2
  clear h2 H0
  obtain ⟨kk, hkk⟩ : ∃ n : Nat, n = (St.new xs).word.toNat := ⟨_, rfl⟩
  have bk : kk < 65536 := by rw [hkk]; exact word_lt _
  obtain ⟨ok, hok⟩ : ∃ b : Bool, b = (decide (kk % 2 = 0) && decide (2 ≤ kk) && decide (kk ≤ 64)) := ⟨_, rfl⟩
  have HF0 : Hid (R = finish ((MsgM.of c).put_words (takeW ((((St.new xs).afterW.need ok 5).afterW.need (decide (kk = 2 * ((St.new xs).afterW.need ok 5).word.toNat + 2)) 5).got (((St.new xs).afterW.need ok 5).word.toNat : Int) 2)), (((St.new xs).afterW.need ok 5).afterW.need (decide (kk = 2 * ((St.new xs).afterW.need ok 5).word.toNat + 2)) 5).next (((St.new xs).afterW.need ok 5).word.toNat : Int) 2)) := hide (by rw [HRf.out, hok, hkk]; rfl)
  rw [show wordV (St.new xs).word = .int .u16 (kk : Int) by rw [hkk]]
  have HOK := hide hok
  have hwk : IntKind.i64.wrap (kk : Int) = (kk : Int) := by rw [IntKind.wrap_i64]; omega
  clear hkk hok HRf
  generalize (St.new xs).afterW = s2 at *
  rcases Nat.mod_two_eq_zero_or_one kk with h0 | h0
  all_goals
    have hr0 : (kk : Int) % 2 = ((kk % 2 : Nat) : Int) := by omega
    by_cases hp : 2 ≤ kk
    all_goals
      have h2i : (2 : Int) ≤ (kk : Int) ↔ 2 ≤ kk := by omega
      go_wp2_with fail
      refine (rr_need H2.out _ _).mono ?_
      rintro e w3 ⟨rfl, h3⟩
      have H3 : Hid (RRd w w1 (w.heap.size + 3) (w.heap.size + 1 + 1) (w.heap.size + 1) a len cap xs (MsgM.of c) (s2.need ok 5) w3) := hide (by
        have hv := HOK.out
        first
          | (rw [show ok = false by rw [hv]; simp; omega]; exact h3)
          | (rw [show ok = decide ((kk : Int) ≤ 64) by rw [hv, Bool.eq_iff_iff]; simp; omega]; exact h3))
      clear h3 H2 HOK hr0 h2i
      generalize s2.need ok 5 = s3 at *
      go_wp2_with fail
      refine (rr_word H3.out).mono ?_
      rintro e w4 ⟨rfl, h4⟩
      have H4 := hide h4
      clear h4 H3
      obtain ⟨k, hk⟩ : ∃ n : Nat, n = s3.word.toNat := ⟨_, rfl⟩
      have bk2 : k < 65536 := by rw [hk]; exact word_lt _
      rw [← hk] at HF0
      rw [show wordV s3.word = .int .u16 (k : Int) by rw [hk]]
      have hwk2 : IntKind.i64.wrap (k : Int) = (k : Int) := by rw [IntKind.wrap_i64]; omega
      have hwk3 : IntKind.i64.wrap (2 * (k : Int)) = 2 * (k : Int) := by rw [IntKind.wrap_i64]; omega
      have hwk4 : IntKind.i64.wrap (2 * (k : Int) + 2) = 2 * (k : Int) + 2 := by rw [IntKind.wrap_i64]; omega
      clear hk
      generalize s3.afterW = s4 at *
      go_wp2_with fail
      refine (rr_need H4.out _ _).mono ?_
      rintro e w5 ⟨rfl, h5⟩
      have H5 : Hid (RRd w w1 (w.heap.size + 3) (w.heap.size + 1 + 1) (w.heap.size + 1) a len cap xs (MsgM.of c) (s4.need (decide (kk = 2 * k + 2)) 5) w5) := hide (by
        have he : ((kk : Int) == 2 * (k : Int) + 2) = decide (kk = 2 * k + 2) := by rw [Bool.eq_iff_iff]; simp; omega
        first | exact h5 | (rw [← he]; exact h5))
      clear h5 H4
      generalize s4.need (decide (kk = 2 * k + 2)) 5 = s5 at *
      go_wp2_with fail
      refine (rr_words H5.out (k : Int)).mono ?_
      rintro e w6 ⟨⟨a4, c4, rfl, hx4⟩, h4⟩
      have HF := HF0
      clear HF0
      generalize takeW (s5.got (k : Int) 2) = D at *
      generalize s5.next (k : Int) 2 = N at *
      obtain ⟨ad, ld, cd, k4, _⟩ := h4.mb.c_words
      have f4 := h4.mb.fr 12
      have H := hide (h4.put_words hx4)
      clear h4 hx4 H5
      go_wp2_with fail
      refine (rr_end H.out).mono ?_
      rintro e w9 ⟨rfl, h9⟩
      obtain ⟨kc, _, _, hg9, _, _⟩ := h9.cur
      have c9 := rcur_c3 hg9
      obtain ⟨cs, hb9, hm9⟩ := h9.box
      have e1 := (h9.keep w.heap.size (by omega) (by omega) (by omega)).trans HZ.out
      obtain ⟨hsz, hone⟩ := (hm9 _ (Off.refl _ _ _)).row
      have HM9 := hide hm9
      have HB9 := hide h9.below
      have hw9 : w.heap.size ≤ w9.heap.size := h9.below.size
      unfold finish at HF
      simp only at HF
      generalize St.e _ = E at *
      clear h9 hm9 hg9 H
      by_cases hE : E = 0
      · have hR : Hid (R = (_, 0)) := hide (by rw [HF.out, if_pos hE])
        clear HF
        subst hE
        go_wp2_with (first | ((with_reducible (show wpList _ _ _ ({ dst := _, op := Op.load _ _, type := _, pos := _, after := _, guard := _ } :: _) _ _)); refine wpList_load_row rfl 30 _ rfl (w.heap.size + 1 + 1) rfl 30 cs (0, 0) _ hb9 Try.underlying30 rfl (msg_size cs hsz) ?_) | ((with_reducible (show wpList _ _ _ ({ dst := _, op := Op.store _ _ _, type := _, pos := _, after := _, guard := _ } :: _) _ _)); refine wpList_store_lies rfl 30 _ _ rfl w.heap.size cs rfl rfl _ _ e1 (msg_size cs hsz) hsz.symm hone ?_))
        intro w7 h7 b7 n7 z7
        go_wp2
        (try simp only [Exit.inBlock, Exit.then])
        rw [hR.out]
        exact bodyPost_ret (results_row_tmp Try.results13 _ _ w.heap.size _ _ _ _ rfl h7 Try.underlying30 rfl (msg_size _ hsz) _ rfl) rfl ⟨⟨_, rfl, HM9.out _ ⟨Nat.le_of_eq z7.symm, fun k _ hk => n7 k (by omega)⟩⟩, HB9.out.trans (b7 _ (Nat.le_refl _))⟩
      · have hR : Hid (R = (MsgM.zero, E)) := hide (by rw [HF.out, if_neg hE])
        have hE' : (E == 0) = false := by simpa using hE
        clear HF
        go_upto_region 45 with fail
        refine wp_region_noPanic ?_
        refine wp_region_held_drew (S := fun w' => w'.heap[w.heap.size]? = some (.cells zeroCells 30 (0, 0)) ∧ w'.cell? ⟨w.heap.size + 1, 3, none⟩ = some (.int .i64 E) ∧ Below w.heap.size w9 w') (by kernel_rfl) (⟨e1, c9, (Below.refl _ _).drew⟩) (fun hHeld => ?_)
        refine wpAnyH_take (i := 0) (oi := ⟨some 215, .build 30 #[], _, _, _, none⟩) (v := ?_) rfl (by kernel_rfl) (by kernel_rfl) (by kernel_rfl) (fun _ _ _ h => h) (Or.inl ⟨by rfl, ?_⟩) hHeld ?_
        rotate_left
        · (intro wq hSw; go_simp; try with_reducible rfl)
        simp only [Act.put, List.setIfInBounds_toArray, List.set_cons_zero, List.set_cons_succ]
        refine wpAnyH_take (i := 1) (oi := ⟨some 216, .move (.tmp 8), _, _, _, none⟩) (v := ?_) rfl (by kernel_rfl) (by kernel_rfl) (by kernel_rfl) (fun _ _ _ h => h) (Or.inl ⟨by rfl, ?_⟩) hHeld ?_
        rotate_left
        · (intro wq hSw; go_simp; try with_reducible rfl)
        simp only [Act.put, List.setIfInBounds_toArray, List.set_cons_zero, List.set_cons_succ]
        refine wpAnyH_take (i := 2) (oi := ⟨some 217, .nilCheck (.tmp 216), _, _, _, none⟩) (v := ?_) rfl (by kernel_rfl) (by kernel_rfl) (by kernel_rfl) (fun _ _ _ h => h) (Or.inl ⟨by rfl, ?_⟩) hHeld ?_
        rotate_left
        · (intro wq hSw; go_simp; try with_reducible rfl)
        simp only [Act.put, List.setIfInBounds_toArray, List.set_cons_zero, List.set_cons_succ]
        refine wpAnyH_take (i := 3) (oi := ⟨some 218, .fieldAddr 60 (.tmp 217) 3, _, _, _, none⟩) (v := ?_) rfl (by kernel_rfl) (by kernel_rfl) (by kernel_rfl) (fun _ _ _ h => h) (Or.inl ⟨by rfl, ?_⟩) hHeld ?_
        rotate_left
        · (intro wq hSw; go_simp; try with_reducible rfl)
        simp only [Act.put, List.setIfInBounds_toArray, List.set_cons_zero, List.set_cons_succ]
        refine wpAnyH_take (i := 4) (oi := ⟨some 219, .load 31 (.tmp 218), _, _, _, none⟩) (v := ?_) rfl (by kernel_rfl) (by kernel_rfl) (by kernel_rfl) (fun _ _ _ h => h) (Or.inl ⟨by rfl, ?_⟩) hHeld ?_
        rotate_left
        · (intro wq hSw; have hcv := hSw.2.1; go_simp; try with_reducible rfl)
        simp only [Act.put, List.setIfInBounds_toArray, List.set_cons_zero, List.set_cons_succ]
        refine wpAnyH_ready (rs := [5]) (by kernel_rfl) (by simp) ?_
        refine AllReadyH.cons (o := ⟨none, .store 30 (.tmp 6) (.tmp 215), _, _, _, none⟩) rfl (fun K hK => ?_) ?_
        · refine step_store (by rfl) _ _ _ (by rfl) w.heap.size zeroCells (by rfl) (by rfl) _ _ hHeld.1 (msg_size _ rfl) rfl zero_one ?_
          intro w6 h6 b6 n6 z6
          refine hK.out _ _ ?_ (fun hHeld => ?_)
          · exact ⟨h6, (World.cell?_of_block (n6 (w.heap.size + 1) (by omega))).trans hHeld.2.1, hHeld.2.2.trans (b6 _ (Nat.le_refl _))⟩
          clear hK K
          try simp only [Act.put]
          refine wpAnyH_take (i := 6) (oi := ⟨some 7, .assign (.tmp 219), _, _, _, none⟩) (v := ?_) rfl (by kernel_rfl) (by kernel_rfl) (by kernel_rfl) (fun _ _ _ h => h) (Or.inl ⟨by rfl, ?_⟩) hHeld ?_
          rotate_left
          · (intro wq hSw; go_simp; try with_reducible rfl)
          simp only [Act.put, List.setIfInBounds_toArray, List.set_cons_zero, List.set_cons_succ]
          refine wpAnyH_done (by kernel_rfl) ?_ _
          refine NoPanic.normal ?_
          go_wp2
          (try simp only [Exit.inBlock, Exit.then])
          rw [hR.out]
          exact bodyPost_ret (results_row_tmp Try.results13 _ _ w.heap.size _ _ _ _ rfl h6 Try.underlying30 rfl (msg_size _ rfl) _ rfl) rfl ⟨⟨_, rfl, MsgAt.zero _⟩, HB9.out.trans hHeld.2.2⟩
        exact AllReadyH.nil

end Go.Proofs.Ytaccebkgmjiaaaa
