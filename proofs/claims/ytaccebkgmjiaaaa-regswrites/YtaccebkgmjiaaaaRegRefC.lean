/-
  The document's own answers for regs: Parse, way by way.
-/
import Derived.Test.YtaccebkgmjiaaaaRegRef
import Derived.Test.YtaccebkgmjiaaaaJoinB
import Derived.Test.YtaccebkgmjiaaaaJoinA
import Derived.Deep.QuietTactic
import Derived.Deep.RegionHeld3
namespace Go.Proofs.Ytaccebkgmjiaaaa
open Go.RowKit
open Word Bits Cursor

set_option maxRecDepth 20000 in
set_option maxHeartbeats 4000000 in
theorem refParse_0_23 (c : UInt8) (hc : c = 23) (a : Option Addr) (len cap : Nat) (xs : List UInt8) (w : World) (hx : Bs w a len cap xs) (hlen : len ≤ 100000) :
    Calls Try.prog 13 #[.int .i64 0, byteV c, .slice a len cap] w fun e w' =>
      (∃ v, e = .returned (.tuple #[v, .int .i64 (Regs.parse 0 c xs).2]) ∧ MsgAt w' v (Regs.parse 0 c xs).1) ∧ Below w.heap.size w w' := by
  have HX := hide hx
  clear hx
  have hb : Hid (byteV c = .int .u8 (23 : Int)) := hide (by rw [hc]; rfl)
  have HRf : Hid (Regs.parse 0 c xs = finish (Regs.Frm.read 6 (MsgM.of c, St.new xs))) := hide (Regs.parse_some (by rw [hc]; decide))
  obtain ⟨R, hR⟩ : ∃ R, R = Regs.parse 0 c xs := ⟨_, rfl⟩
  rw [← hR] at HRf ⊢
  clear hc hR
  go_enter Try.func13, Try.ntmps13
  go_upto_region 6 with ((with_reducible (show wpList _ _ _ ({ dst := _, op := Op.store _ _ _, type := _, pos := _, after := _, guard := _ } :: _) _ _)); refine wpList_store_lies rfl 30 _ _ rfl (w.heap.size + 1 + 1) (codeCells c) rfl rfl _ _ (heap_alloc3_new _ _ _ _) (msg_size _ rfl) rfl (by simp [Value.oneCell']) ?_; intro w1 h1 b1 n1 z1)
  obtain ⟨h, hz⟩ := rr_entry HX.out hlen h1 b1
  have H0 := hide h
  have HZ := hide hz
  clear h hz h1 b1 n1 z1 HX
  rw [hb.out]
  clear hb
  go_wp2_with fail
  refine (rr_word H0.out).mono ?_
  rintro e w2 ⟨rfl, h_⟩
  have f_ := h_.mb.fr 2
  have k_ := h_.mb.c_addr
  have Hw2' := hide (h_.put_addr (St.new xs).word)
  clear h_ H0
  go_upto_region 29 with fail
  generalize w2.setCell ⟨w.heap.size + 1 + 1, 2, none⟩ (wordV (St.new xs).word) = w2' at *
  clear f_ k_
  have k_ : w2'.cell? ⟨w.heap.size + 1 + 1, 2, none⟩ = some (wordV (St.new xs).word) := Hw2'.out.mb.c_addr
  go_wp2_with fail
  refine (span_any Hw2'.out (St.new xs).word 125).mono ?_
  rintro e w4 ⟨rfl, h_⟩
  obtain ⟨S, hS⟩ : ∃ S, S = Regs.span 125 (St.new xs).word (St.new xs).afterW := ⟨_, rfl⟩
  rw [← hS] at h_ ⊢
  obtain ⟨kk, hkk⟩ : ∃ n : Nat, n = S.1.toNat := ⟨_, rfl⟩
  have bkk : kk < 65536 := by rw [hkk]; exact word_lt _
  rw [← hkk]
  have hwkk : IntKind.u16.wrap (kk : Int) = (kk : Int) := by rw [IntKind.wrap_u16]; omega
  have hikk : IntKind.i64.wrap (kk : Int) = (kk : Int) := by rw [IntKind.wrap_i64]; omega
  have HS := hide hS
  have HKkk := hide hkk
  clear k_ hS hkk
  have f_ := h_.mb.fr 3
  have k_ := h_.mb.c_count
  have hv : (wordV S.1 : Value) = .int .u16 (kk : Int) := by rw [HKkk.out]
  have hp := h_.put_count S.1
  rw [hv] at hp
  have Hw4' := hide hp
  clear h_ hp hv Hw2'
  go_upto_region 30 with fail
  generalize w4.setCell ⟨w.heap.size + 1 + 1, 3, none⟩ (.int .u16 (kk : Int)) = w4' at *
  clear f_ k_
  have HR2 : Hid (R = finish ((((((MsgM.of c).put_addr (St.new xs).word).put_count S.1).put_addr2 S.2.word).put_words (Regs.sized (Regs.span 121 S.2.word S.2.afterW).1.toNat (Regs.span 121 S.2.word S.2.afterW).2).1.2), (Regs.sized (Regs.span 121 S.2.word S.2.afterW).1.toNat (Regs.span 121 S.2.word S.2.afterW).2).2)) := hide (by rw [HRf.out, HS.out]; rfl)
  clear HRf HS HKkk
  generalize ((MsgM.of c).put_addr (St.new xs).word).put_count S.1 = m4 at *
  generalize S.2 = s4 at *
  go_wp2_with fail
  refine (rr_word Hw4'.out).mono ?_
  rintro e w5_ ⟨rfl, h_⟩
  have f_ := h_.mb.fr 7
  have k_ := h_.mb.c_addr2
  have HW5 := hide (h_.put_addr2 (s4).word)
  clear h_ Hw4'
  go_upto_region 31 with fail
  generalize w5_.setCell ⟨w.heap.size + 1 + 1, 7, none⟩ (wordV (s4).word) = w5' at *
  clear f_ k_
  have k_ : w5'.cell? ⟨w.heap.size + 1 + 1, 7, none⟩ = some (wordV s4.word) := HW5.out.mb.c_addr2
  go_wp2_with fail
  refine (span_any HW5.out s4.word 121).mono ?_
  rintro e w6_ ⟨rfl, h_⟩
  obtain ⟨S2, hS2⟩ : ∃ S, S = Regs.span 121 s4.word s4.afterW := ⟨_, rfl⟩
  rw [← hS2] at h_ ⊢
  obtain ⟨k2, hk2⟩ : ∃ n : Nat, n = S2.1.toNat := ⟨_, rfl⟩
  have bk2 : k2 < 65536 := by rw [hk2]; exact word_lt _
  rw [← hk2]
  have hwk2 : IntKind.u16.wrap (k2 : Int) = (k2 : Int) := by rw [IntKind.wrap_u16]; omega
  have hik2 : IntKind.i64.wrap (k2 : Int) = (k2 : Int) := by rw [IntKind.wrap_i64]; omega
  have HS2 := hide hS2
  have HKk2 := hide hk2
  clear k_ hS2 hk2
  have HF0 : Hid (R = finish ((m4.put_addr2 s4.word).put_words (Regs.sized k2 S2.2).1.2, (Regs.sized k2 S2.2).2)) := hide (by rw [HR2.out, HKk2.out, HS2.out])
  unfold Regs.sized at HF0
  have Hq := hide h_
  clear h_ HR2 HS2 HKk2 HW5
  generalize m4.put_addr2 s4.word = m5 at *
  generalize S2.2 = s7 at *
  go_wp2_with fail
  refine (rr_byte Hq.out).mono ?_
  rintro e w5 ⟨rfl, h5⟩
  have H5 := hide h5
  clear h5 Hq
  obtain ⟨nn, hnn⟩ : ∃ n : Nat, n = (s7).byte.toNat := ⟨_, rfl⟩
  have bn : nn < 256 := by rw [hnn]; exact byte_lt _
  obtain ⟨ok, hok⟩ : ∃ b : Bool, b = decide (nn = 2 * k2) := ⟨_, rfl⟩
  have HF : Hid (R = finish ((m5).put_words (takeW (((s7).afterB.need ok 5).got (k2 : Int) 2)), ((s7).afterB.need ok 5).next (k2 : Int) 2)) := hide (by rw [HF0.out, hok, hnn])
  rw [show byteV (s7).byte = .int .u8 (nn : Int) by rw [hnn]]
  have HOK := hide hok
  clear hok hnn HF0
  have hin : IntKind.i64.wrap (nn : Int) = (nn : Int) := by rw [IntKind.wrap_i64]; omega
  have hi2 : IntKind.i64.wrap (2 * (k2 : Int)) = 2 * (k2 : Int) := by rw [IntKind.wrap_i64]; omega
  generalize (s7).afterB = s5 at *
  go_wp2_with fail
  refine (rr_need H5.out _ _).mono ?_
  rintro e w6 ⟨rfl, h6⟩
  have H6 : Hid (RRd w w1 (w.heap.size + 3) (w.heap.size + 1 + 1) (w.heap.size + 1) a len cap xs (m5) (s5.need ok 5) w6) := hide (by
    have he : ((nn : Int) == 2 * (k2 : Int)) = decide (nn = 2 * k2) := by rw [Bool.eq_iff_iff]; simp; omega
    rw [HOK.out]
    first | exact h6 | (rw [← he]; exact h6))
  clear h6 H5 HOK
  generalize s5.need ok 5 = s6 at *
  go_wp2_with fail
  refine (rr_words H6.out (k2 : Int)).mono ?_
  rintro e w7 ⟨⟨a4, c4, rfl, hx4⟩, h4⟩
  generalize takeW (s6.got (k2 : Int) 2) = D at *
  generalize s6.next (k2 : Int) 2 = N at *
  obtain ⟨ad, ld, cd, k4, _⟩ := h4.mb.c_words
  have f4 := h4.mb.fr 12
  have H := hide (h4.put_words hx4)
  clear h4 hx4 H6
  go_wp2_with fail
  refine (rr_end H.out).mono ?_
  rintro e w9 ⟨rfl, h9⟩
  obtain ⟨kc, _, _, hg9, _, _⟩ := h9.cur
  have c9 := rcur_c3 hg9
  obtain ⟨cs, hb9, hm9⟩ := h9.box
  have e1 := (h9.keep w.heap.size (by omega) (by omega) (by omega)).trans HZ.out
  obtain ⟨hsz, hone⟩ := (hm9 _ (Off.refl _ _ _)).row
  have HM9 := hide hm9
  have HB9 := hide h9.below
  have hw9 : w.heap.size ≤ w9.heap.size := h9.below.size
  unfold finish at HF
  simp only at HF
  generalize St.e _ = E at *
  clear h9 hm9 hg9 H
  by_cases hE : E = 0
  · have hR : Hid (R = (_, 0)) := hide (by rw [HF.out, if_pos hE])
    clear HF
    subst hE
    go_wp2_with (first | ((with_reducible (show wpList _ _ _ ({ dst := _, op := Op.load _ _, type := _, pos := _, after := _, guard := _ } :: _) _ _)); refine wpList_load_row rfl 30 _ rfl (w.heap.size + 1 + 1) rfl 30 cs (0, 0) _ hb9 Try.underlying30 rfl (msg_size cs hsz) ?_) | ((with_reducible (show wpList _ _ _ ({ dst := _, op := Op.store _ _ _, type := _, pos := _, after := _, guard := _ } :: _) _ _)); refine wpList_store_lies rfl 30 _ _ rfl w.heap.size cs rfl rfl _ _ e1 (msg_size cs hsz) hsz.symm hone ?_))
    intro w7 h7 b7 n7 z7
    go_wp2
    (try simp only [Exit.inBlock, Exit.then])
    rw [hR.out]
    exact bodyPost_ret (results_row_tmp Try.results13 _ _ w.heap.size _ _ _ _ rfl h7 Try.underlying30 rfl (msg_size _ hsz) _ rfl) rfl ⟨⟨_, rfl, HM9.out _ ⟨Nat.le_of_eq z7.symm, fun k _ hk => n7 k (by omega)⟩⟩, HB9.out.trans (b7 _ (Nat.le_refl _))⟩
  · have hR : Hid (R = (MsgM.zero, E)) := hide (by rw [HF.out, if_neg hE])
    have hE' : (E == 0) = false := by simpa using hE
    clear HF
    go_upto_region 45 with fail
    refine wp_region_noPanic ?_
    refine wp_region_held_drew (S := fun w' => w'.heap[w.heap.size]? = some (.cells zeroCells 30 (0, 0)) ∧ w'.cell? ⟨w.heap.size + 1, 3, none⟩ = some (.int .i64 E) ∧ Below w.heap.size w9 w') (by kernel_rfl) (⟨e1, c9, (Below.refl _ _).drew⟩) (fun hHeld => ?_)
    refine wpAnyH_take (i := 0) (oi := ⟨some 215, .build 30 #[], _, _, _, none⟩) (v := ?_) rfl (by kernel_rfl) (by kernel_rfl) (by kernel_rfl) (fun _ _ _ h => h) (Or.inl ⟨by rfl, ?_⟩) hHeld ?_
    rotate_left
    · (intro wq hSw; go_simp; try with_reducible rfl)
    simp only [Act.put, List.setIfInBounds_toArray, List.set_cons_zero, List.set_cons_succ]
    refine wpAnyH_take (i := 1) (oi := ⟨some 216, .move (.tmp 8), _, _, _, none⟩) (v := ?_) rfl (by kernel_rfl) (by kernel_rfl) (by kernel_rfl) (fun _ _ _ h => h) (Or.inl ⟨by rfl, ?_⟩) hHeld ?_
    rotate_left
    · (intro wq hSw; go_simp; try with_reducible rfl)
    simp only [Act.put, List.setIfInBounds_toArray, List.set_cons_zero, List.set_cons_succ]
    refine wpAnyH_take (i := 2) (oi := ⟨some 217, .nilCheck (.tmp 216), _, _, _, none⟩) (v := ?_) rfl (by kernel_rfl) (by kernel_rfl) (by kernel_rfl) (fun _ _ _ h => h) (Or.inl ⟨by rfl, ?_⟩) hHeld ?_
    rotate_left
    · (intro wq hSw; go_simp; try with_reducible rfl)
    simp only [Act.put, List.setIfInBounds_toArray, List.set_cons_zero, List.set_cons_succ]
    refine wpAnyH_take (i := 3) (oi := ⟨some 218, .fieldAddr 60 (.tmp 217) 3, _, _, _, none⟩) (v := ?_) rfl (by kernel_rfl) (by kernel_rfl) (by kernel_rfl) (fun _ _ _ h => h) (Or.inl ⟨by rfl, ?_⟩) hHeld ?_
    rotate_left
    · (intro wq hSw; go_simp; try with_reducible rfl)
    simp only [Act.put, List.setIfInBounds_toArray, List.set_cons_zero, List.set_cons_succ]
    refine wpAnyH_take (i := 4) (oi := ⟨some 219, .load 31 (.tmp 218), _, _, _, none⟩) (v := ?_) rfl (by kernel_rfl) (by kernel_rfl) (by kernel_rfl) (fun _ _ _ h => h) (Or.inl ⟨by rfl, ?_⟩) hHeld ?_
    rotate_left
    · (intro wq hSw; have hcv := hSw.2.1; go_simp; try with_reducible rfl)
    simp only [Act.put, List.setIfInBounds_toArray, List.set_cons_zero, List.set_cons_succ]
    refine wpAnyH_ready (rs := [5]) (by kernel_rfl) (by simp) ?_
    refine AllReadyH.cons (o := ⟨none, .store 30 (.tmp 6) (.tmp 215), _, _, _, none⟩) rfl (fun K hK => ?_) ?_
    · refine step_store (by rfl) _ _ _ (by rfl) w.heap.size zeroCells (by rfl) (by rfl) _ _ hHeld.1 (msg_size _ rfl) rfl zero_one ?_
      intro w6 h6 b6 n6 z6
      refine hK.out _ _ ?_ (fun hHeld => ?_)
      · exact ⟨h6, (World.cell?_of_block (n6 (w.heap.size + 1) (by omega))).trans hHeld.2.1, hHeld.2.2.trans (b6 _ (Nat.le_refl _))⟩
      clear hK K
      try simp only [Act.put]
      refine wpAnyH_take (i := 6) (oi := ⟨some 7, .assign (.tmp 219), _, _, _, none⟩) (v := ?_) rfl (by kernel_rfl) (by kernel_rfl) (by kernel_rfl) (fun _ _ _ h => h) (Or.inl ⟨by rfl, ?_⟩) hHeld ?_
      rotate_left
      · (intro wq hSw; go_simp; try with_reducible rfl)
      simp only [Act.put, List.setIfInBounds_toArray, List.set_cons_zero, List.set_cons_succ]
      refine wpAnyH_done (by kernel_rfl) ?_ _
      refine NoPanic.normal ?_
      go_wp2
      (try simp only [Exit.inBlock, Exit.then])
      rw [hR.out]
      exact bodyPost_ret (results_row_tmp Try.results13 _ _ w.heap.size _ _ _ _ rfl h6 Try.underlying30 rfl (msg_size _ rfl) _ rfl) rfl ⟨⟨_, rfl, MsgAt.zero _⟩, HB9.out.trans hHeld.2.2⟩
    exact AllReadyH.nil

set_option maxRecDepth 20000 in
set_option maxHeartbeats 4000000 in
theorem refParse_1_22 (c : UInt8) (hc : c = 22) (a : Option Addr) (len cap : Nat) (xs : List UInt8) (w : World) (hx : Bs w a len cap xs) (hlen : len ≤ 100000) :
    Calls Try.prog 13 #[.int .i64 1, byteV c, .slice a len cap] w fun e w' =>
      (∃ v, e = .returned (.tuple #[v, .int .i64 (Regs.parse 1 c xs).2]) ∧ MsgAt w' v (Regs.parse 1 c xs).1) ∧ Below w.heap.size w w' := by
  have HX := hide hx
  clear hx
  have hb : Hid (byteV c = .int .u8 (22 : Int)) := hide (by rw [hc]; rfl)
  have HRf : Hid (Regs.parse 1 c xs = finish (Regs.Frm.read 5 (MsgM.of c, St.new xs))) := hide (Regs.parse_some (by rw [hc]; decide))
  obtain ⟨R, hR⟩ : ∃ R, R = Regs.parse 1 c xs := ⟨_, rfl⟩
  rw [← hR] at HRf ⊢
  clear hc hR
  go_enter Try.func13, Try.ntmps13
  go_upto_region 6 with ((with_reducible (show wpList _ _ _ ({ dst := _, op := Op.store _ _ _, type := _, pos := _, after := _, guard := _ } :: _) _ _)); refine wpList_store_lies rfl 30 _ _ rfl (w.heap.size + 1 + 1) (codeCells c) rfl rfl _ _ (heap_alloc3_new _ _ _ _) (msg_size _ rfl) rfl (by simp [Value.oneCell']) ?_; intro w1 h1 b1 n1 z1)
  obtain ⟨h, hz⟩ := rr_entry HX.out hlen h1 b1
  have H0 := hide h
  have HZ := hide hz
  clear h hz h1 b1 n1 z1 HX
  rw [hb.out]
  clear hb
  go_wp2_with fail
  refine (rr_word H0.out).mono ?_
  rintro e u0 ⟨rfl, h_⟩
  have f_ := h_.mb.fr 2
  have k_ := h_.mb.c_addr
  have Hx0 := hide (h_.put_addr (St.new xs).word)
  clear h_ H0
  go_upto_region 25 with fail
  generalize u0.setCell ⟨w.heap.size + 1 + 1, 2, none⟩ (wordV (St.new xs).word) = u0' at *
  clear f_ k_
  go_wp2_with fail
  refine (rr_word Hx0.out).mono ?_
  rintro e u1 ⟨rfl, h_⟩
  have f_ := h_.mb.fr 5
  have k_ := h_.mb.c_and
  have Hx1 := hide (h_.put_and ((St.new xs).afterW).word)
  clear h_ Hx0
  go_upto_region 26 with fail
  generalize u1.setCell ⟨w.heap.size + 1 + 1, 5, none⟩ (wordV ((St.new xs).afterW).word) = u1' at *
  clear f_ k_
  go_wp2_with fail
  refine (rr_word Hx1.out).mono ?_
  rintro e u2 ⟨rfl, h_⟩
  have f_ := h_.mb.fr 6
  have k_ := h_.mb.c_or
  have Hx2 := hide (h_.put_or (((St.new xs).afterW).afterW).word)
  clear h_ Hx1
  go_upto_region 43 with fail
  generalize u2.setCell ⟨w.heap.size + 1 + 1, 6, none⟩ (wordV (((St.new xs).afterW).afterW).word) = u2' at *
  clear f_ k_
  have HF : Hid (R = finish ((((MsgM.of c).put_addr (St.new xs).word).put_and ((St.new xs).afterW).word).put_or (((St.new xs).afterW).afterW).word, (((St.new xs).afterW).afterW).afterW)) := hide (by rw [HRf.out]; rfl)
  have H := Hx2
  clear HRf Hx2
  generalize (((MsgM.of c).put_addr (St.new xs).word).put_and ((St.new xs).afterW).word).put_or (((St.new xs).afterW).afterW).word = m4 at *
  generalize (((St.new xs).afterW).afterW).afterW = s4 at *
  go_wp2_with fail
  refine (rr_end H.out).mono ?_
  rintro e w9 ⟨rfl, h9⟩
  obtain ⟨kc, _, _, hg9, _, _⟩ := h9.cur
  have c9 := rcur_c3 hg9
  obtain ⟨cs, hb9, hm9⟩ := h9.box
  have e1 := (h9.keep w.heap.size (by omega) (by omega) (by omega)).trans HZ.out
  obtain ⟨hsz, hone⟩ := (hm9 _ (Off.refl _ _ _)).row
  have HM9 := hide hm9
  have HB9 := hide h9.below
  have hw9 : w.heap.size ≤ w9.heap.size := h9.below.size
  unfold finish at HF
  simp only at HF
  generalize St.e _ = E at *
  clear h9 hm9 hg9 H
  by_cases hE : E = 0
  · have hR : Hid (R = (_, 0)) := hide (by rw [HF.out, if_pos hE])
    clear HF
    subst hE
    go_wp2_with (first | ((with_reducible (show wpList _ _ _ ({ dst := _, op := Op.load _ _, type := _, pos := _, after := _, guard := _ } :: _) _ _)); refine wpList_load_row rfl 30 _ rfl (w.heap.size + 1 + 1) rfl 30 cs (0, 0) _ hb9 Try.underlying30 rfl (msg_size cs hsz) ?_) | ((with_reducible (show wpList _ _ _ ({ dst := _, op := Op.store _ _ _, type := _, pos := _, after := _, guard := _ } :: _) _ _)); refine wpList_store_lies rfl 30 _ _ rfl w.heap.size cs rfl rfl _ _ e1 (msg_size cs hsz) hsz.symm hone ?_))
    intro w7 h7 b7 n7 z7
    go_wp2
    (try simp only [Exit.inBlock, Exit.then])
    rw [hR.out]
    exact bodyPost_ret (results_row_tmp Try.results13 _ _ w.heap.size _ _ _ _ rfl h7 Try.underlying30 rfl (msg_size _ hsz) _ rfl) rfl ⟨⟨_, rfl, HM9.out _ ⟨Nat.le_of_eq z7.symm, fun k _ hk => n7 k (by omega)⟩⟩, HB9.out.trans (b7 _ (Nat.le_refl _))⟩
  · have hR : Hid (R = (MsgM.zero, E)) := hide (by rw [HF.out, if_neg hE])
    have hE' : (E == 0) = false := by simpa using hE
    clear HF
    go_upto_region 45 with fail
    refine wp_region_noPanic ?_
    refine wp_region_held_drew (S := fun w' => w'.heap[w.heap.size]? = some (.cells zeroCells 30 (0, 0)) ∧ w'.cell? ⟨w.heap.size + 1, 3, none⟩ = some (.int .i64 E) ∧ Below w.heap.size w9 w') (by kernel_rfl) (⟨e1, c9, (Below.refl _ _).drew⟩) (fun hHeld => ?_)
    refine wpAnyH_take (i := 0) (oi := ⟨some 215, .build 30 #[], _, _, _, none⟩) (v := ?_) rfl (by kernel_rfl) (by kernel_rfl) (by kernel_rfl) (fun _ _ _ h => h) (Or.inl ⟨by rfl, ?_⟩) hHeld ?_
    rotate_left
    · (intro wq hSw; go_simp; try with_reducible rfl)
    simp only [Act.put, List.setIfInBounds_toArray, List.set_cons_zero, List.set_cons_succ]
    refine wpAnyH_take (i := 1) (oi := ⟨some 216, .move (.tmp 8), _, _, _, none⟩) (v := ?_) rfl (by kernel_rfl) (by kernel_rfl) (by kernel_rfl) (fun _ _ _ h => h) (Or.inl ⟨by rfl, ?_⟩) hHeld ?_
    rotate_left
    · (intro wq hSw; go_simp; try with_reducible rfl)
    simp only [Act.put, List.setIfInBounds_toArray, List.set_cons_zero, List.set_cons_succ]
    refine wpAnyH_take (i := 2) (oi := ⟨some 217, .nilCheck (.tmp 216), _, _, _, none⟩) (v := ?_) rfl (by kernel_rfl) (by kernel_rfl) (by kernel_rfl) (fun _ _ _ h => h) (Or.inl ⟨by rfl, ?_⟩) hHeld ?_
    rotate_left
    · (intro wq hSw; go_simp; try with_reducible rfl)
    simp only [Act.put, List.setIfInBounds_toArray, List.set_cons_zero, List.set_cons_succ]
    refine wpAnyH_take (i := 3) (oi := ⟨some 218, .fieldAddr 60 (.tmp 217) 3, _, _, _, none⟩) (v := ?_) rfl (by kernel_rfl) (by kernel_rfl) (by kernel_rfl) (fun _ _ _ h => h) (Or.inl ⟨by rfl, ?_⟩) hHeld ?_
    rotate_left
    · (intro wq hSw; go_simp; try with_reducible rfl)
    simp only [Act.put, List.setIfInBounds_toArray, List.set_cons_zero, List.set_cons_succ]
    refine wpAnyH_take (i := 4) (oi := ⟨some 219, .load 31 (.tmp 218), _, _, _, none⟩) (v := ?_) rfl (by kernel_rfl) (by kernel_rfl) (by kernel_rfl) (fun _ _ _ h => h) (Or.inl ⟨by rfl, ?_⟩) hHeld ?_
    rotate_left
    · (intro wq hSw; have hcv := hSw.2.1; go_simp; try with_reducible rfl)
    simp only [Act.put, List.setIfInBounds_toArray, List.set_cons_zero, List.set_cons_succ]
    refine wpAnyH_ready (rs := [5]) (by kernel_rfl) (by simp) ?_
    refine AllReadyH.cons (o := ⟨none, .store 30 (.tmp 6) (.tmp 215), _, _, _, none⟩) rfl (fun K hK => ?_) ?_
    · refine step_store (by rfl) _ _ _ (by rfl) w.heap.size zeroCells (by rfl) (by rfl) _ _ hHeld.1 (msg_size _ rfl) rfl zero_one ?_
      intro w6 h6 b6 n6 z6
      refine hK.out _ _ ?_ (fun hHeld => ?_)
      · exact ⟨h6, (World.cell?_of_block (n6 (w.heap.size + 1) (by omega))).trans hHeld.2.1, hHeld.2.2.trans (b6 _ (Nat.le_refl _))⟩
      clear hK K
      try simp only [Act.put]
      refine wpAnyH_take (i := 6) (oi := ⟨some 7, .assign (.tmp 219), _, _, _, none⟩) (v := ?_) rfl (by kernel_rfl) (by kernel_rfl) (by kernel_rfl) (fun _ _ _ h => h) (Or.inl ⟨by rfl, ?_⟩) hHeld ?_
      rotate_left
      · (intro wq hSw; go_simp; try with_reducible rfl)
      simp only [Act.put, List.setIfInBounds_toArray, List.set_cons_zero, List.set_cons_succ]
      refine wpAnyH_done (by kernel_rfl) ?_ _
      refine NoPanic.normal ?_
      go_wp2
      (try simp only [Exit.inBlock, Exit.then])
      rw [hR.out]
      exact bodyPost_ret (results_row_tmp Try.results13 _ _ w.heap.size _ _ _ _ rfl h6 Try.underlying30 rfl (msg_size _ rfl) _ rfl) rfl ⟨⟨_, rfl, MsgAt.zero _⟩, HB9.out.trans hHeld.2.2⟩
    exact AllReadyH.nil

set_option maxRecDepth 20000 in
set_option maxHeartbeats 4000000 in
theorem refParse_1_23 (c : UInt8) (hc : c = 23) (a : Option Addr) (len cap : Nat) (xs : List UInt8) (w : World) (hx : Bs w a len cap xs) (hlen : len ≤ 100000) :
    Calls Try.prog 13 #[.int .i64 1, byteV c, .slice a len cap] w fun e w' =>
      (∃ v, e = .returned (.tuple #[v, .int .i64 (Regs.parse 1 c xs).2]) ∧ MsgAt w' v (Regs.parse 1 c xs).1) ∧ Below w.heap.size w w' := by
  have HX := hide hx
  clear hx
  have hb : Hid (byteV c = .int .u8 (23 : Int)) := hide (by rw [hc]; rfl)
  have HRf : Hid (Regs.parse 1 c xs = finish (Regs.Frm.read 1 (MsgM.of c, St.new xs))) := hide (Regs.parse_some (by rw [hc]; decide))
  obtain ⟨R, hR⟩ : ∃ R, R = Regs.parse 1 c xs := ⟨_, rfl⟩
  rw [← hR] at HRf ⊢
  clear hc hR
  go_enter Try.func13, Try.ntmps13
  go_upto_region 6 with ((with_reducible (show wpList _ _ _ ({ dst := _, op := Op.store _ _ _, type := _, pos := _, after := _, guard := _ } :: _) _ _)); refine wpList_store_lies rfl 30 _ _ rfl (w.heap.size + 1 + 1) (codeCells c) rfl rfl _ _ (heap_alloc3_new _ _ _ _) (msg_size _ rfl) rfl (by simp [Value.oneCell']) ?_; intro w1 h1 b1 n1 z1)
  obtain ⟨h, hz⟩ := rr_entry HX.out hlen h1 b1
  have H0 := hide h
  have HZ := hide hz
  clear h hz h1 b1 n1 z1 HX
  rw [hb.out]
  clear hb
  go_wp2_with fail
  refine (rr_byte H0.out).mono ?_
  rintro e w2 ⟨rfl, h2⟩
  have H2 := hide h2
  clear h2 H0
  obtain ⟨kk, hkk⟩ : ∃ n : Nat, n = (St.new xs).byte.toNat := ⟨_, rfl⟩
  have bk : kk < 256 := by rw [hkk]; exact byte_lt _
  obtain ⟨ok, hok⟩ : ∃ b : Bool, b = (decide (kk % 2 = 0) && decide (1 ≤ kk) && decide (kk ≤ 250)) := ⟨_, rfl⟩
  obtain ⟨hf, hhf⟩ : ∃ n : Nat, n = kk / 2 := ⟨_, rfl⟩
  have HF : Hid (R = finish ((MsgM.of c).put_words (takeW (((St.new xs).afterB.need ok 5).got (hf : Int) 2)), ((St.new xs).afterB.need ok 5).next (hf : Int) 2)) := hide (by rw [HRf.out, hok, hhf, hkk]; rfl)
  rw [show byteV (St.new xs).byte = .int .u8 (kk : Int) by rw [hkk]]
  have HOK := hide hok
  have hwk : IntKind.i64.wrap (kk : Int) = (kk : Int) := by rw [IntKind.wrap_i64]; omega
  have hq : (kk : Int) / 2 = (hf : Int) := by rw [hhf]; omega
  clear hkk hok HRf hhf
  generalize (St.new xs).afterB = s2 at *
  rcases (show (kk % 2 = 0 ∧ 0 < kk) ∨ (kk % 2 = 0 ∧ ¬ 0 < kk) ∨ (kk % 2 = 1 ∧ 0 < kk) by omega) with ⟨h0, hp⟩ | ⟨h0, hp⟩ | ⟨h0, hp⟩
  all_goals
    have hr0 : (kk : Int) % 2 = ((kk % 2 : Nat) : Int) := by omega
    all_goals
      have h2i : (0 : Int) < (kk : Int) ↔ 0 < kk := by omega
      go_wp2_with fail
      refine (rr_need H2.out _ _).mono ?_
      rintro e w3 ⟨rfl, h3⟩
      have H3 : Hid (RRd w w1 (w.heap.size + 3) (w.heap.size + 1 + 1) (w.heap.size + 1) a len cap xs (MsgM.of c) (s2.need ok 5) w3) := hide (by
        have hv := HOK.out
        first
          | (rw [show ok = false by rw [hv]; simp; omega]; exact h3)
          | (rw [show ok = decide ((kk : Int) ≤ 250) by rw [hv, Bool.eq_iff_iff]; simp; omega]; exact h3))
      clear h3 H2 HOK hr0 h2i
      generalize s2.need ok 5 = s3 at *
      go_wp2_with fail
      refine (rr_words H3.out (hf : Int)).mono ?_
      rintro e w4 ⟨⟨a4, c4, rfl, hx4⟩, h4⟩
      generalize takeW (s3.got (hf : Int) 2) = D at *
      generalize s3.next (hf : Int) 2 = N at *
      obtain ⟨ad, ld, cd, k4, _⟩ := h4.mb.c_words
      have f4 := h4.mb.fr 12
      have H := hide (h4.put_words hx4)
      clear h4 hx4 H3
      go_wp2_with fail
      refine (rr_end H.out).mono ?_
      rintro e w9 ⟨rfl, h9⟩
      obtain ⟨kc, _, _, hg9, _, _⟩ := h9.cur
      have c9 := rcur_c3 hg9
      obtain ⟨cs, hb9, hm9⟩ := h9.box
      have e1 := (h9.keep w.heap.size (by omega) (by omega) (by omega)).trans HZ.out
      obtain ⟨hsz, hone⟩ := (hm9 _ (Off.refl _ _ _)).row
      have HM9 := hide hm9
      have HB9 := hide h9.below
      have hw9 : w.heap.size ≤ w9.heap.size := h9.below.size
      unfold finish at HF
      simp only at HF
      generalize St.e _ = E at *
      clear h9 hm9 hg9 H
      by_cases hE : E = 0
      · have hR : Hid (R = (_, 0)) := hide (by rw [HF.out, if_pos hE])
        clear HF
        subst hE
        go_wp2_with (first | ((with_reducible (show wpList _ _ _ ({ dst := _, op := Op.load _ _, type := _, pos := _, after := _, guard := _ } :: _) _ _)); refine wpList_load_row rfl 30 _ rfl (w.heap.size + 1 + 1) rfl 30 cs (0, 0) _ hb9 Try.underlying30 rfl (msg_size cs hsz) ?_) | ((with_reducible (show wpList _ _ _ ({ dst := _, op := Op.store _ _ _, type := _, pos := _, after := _, guard := _ } :: _) _ _)); refine wpList_store_lies rfl 30 _ _ rfl w.heap.size cs rfl rfl _ _ e1 (msg_size cs hsz) hsz.symm hone ?_))
        intro w7 h7 b7 n7 z7
        go_wp2
        (try simp only [Exit.inBlock, Exit.then])
        rw [hR.out]
        exact bodyPost_ret (results_row_tmp Try.results13 _ _ w.heap.size _ _ _ _ rfl h7 Try.underlying30 rfl (msg_size _ hsz) _ rfl) rfl ⟨⟨_, rfl, HM9.out _ ⟨Nat.le_of_eq z7.symm, fun k _ hk => n7 k (by omega)⟩⟩, HB9.out.trans (b7 _ (Nat.le_refl _))⟩
      · have hR : Hid (R = (MsgM.zero, E)) := hide (by rw [HF.out, if_neg hE])
        have hE' : (E == 0) = false := by simpa using hE
        clear HF
        go_upto_region 45 with fail
        refine wp_region_noPanic ?_
        refine wp_region_held_drew (S := fun w' => w'.heap[w.heap.size]? = some (.cells zeroCells 30 (0, 0)) ∧ w'.cell? ⟨w.heap.size + 1, 3, none⟩ = some (.int .i64 E) ∧ Below w.heap.size w9 w') (by kernel_rfl) (⟨e1, c9, (Below.refl _ _).drew⟩) (fun hHeld => ?_)
        refine wpAnyH_take (i := 0) (oi := ⟨some 215, .build 30 #[], _, _, _, none⟩) (v := ?_) rfl (by kernel_rfl) (by kernel_rfl) (by kernel_rfl) (fun _ _ _ h => h) (Or.inl ⟨by rfl, ?_⟩) hHeld ?_
        rotate_left
        · (intro wq hSw; go_simp; try with_reducible rfl)
        simp only [Act.put, List.setIfInBounds_toArray, List.set_cons_zero, List.set_cons_succ]
        refine wpAnyH_take (i := 1) (oi := ⟨some 216, .move (.tmp 8), _, _, _, none⟩) (v := ?_) rfl (by kernel_rfl) (by kernel_rfl) (by kernel_rfl) (fun _ _ _ h => h) (Or.inl ⟨by rfl, ?_⟩) hHeld ?_
        rotate_left
        · (intro wq hSw; go_simp; try with_reducible rfl)
        simp only [Act.put, List.setIfInBounds_toArray, List.set_cons_zero, List.set_cons_succ]
        refine wpAnyH_take (i := 2) (oi := ⟨some 217, .nilCheck (.tmp 216), _, _, _, none⟩) (v := ?_) rfl (by kernel_rfl) (by kernel_rfl) (by kernel_rfl) (fun _ _ _ h => h) (Or.inl ⟨by rfl, ?_⟩) hHeld ?_
        rotate_left
        · (intro wq hSw; go_simp; try with_reducible rfl)
        simp only [Act.put, List.setIfInBounds_toArray, List.set_cons_zero, List.set_cons_succ]
        refine wpAnyH_take (i := 3) (oi := ⟨some 218, .fieldAddr 60 (.tmp 217) 3, _, _, _, none⟩) (v := ?_) rfl (by kernel_rfl) (by kernel_rfl) (by kernel_rfl) (fun _ _ _ h => h) (Or.inl ⟨by rfl, ?_⟩) hHeld ?_
        rotate_left
        · (intro wq hSw; go_simp; try with_reducible rfl)
        simp only [Act.put, List.setIfInBounds_toArray, List.set_cons_zero, List.set_cons_succ]
        refine wpAnyH_take (i := 4) (oi := ⟨some 219, .load 31 (.tmp 218), _, _, _, none⟩) (v := ?_) rfl (by kernel_rfl) (by kernel_rfl) (by kernel_rfl) (fun _ _ _ h => h) (Or.inl ⟨by rfl, ?_⟩) hHeld ?_
        rotate_left
        · (intro wq hSw; have hcv := hSw.2.1; go_simp; try with_reducible rfl)
        simp only [Act.put, List.setIfInBounds_toArray, List.set_cons_zero, List.set_cons_succ]
        refine wpAnyH_ready (rs := [5]) (by kernel_rfl) (by simp) ?_
        refine AllReadyH.cons (o := ⟨none, .store 30 (.tmp 6) (.tmp 215), _, _, _, none⟩) rfl (fun K hK => ?_) ?_
        · refine step_store (by rfl) _ _ _ (by rfl) w.heap.size zeroCells (by rfl) (by rfl) _ _ hHeld.1 (msg_size _ rfl) rfl zero_one ?_
          intro w6 h6 b6 n6 z6
          refine hK.out _ _ ?_ (fun hHeld => ?_)
          · exact ⟨h6, (World.cell?_of_block (n6 (w.heap.size + 1) (by omega))).trans hHeld.2.1, hHeld.2.2.trans (b6 _ (Nat.le_refl _))⟩
          clear hK K
          try simp only [Act.put]
          refine wpAnyH_take (i := 6) (oi := ⟨some 7, .assign (.tmp 219), _, _, _, none⟩) (v := ?_) rfl (by kernel_rfl) (by kernel_rfl) (by kernel_rfl) (fun _ _ _ h => h) (Or.inl ⟨by rfl, ?_⟩) hHeld ?_
          rotate_left
          · (intro wq hSw; go_simp; try with_reducible rfl)
          simp only [Act.put, List.setIfInBounds_toArray, List.set_cons_zero, List.set_cons_succ]
          refine wpAnyH_done (by kernel_rfl) ?_ _
          refine NoPanic.normal ?_
          go_wp2
          (try simp only [Exit.inBlock, Exit.then])
          rw [hR.out]
          exact bodyPost_ret (results_row_tmp Try.results13 _ _ w.heap.size _ _ _ _ rfl h6 Try.underlying30 rfl (msg_size _ rfl) _ rfl) rfl ⟨⟨_, rfl, MsgAt.zero _⟩, HB9.out.trans hHeld.2.2⟩
        exact AllReadyH.nil

end Go.Proofs.Ytaccebkgmjiaaaa
