/-
  The document's own answers for diag: Parse, way by way.
-/
import Derived.Test.YtemomgcapjpaiaaDiagRef
import Derived.Test.YtemomgcapjpaiaaJoinB
import Derived.Test.YtemomgcapjpaiaaJoinA
import Derived.Deep.QuietTactic
import Derived.Deep.RegionHeld3
namespace Go.Proofs.Ytemomgcapjpaiaa
open Go.RowKit
open Word Bits Cursor

set_option maxRecDepth 20000 in
set_option maxHeartbeats 4000000 in
theorem refParse_1_8 (a : Option Addr) (len cap : Nat) (xs : List UInt8) (w : World) (hx : Bs w a len cap xs) (hlen : len ≤ 100000) :
    Calls Try.prog 13 #[.int .i64 1, byteV 8, .slice a len cap] w fun e w' =>
      (∃ v, e = .returned (.tuple #[v, .int .i64 (Diag.parse 1 8 xs).2]) ∧ MsgAt w' v (Diag.parse 1 8 xs).1) ∧ Below w.heap.size w w' := by
  have HX := hide hx
  clear hx
  have HRf : Hid (Diag.parse 1 8 xs = finish (Diag.Frm.read 3 (MsgM.of 8, St.new xs))) := hide (Diag.parse_some (by decide))
  obtain ⟨R, hR⟩ : ∃ R, R = Diag.parse 1 8 xs := ⟨_, rfl⟩
  rw [← hR] at HRf ⊢
  clear hR
  rw [show byteV 8 = .int .u8 (8 : Int) from rfl]
  go_enter Try.func13, Try.ntmps13
  go_upto_region 11 with ((with_reducible (show wpList _ _ _ ({ dst := _, op := Op.store _ _ _, type := _, pos := _, after := _, guard := _ } :: _) _ _)); refine wpList_store_lies rfl 30 _ _ rfl (w.heap.size + 1 + 1) (codeCells 8) rfl rfl _ _ (heap_alloc3_new _ _ _ _) (msg_size _ rfl) rfl (by simp [Value.oneCell']) ?_; intro w1 h1 b1 n1 z1)
  obtain ⟨h, hz⟩ := rr_entry HX.out hlen h1 b1
  have H0 := hide h
  have HZ := hide hz
  clear h hz h1 b1 n1 z1 HX
  go_wp2_with fail
  refine (rr_word H0.out).mono ?_
  rintro e v5 ⟨rfl, h_⟩
  have f_ := h_.mb.fr 8
  have k_ := h_.mb.c_sub
  have H5 := hide (h_.put_sub (St.new xs).word)
  clear h_ H0
  go_upto_region 12 with fail
  generalize v5.setCell ⟨w.heap.size + 1 + 1, 8, none⟩ (wordV (St.new xs).word) = v5' at *
  clear f_ k_
  obtain ⟨n, hn⟩ : ∃ n : Nat, n = (St.new xs).word.toNat := ⟨_, rfl⟩
  have hnl : n < 65536 := by rw [hn]; exact word_lt _
  obtain ⟨ok, hok⟩ : ∃ b : Bool, b = Diag.okSub 1 (St.new xs).word := ⟨_, rfl⟩
  have HOS : Hid (ok = (isSub n && (decide (n ≠ 4) || decide ((1 : Int) = 0)))) := hide (by rw [hok, hn]; rfl)
  have HST : Hid ((.int .u16 (n : Int) : Value) = wordV (St.new xs).word) := hide (by rw [hn])
  have HF1 : Hid (R = finish (Diag.putSub (MsgM.of 8) ((St.new xs).word, (Diag.rEnd 1 (St.new xs).word ((St.new xs).afterW.need ok 8)).1), (Diag.rEnd 1 (St.new xs).word ((St.new xs).afterW.need ok 8)).2)) := hide (by rw [HRf.out, hok]; rfl)
  have HFz : Hid (n = 0 → R = finish (((MsgM.of 8).put_sub (St.new xs).word).put_words (Diag.rRest ((St.new xs).afterW.need ok 8)).1, (Diag.rRest ((St.new xs).afterW.need ok 8)).2)) := hide (fun h => by
    rw [HF1.out]; unfold Diag.rEnd; rw [if_pos (UInt16.toNat_inj.1 (by rw [← hn, h]; rfl))]; rfl)
  have HFn : Hid (n ≠ 0 → R = finish (((MsgM.of 8).put_sub (St.new xs).word).put_words [((St.new xs).afterW.need ok 8).word], ((St.new xs).afterW.need ok 8).afterW.need (Diag.may 1 n ((St.new xs).afterW.need ok 8).word.toNat) 6)) := hide (fun h => by
    rw [HF1.out]; unfold Diag.rEnd; rw [if_neg (fun e => h (by rw [hn, e]; rfl)), hn]; rfl)
  clear hn hok HRf HF1
  have ks : v5'.cell? ⟨w.heap.size + 1 + 1, 8, none⟩ = some (.int .u16 (n : Int)) := by rw [HST.out]; exact H5.out.mb.c_sub
  generalize (St.new xs).word = sv at *
  generalize (St.new xs).afterW = d2 at *
  go_wp2_with fail
  refine (rsub_any n v5').mono ?_
  rintro e v6 ⟨rfl, rfl⟩
  cases hS : isSub n with
  | false =>
    have HOK : Hid (ok = false) := hide (by rw [HOS.out, hS]; rfl)
    clear HOS hS
    go_wp2_with fail
    refine (rr_need H5.out _ _).mono ?_
    rintro e v6 ⟨rfl, h6⟩
    have H6 : Hid (RRd w w1 (w.heap.size + 3) (w.heap.size + 1 + 1) (w.heap.size + 1) a len cap xs ((MsgM.of 8).put_sub sv) (d2.need ok 8) v6) := hide (by rw [HOK.out]; exact h6)
    clear h6 H5 HOK ks
    generalize d2.need ok 8 = d3 at *
    have kt : v6.cell? ⟨w.heap.size + 1 + 1, 8, none⟩ = some (.int .u16 (n : Int)) := by rw [HST.out]; exact H6.out.mb.c_sub
    by_cases hz0 : n = 0
    · subst hz0
      have HF0 : Hid (R = finish (((MsgM.of 8).put_sub sv).put_words (Diag.rRest d3).1, (Diag.rRest d3).2)) := hide (HFz.out rfl)
      clear HFz HFn HST
      generalize (MsgM.of 8).put_sub sv = m3 at *
      go_wp2_with fail
      refine (rr_left H6.out).mono ?_
      rintro e v7 ⟨rfl, h7⟩
      have hsm := h7.cur.small
      have H7 := hide h7
      clear h7 H6 kt
      obtain ⟨kk, hkk⟩ : ∃ n : Nat, n = d3.xs.length := ⟨_, rfl⟩
      obtain ⟨okr, hok⟩ : ∃ b : Bool, b = Diag.restOk kk := ⟨_, rfl⟩
      obtain ⟨hf, hhf⟩ : ∃ n : Nat, n = kk / 2 := ⟨_, rfl⟩
      have HFr : Hid (R = finish (m3.put_words (takeW ((d3.need okr 5).got (hf : Int) 2)), (d3.need okr 5).next (hf : Int) 2)) := hide (by rw [HF0.out, hok, hhf, hkk]; rfl)
      have HOKr : Hid (okr = (decide (kk % 2 = 0) && decide (2 ≤ kk) && decide (kk ≤ 250))) := hide hok
      rw [← hkk] at hsm ⊢
      have hq : (kk : Int) / 2 = (hf : Int) := by rw [hhf]; omega
      clear hkk hok hhf HF0
      rcases Nat.mod_two_eq_zero_or_one kk with h0 | h0
      all_goals
        have hr0 : (kk : Int) % 2 = ((kk % 2 : Nat) : Int) := by omega
        by_cases h2 : 2 ≤ kk
        all_goals
          have h2i : (2 : Int) ≤ (kk : Int) ↔ 2 ≤ kk := by omega
          go_wp2_with fail
          refine (rr_need H7.out _ _).mono ?_
          rintro e v8 ⟨rfl, hh⟩
          have H8 : Hid (RRd w w1 (w.heap.size + 3) (w.heap.size + 1 + 1) (w.heap.size + 1) a len cap xs m3 (d3.need okr 5) v8) := hide (by
            have hv := HOKr.out
            first
              | (rw [show okr = false by rw [hv]; simp; omega]; exact hh)
              | (rw [show okr = decide ((kk : Int) ≤ 250) by rw [hv, Bool.eq_iff_iff]; simp; omega]; exact hh))
          clear hh H7 HOKr hr0 h2i
          generalize d3.need okr 5 = d4 at *
          go_wp2_with fail
          refine (rr_words H8.out (hf : Int)).mono ?_
          rintro e w4 ⟨⟨a4, c4, rfl, hx4⟩, h4⟩
          have HF := HFr
          clear HFr
          generalize takeW (d4.got (hf : Int) 2) = D at *
          generalize d4.next (hf : Int) 2 = N at *
          obtain ⟨ad, ld, cd, k4, _⟩ := h4.mb.c_words
          have f4 := h4.mb.fr 12
          have H := hide (h4.put_words hx4)
          clear h4 hx4 H8
          go_wp2_with fail
          refine (rr_end H.out).mono ?_
          rintro e w9 ⟨rfl, h9⟩
          obtain ⟨kc, _, _, hg9, _, _⟩ := h9.cur
          have c9 := rcur_c3 hg9
          obtain ⟨cs, hb9, hm9⟩ := h9.box
          have e1 := (h9.keep w.heap.size (by omega) (by omega) (by omega)).trans HZ.out
          obtain ⟨hsz, hone⟩ := (hm9 _ (Off.refl _ _ _)).row
          have HM9 := hide hm9
          have HB9 := hide h9.below
          have hw9 : w.heap.size ≤ w9.heap.size := h9.below.size
          unfold finish at HF
          simp only at HF
          generalize St.e _ = E at *
          clear h9 hm9 hg9 H
          by_cases hE : E = 0
          · have hR : Hid (R = (_, 0)) := hide (by rw [HF.out, if_pos hE])
            clear HF
            subst hE
            go_wp2_with (first | ((with_reducible (show wpList _ _ _ ({ dst := _, op := Op.load _ _, type := _, pos := _, after := _, guard := _ } :: _) _ _)); refine wpList_load_row rfl 30 _ rfl (w.heap.size + 1 + 1) rfl 30 cs (0, 0) _ hb9 Try.underlying30 rfl (msg_size cs hsz) ?_) | ((with_reducible (show wpList _ _ _ ({ dst := _, op := Op.store _ _ _, type := _, pos := _, after := _, guard := _ } :: _) _ _)); refine wpList_store_lies rfl 30 _ _ rfl w.heap.size cs rfl rfl _ _ e1 (msg_size cs hsz) hsz.symm hone ?_))
            intro w7 h7 b7 n7 z7
            go_wp2
            (try simp only [Exit.inBlock, Exit.then])
            rw [hR.out]
            exact bodyPost_ret (results_row_tmp Try.results13 _ _ w.heap.size _ _ _ _ rfl h7 Try.underlying30 rfl (msg_size _ hsz) _ rfl) rfl ⟨⟨_, rfl, HM9.out _ ⟨Nat.le_of_eq z7.symm, fun k _ hk => n7 k (by omega)⟩⟩, HB9.out.trans (b7 _ (Nat.le_refl _))⟩
          · have hR : Hid (R = (MsgM.zero, E)) := hide (by rw [HF.out, if_neg hE])
            have hE' : (E != 0) = true := by simpa using hE
            clear HF
            go_upto_region 38 with fail
            refine wp_region_noPanic ?_
            refine wp_region_held_drew (S := fun w' => w'.heap[w.heap.size]? = some (.cells zeroCells 30 (0, 0)) ∧ w'.cell? ⟨w.heap.size + 1, 3, none⟩ = some (.int .i64 E) ∧ Below w.heap.size w9 w') (by kernel_rfl) (⟨e1, c9, (Below.refl _ _).drew⟩) (fun hHeld => ?_)
            refine wpAnyH_take (i := 0) (oi := ⟨some 191, .build 30 #[], _, _, _, none⟩) (v := ?_) rfl (by kernel_rfl) (by kernel_rfl) (by kernel_rfl) (fun _ _ _ h => h) (Or.inl ⟨by rfl, ?_⟩) hHeld ?_
            rotate_left
            · (intro wq hSw; go_simp; try with_reducible rfl)
            simp only [Act.put, List.setIfInBounds_toArray, List.set_cons_zero, List.set_cons_succ]
            refine wpAnyH_take (i := 1) (oi := ⟨some 192, .move (.tmp 8), _, _, _, none⟩) (v := ?_) rfl (by kernel_rfl) (by kernel_rfl) (by kernel_rfl) (fun _ _ _ h => h) (Or.inl ⟨by rfl, ?_⟩) hHeld ?_
            rotate_left
            · (intro wq hSw; go_simp; try with_reducible rfl)
            simp only [Act.put, List.setIfInBounds_toArray, List.set_cons_zero, List.set_cons_succ]
            refine wpAnyH_take (i := 2) (oi := ⟨some 193, .nilCheck (.tmp 192), _, _, _, none⟩) (v := ?_) rfl (by kernel_rfl) (by kernel_rfl) (by kernel_rfl) (fun _ _ _ h => h) (Or.inl ⟨by rfl, ?_⟩) hHeld ?_
            rotate_left
            · (intro wq hSw; go_simp; try with_reducible rfl)
            simp only [Act.put, List.setIfInBounds_toArray, List.set_cons_zero, List.set_cons_succ]
            refine wpAnyH_take (i := 3) (oi := ⟨some 194, .fieldAddr 60 (.tmp 193) 3, _, _, _, none⟩) (v := ?_) rfl (by kernel_rfl) (by kernel_rfl) (by kernel_rfl) (fun _ _ _ h => h) (Or.inl ⟨by rfl, ?_⟩) hHeld ?_
            rotate_left
            · (intro wq hSw; go_simp; try with_reducible rfl)
            simp only [Act.put, List.setIfInBounds_toArray, List.set_cons_zero, List.set_cons_succ]
            refine wpAnyH_take (i := 4) (oi := ⟨some 195, .load 31 (.tmp 194), _, _, _, none⟩) (v := ?_) rfl (by kernel_rfl) (by kernel_rfl) (by kernel_rfl) (fun _ _ _ h => h) (Or.inl ⟨by rfl, ?_⟩) hHeld ?_
            rotate_left
            · (intro wq hSw; have hcv := hSw.2.1; go_simp; try with_reducible rfl)
            simp only [Act.put, List.setIfInBounds_toArray, List.set_cons_zero, List.set_cons_succ]
            refine wpAnyH_ready (rs := [5]) (by kernel_rfl) (by simp) ?_
            refine AllReadyH.cons (o := ⟨none, .store 30 (.tmp 6) (.tmp 191), _, _, _, none⟩) rfl (fun K hK => ?_) ?_
            · refine step_store (by rfl) _ _ _ (by rfl) w.heap.size zeroCells (by rfl) (by rfl) _ _ hHeld.1 (msg_size _ rfl) rfl zero_one ?_
              intro w6 h6 b6 n6 z6
              refine hK.out _ _ ?_ (fun hHeld => ?_)
              · exact ⟨h6, (World.cell?_of_block (n6 (w.heap.size + 1) (by omega))).trans hHeld.2.1, hHeld.2.2.trans (b6 _ (Nat.le_refl _))⟩
              clear hK K
              try simp only [Act.put]
              refine wpAnyH_take (i := 6) (oi := ⟨some 7, .assign (.tmp 195), _, _, _, none⟩) (v := ?_) rfl (by kernel_rfl) (by kernel_rfl) (by kernel_rfl) (fun _ _ _ h => h) (Or.inl ⟨by rfl, ?_⟩) hHeld ?_
              rotate_left
              · (intro wq hSw; go_simp; try with_reducible rfl)
              simp only [Act.put, List.setIfInBounds_toArray, List.set_cons_zero, List.set_cons_succ]
              refine wpAnyH_done (by kernel_rfl) ?_ _
              refine NoPanic.normal ?_
              go_wp2
              (try simp only [Exit.inBlock, Exit.then])
              rw [hR.out]
              exact bodyPost_ret (results_row_tmp Try.results13 _ _ w.heap.size _ _ _ _ rfl h6 Try.underlying30 rfl (msg_size _ rfl) _ rfl) rfl ⟨⟨_, rfl, MsgAt.zero _⟩, HB9.out.trans hHeld.2.2⟩
            exact AllReadyH.nil
    · have HNZ := hz0
      have qz : ((n : Int) == 0) = false := by simp; omega
      have HF0 : Hid (R = finish (((MsgM.of 8).put_sub sv).put_words [d3.word], d3.afterW.need (Diag.may 1 n d3.word.toNat) 6)) := hide (HFn.out HNZ)
      clear HFz HFn
      generalize hm3 : (MsgM.of 8).put_sub sv = m3 at *
      have HM3 : Hid (m3.sub = sv) := hide (by rw [← hm3]; rfl)
      clear hm3
      go_wp2_with fail
      refine (rr_word H6.out).mono ?_
      rintro e v7 ⟨rfl, h7⟩
      have H7 := hide h7
      clear h7 H6 kt
      have HWV : Hid (wordV d3.word = wordV d3.word) := hide rfl
      clear HWV
      generalize d3.word = vv at *
      generalize d3.afterW = d4 at *
      have kt : v7.cell? ⟨w.heap.size + 1 + 1, 8, none⟩ = some (.int .u16 (n : Int)) := by rw [HST.out, ← HM3.out]; exact H7.out.mb.c_sub
      go_wp2_with fail
      refine (rmay_z 1 n (by omega) vv _ _ (by omega)).mono ?_
      rintro e v8 ⟨rfl, rfl⟩
      go_wp2_with fail
      refine (rr_need H7.out _ _).mono ?_
      rintro e v8 ⟨rfl, h8⟩
      have H8 := hide h8
      clear h8 H7 kt HST HM3
      have HF := HF0
      clear HF0
      generalize d4.need _ 6 = d5 at *
      have H9 := hide (H8.out.mono ((Below.refl v8.heap.size v8).alloc (Nat.le_refl _) (.cells #[wordV vv] 24 (0, 0))))
      have hx9 := fun u hu => (own_word v8 vv 24).off (lo := w.heap.size) (hi := w.heap.size + 3) (w' := u) H8.out.hs hu
      obtain ⟨ad, ld, cd, k4, _⟩ := H9.out.mb.c_words
      have f4 := H9.out.mb.fr 12
      have H := hide (H9.out.put_words hx9)
      clear H9 H8 hx9
      go_wp2_with fail
      refine (rr_end H.out).mono ?_
      rintro e w9 ⟨rfl, h9⟩
      obtain ⟨kc, _, _, hg9, _, _⟩ := h9.cur
      have c9 := rcur_c3 hg9
      obtain ⟨cs, hb9, hm9⟩ := h9.box
      have e1 := (h9.keep w.heap.size (by omega) (by omega) (by omega)).trans HZ.out
      obtain ⟨hsz, hone⟩ := (hm9 _ (Off.refl _ _ _)).row
      have HM9 := hide hm9
      have HB9 := hide h9.below
      have hw9 : w.heap.size ≤ w9.heap.size := h9.below.size
      unfold finish at HF
      simp only at HF
      generalize St.e _ = E at *
      clear h9 hm9 hg9 H
      by_cases hE : E = 0
      · have hR : Hid (R = (_, 0)) := hide (by rw [HF.out, if_pos hE])
        clear HF
        subst hE
        go_wp2_with (first | ((with_reducible (show wpList _ _ _ ({ dst := _, op := Op.load _ _, type := _, pos := _, after := _, guard := _ } :: _) _ _)); refine wpList_load_row rfl 30 _ rfl (w.heap.size + 1 + 1) rfl 30 cs (0, 0) _ hb9 Try.underlying30 rfl (msg_size cs hsz) ?_) | ((with_reducible (show wpList _ _ _ ({ dst := _, op := Op.store _ _ _, type := _, pos := _, after := _, guard := _ } :: _) _ _)); refine wpList_store_lies rfl 30 _ _ rfl w.heap.size cs rfl rfl _ _ e1 (msg_size cs hsz) hsz.symm hone ?_))
        intro w7 h7 b7 n7 z7
        go_wp2
        (try simp only [Exit.inBlock, Exit.then])
        rw [hR.out]
        exact bodyPost_ret (results_row_tmp Try.results13 _ _ w.heap.size _ _ _ _ rfl h7 Try.underlying30 rfl (msg_size _ hsz) _ rfl) rfl ⟨⟨_, rfl, HM9.out _ ⟨Nat.le_of_eq z7.symm, fun k _ hk => n7 k (by omega)⟩⟩, HB9.out.trans (b7 _ (Nat.le_refl _))⟩
      · have hR : Hid (R = (MsgM.zero, E)) := hide (by rw [HF.out, if_neg hE])
        have hE' : (E != 0) = true := by simpa using hE
        clear HF
        go_upto_region 38 with fail
        refine wp_region_noPanic ?_
        refine wp_region_held_drew (S := fun w' => w'.heap[w.heap.size]? = some (.cells zeroCells 30 (0, 0)) ∧ w'.cell? ⟨w.heap.size + 1, 3, none⟩ = some (.int .i64 E) ∧ Below w.heap.size w9 w') (by kernel_rfl) (⟨e1, c9, (Below.refl _ _).drew⟩) (fun hHeld => ?_)
        refine wpAnyH_take (i := 0) (oi := ⟨some 191, .build 30 #[], _, _, _, none⟩) (v := ?_) rfl (by kernel_rfl) (by kernel_rfl) (by kernel_rfl) (fun _ _ _ h => h) (Or.inl ⟨by rfl, ?_⟩) hHeld ?_
        rotate_left
        · (intro wq hSw; go_simp; try with_reducible rfl)
        simp only [Act.put, List.setIfInBounds_toArray, List.set_cons_zero, List.set_cons_succ]
        refine wpAnyH_take (i := 1) (oi := ⟨some 192, .move (.tmp 8), _, _, _, none⟩) (v := ?_) rfl (by kernel_rfl) (by kernel_rfl) (by kernel_rfl) (fun _ _ _ h => h) (Or.inl ⟨by rfl, ?_⟩) hHeld ?_
        rotate_left
        · (intro wq hSw; go_simp; try with_reducible rfl)
        simp only [Act.put, List.setIfInBounds_toArray, List.set_cons_zero, List.set_cons_succ]
        refine wpAnyH_take (i := 2) (oi := ⟨some 193, .nilCheck (.tmp 192), _, _, _, none⟩) (v := ?_) rfl (by kernel_rfl) (by kernel_rfl) (by kernel_rfl) (fun _ _ _ h => h) (Or.inl ⟨by rfl, ?_⟩) hHeld ?_
        rotate_left
        · (intro wq hSw; go_simp; try with_reducible rfl)
        simp only [Act.put, List.setIfInBounds_toArray, List.set_cons_zero, List.set_cons_succ]
        refine wpAnyH_take (i := 3) (oi := ⟨some 194, .fieldAddr 60 (.tmp 193) 3, _, _, _, none⟩) (v := ?_) rfl (by kernel_rfl) (by kernel_rfl) (by kernel_rfl) (fun _ _ _ h => h) (Or.inl ⟨by rfl, ?_⟩) hHeld ?_
        rotate_left
        · (intro wq hSw; go_simp; try with_reducible rfl)
        simp only [Act.put, List.setIfInBounds_toArray, List.set_cons_zero, List.set_cons_succ]
        refine wpAnyH_take (i := 4) (oi := ⟨some 195, .load 31 (.tmp 194), _, _, _, none⟩) (v := ?_) rfl (by kernel_rfl) (by kernel_rfl) (by kernel_rfl) (fun _ _ _ h => h) (Or.inl ⟨by rfl, ?_⟩) hHeld ?_
        rotate_left
        · (intro wq hSw; have hcv := hSw.2.1; go_simp; try with_reducible rfl)
        simp only [Act.put, List.setIfInBounds_toArray, List.set_cons_zero, List.set_cons_succ]
        refine wpAnyH_ready (rs := [5]) (by kernel_rfl) (by simp) ?_
        refine AllReadyH.cons (o := ⟨none, .store 30 (.tmp 6) (.tmp 191), _, _, _, none⟩) rfl (fun K hK => ?_) ?_
        · refine step_store (by rfl) _ _ _ (by rfl) w.heap.size zeroCells (by rfl) (by rfl) _ _ hHeld.1 (msg_size _ rfl) rfl zero_one ?_
          intro w6 h6 b6 n6 z6
          refine hK.out _ _ ?_ (fun hHeld => ?_)
          · exact ⟨h6, (World.cell?_of_block (n6 (w.heap.size + 1) (by omega))).trans hHeld.2.1, hHeld.2.2.trans (b6 _ (Nat.le_refl _))⟩
          clear hK K
          try simp only [Act.put]
          refine wpAnyH_take (i := 6) (oi := ⟨some 7, .assign (.tmp 195), _, _, _, none⟩) (v := ?_) rfl (by kernel_rfl) (by kernel_rfl) (by kernel_rfl) (fun _ _ _ h => h) (Or.inl ⟨by rfl, ?_⟩) hHeld ?_
          rotate_left
          · (intro wq hSw; go_simp; try with_reducible rfl)
          simp only [Act.put, List.setIfInBounds_toArray, List.set_cons_zero, List.set_cons_succ]
          refine wpAnyH_done (by kernel_rfl) ?_ _
          refine NoPanic.normal ?_
          go_wp2
          (try simp only [Exit.inBlock, Exit.then])
          rw [hR.out]
          exact bodyPost_ret (results_row_tmp Try.results13 _ _ w.heap.size _ _ _ _ rfl h6 Try.underlying30 rfl (msg_size _ rfl) _ rfl) rfl ⟨⟨_, rfl, MsgAt.zero _⟩, HB9.out.trans hHeld.2.2⟩
        exact AllReadyH.nil
  | true =>
    have HSS := hide hS
    clear hS
    by_cases h4 : n = 4
    · have HOK : Hid (ok = false) := hide (by rw [HOS.out, HSS.out]; simp [h4])
      have q4 : ((n : Int) == 4) = true := by simp; omega
      have q4' : (n : Int) = 4 := by omega
      have hN0 : n ≠ 0 := by omega
      clear HOS HSS h4
      go_wp2_with fail
      refine (rr_need H5.out _ _).mono ?_
      rintro e v6 ⟨rfl, h6⟩
      have H6 : Hid (RRd w w1 (w.heap.size + 3) (w.heap.size + 1 + 1) (w.heap.size + 1) a len cap xs ((MsgM.of 8).put_sub sv) (d2.need ok 8) v6) := hide (by rw [HOK.out]; exact h6)
      clear h6 H5 HOK ks
      generalize d2.need ok 8 = d3 at *
      have kt : v6.cell? ⟨w.heap.size + 1 + 1, 8, none⟩ = some (.int .u16 (n : Int)) := by rw [HST.out]; exact H6.out.mb.c_sub
      have HNZ := hN0
      have qz : ((n : Int) == 0) = false := by simp; omega
      have HF0 : Hid (R = finish (((MsgM.of 8).put_sub sv).put_words [d3.word], d3.afterW.need (Diag.may 1 n d3.word.toNat) 6)) := hide (HFn.out HNZ)
      clear HFz HFn
      generalize hm3 : (MsgM.of 8).put_sub sv = m3 at *
      have HM3 : Hid (m3.sub = sv) := hide (by rw [← hm3]; rfl)
      clear hm3
      go_wp2_with fail
      refine (rr_word H6.out).mono ?_
      rintro e v7 ⟨rfl, h7⟩
      have H7 := hide h7
      clear h7 H6 kt
      have HWV : Hid (wordV d3.word = wordV d3.word) := hide rfl
      clear HWV
      generalize d3.word = vv at *
      generalize d3.afterW = d4 at *
      have kt : v7.cell? ⟨w.heap.size + 1 + 1, 8, none⟩ = some (.int .u16 (n : Int)) := by rw [HST.out, ← HM3.out]; exact H7.out.mb.c_sub
      go_wp2_with fail
      refine (rmay_z 1 n (by omega) vv _ _ (by omega)).mono ?_
      rintro e v8 ⟨rfl, rfl⟩
      go_wp2_with fail
      refine (rr_need H7.out _ _).mono ?_
      rintro e v8 ⟨rfl, h8⟩
      have H8 := hide h8
      clear h8 H7 kt HST HM3
      have HF := HF0
      clear HF0
      generalize d4.need _ 6 = d5 at *
      have H9 := hide (H8.out.mono ((Below.refl v8.heap.size v8).alloc (Nat.le_refl _) (.cells #[wordV vv] 24 (0, 0))))
      have hx9 := fun u hu => (own_word v8 vv 24).off (lo := w.heap.size) (hi := w.heap.size + 3) (w' := u) H8.out.hs hu
      obtain ⟨ad, ld, cd, k4, _⟩ := H9.out.mb.c_words
      have f4 := H9.out.mb.fr 12
      have H := hide (H9.out.put_words hx9)
      clear H9 H8 hx9
      go_wp2_with fail
      refine (rr_end H.out).mono ?_
      rintro e w9 ⟨rfl, h9⟩
      obtain ⟨kc, _, _, hg9, _, _⟩ := h9.cur
      have c9 := rcur_c3 hg9
      obtain ⟨cs, hb9, hm9⟩ := h9.box
      have e1 := (h9.keep w.heap.size (by omega) (by omega) (by omega)).trans HZ.out
      obtain ⟨hsz, hone⟩ := (hm9 _ (Off.refl _ _ _)).row
      have HM9 := hide hm9
      have HB9 := hide h9.below
      have hw9 : w.heap.size ≤ w9.heap.size := h9.below.size
      unfold finish at HF
      simp only at HF
      generalize St.e _ = E at *
      clear h9 hm9 hg9 H
      by_cases hE : E = 0
      · have hR : Hid (R = (_, 0)) := hide (by rw [HF.out, if_pos hE])
        clear HF
        subst hE
        go_wp2_with (first | ((with_reducible (show wpList _ _ _ ({ dst := _, op := Op.load _ _, type := _, pos := _, after := _, guard := _ } :: _) _ _)); refine wpList_load_row rfl 30 _ rfl (w.heap.size + 1 + 1) rfl 30 cs (0, 0) _ hb9 Try.underlying30 rfl (msg_size cs hsz) ?_) | ((with_reducible (show wpList _ _ _ ({ dst := _, op := Op.store _ _ _, type := _, pos := _, after := _, guard := _ } :: _) _ _)); refine wpList_store_lies rfl 30 _ _ rfl w.heap.size cs rfl rfl _ _ e1 (msg_size cs hsz) hsz.symm hone ?_))
        intro w7 h7 b7 n7 z7
        go_wp2
        (try simp only [Exit.inBlock, Exit.then])
        rw [hR.out]
        exact bodyPost_ret (results_row_tmp Try.results13 _ _ w.heap.size _ _ _ _ rfl h7 Try.underlying30 rfl (msg_size _ hsz) _ rfl) rfl ⟨⟨_, rfl, HM9.out _ ⟨Nat.le_of_eq z7.symm, fun k _ hk => n7 k (by omega)⟩⟩, HB9.out.trans (b7 _ (Nat.le_refl _))⟩
      · have hR : Hid (R = (MsgM.zero, E)) := hide (by rw [HF.out, if_neg hE])
        have hE' : (E != 0) = true := by simpa using hE
        clear HF
        go_upto_region 38 with fail
        refine wp_region_noPanic ?_
        refine wp_region_held_drew (S := fun w' => w'.heap[w.heap.size]? = some (.cells zeroCells 30 (0, 0)) ∧ w'.cell? ⟨w.heap.size + 1, 3, none⟩ = some (.int .i64 E) ∧ Below w.heap.size w9 w') (by kernel_rfl) (⟨e1, c9, (Below.refl _ _).drew⟩) (fun hHeld => ?_)
        refine wpAnyH_take (i := 0) (oi := ⟨some 191, .build 30 #[], _, _, _, none⟩) (v := ?_) rfl (by kernel_rfl) (by kernel_rfl) (by kernel_rfl) (fun _ _ _ h => h) (Or.inl ⟨by rfl, ?_⟩) hHeld ?_
        rotate_left
        · (intro wq hSw; go_simp; try with_reducible rfl)
        simp only [Act.put, List.setIfInBounds_toArray, List.set_cons_zero, List.set_cons_succ]
        refine wpAnyH_take (i := 1) (oi := ⟨some 192, .move (.tmp 8), _, _, _, none⟩) (v := ?_) rfl (by kernel_rfl) (by kernel_rfl) (by kernel_rfl) (fun _ _ _ h => h) (Or.inl ⟨by rfl, ?_⟩) hHeld ?_
        rotate_left
        · (intro wq hSw; go_simp; try with_reducible rfl)
        simp only [Act.put, List.setIfInBounds_toArray, List.set_cons_zero, List.set_cons_succ]
        refine wpAnyH_take (i := 2) (oi := ⟨some 193, .nilCheck (.tmp 192), _, _, _, none⟩) (v := ?_) rfl (by kernel_rfl) (by kernel_rfl) (by kernel_rfl) (fun _ _ _ h => h) (Or.inl ⟨by rfl, ?_⟩) hHeld ?_
        rotate_left
        · (intro wq hSw; go_simp; try with_reducible rfl)
        simp only [Act.put, List.setIfInBounds_toArray, List.set_cons_zero, List.set_cons_succ]
        refine wpAnyH_take (i := 3) (oi := ⟨some 194, .fieldAddr 60 (.tmp 193) 3, _, _, _, none⟩) (v := ?_) rfl (by kernel_rfl) (by kernel_rfl) (by kernel_rfl) (fun _ _ _ h => h) (Or.inl ⟨by rfl, ?_⟩) hHeld ?_
        rotate_left
        · (intro wq hSw; go_simp; try with_reducible rfl)
        simp only [Act.put, List.setIfInBounds_toArray, List.set_cons_zero, List.set_cons_succ]
        refine wpAnyH_take (i := 4) (oi := ⟨some 195, .load 31 (.tmp 194), _, _, _, none⟩) (v := ?_) rfl (by kernel_rfl) (by kernel_rfl) (by kernel_rfl) (fun _ _ _ h => h) (Or.inl ⟨by rfl, ?_⟩) hHeld ?_
        rotate_left
        · (intro wq hSw; have hcv := hSw.2.1; go_simp; try with_reducible rfl)
        simp only [Act.put, List.setIfInBounds_toArray, List.set_cons_zero, List.set_cons_succ]
        refine wpAnyH_ready (rs := [5]) (by kernel_rfl) (by simp) ?_
        refine AllReadyH.cons (o := ⟨none, .store 30 (.tmp 6) (.tmp 191), _, _, _, none⟩) rfl (fun K hK => ?_) ?_
        · refine step_store (by rfl) _ _ _ (by rfl) w.heap.size zeroCells (by rfl) (by rfl) _ _ hHeld.1 (msg_size _ rfl) rfl zero_one ?_
          intro w6 h6 b6 n6 z6
          refine hK.out _ _ ?_ (fun hHeld => ?_)
          · exact ⟨h6, (World.cell?_of_block (n6 (w.heap.size + 1) (by omega))).trans hHeld.2.1, hHeld.2.2.trans (b6 _ (Nat.le_refl _))⟩
          clear hK K
          try simp only [Act.put]
          refine wpAnyH_take (i := 6) (oi := ⟨some 7, .assign (.tmp 195), _, _, _, none⟩) (v := ?_) rfl (by kernel_rfl) (by kernel_rfl) (by kernel_rfl) (fun _ _ _ h => h) (Or.inl ⟨by rfl, ?_⟩) hHeld ?_
          rotate_left
          · (intro wq hSw; go_simp; try with_reducible rfl)
          simp only [Act.put, List.setIfInBounds_toArray, List.set_cons_zero, List.set_cons_succ]
          refine wpAnyH_done (by kernel_rfl) ?_ _
          refine NoPanic.normal ?_
          go_wp2
          (try simp only [Exit.inBlock, Exit.then])
          rw [hR.out]
          exact bodyPost_ret (results_row_tmp Try.results13 _ _ w.heap.size _ _ _ _ rfl h6 Try.underlying30 rfl (msg_size _ rfl) _ rfl) rfl ⟨⟨_, rfl, MsgAt.zero _⟩, HB9.out.trans hHeld.2.2⟩
        exact AllReadyH.nil
    · have q4 : ((n : Int) == 4) = false := by simp; omega
      have HOK : Hid (ok = true) := hide (by rw [HOS.out, HSS.out]; simp [h4])
      clear HOS HSS
      go_wp2_with fail
      refine (rr_need H5.out _ _).mono ?_
      rintro e v6 ⟨rfl, h6⟩
      have H6 : Hid (RRd w w1 (w.heap.size + 3) (w.heap.size + 1 + 1) (w.heap.size + 1) a len cap xs ((MsgM.of 8).put_sub sv) (d2.need ok 8) v6) := hide (by rw [HOK.out]; exact h6)
      clear h6 H5 HOK ks
      generalize d2.need ok 8 = d3 at *
      have kt : v6.cell? ⟨w.heap.size + 1 + 1, 8, none⟩ = some (.int .u16 (n : Int)) := by rw [HST.out]; exact H6.out.mb.c_sub
      by_cases hz0 : n = 0
      · subst hz0
        have HF0 : Hid (R = finish (((MsgM.of 8).put_sub sv).put_words (Diag.rRest d3).1, (Diag.rRest d3).2)) := hide (HFz.out rfl)
        clear HFz HFn HST
        generalize (MsgM.of 8).put_sub sv = m3 at *
        go_wp2_with fail
        refine (rr_left H6.out).mono ?_
        rintro e v7 ⟨rfl, h7⟩
        have hsm := h7.cur.small
        have H7 := hide h7
        clear h7 H6 kt
        obtain ⟨kk, hkk⟩ : ∃ n : Nat, n = d3.xs.length := ⟨_, rfl⟩
        obtain ⟨okr, hok⟩ : ∃ b : Bool, b = Diag.restOk kk := ⟨_, rfl⟩
        obtain ⟨hf, hhf⟩ : ∃ n : Nat, n = kk / 2 := ⟨_, rfl⟩
        have HFr : Hid (R = finish (m3.put_words (takeW ((d3.need okr 5).got (hf : Int) 2)), (d3.need okr 5).next (hf : Int) 2)) := hide (by rw [HF0.out, hok, hhf, hkk]; rfl)
        have HOKr : Hid (okr = (decide (kk % 2 = 0) && decide (2 ≤ kk) && decide (kk ≤ 250))) := hide hok
        rw [← hkk] at hsm ⊢
        have hq : (kk : Int) / 2 = (hf : Int) := by rw [hhf]; omega
        clear hkk hok hhf HF0
        rcases Nat.mod_two_eq_zero_or_one kk with h0 | h0
        all_goals
          have hr0 : (kk : Int) % 2 = ((kk % 2 : Nat) : Int) := by omega
          by_cases h2 : 2 ≤ kk
          all_goals
            have h2i : (2 : Int) ≤ (kk : Int) ↔ 2 ≤ kk := by omega
            go_wp2_with fail
            refine (rr_need H7.out _ _).mono ?_
            rintro e v8 ⟨rfl, hh⟩
            have H8 : Hid (RRd w w1 (w.heap.size + 3) (w.heap.size + 1 + 1) (w.heap.size + 1) a len cap xs m3 (d3.need okr 5) v8) := hide (by
              have hv := HOKr.out
              first
                | (rw [show okr = false by rw [hv]; simp; omega]; exact hh)
                | (rw [show okr = decide ((kk : Int) ≤ 250) by rw [hv, Bool.eq_iff_iff]; simp; omega]; exact hh))
            clear hh H7 HOKr hr0 h2i
            generalize d3.need okr 5 = d4 at *
            go_wp2_with fail
            refine (rr_words H8.out (hf : Int)).mono ?_
            rintro e w4 ⟨⟨a4, c4, rfl, hx4⟩, h4⟩
            have HF := HFr
            clear HFr
            generalize takeW (d4.got (hf : Int) 2) = D at *
            generalize d4.next (hf : Int) 2 = N at *
            obtain ⟨ad, ld, cd, k4, _⟩ := h4.mb.c_words
            have f4 := h4.mb.fr 12
            have H := hide (h4.put_words hx4)
            clear h4 hx4 H8
            go_wp2_with fail
            refine (rr_end H.out).mono ?_
            rintro e w9 ⟨rfl, h9⟩
            obtain ⟨kc, _, _, hg9, _, _⟩ := h9.cur
            have c9 := rcur_c3 hg9
            obtain ⟨cs, hb9, hm9⟩ := h9.box
            have e1 := (h9.keep w.heap.size (by omega) (by omega) (by omega)).trans HZ.out
            obtain ⟨hsz, hone⟩ := (hm9 _ (Off.refl _ _ _)).row
            have HM9 := hide hm9
            have HB9 := hide h9.below
            have hw9 : w.heap.size ≤ w9.heap.size := h9.below.size
            unfold finish at HF
            simp only at HF
            generalize St.e _ = E at *
            clear h9 hm9 hg9 H
            by_cases hE : E = 0
            · have hR : Hid (R = (_, 0)) := hide (by rw [HF.out, if_pos hE])
              clear HF
              subst hE
              go_wp2_with (first | ((with_reducible (show wpList _ _ _ ({ dst := _, op := Op.load _ _, type := _, pos := _, after := _, guard := _ } :: _) _ _)); refine wpList_load_row rfl 30 _ rfl (w.heap.size + 1 + 1) rfl 30 cs (0, 0) _ hb9 Try.underlying30 rfl (msg_size cs hsz) ?_) | ((with_reducible (show wpList _ _ _ ({ dst := _, op := Op.store _ _ _, type := _, pos := _, after := _, guard := _ } :: _) _ _)); refine wpList_store_lies rfl 30 _ _ rfl w.heap.size cs rfl rfl _ _ e1 (msg_size cs hsz) hsz.symm hone ?_))
              intro w7 h7 b7 n7 z7
              go_wp2
              (try simp only [Exit.inBlock, Exit.then])
              rw [hR.out]
              exact bodyPost_ret (results_row_tmp Try.results13 _ _ w.heap.size _ _ _ _ rfl h7 Try.underlying30 rfl (msg_size _ hsz) _ rfl) rfl ⟨⟨_, rfl, HM9.out _ ⟨Nat.le_of_eq z7.symm, fun k _ hk => n7 k (by omega)⟩⟩, HB9.out.trans (b7 _ (Nat.le_refl _))⟩
            · have hR : Hid (R = (MsgM.zero, E)) := hide (by rw [HF.out, if_neg hE])
              have hE' : (E != 0) = true := by simpa using hE
              clear HF
              go_upto_region 38 with fail
              refine wp_region_noPanic ?_
              refine wp_region_held_drew (S := fun w' => w'.heap[w.heap.size]? = some (.cells zeroCells 30 (0, 0)) ∧ w'.cell? ⟨w.heap.size + 1, 3, none⟩ = some (.int .i64 E) ∧ Below w.heap.size w9 w') (by kernel_rfl) (⟨e1, c9, (Below.refl _ _).drew⟩) (fun hHeld => ?_)
              refine wpAnyH_take (i := 0) (oi := ⟨some 191, .build 30 #[], _, _, _, none⟩) (v := ?_) rfl (by kernel_rfl) (by kernel_rfl) (by kernel_rfl) (fun _ _ _ h => h) (Or.inl ⟨by rfl, ?_⟩) hHeld ?_
              rotate_left
              · (intro wq hSw; go_simp; try with_reducible rfl)
              simp only [Act.put, List.setIfInBounds_toArray, List.set_cons_zero, List.set_cons_succ]
              refine wpAnyH_take (i := 1) (oi := ⟨some 192, .move (.tmp 8), _, _, _, none⟩) (v := ?_) rfl (by kernel_rfl) (by kernel_rfl) (by kernel_rfl) (fun _ _ _ h => h) (Or.inl ⟨by rfl, ?_⟩) hHeld ?_
              rotate_left
              · (intro wq hSw; go_simp; try with_reducible rfl)
              simp only [Act.put, List.setIfInBounds_toArray, List.set_cons_zero, List.set_cons_succ]
              refine wpAnyH_take (i := 2) (oi := ⟨some 193, .nilCheck (.tmp 192), _, _, _, none⟩) (v := ?_) rfl (by kernel_rfl) (by kernel_rfl) (by kernel_rfl) (fun _ _ _ h => h) (Or.inl ⟨by rfl, ?_⟩) hHeld ?_
              rotate_left
              · (intro wq hSw; go_simp; try with_reducible rfl)
              simp only [Act.put, List.setIfInBounds_toArray, List.set_cons_zero, List.set_cons_succ]
              refine wpAnyH_take (i := 3) (oi := ⟨some 194, .fieldAddr 60 (.tmp 193) 3, _, _, _, none⟩) (v := ?_) rfl (by kernel_rfl) (by kernel_rfl) (by kernel_rfl) (fun _ _ _ h => h) (Or.inl ⟨by rfl, ?_⟩) hHeld ?_
              rotate_left
              · (intro wq hSw; go_simp; try with_reducible rfl)
              simp only [Act.put, List.setIfInBounds_toArray, List.set_cons_zero, List.set_cons_succ]
              refine wpAnyH_take (i := 4) (oi := ⟨some 195, .load 31 (.tmp 194), _, _, _, none⟩) (v := ?_) rfl (by kernel_rfl) (by kernel_rfl) (by kernel_rfl) (fun _ _ _ h => h) (Or.inl ⟨by rfl, ?_⟩) hHeld ?_
              rotate_left
              · (intro wq hSw; have hcv := hSw.2.1; go_simp; try with_reducible rfl)
              simp only [Act.put, List.setIfInBounds_toArray, List.set_cons_zero, List.set_cons_succ]
              refine wpAnyH_ready (rs := [5]) (by kernel_rfl) (by simp) ?_
              refine AllReadyH.cons (o := ⟨none, .store 30 (.tmp 6) (.tmp 191), _, _, _, none⟩) rfl (fun K hK => ?_) ?_
              · refine step_store (by rfl) _ _ _ (by rfl) w.heap.size zeroCells (by rfl) (by rfl) _ _ hHeld.1 (msg_size _ rfl) rfl zero_one ?_
                intro w6 h6 b6 n6 z6
                refine hK.out _ _ ?_ (fun hHeld => ?_)
                · exact ⟨h6, (World.cell?_of_block (n6 (w.heap.size + 1) (by omega))).trans hHeld.2.1, hHeld.2.2.trans (b6 _ (Nat.le_refl _))⟩
                clear hK K
                try simp only [Act.put]
                refine wpAnyH_take (i := 6) (oi := ⟨some 7, .assign (.tmp 195), _, _, _, none⟩) (v := ?_) rfl (by kernel_rfl) (by kernel_rfl) (by kernel_rfl) (fun _ _ _ h => h) (Or.inl ⟨by rfl, ?_⟩) hHeld ?_
                rotate_left
                · (intro wq hSw; go_simp; try with_reducible rfl)
                simp only [Act.put, List.setIfInBounds_toArray, List.set_cons_zero, List.set_cons_succ]
                refine wpAnyH_done (by kernel_rfl) ?_ _
                refine NoPanic.normal ?_
                go_wp2
                (try simp only [Exit.inBlock, Exit.then])
                rw [hR.out]
                exact bodyPost_ret (results_row_tmp Try.results13 _ _ w.heap.size _ _ _ _ rfl h6 Try.underlying30 rfl (msg_size _ rfl) _ rfl) rfl ⟨⟨_, rfl, MsgAt.zero _⟩, HB9.out.trans hHeld.2.2⟩
              exact AllReadyH.nil
      · have HNZ := hz0
        have qz : ((n : Int) == 0) = false := by simp; omega
        have HF0 : Hid (R = finish (((MsgM.of 8).put_sub sv).put_words [d3.word], d3.afterW.need (Diag.may 1 n d3.word.toNat) 6)) := hide (HFn.out HNZ)
        clear HFz HFn
        generalize hm3 : (MsgM.of 8).put_sub sv = m3 at *
        have HM3 : Hid (m3.sub = sv) := hide (by rw [← hm3]; rfl)
        clear hm3
        go_wp2_with fail
        refine (rr_word H6.out).mono ?_
        rintro e v7 ⟨rfl, h7⟩
        have H7 := hide h7
        clear h7 H6 kt
        have HWV : Hid (wordV d3.word = wordV d3.word) := hide rfl
        clear HWV
        generalize d3.word = vv at *
        generalize d3.afterW = d4 at *
        have kt : v7.cell? ⟨w.heap.size + 1 + 1, 8, none⟩ = some (.int .u16 (n : Int)) := by rw [HST.out, ← HM3.out]; exact H7.out.mb.c_sub
        go_wp2_with fail
        refine (rmay_z 1 n (by omega) vv _ _ (by omega)).mono ?_
        rintro e v8 ⟨rfl, rfl⟩
        go_wp2_with fail
        refine (rr_need H7.out _ _).mono ?_
        rintro e v8 ⟨rfl, h8⟩
        have H8 := hide h8
        clear h8 H7 kt HST HM3
        have HF := HF0
        clear HF0
        generalize d4.need _ 6 = d5 at *
        have H9 := hide (H8.out.mono ((Below.refl v8.heap.size v8).alloc (Nat.le_refl _) (.cells #[wordV vv] 24 (0, 0))))
        have hx9 := fun u hu => (own_word v8 vv 24).off (lo := w.heap.size) (hi := w.heap.size + 3) (w' := u) H8.out.hs hu
        obtain ⟨ad, ld, cd, k4, _⟩ := H9.out.mb.c_words
        have f4 := H9.out.mb.fr 12
        have H := hide (H9.out.put_words hx9)
        clear H9 H8 hx9
        go_wp2_with fail
        refine (rr_end H.out).mono ?_
        rintro e w9 ⟨rfl, h9⟩
        obtain ⟨kc, _, _, hg9, _, _⟩ := h9.cur
        have c9 := rcur_c3 hg9
        obtain ⟨cs, hb9, hm9⟩ := h9.box
        have e1 := (h9.keep w.heap.size (by omega) (by omega) (by omega)).trans HZ.out
        obtain ⟨hsz, hone⟩ := (hm9 _ (Off.refl _ _ _)).row
        have HM9 := hide hm9
        have HB9 := hide h9.below
        have hw9 : w.heap.size ≤ w9.heap.size := h9.below.size
        unfold finish at HF
        simp only at HF
        generalize St.e _ = E at *
        clear h9 hm9 hg9 H
        by_cases hE : E = 0
        · have hR : Hid (R = (_, 0)) := hide (by rw [HF.out, if_pos hE])
          clear HF
          subst hE
          go_wp2_with (first | ((with_reducible (show wpList _ _ _ ({ dst := _, op := Op.load _ _, type := _, pos := _, after := _, guard := _ } :: _) _ _)); refine wpList_load_row rfl 30 _ rfl (w.heap.size + 1 + 1) rfl 30 cs (0, 0) _ hb9 Try.underlying30 rfl (msg_size cs hsz) ?_) | ((with_reducible (show wpList _ _ _ ({ dst := _, op := Op.store _ _ _, type := _, pos := _, after := _, guard := _ } :: _) _ _)); refine wpList_store_lies rfl 30 _ _ rfl w.heap.size cs rfl rfl _ _ e1 (msg_size cs hsz) hsz.symm hone ?_))
          intro w7 h7 b7 n7 z7
          go_wp2
          (try simp only [Exit.inBlock, Exit.then])
          rw [hR.out]
          exact bodyPost_ret (results_row_tmp Try.results13 _ _ w.heap.size _ _ _ _ rfl h7 Try.underlying30 rfl (msg_size _ hsz) _ rfl) rfl ⟨⟨_, rfl, HM9.out _ ⟨Nat.le_of_eq z7.symm, fun k _ hk => n7 k (by omega)⟩⟩, HB9.out.trans (b7 _ (Nat.le_refl _))⟩
        · have hR : Hid (R = (MsgM.zero, E)) := hide (by rw [HF.out, if_neg hE])
          have hE' : (E != 0) = true := by simpa using hE
          clear HF
          go_upto_region 38 with fail
          refine wp_region_noPanic ?_
          refine wp_region_held_drew (S := fun w' => w'.heap[w.heap.size]? = some (.cells zeroCells 30 (0, 0)) ∧ w'.cell? ⟨w.heap.size + 1, 3, none⟩ = some (.int .i64 E) ∧ Below w.heap.size w9 w') (by kernel_rfl) (⟨e1, c9, (Below.refl _ _).drew⟩) (fun hHeld => ?_)
          refine wpAnyH_take (i := 0) (oi := ⟨some 191, .build 30 #[], _, _, _, none⟩) (v := ?_) rfl (by kernel_rfl) (by kernel_rfl) (by kernel_rfl) (fun _ _ _ h => h) (Or.inl ⟨by rfl, ?_⟩) hHeld ?_
          rotate_left
          · (intro wq hSw; go_simp; try with_reducible rfl)
          simp only [Act.put, List.setIfInBounds_toArray, List.set_cons_zero, List.set_cons_succ]
          refine wpAnyH_take (i := 1) (oi := ⟨some 192, .move (.tmp 8), _, _, _, none⟩) (v := ?_) rfl (by kernel_rfl) (by kernel_rfl) (by kernel_rfl) (fun _ _ _ h => h) (Or.inl ⟨by rfl, ?_⟩) hHeld ?_
          rotate_left
          · (intro wq hSw; go_simp; try with_reducible rfl)
          simp only [Act.put, List.setIfInBounds_toArray, List.set_cons_zero, List.set_cons_succ]
          refine wpAnyH_take (i := 2) (oi := ⟨some 193, .nilCheck (.tmp 192), _, _, _, none⟩) (v := ?_) rfl (by kernel_rfl) (by kernel_rfl) (by kernel_rfl) (fun _ _ _ h => h) (Or.inl ⟨by rfl, ?_⟩) hHeld ?_
          rotate_left
          · (intro wq hSw; go_simp; try with_reducible rfl)
          simp only [Act.put, List.setIfInBounds_toArray, List.set_cons_zero, List.set_cons_succ]
          refine wpAnyH_take (i := 3) (oi := ⟨some 194, .fieldAddr 60 (.tmp 193) 3, _, _, _, none⟩) (v := ?_) rfl (by kernel_rfl) (by kernel_rfl) (by kernel_rfl) (fun _ _ _ h => h) (Or.inl ⟨by rfl, ?_⟩) hHeld ?_
          rotate_left
          · (intro wq hSw; go_simp; try with_reducible rfl)
          simp only [Act.put, List.setIfInBounds_toArray, List.set_cons_zero, List.set_cons_succ]
          refine wpAnyH_take (i := 4) (oi := ⟨some 195, .load 31 (.tmp 194), _, _, _, none⟩) (v := ?_) rfl (by kernel_rfl) (by kernel_rfl) (by kernel_rfl) (fun _ _ _ h => h) (Or.inl ⟨by rfl, ?_⟩) hHeld ?_
          rotate_left
          · (intro wq hSw; have hcv := hSw.2.1; go_simp; try with_reducible rfl)
          simp only [Act.put, List.setIfInBounds_toArray, List.set_cons_zero, List.set_cons_succ]
          refine wpAnyH_ready (rs := [5]) (by kernel_rfl) (by simp) ?_
          refine AllReadyH.cons (o := ⟨none, .store 30 (.tmp 6) (.tmp 191), _, _, _, none⟩) rfl (fun K hK => ?_) ?_
          · refine step_store (by rfl) _ _ _ (by rfl) w.heap.size zeroCells (by rfl) (by rfl) _ _ hHeld.1 (msg_size _ rfl) rfl zero_one ?_
            intro w6 h6 b6 n6 z6
            refine hK.out _ _ ?_ (fun hHeld => ?_)
            · exact ⟨h6, (World.cell?_of_block (n6 (w.heap.size + 1) (by omega))).trans hHeld.2.1, hHeld.2.2.trans (b6 _ (Nat.le_refl _))⟩
            clear hK K
            try simp only [Act.put]
            refine wpAnyH_take (i := 6) (oi := ⟨some 7, .assign (.tmp 195), _, _, _, none⟩) (v := ?_) rfl (by kernel_rfl) (by kernel_rfl) (by kernel_rfl) (fun _ _ _ h => h) (Or.inl ⟨by rfl, ?_⟩) hHeld ?_
            rotate_left
            · (intro wq hSw; go_simp; try with_reducible rfl)
            simp only [Act.put, List.setIfInBounds_toArray, List.set_cons_zero, List.set_cons_succ]
            refine wpAnyH_done (by kernel_rfl) ?_ _
            refine NoPanic.normal ?_
            go_wp2
            (try simp only [Exit.inBlock, Exit.then])
            rw [hR.out]
            exact bodyPost_ret (results_row_tmp Try.results13 _ _ w.heap.size _ _ _ _ rfl h6 Try.underlying30 rfl (msg_size _ rfl) _ rfl) rfl ⟨⟨_, rfl, MsgAt.zero _⟩, HB9.out.trans hHeld.2.2⟩
          exact AllReadyH.nil

end Go.Proofs.Ytemomgcapjpaiaa
