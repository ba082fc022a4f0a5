/-
  The document's own answers for diag: Parse, way by way.
-/
import Derived.Test.YtemomgcapjpaiaaDiagRef
import Derived.Test.YtemomgcapjpaiaaJoinB
import Derived.Test.YtemomgcapjpaiaaJoinA
import Derived.Deep.QuietTactic
import Derived.Deep.RegionHeld3
namespace Go.Proofs.Ytemomgcapjpaiaa
open Go.RowKit
open Word Bits Cursor

set_option maxRecDepth 20000 in
set_option maxHeartbeats 4000000 in
theorem refParse_1_12 (a : Option Addr) (len cap : Nat) (xs : List UInt8) (w : World) (hx : Bs w a len cap xs) (hlen : len ≤ 100000) :
    Calls Try.prog 13 #[.int .i64 1, byteV 12, .slice a len cap] w fun e w' =>
      (∃ v, e = .returned (.tuple #[v, .int .i64 (Diag.parse 1 12 xs).2]) ∧ MsgAt w' v (Diag.parse 1 12 xs).1) ∧ Below w.heap.size w w' := by
  have HX := hide hx
  clear hx
  have HRf : Hid (Diag.parse 1 12 xs = finish (Diag.Frm.read 5 (MsgM.of 12, St.new xs))) := hide (Diag.parse_some (by decide))
  obtain ⟨R, hR⟩ : ∃ R, R = Diag.parse 1 12 xs := ⟨_, rfl⟩
  rw [← hR] at HRf ⊢
  clear hR
  rw [show byteV 12 = .int .u8 (12 : Int) from rfl]
  go_enter Try.func13, Try.ntmps13
  go_upto_region 29 with ((with_reducible (show wpList _ _ _ ({ dst := _, op := Op.store _ _ _, type := _, pos := _, after := _, guard := _ } :: _) _ _)); refine wpList_store_lies rfl 30 _ _ rfl (w.heap.size + 1 + 1) (codeCells 12) rfl rfl _ _ (heap_alloc3_new _ _ _ _) (msg_size _ rfl) rfl (by simp [Value.oneCell']) ?_; intro w1 h1 b1 n1 z1)
  obtain ⟨h, hz⟩ := rr_entry HX.out hlen h1 b1
  have H0 := hide h
  have HZ := hide hz
  clear h hz h1 b1 n1 z1 HX
  go_wp2_with fail
  refine (rr_byte H0.out).mono ?_
  rintro e w2 ⟨rfl, h2⟩
  have H2 := hide h2
  clear h2 H0
  obtain ⟨kk, hkk⟩ : ∃ n : Nat, n = (St.new xs).byte.toNat := ⟨_, rfl⟩
  have bk : kk < 256 := by rw [hkk]; exact byte_lt _
  obtain ⟨okl, hok⟩ : ∃ b : Bool, b = (decide (6 ≤ kk) && decide (kk ≤ 70)) := ⟨_, rfl⟩
  have HF1 : Hid (R = finish ((((Diag.putStat (MsgM.of 12) (Diag.rStat ((St.new xs).afterB.need okl 5)).1).put_messages (Diag.rStat ((St.new xs).afterB.need okl 5)).2.word).put_data ((Diag.rStat ((St.new xs).afterB.need okl 5)).2.afterW.got ((kk : Int) - 6) 1)), (Diag.rStat ((St.new xs).afterB.need okl 5)).2.afterW.next ((kk : Int) - 6) 1)) := hide (by rw [HRf.out, hok, hkk]; rfl)
  rw [show byteV (St.new xs).byte = .int .u8 (kk : Int) by rw [hkk]]
  have HOKl := hide hok
  have hwk : IntKind.i64.wrap (kk : Int) = (kk : Int) := by rw [IntKind.wrap_i64]; omega
  have hwk6 : IntKind.i64.wrap ((kk : Int) - 6) = (kk : Int) - 6 := by rw [IntKind.wrap_i64]; omega
  clear hkk hok HRf
  generalize (St.new xs).afterB = s2 at *
  by_cases hp : 6 ≤ kk
  all_goals
    go_wp2_with fail
    refine (rr_need H2.out _ _).mono ?_
    rintro e w3 ⟨rfl, h3⟩
    have H3 : Hid (RRd w w1 (w.heap.size + 3) (w.heap.size + 1 + 1) (w.heap.size + 1) a len cap xs (MsgM.of 12) (s2.need okl 5) w3) := hide (by
      first
        | (rw [show okl = false by rw [HOKl.out]; simp; omega]; exact h3)
        | (rw [show okl = decide ((kk : Int) ≤ 70) by rw [HOKl.out, Bool.eq_iff_iff]; simp; omega]; exact h3))
    clear h3 H2 HOKl
    generalize s2.need okl 5 = s3 at *
    go_wp2_with fail
    refine (rr_word H3.out).mono ?_
    rintro e v5 ⟨rfl, h_⟩
    have f_ := h_.mb.fr 9
    have k_ := h_.mb.c_status
    have H5 := hide (h_.put_status (s3).word)
    clear h_ H3
    go_upto_region 32 with fail
    generalize v5.setCell ⟨w.heap.size + 1 + 1, 9, none⟩ (wordV (s3).word) = v5' at *
    clear f_ k_
    obtain ⟨st, hst⟩ : ∃ n : Nat, n = s3.word.toNat := ⟨_, rfl⟩
    have bst : st < 65536 := by rw [hst]; exact word_lt _
    obtain ⟨ok, hok⟩ : ∃ b : Bool, b = Diag.isBusy s3.word := ⟨_, rfl⟩
    have HBU : Hid (ok = (decide (st = 0) || decide (st = 65535))) := hide (by rw [hok, hst]; rfl)
    have HST : Hid ((.int .u16 (st : Int) : Value) = wordV s3.word) := hide (by rw [hst])
    have HF0 : Hid (R = finish (((((MsgM.of 12).put_status s3.word).put_events (s3.afterW.need ok 6).word).put_messages (s3.afterW.need ok 6).afterW.word).put_data ((s3.afterW.need ok 6).afterW.afterW.got ((kk : Int) - 6) 1), (s3.afterW.need ok 6).afterW.afterW.next ((kk : Int) - 6) 1)) := hide (by rw [HF1.out, hok]; rfl)
    clear hst hok HF1
    have ks : v5'.cell? ⟨w.heap.size + 1 + 1, 9, none⟩ = some (.int .u16 (st : Int)) := by rw [HST.out]; exact H5.out.mb.c_status
    generalize (MsgM.of 12).put_status s3.word = m5 at *
    generalize s3.afterW = d2 at *
    rcases (show st = 0 ∨ st = 65535 ∨ (st ≠ 0 ∧ st ≠ 65535) by omega) with h0 | h0 | ⟨h0, h0'⟩
    · subst h0
      have HOK : Hid (ok = true) := hide (by rw [HBU.out]; simp)
      go_wp2_with fail
      refine (rr_need H5.out _ _).mono ?_
      rintro e v6 ⟨rfl, h6⟩
      have H6 : Hid (RRd w w1 (w.heap.size + 3) (w.heap.size + 1 + 1) (w.heap.size + 1) a len cap xs m5 (d2.need ok 6) v6) := hide (by rw [HOK.out]; exact h6)
      clear h6 H5 HBU HOK ks HST
      generalize d2.need ok 6 = d3 at *
      have HF := HF0
      clear HF0
      go_wp2_with fail
      refine (rr_word H6.out).mono ?_
      rintro e v7 ⟨rfl, h_⟩
      have f_ := h_.mb.fr 10
      have k_ := h_.mb.c_events
      have H7 := hide (h_.put_events (d3).word)
      clear h_ H6
      go_upto_region 34 with fail
      generalize v7.setCell ⟨w.heap.size + 1 + 1, 10, none⟩ (wordV (d3).word) = v7' at *
      clear f_ k_
      generalize m5.put_events d3.word = m7 at *
      generalize d3.afterW = d7 at *
      go_wp2_with fail
      refine (rr_word H7.out).mono ?_
      rintro e v8 ⟨rfl, h_⟩
      have f_ := h_.mb.fr 11
      have k_ := h_.mb.c_messages
      have H8 := hide (h_.put_messages (d7).word)
      clear h_ H7
      go_upto_region 35 with fail
      generalize v8.setCell ⟨w.heap.size + 1 + 1, 11, none⟩ (wordV (d7).word) = v8' at *
      clear f_ k_
      generalize m7.put_messages d7.word = m8 at *
      generalize d7.afterW = d8 at *
      go_wp2_with fail
      refine (rr_bytes H8.out ((kk : Int) - 6)).mono ?_
      rintro e w4 ⟨⟨a4, c4, rfl, hx4⟩, h4⟩
      generalize d8.got ((kk : Int) - 6) 1 = D at *
      generalize d8.next ((kk : Int) - 6) 1 = N at *
      obtain ⟨ad, ld, cd, k4, _⟩ := h4.mb.c_data
      have f4 := h4.mb.fr 14
      have H := hide (h4.put_data hx4)
      clear h4 hx4 H8
      go_wp2_with fail
      refine (rr_end H.out).mono ?_
      rintro e w9 ⟨rfl, h9⟩
      obtain ⟨kc, _, _, hg9, _, _⟩ := h9.cur
      have c9 := rcur_c3 hg9
      obtain ⟨cs, hb9, hm9⟩ := h9.box
      have e1 := (h9.keep w.heap.size (by omega) (by omega) (by omega)).trans HZ.out
      obtain ⟨hsz, hone⟩ := (hm9 _ (Off.refl _ _ _)).row
      have HM9 := hide hm9
      have HB9 := hide h9.below
      have hw9 : w.heap.size ≤ w9.heap.size := h9.below.size
      unfold finish at HF
      simp only at HF
      generalize St.e _ = E at *
      clear h9 hm9 hg9 H
      by_cases hE : E = 0
      · have hR : Hid (R = (_, 0)) := hide (by rw [HF.out, if_pos hE])
        clear HF
        subst hE
        go_wp2_with (first | ((with_reducible (show wpList _ _ _ ({ dst := _, op := Op.load _ _, type := _, pos := _, after := _, guard := _ } :: _) _ _)); refine wpList_load_row rfl 30 _ rfl (w.heap.size + 1 + 1) rfl 30 cs (0, 0) _ hb9 Try.underlying30 rfl (msg_size cs hsz) ?_) | ((with_reducible (show wpList _ _ _ ({ dst := _, op := Op.store _ _ _, type := _, pos := _, after := _, guard := _ } :: _) _ _)); refine wpList_store_lies rfl 30 _ _ rfl w.heap.size cs rfl rfl _ _ e1 (msg_size cs hsz) hsz.symm hone ?_))
        intro w7 h7 b7 n7 z7
        go_wp2
        (try simp only [Exit.inBlock, Exit.then])
        rw [hR.out]
        exact bodyPost_ret (results_row_tmp Try.results13 _ _ w.heap.size _ _ _ _ rfl h7 Try.underlying30 rfl (msg_size _ hsz) _ rfl) rfl ⟨⟨_, rfl, HM9.out _ ⟨Nat.le_of_eq z7.symm, fun k _ hk => n7 k (by omega)⟩⟩, HB9.out.trans (b7 _ (Nat.le_refl _))⟩
      · have hR : Hid (R = (MsgM.zero, E)) := hide (by rw [HF.out, if_neg hE])
        have hE' : (E != 0) = true := by simpa using hE
        clear HF
        go_upto_region 38 with fail
        refine wp_region_noPanic ?_
        refine wp_region_held_drew (S := fun w' => w'.heap[w.heap.size]? = some (.cells zeroCells 30 (0, 0)) ∧ w'.cell? ⟨w.heap.size + 1, 3, none⟩ = some (.int .i64 E) ∧ Below w.heap.size w9 w') (by kernel_rfl) (⟨e1, c9, (Below.refl _ _).drew⟩) (fun hHeld => ?_)
        refine wpAnyH_take (i := 0) (oi := ⟨some 191, .build 30 #[], _, _, _, none⟩) (v := ?_) rfl (by kernel_rfl) (by kernel_rfl) (by kernel_rfl) (fun _ _ _ h => h) (Or.inl ⟨by rfl, ?_⟩) hHeld ?_
        rotate_left
        · (intro wq hSw; go_simp; try with_reducible rfl)
        simp only [Act.put, List.setIfInBounds_toArray, List.set_cons_zero, List.set_cons_succ]
        refine wpAnyH_take (i := 1) (oi := ⟨some 192, .move (.tmp 8), _, _, _, none⟩) (v := ?_) rfl (by kernel_rfl) (by kernel_rfl) (by kernel_rfl) (fun _ _ _ h => h) (Or.inl ⟨by rfl, ?_⟩) hHeld ?_
        rotate_left
        · (intro wq hSw; go_simp; try with_reducible rfl)
        simp only [Act.put, List.setIfInBounds_toArray, List.set_cons_zero, List.set_cons_succ]
        refine wpAnyH_take (i := 2) (oi := ⟨some 193, .nilCheck (.tmp 192), _, _, _, none⟩) (v := ?_) rfl (by kernel_rfl) (by kernel_rfl) (by kernel_rfl) (fun _ _ _ h => h) (Or.inl ⟨by rfl, ?_⟩) hHeld ?_
        rotate_left
        · (intro wq hSw; go_simp; try with_reducible rfl)
        simp only [Act.put, List.setIfInBounds_toArray, List.set_cons_zero, List.set_cons_succ]
        refine wpAnyH_take (i := 3) (oi := ⟨some 194, .fieldAddr 60 (.tmp 193) 3, _, _, _, none⟩) (v := ?_) rfl (by kernel_rfl) (by kernel_rfl) (by kernel_rfl) (fun _ _ _ h => h) (Or.inl ⟨by rfl, ?_⟩) hHeld ?_
        rotate_left
        · (intro wq hSw; go_simp; try with_reducible rfl)
        simp only [Act.put, List.setIfInBounds_toArray, List.set_cons_zero, List.set_cons_succ]
        refine wpAnyH_take (i := 4) (oi := ⟨some 195, .load 31 (.tmp 194), _, _, _, none⟩) (v := ?_) rfl (by kernel_rfl) (by kernel_rfl) (by kernel_rfl) (fun _ _ _ h => h) (Or.inl ⟨by rfl, ?_⟩) hHeld ?_
        rotate_left
        · (intro wq hSw; have hcv := hSw.2.1; go_simp; try with_reducible rfl)
        simp only [Act.put, List.setIfInBounds_toArray, List.set_cons_zero, List.set_cons_succ]
        refine wpAnyH_ready (rs := [5]) (by kernel_rfl) (by simp) ?_
        refine AllReadyH.cons (o := ⟨none, .store 30 (.tmp 6) (.tmp 191), _, _, _, none⟩) rfl (fun K hK => ?_) ?_
        · refine step_store (by rfl) _ _ _ (by rfl) w.heap.size zeroCells (by rfl) (by rfl) _ _ hHeld.1 (msg_size _ rfl) rfl zero_one ?_
          intro w6 h6 b6 n6 z6
          refine hK.out _ _ ?_ (fun hHeld => ?_)
          · exact ⟨h6, (World.cell?_of_block (n6 (w.heap.size + 1) (by omega))).trans hHeld.2.1, hHeld.2.2.trans (b6 _ (Nat.le_refl _))⟩
          clear hK K
          try simp only [Act.put]
          refine wpAnyH_take (i := 6) (oi := ⟨some 7, .assign (.tmp 195), _, _, _, none⟩) (v := ?_) rfl (by kernel_rfl) (by kernel_rfl) (by kernel_rfl) (fun _ _ _ h => h) (Or.inl ⟨by rfl, ?_⟩) hHeld ?_
          rotate_left
          · (intro wq hSw; go_simp; try with_reducible rfl)
          simp only [Act.put, List.setIfInBounds_toArray, List.set_cons_zero, List.set_cons_succ]
          refine wpAnyH_done (by kernel_rfl) ?_ _
          refine NoPanic.normal ?_
          go_wp2
          (try simp only [Exit.inBlock, Exit.then])
          rw [hR.out]
          exact bodyPost_ret (results_row_tmp Try.results13 _ _ w.heap.size _ _ _ _ rfl h6 Try.underlying30 rfl (msg_size _ rfl) _ rfl) rfl ⟨⟨_, rfl, MsgAt.zero _⟩, HB9.out.trans hHeld.2.2⟩
        exact AllReadyH.nil
    · subst h0
      have HOK : Hid (ok = true) := hide (by rw [HBU.out]; simp)
      go_wp2_with fail
      refine (rr_need H5.out _ _).mono ?_
      rintro e v6 ⟨rfl, h6⟩
      have H6 : Hid (RRd w w1 (w.heap.size + 3) (w.heap.size + 1 + 1) (w.heap.size + 1) a len cap xs m5 (d2.need ok 6) v6) := hide (by rw [HOK.out]; exact h6)
      clear h6 H5 HBU HOK ks HST
      generalize d2.need ok 6 = d3 at *
      have HF := HF0
      clear HF0
      go_wp2_with fail
      refine (rr_word H6.out).mono ?_
      rintro e v7 ⟨rfl, h_⟩
      have f_ := h_.mb.fr 10
      have k_ := h_.mb.c_events
      have H7 := hide (h_.put_events (d3).word)
      clear h_ H6
      go_upto_region 34 with fail
      generalize v7.setCell ⟨w.heap.size + 1 + 1, 10, none⟩ (wordV (d3).word) = v7' at *
      clear f_ k_
      generalize m5.put_events d3.word = m7 at *
      generalize d3.afterW = d7 at *
      go_wp2_with fail
      refine (rr_word H7.out).mono ?_
      rintro e v8 ⟨rfl, h_⟩
      have f_ := h_.mb.fr 11
      have k_ := h_.mb.c_messages
      have H8 := hide (h_.put_messages (d7).word)
      clear h_ H7
      go_upto_region 35 with fail
      generalize v8.setCell ⟨w.heap.size + 1 + 1, 11, none⟩ (wordV (d7).word) = v8' at *
      clear f_ k_
      generalize m7.put_messages d7.word = m8 at *
      generalize d7.afterW = d8 at *
      go_wp2_with fail
      refine (rr_bytes H8.out ((kk : Int) - 6)).mono ?_
      rintro e w4 ⟨⟨a4, c4, rfl, hx4⟩, h4⟩
      generalize d8.got ((kk : Int) - 6) 1 = D at *
      generalize d8.next ((kk : Int) - 6) 1 = N at *
      obtain ⟨ad, ld, cd, k4, _⟩ := h4.mb.c_data
      have f4 := h4.mb.fr 14
      have H := hide (h4.put_data hx4)
      clear h4 hx4 H8
      go_wp2_with fail
      refine (rr_end H.out).mono ?_
      rintro e w9 ⟨rfl, h9⟩
      obtain ⟨kc, _, _, hg9, _, _⟩ := h9.cur
      have c9 := rcur_c3 hg9
      obtain ⟨cs, hb9, hm9⟩ := h9.box
      have e1 := (h9.keep w.heap.size (by omega) (by omega) (by omega)).trans HZ.out
      obtain ⟨hsz, hone⟩ := (hm9 _ (Off.refl _ _ _)).row
      have HM9 := hide hm9
      have HB9 := hide h9.below
      have hw9 : w.heap.size ≤ w9.heap.size := h9.below.size
      unfold finish at HF
      simp only at HF
      generalize St.e _ = E at *
      clear h9 hm9 hg9 H
      by_cases hE : E = 0
      · have hR : Hid (R = (_, 0)) := hide (by rw [HF.out, if_pos hE])
        clear HF
        subst hE
        go_wp2_with (first | ((with_reducible (show wpList _ _ _ ({ dst := _, op := Op.load _ _, type := _, pos := _, after := _, guard := _ } :: _) _ _)); refine wpList_load_row rfl 30 _ rfl (w.heap.size + 1 + 1) rfl 30 cs (0, 0) _ hb9 Try.underlying30 rfl (msg_size cs hsz) ?_) | ((with_reducible (show wpList _ _ _ ({ dst := _, op := Op.store _ _ _, type := _, pos := _, after := _, guard := _ } :: _) _ _)); refine wpList_store_lies rfl 30 _ _ rfl w.heap.size cs rfl rfl _ _ e1 (msg_size cs hsz) hsz.symm hone ?_))
        intro w7 h7 b7 n7 z7
        go_wp2
        (try simp only [Exit.inBlock, Exit.then])
        rw [hR.out]
        exact bodyPost_ret (results_row_tmp Try.results13 _ _ w.heap.size _ _ _ _ rfl h7 Try.underlying30 rfl (msg_size _ hsz) _ rfl) rfl ⟨⟨_, rfl, HM9.out _ ⟨Nat.le_of_eq z7.symm, fun k _ hk => n7 k (by omega)⟩⟩, HB9.out.trans (b7 _ (Nat.le_refl _))⟩
      · have hR : Hid (R = (MsgM.zero, E)) := hide (by rw [HF.out, if_neg hE])
        have hE' : (E != 0) = true := by simpa using hE
        clear HF
        go_upto_region 38 with fail
        refine wp_region_noPanic ?_
        refine wp_region_held_drew (S := fun w' => w'.heap[w.heap.size]? = some (.cells zeroCells 30 (0, 0)) ∧ w'.cell? ⟨w.heap.size + 1, 3, none⟩ = some (.int .i64 E) ∧ Below w.heap.size w9 w') (by kernel_rfl) (⟨e1, c9, (Below.refl _ _).drew⟩) (fun hHeld => ?_)
        refine wpAnyH_take (i := 0) (oi := ⟨some 191, .build 30 #[], _, _, _, none⟩) (v := ?_) rfl (by kernel_rfl) (by kernel_rfl) (by kernel_rfl) (fun _ _ _ h => h) (Or.inl ⟨by rfl, ?_⟩) hHeld ?_
        rotate_left
        · (intro wq hSw; go_simp; try with_reducible rfl)
        simp only [Act.put, List.setIfInBounds_toArray, List.set_cons_zero, List.set_cons_succ]
        refine wpAnyH_take (i := 1) (oi := ⟨some 192, .move (.tmp 8), _, _, _, none⟩) (v := ?_) rfl (by kernel_rfl) (by kernel_rfl) (by kernel_rfl) (fun _ _ _ h => h) (Or.inl ⟨by rfl, ?_⟩) hHeld ?_
        rotate_left
        · (intro wq hSw; go_simp; try with_reducible rfl)
        simp only [Act.put, List.setIfInBounds_toArray, List.set_cons_zero, List.set_cons_succ]
        refine wpAnyH_take (i := 2) (oi := ⟨some 193, .nilCheck (.tmp 192), _, _, _, none⟩) (v := ?_) rfl (by kernel_rfl) (by kernel_rfl) (by kernel_rfl) (fun _ _ _ h => h) (Or.inl ⟨by rfl, ?_⟩) hHeld ?_
        rotate_left
        · (intro wq hSw; go_simp; try with_reducible rfl)
        simp only [Act.put, List.setIfInBounds_toArray, List.set_cons_zero, List.set_cons_succ]
        refine wpAnyH_take (i := 3) (oi := ⟨some 194, .fieldAddr 60 (.tmp 193) 3, _, _, _, none⟩) (v := ?_) rfl (by kernel_rfl) (by kernel_rfl) (by kernel_rfl) (fun _ _ _ h => h) (Or.inl ⟨by rfl, ?_⟩) hHeld ?_
        rotate_left
        · (intro wq hSw; go_simp; try with_reducible rfl)
        simp only [Act.put, List.setIfInBounds_toArray, List.set_cons_zero, List.set_cons_succ]
        refine wpAnyH_take (i := 4) (oi := ⟨some 195, .load 31 (.tmp 194), _, _, _, none⟩) (v := ?_) rfl (by kernel_rfl) (by kernel_rfl) (by kernel_rfl) (fun _ _ _ h => h) (Or.inl ⟨by rfl, ?_⟩) hHeld ?_
        rotate_left
        · (intro wq hSw; have hcv := hSw.2.1; go_simp; try with_reducible rfl)
        simp only [Act.put, List.setIfInBounds_toArray, List.set_cons_zero, List.set_cons_succ]
        refine wpAnyH_ready (rs := [5]) (by kernel_rfl) (by simp) ?_
        refine AllReadyH.cons (o := ⟨none, .store 30 (.tmp 6) (.tmp 191), _, _, _, none⟩) rfl (fun K hK => ?_) ?_
        · refine step_store (by rfl) _ _ _ (by rfl) w.heap.size zeroCells (by rfl) (by rfl) _ _ hHeld.1 (msg_size _ rfl) rfl zero_one ?_
          intro w6 h6 b6 n6 z6
          refine hK.out _ _ ?_ (fun hHeld => ?_)
          · exact ⟨h6, (World.cell?_of_block (n6 (w.heap.size + 1) (by omega))).trans hHeld.2.1, hHeld.2.2.trans (b6 _ (Nat.le_refl _))⟩
          clear hK K
          try simp only [Act.put]
          refine wpAnyH_take (i := 6) (oi := ⟨some 7, .assign (.tmp 195), _, _, _, none⟩) (v := ?_) rfl (by kernel_rfl) (by kernel_rfl) (by kernel_rfl) (fun _ _ _ h => h) (Or.inl ⟨by rfl, ?_⟩) hHeld ?_
          rotate_left
          · (intro wq hSw; go_simp; try with_reducible rfl)
          simp only [Act.put, List.setIfInBounds_toArray, List.set_cons_zero, List.set_cons_succ]
          refine wpAnyH_done (by kernel_rfl) ?_ _
          refine NoPanic.normal ?_
          go_wp2
          (try simp only [Exit.inBlock, Exit.then])
          rw [hR.out]
          exact bodyPost_ret (results_row_tmp Try.results13 _ _ w.heap.size _ _ _ _ rfl h6 Try.underlying30 rfl (msg_size _ rfl) _ rfl) rfl ⟨⟨_, rfl, MsgAt.zero _⟩, HB9.out.trans hHeld.2.2⟩
        exact AllReadyH.nil
    · have q0 : ((st : Int) == 0) = false := by simp; omega
      have q1 : ((st : Int) == 65535) = false := by simp; omega
      have HOK : Hid (ok = false) := hide (by rw [HBU.out]; simp [h0, h0'])
      go_wp2_with fail
      refine (rr_need H5.out _ _).mono ?_
      rintro e v6 ⟨rfl, h6⟩
      have H6 : Hid (RRd w w1 (w.heap.size + 3) (w.heap.size + 1 + 1) (w.heap.size + 1) a len cap xs m5 (d2.need ok 6) v6) := hide (by rw [HOK.out]; exact h6)
      clear h6 H5 HBU HOK ks HST
      generalize d2.need ok 6 = d3 at *
      have HF := HF0
      clear HF0
      go_wp2_with fail
      refine (rr_word H6.out).mono ?_
      rintro e v7 ⟨rfl, h_⟩
      have f_ := h_.mb.fr 10
      have k_ := h_.mb.c_events
      have H7 := hide (h_.put_events (d3).word)
      clear h_ H6
      go_upto_region 34 with fail
      generalize v7.setCell ⟨w.heap.size + 1 + 1, 10, none⟩ (wordV (d3).word) = v7' at *
      clear f_ k_
      generalize m5.put_events d3.word = m7 at *
      generalize d3.afterW = d7 at *
      go_wp2_with fail
      refine (rr_word H7.out).mono ?_
      rintro e v8 ⟨rfl, h_⟩
      have f_ := h_.mb.fr 11
      have k_ := h_.mb.c_messages
      have H8 := hide (h_.put_messages (d7).word)
      clear h_ H7
      go_upto_region 35 with fail
      generalize v8.setCell ⟨w.heap.size + 1 + 1, 11, none⟩ (wordV (d7).word) = v8' at *
      clear f_ k_
      generalize m7.put_messages d7.word = m8 at *
      generalize d7.afterW = d8 at *
      go_wp2_with fail
      refine (rr_bytes H8.out ((kk : Int) - 6)).mono ?_
      rintro e w4 ⟨⟨a4, c4, rfl, hx4⟩, h4⟩
      generalize d8.got ((kk : Int) - 6) 1 = D at *
      generalize d8.next ((kk : Int) - 6) 1 = N at *
      obtain ⟨ad, ld, cd, k4, _⟩ := h4.mb.c_data
      have f4 := h4.mb.fr 14
      have H := hide (h4.put_data hx4)
      clear h4 hx4 H8
      go_wp2_with fail
      refine (rr_end H.out).mono ?_
      rintro e w9 ⟨rfl, h9⟩
      obtain ⟨kc, _, _, hg9, _, _⟩ := h9.cur
      have c9 := rcur_c3 hg9
      obtain ⟨cs, hb9, hm9⟩ := h9.box
      have e1 := (h9.keep w.heap.size (by omega) (by omega) (by omega)).trans HZ.out
      obtain ⟨hsz, hone⟩ := (hm9 _ (Off.refl _ _ _)).row
      have HM9 := hide hm9
      have HB9 := hide h9.below
      have hw9 : w.heap.size ≤ w9.heap.size := h9.below.size
      unfold finish at HF
      simp only at HF
      generalize St.e _ = E at *
      clear h9 hm9 hg9 H
      by_cases hE : E = 0
      · have hR : Hid (R = (_, 0)) := hide (by rw [HF.out, if_pos hE])
        clear HF
        subst hE
        go_wp2_with (first | ((with_reducible (show wpList _ _ _ ({ dst := _, op := Op.load _ _, type := _, pos := _, after := _, guard := _ } :: _) _ _)); refine wpList_load_row rfl 30 _ rfl (w.heap.size + 1 + 1) rfl 30 cs (0, 0) _ hb9 Try.underlying30 rfl (msg_size cs hsz) ?_) | ((with_reducible (show wpList _ _ _ ({ dst := _, op := Op.store _ _ _, type := _, pos := _, after := _, guard := _ } :: _) _ _)); refine wpList_store_lies rfl 30 _ _ rfl w.heap.size cs rfl rfl _ _ e1 (msg_size cs hsz) hsz.symm hone ?_))
        intro w7 h7 b7 n7 z7
        go_wp2
        (try simp only [Exit.inBlock, Exit.then])
        rw [hR.out]
        exact bodyPost_ret (results_row_tmp Try.results13 _ _ w.heap.size _ _ _ _ rfl h7 Try.underlying30 rfl (msg_size _ hsz) _ rfl) rfl ⟨⟨_, rfl, HM9.out _ ⟨Nat.le_of_eq z7.symm, fun k _ hk => n7 k (by omega)⟩⟩, HB9.out.trans (b7 _ (Nat.le_refl _))⟩
      · have hR : Hid (R = (MsgM.zero, E)) := hide (by rw [HF.out, if_neg hE])
        have hE' : (E != 0) = true := by simpa using hE
        clear HF
        go_upto_region 38 with fail
        refine wp_region_noPanic ?_
        refine wp_region_held_drew (S := fun w' => w'.heap[w.heap.size]? = some (.cells zeroCells 30 (0, 0)) ∧ w'.cell? ⟨w.heap.size + 1, 3, none⟩ = some (.int .i64 E) ∧ Below w.heap.size w9 w') (by kernel_rfl) (⟨e1, c9, (Below.refl _ _).drew⟩) (fun hHeld => ?_)
        refine wpAnyH_take (i := 0) (oi := ⟨some 191, .build 30 #[], _, _, _, none⟩) (v := ?_) rfl (by kernel_rfl) (by kernel_rfl) (by kernel_rfl) (fun _ _ _ h => h) (Or.inl ⟨by rfl, ?_⟩) hHeld ?_
        rotate_left
        · (intro wq hSw; go_simp; try with_reducible rfl)
        simp only [Act.put, List.setIfInBounds_toArray, List.set_cons_zero, List.set_cons_succ]
        refine wpAnyH_take (i := 1) (oi := ⟨some 192, .move (.tmp 8), _, _, _, none⟩) (v := ?_) rfl (by kernel_rfl) (by kernel_rfl) (by kernel_rfl) (fun _ _ _ h => h) (Or.inl ⟨by rfl, ?_⟩) hHeld ?_
        rotate_left
        · (intro wq hSw; go_simp; try with_reducible rfl)
        simp only [Act.put, List.setIfInBounds_toArray, List.set_cons_zero, List.set_cons_succ]
        refine wpAnyH_take (i := 2) (oi := ⟨some 193, .nilCheck (.tmp 192), _, _, _, none⟩) (v := ?_) rfl (by kernel_rfl) (by kernel_rfl) (by kernel_rfl) (fun _ _ _ h => h) (Or.inl ⟨by rfl, ?_⟩) hHeld ?_
        rotate_left
        · (intro wq hSw; go_simp; try with_reducible rfl)
        simp only [Act.put, List.setIfInBounds_toArray, List.set_cons_zero, List.set_cons_succ]
        refine wpAnyH_take (i := 3) (oi := ⟨some 194, .fieldAddr 60 (.tmp 193) 3, _, _, _, none⟩) (v := ?_) rfl (by kernel_rfl) (by kernel_rfl) (by kernel_rfl) (fun _ _ _ h => h) (Or.inl ⟨by rfl, ?_⟩) hHeld ?_
        rotate_left
        · (intro wq hSw; go_simp; try with_reducible rfl)
        simp only [Act.put, List.setIfInBounds_toArray, List.set_cons_zero, List.set_cons_succ]
        refine wpAnyH_take (i := 4) (oi := ⟨some 195, .load 31 (.tmp 194), _, _, _, none⟩) (v := ?_) rfl (by kernel_rfl) (by kernel_rfl) (by kernel_rfl) (fun _ _ _ h => h) (Or.inl ⟨by rfl, ?_⟩) hHeld ?_
        rotate_left
        · (intro wq hSw; have hcv := hSw.2.1; go_simp; try with_reducible rfl)
        simp only [Act.put, List.setIfInBounds_toArray, List.set_cons_zero, List.set_cons_succ]
        refine wpAnyH_ready (rs := [5]) (by kernel_rfl) (by simp) ?_
        refine AllReadyH.cons (o := ⟨none, .store 30 (.tmp 6) (.tmp 191), _, _, _, none⟩) rfl (fun K hK => ?_) ?_
        · refine step_store (by rfl) _ _ _ (by rfl) w.heap.size zeroCells (by rfl) (by rfl) _ _ hHeld.1 (msg_size _ rfl) rfl zero_one ?_
          intro w6 h6 b6 n6 z6
          refine hK.out _ _ ?_ (fun hHeld => ?_)
          · exact ⟨h6, (World.cell?_of_block (n6 (w.heap.size + 1) (by omega))).trans hHeld.2.1, hHeld.2.2.trans (b6 _ (Nat.le_refl _))⟩
          clear hK K
          try simp only [Act.put]
          refine wpAnyH_take (i := 6) (oi := ⟨some 7, .assign (.tmp 195), _, _, _, none⟩) (v := ?_) rfl (by kernel_rfl) (by kernel_rfl) (by kernel_rfl) (fun _ _ _ h => h) (Or.inl ⟨by rfl, ?_⟩) hHeld ?_
          rotate_left
          · (intro wq hSw; go_simp; try with_reducible rfl)
          simp only [Act.put, List.setIfInBounds_toArray, List.set_cons_zero, List.set_cons_succ]
          refine wpAnyH_done (by kernel_rfl) ?_ _
          refine NoPanic.normal ?_
          go_wp2
          (try simp only [Exit.inBlock, Exit.then])
          rw [hR.out]
          exact bodyPost_ret (results_row_tmp Try.results13 _ _ w.heap.size _ _ _ _ rfl h6 Try.underlying30 rfl (msg_size _ rfl) _ rfl) rfl ⟨⟨_, rfl, MsgAt.zero _⟩, HB9.out.trans hHeld.2.2⟩
        exact AllReadyH.nil

set_option maxRecDepth 20000 in
set_option maxHeartbeats 4000000 in
theorem refParse_1_17 (a : Option Addr) (len cap : Nat) (xs : List UInt8) (w : World) (hx : Bs w a len cap xs) (hlen : len ≤ 100000) :
    Calls Try.prog 13 #[.int .i64 1, byteV 17, .slice a len cap] w fun e w' =>
      (∃ v, e = .returned (.tuple #[v, .int .i64 (Diag.parse 1 17 xs).2]) ∧ MsgAt w' v (Diag.parse 1 17 xs).1) ∧ Below w.heap.size w w' := by
  have HX := hide hx
  clear hx
  have HRf : Hid (Diag.parse 1 17 xs = finish (Diag.Frm.read 6 (MsgM.of 17, St.new xs))) := hide (Diag.parse_some (by decide))
  obtain ⟨R, hR⟩ : ∃ R, R = Diag.parse 1 17 xs := ⟨_, rfl⟩
  rw [← hR] at HRf ⊢
  clear hR
  rw [show byteV 17 = .int .u8 (17 : Int) from rfl]
  go_enter Try.func13, Try.ntmps13
  go_upto_region 7 with ((with_reducible (show wpList _ _ _ ({ dst := _, op := Op.store _ _ _, type := _, pos := _, after := _, guard := _ } :: _) _ _)); refine wpList_store_lies rfl 30 _ _ rfl (w.heap.size + 1 + 1) (codeCells 17) rfl rfl _ _ (heap_alloc3_new _ _ _ _) (msg_size _ rfl) rfl (by simp [Value.oneCell']) ?_; intro w1 h1 b1 n1 z1)
  obtain ⟨h, hz⟩ := rr_entry HX.out hlen h1 b1
  have H0 := hide h
  have HZ := hide hz
  clear h hz h1 b1 n1 z1 HX
  go_wp2_with fail
  refine (rr_byte H0.out).mono ?_
  rintro e w2 ⟨rfl, h2⟩
  have H2 := hide h2
  clear h2 H0
  obtain ⟨kk, hkk⟩ : ∃ n : Nat, n = (St.new xs).byte.toNat := ⟨_, rfl⟩
  have bk : kk < 256 := by rw [hkk]; exact byte_lt _
  obtain ⟨ok, hok⟩ : ∃ b : Bool, b = (decide (1 ≤ kk) && decide (kk ≤ 251)) := ⟨_, rfl⟩
  have HF0 : Hid (R = finish ((MsgM.of 17).put_data (((St.new xs).afterB.need ok 5).got (kk : Int) 1), ((St.new xs).afterB.need ok 5).next (kk : Int) 1)) := hide (by rw [HRf.out, hok, hkk]; rfl)
  rw [show byteV (St.new xs).byte = .int .u8 (kk : Int) by rw [hkk]]
  have HOK := hide hok
  have hwk : IntKind.i64.wrap (kk : Int) = (kk : Int) := by rw [IntKind.wrap_i64]; omega
  clear hkk hok HRf
  generalize (St.new xs).afterB = s2 at *
  by_cases hp : 1 ≤ kk
  all_goals
    go_wp2_with fail
    refine (rr_need H2.out _ _).mono ?_
    rintro e w3 ⟨rfl, h3⟩
    have H3 : Hid (RRd w w1 (w.heap.size + 3) (w.heap.size + 1 + 1) (w.heap.size + 1) a len cap xs (MsgM.of 17) (s2.need ok 5) w3) := hide (by
      first
        | (rw [show ok = false by rw [HOK.out]; simp; omega]; exact h3)
        | (rw [show ok = decide ((kk : Int) ≤ 251) by rw [HOK.out, Bool.eq_iff_iff]; simp; omega]; exact h3))
    clear h3 H2 HOK
    generalize s2.need ok 5 = s3 at *
    go_wp2_with fail
    refine (rr_bytes H3.out (kk : Int)).mono ?_
    rintro e w4 ⟨⟨a4, c4, rfl, hx4⟩, h4⟩
    have HF := HF0
    clear HF0
    generalize s3.got (kk : Int) 1 = D at *
    generalize s3.next (kk : Int) 1 = N at *
    obtain ⟨ad, ld, cd, k4, _⟩ := h4.mb.c_data
    have f4 := h4.mb.fr 14
    have H := hide (h4.put_data hx4)
    clear h4 hx4 H3
    go_wp2_with fail
    refine (rr_end H.out).mono ?_
    rintro e w9 ⟨rfl, h9⟩
    obtain ⟨kc, _, _, hg9, _, _⟩ := h9.cur
    have c9 := rcur_c3 hg9
    obtain ⟨cs, hb9, hm9⟩ := h9.box
    have e1 := (h9.keep w.heap.size (by omega) (by omega) (by omega)).trans HZ.out
    obtain ⟨hsz, hone⟩ := (hm9 _ (Off.refl _ _ _)).row
    have HM9 := hide hm9
    have HB9 := hide h9.below
    have hw9 : w.heap.size ≤ w9.heap.size := h9.below.size
    unfold finish at HF
    simp only at HF
    generalize St.e _ = E at *
    clear h9 hm9 hg9 H
    by_cases hE : E = 0
    · have hR : Hid (R = (_, 0)) := hide (by rw [HF.out, if_pos hE])
      clear HF
      subst hE
      go_wp2_with (first | ((with_reducible (show wpList _ _ _ ({ dst := _, op := Op.load _ _, type := _, pos := _, after := _, guard := _ } :: _) _ _)); refine wpList_load_row rfl 30 _ rfl (w.heap.size + 1 + 1) rfl 30 cs (0, 0) _ hb9 Try.underlying30 rfl (msg_size cs hsz) ?_) | ((with_reducible (show wpList _ _ _ ({ dst := _, op := Op.store _ _ _, type := _, pos := _, after := _, guard := _ } :: _) _ _)); refine wpList_store_lies rfl 30 _ _ rfl w.heap.size cs rfl rfl _ _ e1 (msg_size cs hsz) hsz.symm hone ?_))
      intro w7 h7 b7 n7 z7
      go_wp2
      (try simp only [Exit.inBlock, Exit.then])
      rw [hR.out]
      exact bodyPost_ret (results_row_tmp Try.results13 _ _ w.heap.size _ _ _ _ rfl h7 Try.underlying30 rfl (msg_size _ hsz) _ rfl) rfl ⟨⟨_, rfl, HM9.out _ ⟨Nat.le_of_eq z7.symm, fun k _ hk => n7 k (by omega)⟩⟩, HB9.out.trans (b7 _ (Nat.le_refl _))⟩
    · have hR : Hid (R = (MsgM.zero, E)) := hide (by rw [HF.out, if_neg hE])
      have hE' : (E != 0) = true := by simpa using hE
      clear HF
      go_upto_region 38 with fail
      refine wp_region_noPanic ?_
      refine wp_region_held_drew (S := fun w' => w'.heap[w.heap.size]? = some (.cells zeroCells 30 (0, 0)) ∧ w'.cell? ⟨w.heap.size + 1, 3, none⟩ = some (.int .i64 E) ∧ Below w.heap.size w9 w') (by kernel_rfl) (⟨e1, c9, (Below.refl _ _).drew⟩) (fun hHeld => ?_)
      refine wpAnyH_take (i := 0) (oi := ⟨some 191, .build 30 #[], _, _, _, none⟩) (v := ?_) rfl (by kernel_rfl) (by kernel_rfl) (by kernel_rfl) (fun _ _ _ h => h) (Or.inl ⟨by rfl, ?_⟩) hHeld ?_
      rotate_left
      · (intro wq hSw; go_simp; try with_reducible rfl)
      simp only [Act.put, List.setIfInBounds_toArray, List.set_cons_zero, List.set_cons_succ]
      refine wpAnyH_take (i := 1) (oi := ⟨some 192, .move (.tmp 8), _, _, _, none⟩) (v := ?_) rfl (by kernel_rfl) (by kernel_rfl) (by kernel_rfl) (fun _ _ _ h => h) (Or.inl ⟨by rfl, ?_⟩) hHeld ?_
      rotate_left
      · (intro wq hSw; go_simp; try with_reducible rfl)
      simp only [Act.put, List.setIfInBounds_toArray, List.set_cons_zero, List.set_cons_succ]
      refine wpAnyH_take (i := 2) (oi := ⟨some 193, .nilCheck (.tmp 192), _, _, _, none⟩) (v := ?_) rfl (by kernel_rfl) (by kernel_rfl) (by kernel_rfl) (fun _ _ _ h => h) (Or.inl ⟨by rfl, ?_⟩) hHeld ?_
      rotate_left
      · (intro wq hSw; go_simp; try with_reducible rfl)
      simp only [Act.put, List.setIfInBounds_toArray, List.set_cons_zero, List.set_cons_succ]
      refine wpAnyH_take (i := 3) (oi := ⟨some 194, .fieldAddr 60 (.tmp 193) 3, _, _, _, none⟩) (v := ?_) rfl (by kernel_rfl) (by kernel_rfl) (by kernel_rfl) (fun _ _ _ h => h) (Or.inl ⟨by rfl, ?_⟩) hHeld ?_
      rotate_left
      · (intro wq hSw; go_simp; try with_reducible rfl)
      simp only [Act.put, List.setIfInBounds_toArray, List.set_cons_zero, List.set_cons_succ]
      refine wpAnyH_take (i := 4) (oi := ⟨some 195, .load 31 (.tmp 194), _, _, _, none⟩) (v := ?_) rfl (by kernel_rfl) (by kernel_rfl) (by kernel_rfl) (fun _ _ _ h => h) (Or.inl ⟨by rfl, ?_⟩) hHeld ?_
      rotate_left
      · (intro wq hSw; have hcv := hSw.2.1; go_simp; try with_reducible rfl)
      simp only [Act.put, List.setIfInBounds_toArray, List.set_cons_zero, List.set_cons_succ]
      refine wpAnyH_ready (rs := [5]) (by kernel_rfl) (by simp) ?_
      refine AllReadyH.cons (o := ⟨none, .store 30 (.tmp 6) (.tmp 191), _, _, _, none⟩) rfl (fun K hK => ?_) ?_
      · refine step_store (by rfl) _ _ _ (by rfl) w.heap.size zeroCells (by rfl) (by rfl) _ _ hHeld.1 (msg_size _ rfl) rfl zero_one ?_
        intro w6 h6 b6 n6 z6
        refine hK.out _ _ ?_ (fun hHeld => ?_)
        · exact ⟨h6, (World.cell?_of_block (n6 (w.heap.size + 1) (by omega))).trans hHeld.2.1, hHeld.2.2.trans (b6 _ (Nat.le_refl _))⟩
        clear hK K
        try simp only [Act.put]
        refine wpAnyH_take (i := 6) (oi := ⟨some 7, .assign (.tmp 195), _, _, _, none⟩) (v := ?_) rfl (by kernel_rfl) (by kernel_rfl) (by kernel_rfl) (fun _ _ _ h => h) (Or.inl ⟨by rfl, ?_⟩) hHeld ?_
        rotate_left
        · (intro wq hSw; go_simp; try with_reducible rfl)
        simp only [Act.put, List.setIfInBounds_toArray, List.set_cons_zero, List.set_cons_succ]
        refine wpAnyH_done (by kernel_rfl) ?_ _
        refine NoPanic.normal ?_
        go_wp2
        (try simp only [Exit.inBlock, Exit.then])
        rw [hR.out]
        exact bodyPost_ret (results_row_tmp Try.results13 _ _ w.heap.size _ _ _ _ rfl h6 Try.underlying30 rfl (msg_size _ rfl) _ rfl) rfl ⟨⟨_, rfl, MsgAt.zero _⟩, HB9.out.trans hHeld.2.2⟩
      exact AllReadyH.nil

end Go.Proofs.Ytemomgcapjpaiaa
