/-
  The document's own answers for coils: Parse.
-/
import Derived.Test.YtgacfocbdeohaaaCoilRef
import Derived.Test.YtgacfocbdeohaaaCoilParse
import Derived.Test.YtgacfocbdeohaaaStoreStep
import Derived.Deep.QuietTactic
import Derived.Deep.RegionHeld3
import Derived.Test.YtgacfocbdeohaaaRegion
namespace Go.Proofs.Ytgacfocbdeohaaa
open Go.RowKit
open Word Bits Cursor

theorem heap_alloc3_new (w : World) (x y z : Obj) : (((w.alloc x).alloc y).alloc z).heap[w.heap.size + 1 + 1]? = some z := by
  have := heap_alloc_new ((w.alloc x).alloc y) z
  simpa using this
/-- Where the document's Parse begins. -/
theorem rr_entry {w w1 : World} {a : Option Addr} {len cap : Nat} {xs : List UInt8} {c : UInt8} {x z : Obj} (hx : Bs w a len cap xs) (hlen : len ≤ 100000) (h1 : w1.heap[w.heap.size + 1 + 1]? = some (.cells (codeCells c) apiT (0, 0)))
    (b1 : ∀ B, B ≤ w.heap.size + 1 + 1 → Below B (((w.alloc x).alloc (refObj a len cap 0 false 0)).alloc z) w1) : RRd w w1 (w.heap.size + 3) (w.heap.size + 1 + 1) (w.heap.size + 1) a len cap xs (MsgM.of c) (St.new xs) w1 ∧ w1.heap[w.heap.size]? = some x := by
  have hb : Below (w.heap.size + 1 + 1) ((w.alloc x).alloc (refObj a len cap 0 false 0)) w1 := ((Below.refl _ _).alloc (by simp) _).trans (b1 _ (Nat.le_refl _))
  have hw : Below w.heap.size w w1 := (((Below.refl w.heap.size w).alloc (Nat.le_refl _) _).alloc (by simp) _).trans (hb.mono (by omega))
  refine ⟨RRd.made hx hlen (by omega) (by omega) (by omega) (by omega) (by omega) (lt_of_block h1) hw h1 (fun v => MsgAt.of v c) ((hb.block _ (by omega)).trans (heap_alloc2_new _ _ _)), ?_⟩
  rw [hb.block _ (by omega), Below.heap_alloc _ _ _ (by simp), heap_alloc_new]

set_option maxRecDepth 20000 in
set_option maxHeartbeats 4000000 in
theorem refParse_any (dir : Int) (c : UInt8) (a : Option Addr) (len cap : Nat) (xs : List UInt8) (w : World) (hx : Bs w a len cap xs) (hlen : len ≤ 100000) :
    Calls Try.prog 14 #[.int .i64 dir, byteV c, .slice a len cap] w fun e w' =>
      (∃ v, e = .returned (.tuple #[v, .int .i64 (Coils.parse dir c xs).2]) ∧ MsgAt w' v (Coils.parse dir c xs).1) ∧ Below w.heap.size w w' := by
  have HX := hide hx
  clear hx
  obtain ⟨R, hR⟩ : ∃ R, R = Coils.parse dir c xs := ⟨_, rfl⟩
  rw [← hR]
  have HR := hide hR
  clear hR
  have hz0 := heap_alloc_new w (.cells zeroCells 30 (0, 0))
  go_enter Try.func14, Try.ntmps14
  by_cases hd : dir = 0 ∨ dir = 1
  rotate_left
  · have hd0 : (dir != 0) = true := by simp; omega
    have hd1 : (dir != 1) = true := by simp; omega
    have hR : Hid (R = (MsgM.zero, 1)) := hide (by rw [HR.out]; unfold Coils.parse; rw [if_neg hd])
    clear HR hd
    go_wp2_with ((with_reducible (show wpList _ _ _ ({ dst := _, op := Op.store _ _ _, type := _, pos := _, after := _, guard := _ } :: _) _ _)); refine wpList_store_lies rfl 30 _ _ rfl w.heap.size zeroCells rfl rfl _ _ hz0 (msg_size _ rfl) rfl zero_one ?_)
    intro w2 h2 b2 n2 z2
    go_wp2
    (try simp only [Exit.inBlock, Exit.then])
    rw [hR.out]
    exact bodyPost_ret (results_row_tmp Try.results14 _ _ w.heap.size _ _ _ _ rfl h2 Try.underlying30 rfl (msg_size _ rfl) _ rfl) rfl ⟨⟨_, rfl, MsgAt.zero _⟩, ((Below.refl _ _).alloc (Nat.le_refl _) _).trans (b2 _ (Nat.le_refl _))⟩
  have HRf : Hid (∀ f, Coils.formOf dir c = Option.some f → R = finish (f.read (MsgM.of c, St.new xs))) := hide (fun f hf => by rw [HR.out]; unfold Coils.parse; rw [if_pos hd, hf])
  have HRn : Hid (Coils.formOf dir c = none → R = (MsgM.zero, 4)) := hide (fun hf => by rw [HR.out]; unfold Coils.parse; rw [if_pos hd, hf])
  clear HR hz0
  obtain ⟨kc, hkc⟩ : ∃ k : Nat, k = c.toNat := ⟨_, rfl⟩
  rcases hd with rfl | rfl
  · go_upto_region 5 with ((with_reducible (show wpList _ _ _ ({ dst := _, op := Op.store _ _ _, type := _, pos := _, after := _, guard := _ } :: _) _ _)); refine wpList_store_lies rfl 30 _ _ rfl (w.heap.size + 1 + 1) (codeCells c) rfl rfl _ _ (heap_alloc3_new _ _ _ _) (msg_size _ rfl) rfl (by simp [Value.oneCell']) ?_; intro w1 h1 b1 n1 z1)
    obtain ⟨h, hz⟩ := rr_entry HX.out hlen h1 b1
    have H0 := hide h
    have HZ := hide hz
    clear h hz h1 b1 n1 z1
    rw [show byteV c = .int .u8 (kc : Int) by rw [hkc]]
    by_cases hk1 : kc = 1
    · have hc : c = 1 := by apply UInt8.toNat_inj.1; rw [← hkc, hk1]; rfl
      have q1 : ((kc : Int) == 1) = true := by simp; omega
      go_wp2_with fail
      refine (span_any H0.out 2000).mono ?_
      rintro e w2 ⟨rfl, h2⟩
      have H := hide h2
      have HF : Hid (R = finish (Coils.readPlaces 2000 (MsgM.of c, St.new xs))) := hide (HRf.out .asked (by unfold Coils.formOf; simp [hc]))
      generalize Coils.readPlaces 2000 (MsgM.of c, St.new xs) = P at *
      obtain ⟨m2, s2⟩ := P
      clear h2 H0 HRf HRn
      go_wp2_with fail
      refine (rr_end H.out).mono ?_
      rintro e w9 ⟨rfl, h9⟩
      obtain ⟨kc, _, _, hg9, _, _⟩ := h9.cur
      have c9 := rcur_c3 hg9
      obtain ⟨cs, hb9, hm9⟩ := h9.box
      have e1 := (h9.keep w.heap.size (by omega) (by omega) (by omega)).trans HZ.out
      obtain ⟨hsz, hone⟩ := (hm9 _ (Off.refl _ _ _)).row
      have HM9 := hide hm9
      have HB9 := hide h9.below
      have hw9 : w.heap.size ≤ w9.heap.size := h9.below.size
      unfold finish at HF
      simp only at HF
      generalize St.e _ = E at *
      clear h9 hm9 hg9 H
      by_cases hE : E = 0
      · have hR : Hid (R = (_, 0)) := hide (by rw [HF.out, if_pos hE])
        clear HF
        subst hE
        go_wp2_with (first | ((with_reducible (show wpList _ _ _ ({ dst := _, op := Op.load _ _, type := _, pos := _, after := _, guard := _ } :: _) _ _)); refine wpList_load_row rfl 30 _ rfl (w.heap.size + 1 + 1) rfl 30 cs (0, 0) _ hb9 Try.underlying30 rfl (msg_size cs hsz) ?_) | ((with_reducible (show wpList _ _ _ ({ dst := _, op := Op.store _ _ _, type := _, pos := _, after := _, guard := _ } :: _) _ _)); refine wpList_store_lies rfl 30 _ _ rfl w.heap.size cs rfl rfl _ _ e1 (msg_size cs hsz) hsz.symm hone ?_))
        intro w7 h7 b7 n7 z7
        go_wp2
        (try simp only [Exit.inBlock, Exit.then])
        rw [hR.out]
        exact bodyPost_ret (results_row_tmp Try.results14 _ _ w.heap.size _ _ _ _ rfl h7 Try.underlying30 rfl (msg_size _ hsz) _ rfl) rfl ⟨⟨_, rfl, HM9.out _ ⟨Nat.le_of_eq z7.symm, fun k _ hk => n7 k (by omega)⟩⟩, HB9.out.trans (b7 _ (Nat.le_refl _))⟩
      · have hR : Hid (R = (MsgM.zero, E)) := hide (by rw [HF.out, if_neg hE])
        have hE' : (E == 0) = false := by simpa using hE
        clear HF
        go_upto_region 28 with fail
        refine wp_region_noPanic ?_
        refine wp_region_held_drew (S := fun w' => w'.heap[w.heap.size]? = some (.cells zeroCells 30 (0, 0)) ∧ w'.cell? ⟨w.heap.size + 1, 3, none⟩ = some (.int .i64 E) ∧ Below w.heap.size w9 w') (by kernel_rfl) (⟨e1, c9, (Below.refl _ _).drew⟩) (fun hHeld => ?_)
        refine wpAnyH_take (i := 0) (oi := { dst := some 107, op := Op.build 30 #[], type := _, pos := _, after := _, guard := none }) (v := ?_) rfl (by kernel_rfl) (by kernel_rfl) (by kernel_rfl) (fun _ _ _ h => h) (Or.inl ⟨by rfl, ?_⟩) hHeld ?_
        rotate_left
        · (intro wq hSw; go_simp; try with_reducible rfl)
        simp only [Act.put, List.setIfInBounds_toArray, List.set_cons_zero, List.set_cons_succ]
        refine wpAnyH_take (i := 1) (oi := { dst := some 108, op := Op.move (Operand.tmp 8), type := _, pos := _, after := _, guard := none }) (v := ?_) rfl (by kernel_rfl) (by kernel_rfl) (by kernel_rfl) (fun _ _ _ h => h) (Or.inl ⟨by rfl, ?_⟩) hHeld ?_
        rotate_left
        · (intro wq hSw; go_simp; try with_reducible rfl)
        simp only [Act.put, List.setIfInBounds_toArray, List.set_cons_zero, List.set_cons_succ]
        refine wpAnyH_take (i := 2) (oi := { dst := some 109, op := Op.nilCheck (Operand.tmp 108), type := _, pos := _, after := _, guard := none }) (v := ?_) rfl (by kernel_rfl) (by kernel_rfl) (by kernel_rfl) (fun _ _ _ h => h) (Or.inl ⟨by rfl, ?_⟩) hHeld ?_
        rotate_left
        · (intro wq hSw; go_simp; try with_reducible rfl)
        simp only [Act.put, List.setIfInBounds_toArray, List.set_cons_zero, List.set_cons_succ]
        refine wpAnyH_take (i := 3) (oi := { dst := some 110, op := Op.fieldAddr 60 (Operand.tmp 109) 3, type := _, pos := _, after := _, guard := none }) (v := ?_) rfl (by kernel_rfl) (by kernel_rfl) (by kernel_rfl) (fun _ _ _ h => h) (Or.inl ⟨by rfl, ?_⟩) hHeld ?_
        rotate_left
        · (intro wq hSw; go_simp; try with_reducible rfl)
        simp only [Act.put, List.setIfInBounds_toArray, List.set_cons_zero, List.set_cons_succ]
        refine wpAnyH_take (i := 4) (oi := { dst := some 111, op := Op.load 31 (Operand.tmp 110), type := _, pos := _, after := _, guard := none }) (v := ?_) rfl (by kernel_rfl) (by kernel_rfl) (by kernel_rfl) (fun _ _ _ h => h) (Or.inl ⟨by rfl, ?_⟩) hHeld ?_
        rotate_left
        · (intro wq hSw; have hcv := hSw.2.1; go_simp; try with_reducible rfl)
        simp only [Act.put, List.setIfInBounds_toArray, List.set_cons_zero, List.set_cons_succ]
        refine wpAnyH_ready (rs := [5]) (by kernel_rfl) (by simp) ?_
        refine AllReadyH.cons (o := { dst := none, op := Op.store 30 (Operand.tmp 6) (Operand.tmp 107), type := _, pos := _, after := _, guard := none }) rfl (fun K hK => ?_) ?_
        · refine step_store (by rfl) _ _ _ (by rfl) w.heap.size zeroCells (by rfl) (by rfl) _ _ hHeld.1 (msg_size _ rfl) rfl zero_one ?_
          intro w6 h6 b6 n6 z6
          refine hK.out _ _ ?_ (fun hHeld => ?_)
          · exact ⟨h6, (World.cell?_of_block (n6 (w.heap.size + 1) (by omega))).trans hHeld.2.1, hHeld.2.2.trans (b6 _ (Nat.le_refl _))⟩
          clear hK K
          try simp only [Act.put]
          refine wpAnyH_take (i := 6) (oi := { dst := some 7, op := Op.assign (Operand.tmp 111), type := _, pos := _, after := _, guard := none }) (v := ?_) rfl (by kernel_rfl) (by kernel_rfl) (by kernel_rfl) (fun _ _ _ h => h) (Or.inl ⟨by rfl, ?_⟩) hHeld ?_
          rotate_left
          · (intro wq hSw; go_simp; try with_reducible rfl)
          simp only [Act.put, List.setIfInBounds_toArray, List.set_cons_zero, List.set_cons_succ]
          refine wpAnyH_done (by kernel_rfl) ?_ _
          refine NoPanic.normal ?_
          go_wp2
          (try simp only [Exit.inBlock, Exit.then])
          rw [hR.out]
          exact bodyPost_ret (results_row_tmp Try.results14 _ _ w.heap.size _ _ _ _ rfl h6 Try.underlying30 rfl (msg_size _ rfl) _ rfl) rfl ⟨⟨_, rfl, MsgAt.zero _⟩, HB9.out.trans hHeld.2.2⟩
        exact AllReadyH.nil
    have q1 : ((kc : Int) == 1) = false := by simp; omega
    have hn1 : c ≠ 1 := fun h => hk1 (by rw [hkc, h]; rfl)
    by_cases hk2 : kc = 2
    · have hc : c = 2 := by apply UInt8.toNat_inj.1; rw [← hkc, hk2]; rfl
      have q2 : ((kc : Int) == 2) = true := by simp; omega
      go_wp2_with fail
      refine (span_any H0.out 2000).mono ?_
      rintro e w2 ⟨rfl, h2⟩
      have H := hide h2
      have HF : Hid (R = finish (Coils.readPlaces 2000 (MsgM.of c, St.new xs))) := hide (HRf.out .asked (by unfold Coils.formOf; simp [hc]))
      generalize Coils.readPlaces 2000 (MsgM.of c, St.new xs) = P at *
      obtain ⟨m2, s2⟩ := P
      clear h2 H0 HRf HRn
      go_wp2_with fail
      refine (rr_end H.out).mono ?_
      rintro e w9 ⟨rfl, h9⟩
      obtain ⟨kc, _, _, hg9, _, _⟩ := h9.cur
      have c9 := rcur_c3 hg9
      obtain ⟨cs, hb9, hm9⟩ := h9.box
      have e1 := (h9.keep w.heap.size (by omega) (by omega) (by omega)).trans HZ.out
      obtain ⟨hsz, hone⟩ := (hm9 _ (Off.refl _ _ _)).row
      have HM9 := hide hm9
      have HB9 := hide h9.below
      have hw9 : w.heap.size ≤ w9.heap.size := h9.below.size
      unfold finish at HF
      simp only at HF
      generalize St.e _ = E at *
      clear h9 hm9 hg9 H
      by_cases hE : E = 0
      · have hR : Hid (R = (_, 0)) := hide (by rw [HF.out, if_pos hE])
        clear HF
        subst hE
        go_wp2_with (first | ((with_reducible (show wpList _ _ _ ({ dst := _, op := Op.load _ _, type := _, pos := _, after := _, guard := _ } :: _) _ _)); refine wpList_load_row rfl 30 _ rfl (w.heap.size + 1 + 1) rfl 30 cs (0, 0) _ hb9 Try.underlying30 rfl (msg_size cs hsz) ?_) | ((with_reducible (show wpList _ _ _ ({ dst := _, op := Op.store _ _ _, type := _, pos := _, after := _, guard := _ } :: _) _ _)); refine wpList_store_lies rfl 30 _ _ rfl w.heap.size cs rfl rfl _ _ e1 (msg_size cs hsz) hsz.symm hone ?_))
        intro w7 h7 b7 n7 z7
        go_wp2
        (try simp only [Exit.inBlock, Exit.then])
        rw [hR.out]
        exact bodyPost_ret (results_row_tmp Try.results14 _ _ w.heap.size _ _ _ _ rfl h7 Try.underlying30 rfl (msg_size _ hsz) _ rfl) rfl ⟨⟨_, rfl, HM9.out _ ⟨Nat.le_of_eq z7.symm, fun k _ hk => n7 k (by omega)⟩⟩, HB9.out.trans (b7 _ (Nat.le_refl _))⟩
      · have hR : Hid (R = (MsgM.zero, E)) := hide (by rw [HF.out, if_neg hE])
        have hE' : (E == 0) = false := by simpa using hE
        clear HF
        go_upto_region 28 with fail
        refine wp_region_noPanic ?_
        refine wp_region_held_drew (S := fun w' => w'.heap[w.heap.size]? = some (.cells zeroCells 30 (0, 0)) ∧ w'.cell? ⟨w.heap.size + 1, 3, none⟩ = some (.int .i64 E) ∧ Below w.heap.size w9 w') (by kernel_rfl) (⟨e1, c9, (Below.refl _ _).drew⟩) (fun hHeld => ?_)
        refine wpAnyH_take (i := 0) (oi := { dst := some 107, op := Op.build 30 #[], type := _, pos := _, after := _, guard := none }) (v := ?_) rfl (by kernel_rfl) (by kernel_rfl) (by kernel_rfl) (fun _ _ _ h => h) (Or.inl ⟨by rfl, ?_⟩) hHeld ?_
        rotate_left
        · (intro wq hSw; go_simp; try with_reducible rfl)
        simp only [Act.put, List.setIfInBounds_toArray, List.set_cons_zero, List.set_cons_succ]
        refine wpAnyH_take (i := 1) (oi := { dst := some 108, op := Op.move (Operand.tmp 8), type := _, pos := _, after := _, guard := none }) (v := ?_) rfl (by kernel_rfl) (by kernel_rfl) (by kernel_rfl) (fun _ _ _ h => h) (Or.inl ⟨by rfl, ?_⟩) hHeld ?_
        rotate_left
        · (intro wq hSw; go_simp; try with_reducible rfl)
        simp only [Act.put, List.setIfInBounds_toArray, List.set_cons_zero, List.set_cons_succ]
        refine wpAnyH_take (i := 2) (oi := { dst := some 109, op := Op.nilCheck (Operand.tmp 108), type := _, pos := _, after := _, guard := none }) (v := ?_) rfl (by kernel_rfl) (by kernel_rfl) (by kernel_rfl) (fun _ _ _ h => h) (Or.inl ⟨by rfl, ?_⟩) hHeld ?_
        rotate_left
        · (intro wq hSw; go_simp; try with_reducible rfl)
        simp only [Act.put, List.setIfInBounds_toArray, List.set_cons_zero, List.set_cons_succ]
        refine wpAnyH_take (i := 3) (oi := { dst := some 110, op := Op.fieldAddr 60 (Operand.tmp 109) 3, type := _, pos := _, after := _, guard := none }) (v := ?_) rfl (by kernel_rfl) (by kernel_rfl) (by kernel_rfl) (fun _ _ _ h => h) (Or.inl ⟨by rfl, ?_⟩) hHeld ?_
        rotate_left
        · (intro wq hSw; go_simp; try with_reducible rfl)
        simp only [Act.put, List.setIfInBounds_toArray, List.set_cons_zero, List.set_cons_succ]
        refine wpAnyH_take (i := 4) (oi := { dst := some 111, op := Op.load 31 (Operand.tmp 110), type := _, pos := _, after := _, guard := none }) (v := ?_) rfl (by kernel_rfl) (by kernel_rfl) (by kernel_rfl) (fun _ _ _ h => h) (Or.inl ⟨by rfl, ?_⟩) hHeld ?_
        rotate_left
        · (intro wq hSw; have hcv := hSw.2.1; go_simp; try with_reducible rfl)
        simp only [Act.put, List.setIfInBounds_toArray, List.set_cons_zero, List.set_cons_succ]
        refine wpAnyH_ready (rs := [5]) (by kernel_rfl) (by simp) ?_
        refine AllReadyH.cons (o := { dst := none, op := Op.store 30 (Operand.tmp 6) (Operand.tmp 107), type := _, pos := _, after := _, guard := none }) rfl (fun K hK => ?_) ?_
        · refine step_store (by rfl) _ _ _ (by rfl) w.heap.size zeroCells (by rfl) (by rfl) _ _ hHeld.1 (msg_size _ rfl) rfl zero_one ?_
          intro w6 h6 b6 n6 z6
          refine hK.out _ _ ?_ (fun hHeld => ?_)
          · exact ⟨h6, (World.cell?_of_block (n6 (w.heap.size + 1) (by omega))).trans hHeld.2.1, hHeld.2.2.trans (b6 _ (Nat.le_refl _))⟩
          clear hK K
          try simp only [Act.put]
          refine wpAnyH_take (i := 6) (oi := { dst := some 7, op := Op.assign (Operand.tmp 111), type := _, pos := _, after := _, guard := none }) (v := ?_) rfl (by kernel_rfl) (by kernel_rfl) (by kernel_rfl) (fun _ _ _ h => h) (Or.inl ⟨by rfl, ?_⟩) hHeld ?_
          rotate_left
          · (intro wq hSw; go_simp; try with_reducible rfl)
          simp only [Act.put, List.setIfInBounds_toArray, List.set_cons_zero, List.set_cons_succ]
          refine wpAnyH_done (by kernel_rfl) ?_ _
          refine NoPanic.normal ?_
          go_wp2
          (try simp only [Exit.inBlock, Exit.then])
          rw [hR.out]
          exact bodyPost_ret (results_row_tmp Try.results14 _ _ w.heap.size _ _ _ _ rfl h6 Try.underlying30 rfl (msg_size _ rfl) _ rfl) rfl ⟨⟨_, rfl, MsgAt.zero _⟩, HB9.out.trans hHeld.2.2⟩
        exact AllReadyH.nil
    have q2 : ((kc : Int) == 2) = false := by simp; omega
    have hn2 : c ≠ 2 := fun h => hk2 (by rw [hkc, h]; rfl)
    by_cases hk5 : kc = 5
    · have hc : c = 5 := by apply UInt8.toNat_inj.1; rw [← hkc, hk5]; rfl
      have q5 : ((kc : Int) == 5) = true := by simp; omega
      go_wp2_with fail
      refine (rr_word H0.out).mono ?_
      rintro e w2 ⟨rfl, h2⟩
      have f2 := h2.mb.fr 2
      have k2 := h2.mb.c_addr
      have H2 := hide (h2.put_addr (St.new xs).word)
      clear h2 H0
      go_wp2_with fail
      generalize w2.setCell ⟨w.heap.size + 1 + 1, 2, none⟩ (wordV (St.new xs).word) = w3 at *
      clear f2 k2
      refine (rr_word H2.out).mono ?_
      rintro e w4 ⟨rfl, h4⟩
      have f4 := h4.mb.fr 4
      have k4 := h4.mb.c_value
      have H4 := hide (h4.put_value (St.new xs).afterW.word)
      clear h4 H2
      go_upto_region 17 with fail
      generalize w4.setCell ⟨w.heap.size + 1 + 1, 4, none⟩ (wordV (St.new xs).afterW.word) = w5 at *
      clear f4 k4
      obtain ⟨kk, hkk⟩ : ∃ n : Nat, n = (St.new xs).afterW.word.toNat := ⟨_, rfl⟩
      have bk : kk < 65536 := by rw [hkk]; exact word_lt _
      obtain ⟨ok, hok⟩ : ∃ b : Bool, b = (decide (kk = 0) || decide (kk = 65280)) := ⟨_, rfl⟩
      have k5 : w5.cell? ⟨w.heap.size + 1 + 1, 4, none⟩ = some (.int .u16 (kk : Int)) := by rw [hkk]; exact H4.out.mb.c_value
      have HF : Hid (R = finish (((MsgM.of c).put_addr (St.new xs).word).put_value (St.new xs).afterW.word, (St.new xs).afterW.afterW.need ok 6)) := hide (by rw [HRf.out .one (by unfold Coils.formOf; simp [hc]), hok, hkk]; rfl)
      have HOK := hide hok
      clear hkk hok HRf HRn
      generalize ((MsgM.of c).put_addr (St.new xs).word).put_value (St.new xs).afterW.word = m4 at *
      generalize (St.new xs).afterW.afterW = s4 at *
      generalize wordV (St.new xs).word = x1 at *
      generalize wordV (St.new xs).afterW.word = x2 at *
      have HQ : Hid (((kk : Int) == 0 || (kk : Int) == 65280) = (decide (kk = 0) || decide (kk = 65280))) := hide (by rw [Bool.eq_iff_iff]; simp; omega)
      have HQ2 : Hid (((kk : Int) == 65280) = decide (kk = 65280)) := hide (by rw [Bool.eq_iff_iff]; simp; omega)
      by_cases hp : kk = 0
      all_goals
        go_wp2_with fail
        refine (rr_need H4.out _ _).mono ?_
        rintro e w6 ⟨rfl, h6⟩
        have H : Hid (RRd w w1 (w.heap.size + 3) (w.heap.size + 1 + 1) (w.heap.size + 1) a len cap xs m4 (s4.need ok 6) w6) := hide (by rw [HOK.out]; first | (simpa [hp] using h6) | (simp only [HQ.out] at h6; exact h6) | (rw [← HQ.out]; exact h6) | (simp only [HQ2.out] at h6; simpa [hp] using h6))
        clear h6 H4 HQ HQ2 HOK
        generalize s4.need ok 6 = s6 at *
        go_wp2_with fail
        refine (rr_end H.out).mono ?_
        rintro e w9 ⟨rfl, h9⟩
        obtain ⟨kc, _, _, hg9, _, _⟩ := h9.cur
        have c9 := rcur_c3 hg9
        obtain ⟨cs, hb9, hm9⟩ := h9.box
        have e1 := (h9.keep w.heap.size (by omega) (by omega) (by omega)).trans HZ.out
        obtain ⟨hsz, hone⟩ := (hm9 _ (Off.refl _ _ _)).row
        have HM9 := hide hm9
        have HB9 := hide h9.below
        have hw9 : w.heap.size ≤ w9.heap.size := h9.below.size
        unfold finish at HF
        simp only at HF
        generalize St.e _ = E at *
        clear h9 hm9 hg9 H
        by_cases hE : E = 0
        · have hR : Hid (R = (_, 0)) := hide (by rw [HF.out, if_pos hE])
          clear HF
          subst hE
          go_wp2_with (first | ((with_reducible (show wpList _ _ _ ({ dst := _, op := Op.load _ _, type := _, pos := _, after := _, guard := _ } :: _) _ _)); refine wpList_load_row rfl 30 _ rfl (w.heap.size + 1 + 1) rfl 30 cs (0, 0) _ hb9 Try.underlying30 rfl (msg_size cs hsz) ?_) | ((with_reducible (show wpList _ _ _ ({ dst := _, op := Op.store _ _ _, type := _, pos := _, after := _, guard := _ } :: _) _ _)); refine wpList_store_lies rfl 30 _ _ rfl w.heap.size cs rfl rfl _ _ e1 (msg_size cs hsz) hsz.symm hone ?_))
          intro w7 h7 b7 n7 z7
          go_wp2
          (try simp only [Exit.inBlock, Exit.then])
          rw [hR.out]
          exact bodyPost_ret (results_row_tmp Try.results14 _ _ w.heap.size _ _ _ _ rfl h7 Try.underlying30 rfl (msg_size _ hsz) _ rfl) rfl ⟨⟨_, rfl, HM9.out _ ⟨Nat.le_of_eq z7.symm, fun k _ hk => n7 k (by omega)⟩⟩, HB9.out.trans (b7 _ (Nat.le_refl _))⟩
        · have hR : Hid (R = (MsgM.zero, E)) := hide (by rw [HF.out, if_neg hE])
          have hE' : (E == 0) = false := by simpa using hE
          clear HF
          go_upto_region 28 with fail
          refine wp_region_noPanic ?_
          refine wp_region_held_drew (S := fun w' => w'.heap[w.heap.size]? = some (.cells zeroCells 30 (0, 0)) ∧ w'.cell? ⟨w.heap.size + 1, 3, none⟩ = some (.int .i64 E) ∧ Below w.heap.size w9 w') (by kernel_rfl) (⟨e1, c9, (Below.refl _ _).drew⟩) (fun hHeld => ?_)
          refine wpAnyH_take (i := 0) (oi := { dst := some 107, op := Op.build 30 #[], type := _, pos := _, after := _, guard := none }) (v := ?_) rfl (by kernel_rfl) (by kernel_rfl) (by kernel_rfl) (fun _ _ _ h => h) (Or.inl ⟨by rfl, ?_⟩) hHeld ?_
          rotate_left
          · (intro wq hSw; go_simp; try with_reducible rfl)
          simp only [Act.put, List.setIfInBounds_toArray, List.set_cons_zero, List.set_cons_succ]
          refine wpAnyH_take (i := 1) (oi := { dst := some 108, op := Op.move (Operand.tmp 8), type := _, pos := _, after := _, guard := none }) (v := ?_) rfl (by kernel_rfl) (by kernel_rfl) (by kernel_rfl) (fun _ _ _ h => h) (Or.inl ⟨by rfl, ?_⟩) hHeld ?_
          rotate_left
          · (intro wq hSw; go_simp; try with_reducible rfl)
          simp only [Act.put, List.setIfInBounds_toArray, List.set_cons_zero, List.set_cons_succ]
          refine wpAnyH_take (i := 2) (oi := { dst := some 109, op := Op.nilCheck (Operand.tmp 108), type := _, pos := _, after := _, guard := none }) (v := ?_) rfl (by kernel_rfl) (by kernel_rfl) (by kernel_rfl) (fun _ _ _ h => h) (Or.inl ⟨by rfl, ?_⟩) hHeld ?_
          rotate_left
          · (intro wq hSw; go_simp; try with_reducible rfl)
          simp only [Act.put, List.setIfInBounds_toArray, List.set_cons_zero, List.set_cons_succ]
          refine wpAnyH_take (i := 3) (oi := { dst := some 110, op := Op.fieldAddr 60 (Operand.tmp 109) 3, type := _, pos := _, after := _, guard := none }) (v := ?_) rfl (by kernel_rfl) (by kernel_rfl) (by kernel_rfl) (fun _ _ _ h => h) (Or.inl ⟨by rfl, ?_⟩) hHeld ?_
          rotate_left
          · (intro wq hSw; go_simp; try with_reducible rfl)
          simp only [Act.put, List.setIfInBounds_toArray, List.set_cons_zero, List.set_cons_succ]
          refine wpAnyH_take (i := 4) (oi := { dst := some 111, op := Op.load 31 (Operand.tmp 110), type := _, pos := _, after := _, guard := none }) (v := ?_) rfl (by kernel_rfl) (by kernel_rfl) (by kernel_rfl) (fun _ _ _ h => h) (Or.inl ⟨by rfl, ?_⟩) hHeld ?_
          rotate_left
          · (intro wq hSw; have hcv := hSw.2.1; go_simp; try with_reducible rfl)
          simp only [Act.put, List.setIfInBounds_toArray, List.set_cons_zero, List.set_cons_succ]
          refine wpAnyH_ready (rs := [5]) (by kernel_rfl) (by simp) ?_
          refine AllReadyH.cons (o := { dst := none, op := Op.store 30 (Operand.tmp 6) (Operand.tmp 107), type := _, pos := _, after := _, guard := none }) rfl (fun K hK => ?_) ?_
          · refine step_store (by rfl) _ _ _ (by rfl) w.heap.size zeroCells (by rfl) (by rfl) _ _ hHeld.1 (msg_size _ rfl) rfl zero_one ?_
            intro w6 h6 b6 n6 z6
            refine hK.out _ _ ?_ (fun hHeld => ?_)
            · exact ⟨h6, (World.cell?_of_block (n6 (w.heap.size + 1) (by omega))).trans hHeld.2.1, hHeld.2.2.trans (b6 _ (Nat.le_refl _))⟩
            clear hK K
            try simp only [Act.put]
            refine wpAnyH_take (i := 6) (oi := { dst := some 7, op := Op.assign (Operand.tmp 111), type := _, pos := _, after := _, guard := none }) (v := ?_) rfl (by kernel_rfl) (by kernel_rfl) (by kernel_rfl) (fun _ _ _ h => h) (Or.inl ⟨by rfl, ?_⟩) hHeld ?_
            rotate_left
            · (intro wq hSw; go_simp; try with_reducible rfl)
            simp only [Act.put, List.setIfInBounds_toArray, List.set_cons_zero, List.set_cons_succ]
            refine wpAnyH_done (by kernel_rfl) ?_ _
            refine NoPanic.normal ?_
            go_wp2
            (try simp only [Exit.inBlock, Exit.then])
            rw [hR.out]
            exact bodyPost_ret (results_row_tmp Try.results14 _ _ w.heap.size _ _ _ _ rfl h6 Try.underlying30 rfl (msg_size _ rfl) _ rfl) rfl ⟨⟨_, rfl, MsgAt.zero _⟩, HB9.out.trans hHeld.2.2⟩
          exact AllReadyH.nil
    have q5 : ((kc : Int) == 5) = false := by simp; omega
    have hn5 : c ≠ 5 := fun h => hk5 (by rw [hkc, h]; rfl)
    by_cases hk15 : kc = 15
    · have hc : c = 15 := by apply UInt8.toNat_inj.1; rw [← hkc, hk15]; rfl
      have q15 : ((kc : Int) == 15) = true := by simp; omega
      go_wp2_with fail
      refine (span_any H0.out 1968).mono ?_
      rintro e w2 ⟨rfl, h2⟩
      have HF0 : Hid (R = finish (Coils.readBits (Coils.readPlaces 1968 (MsgM.of c, St.new xs)))) := hide (HRf.out .some (by unfold Coils.formOf; simp [hc]))
      generalize Coils.readPlaces 1968 (MsgM.of c, St.new xs) = P at *
      obtain ⟨m2, s2⟩ := P
      have H2 := hide h2
      clear h2 H0 HRf HRn
      go_wp2_with fail
      refine (rr_byte H2.out).mono ?_
      rintro e w3 ⟨rfl, h3⟩
      have H3 := hide h3
      clear h3 H2
      obtain ⟨nn, hnn⟩ : ∃ n : Nat, n = s2.byte.toNat := ⟨_, rfl⟩
      obtain ⟨kk, hkk⟩ : ∃ n : Nat, n = m2.count.toNat := ⟨_, rfl⟩
      have bn : nn < 256 := by rw [hnn]; exact byte_lt _
      have bk : kk < 65536 := by rw [hkk]; exact word_lt _
      have k3 : w3.cell? ⟨w.heap.size + 1 + 1, 3, none⟩ = some (.int .u16 (kk : Int)) := by rw [hkk]; exact H3.out.mb.c_count
      obtain ⟨ok, hok⟩ : ∃ b : Bool, b = decide ((nn : Int) = manyI (kk : Int)) := ⟨_, rfl⟩
      have HF : Hid (R = finish (m2.put_bits (outU ((s2.afterB.need ok 5).got (nn : Int) 1) (kk : Int)), ((s2.afterB.need ok 5).next (nn : Int) 1).need (good ((s2.afterB.need ok 5).got (nn : Int) 1) (kk : Int)) 6)) := hide (by rw [HF0.out, hok, hnn, hkk]; rfl)
      rw [show byteV s2.byte = .int .u8 (nn : Int) by rw [hnn]]
      have HOK := hide hok
      have HKK := hide hkk
      clear hok hnn hkk HF0
      have hwn : IntKind.i64.wrap (nn : Int) = (nn : Int) := by rw [IntKind.wrap_i64]; omega
      have hwk : IntKind.i64.wrap (kk : Int) = (kk : Int) := by rw [IntKind.wrap_i64]; omega
      have hwf : (Lit.int .i64 (kk : Int)).wf = true := WalkArith.wf_i64 (by omega)
      go_wp2_with fail
      refine (refMany_any (kk : Int) hwf w3).mono ?_
      rintro r w3' ⟨rfl, hw3⟩
      subst hw3
      have hq : ((nn : Int) == manyI (kk : Int)) = ok := by rw [HOK.out, Bool.eq_iff_iff]; simp
      clear HOK
      generalize manyI (kk : Int) = mk at *
      go_wp2_with fail
      refine (rr_need H3.out _ _).mono ?_
      rintro r w4 ⟨rfl, h4⟩
      generalize s2.afterB.need ok 5 = s4 at *
      have H4 := hide h4
      have HD := hide h4.drew
      have hlen4 : (s4.got (nn : Int) 1).length ≤ 10000 := Nat.le_trans (St.got_le _ _ _) (by omega)
      have k4 : w4.cell? ⟨w.heap.size + 1 + 1, 3, none⟩ = some (.int .u16 (kk : Int)) := by rw [HKK.out]; exact h4.mb.c_count
      clear h4 H3 k3 hq
      go_upto_region 23 with fail
      go_region_held3 (fun w' => w'.cell? ⟨w.heap.size + 1 + 1, 3, none⟩ = some (.int .u16 (kk : Int)))
        (first
          | go_keep
          | (rw [HKK.out]; exact h5.mb.c_count)
          | (rw [HKK.out]; exact (h5.mono hb6).mb.c_count))
        (first
          | (go_at_call 27; refine (rr_bytes HD.out (nn : Int)).mono ?_; rintro r w5 ⟨⟨a5, c5, rfl, hx5⟩, h5⟩)
          | (go_at_call 30; refine (refUnpack_any _ _ _ _ (kk : Int) hwf _ (hx5 _ (Off.refl _ _ _)) hlen4).mono ?_; rintro r w6 ⟨⟨a6, c6, rfl, hx6⟩, hb6⟩))
      have H6 := hide (h5.mono hb6)
      have hs5 := h5.hs
      clear h5 hx5 H4 HD hb6
      generalize outU (s4.got (nn : Int) 1) (kk : Int) = L at *
      generalize good (s4.got (nn : Int) 1) (kk : Int) = ok2 at *
      generalize s4.next (nn : Int) 1 = s5 at *
      go_wp2_with fail
      refine (rr_needO H6.out _ _).mono ?_
      rintro r w7 ⟨rfl, h7, o7⟩
      have hx7 : ∀ u, Off w.heap.size (w.heap.size + 3) w7 u → Ls u a6 L.length c6 L := fun u hu => hx6.off hs5 (o7.trans hu)
      obtain ⟨ad, ld, cd, k7, _⟩ := h7.mb.c_bits
      have f7 := h7.mb.fr 13
      have H := hide (h7.put_bits hx7)
      clear h7 hx7 hx6 o7 H6
      generalize s5.need ok2 6 = s7 at *
      go_wp2_with fail
      refine (rr_end H.out).mono ?_
      rintro e w9 ⟨rfl, h9⟩
      obtain ⟨kc, _, _, hg9, _, _⟩ := h9.cur
      have c9 := rcur_c3 hg9
      obtain ⟨cs, hb9, hm9⟩ := h9.box
      have e1 := (h9.keep w.heap.size (by omega) (by omega) (by omega)).trans HZ.out
      obtain ⟨hsz, hone⟩ := (hm9 _ (Off.refl _ _ _)).row
      have HM9 := hide hm9
      have HB9 := hide h9.below
      have hw9 : w.heap.size ≤ w9.heap.size := h9.below.size
      unfold finish at HF
      simp only at HF
      generalize St.e _ = E at *
      clear h9 hm9 hg9 H
      by_cases hE : E = 0
      · have hR : Hid (R = (_, 0)) := hide (by rw [HF.out, if_pos hE])
        clear HF
        subst hE
        go_wp2_with (first | ((with_reducible (show wpList _ _ _ ({ dst := _, op := Op.load _ _, type := _, pos := _, after := _, guard := _ } :: _) _ _)); refine wpList_load_row rfl 30 _ rfl (w.heap.size + 1 + 1) rfl 30 cs (0, 0) _ hb9 Try.underlying30 rfl (msg_size cs hsz) ?_) | ((with_reducible (show wpList _ _ _ ({ dst := _, op := Op.store _ _ _, type := _, pos := _, after := _, guard := _ } :: _) _ _)); refine wpList_store_lies rfl 30 _ _ rfl w.heap.size cs rfl rfl _ _ e1 (msg_size cs hsz) hsz.symm hone ?_))
        intro w7 h7 b7 n7 z7
        go_wp2
        (try simp only [Exit.inBlock, Exit.then])
        rw [hR.out]
        exact bodyPost_ret (results_row_tmp Try.results14 _ _ w.heap.size _ _ _ _ rfl h7 Try.underlying30 rfl (msg_size _ hsz) _ rfl) rfl ⟨⟨_, rfl, HM9.out _ ⟨Nat.le_of_eq z7.symm, fun k _ hk => n7 k (by omega)⟩⟩, HB9.out.trans (b7 _ (Nat.le_refl _))⟩
      · have hR : Hid (R = (MsgM.zero, E)) := hide (by rw [HF.out, if_neg hE])
        have hE' : (E == 0) = false := by simpa using hE
        clear HF
        go_upto_region 28 with fail
        refine wp_region_noPanic ?_
        refine wp_region_held_drew (S := fun w' => w'.heap[w.heap.size]? = some (.cells zeroCells 30 (0, 0)) ∧ w'.cell? ⟨w.heap.size + 1, 3, none⟩ = some (.int .i64 E) ∧ Below w.heap.size w9 w') (by kernel_rfl) (⟨e1, c9, (Below.refl _ _).drew⟩) (fun hHeld => ?_)
        refine wpAnyH_take (i := 0) (oi := { dst := some 107, op := Op.build 30 #[], type := _, pos := _, after := _, guard := none }) (v := ?_) rfl (by kernel_rfl) (by kernel_rfl) (by kernel_rfl) (fun _ _ _ h => h) (Or.inl ⟨by rfl, ?_⟩) hHeld ?_
        rotate_left
        · (intro wq hSw; go_simp; try with_reducible rfl)
        simp only [Act.put, List.setIfInBounds_toArray, List.set_cons_zero, List.set_cons_succ]
        refine wpAnyH_take (i := 1) (oi := { dst := some 108, op := Op.move (Operand.tmp 8), type := _, pos := _, after := _, guard := none }) (v := ?_) rfl (by kernel_rfl) (by kernel_rfl) (by kernel_rfl) (fun _ _ _ h => h) (Or.inl ⟨by rfl, ?_⟩) hHeld ?_
        rotate_left
        · (intro wq hSw; go_simp; try with_reducible rfl)
        simp only [Act.put, List.setIfInBounds_toArray, List.set_cons_zero, List.set_cons_succ]
        refine wpAnyH_take (i := 2) (oi := { dst := some 109, op := Op.nilCheck (Operand.tmp 108), type := _, pos := _, after := _, guard := none }) (v := ?_) rfl (by kernel_rfl) (by kernel_rfl) (by kernel_rfl) (fun _ _ _ h => h) (Or.inl ⟨by rfl, ?_⟩) hHeld ?_
        rotate_left
        · (intro wq hSw; go_simp; try with_reducible rfl)
        simp only [Act.put, List.setIfInBounds_toArray, List.set_cons_zero, List.set_cons_succ]
        refine wpAnyH_take (i := 3) (oi := { dst := some 110, op := Op.fieldAddr 60 (Operand.tmp 109) 3, type := _, pos := _, after := _, guard := none }) (v := ?_) rfl (by kernel_rfl) (by kernel_rfl) (by kernel_rfl) (fun _ _ _ h => h) (Or.inl ⟨by rfl, ?_⟩) hHeld ?_
        rotate_left
        · (intro wq hSw; go_simp; try with_reducible rfl)
        simp only [Act.put, List.setIfInBounds_toArray, List.set_cons_zero, List.set_cons_succ]
        refine wpAnyH_take (i := 4) (oi := { dst := some 111, op := Op.load 31 (Operand.tmp 110), type := _, pos := _, after := _, guard := none }) (v := ?_) rfl (by kernel_rfl) (by kernel_rfl) (by kernel_rfl) (fun _ _ _ h => h) (Or.inl ⟨by rfl, ?_⟩) hHeld ?_
        rotate_left
        · (intro wq hSw; have hcv := hSw.2.1; go_simp; try with_reducible rfl)
        simp only [Act.put, List.setIfInBounds_toArray, List.set_cons_zero, List.set_cons_succ]
        refine wpAnyH_ready (rs := [5]) (by kernel_rfl) (by simp) ?_
        refine AllReadyH.cons (o := { dst := none, op := Op.store 30 (Operand.tmp 6) (Operand.tmp 107), type := _, pos := _, after := _, guard := none }) rfl (fun K hK => ?_) ?_
        · refine step_store (by rfl) _ _ _ (by rfl) w.heap.size zeroCells (by rfl) (by rfl) _ _ hHeld.1 (msg_size _ rfl) rfl zero_one ?_
          intro w6 h6 b6 n6 z6
          refine hK.out _ _ ?_ (fun hHeld => ?_)
          · exact ⟨h6, (World.cell?_of_block (n6 (w.heap.size + 1) (by omega))).trans hHeld.2.1, hHeld.2.2.trans (b6 _ (Nat.le_refl _))⟩
          clear hK K
          try simp only [Act.put]
          refine wpAnyH_take (i := 6) (oi := { dst := some 7, op := Op.assign (Operand.tmp 111), type := _, pos := _, after := _, guard := none }) (v := ?_) rfl (by kernel_rfl) (by kernel_rfl) (by kernel_rfl) (fun _ _ _ h => h) (Or.inl ⟨by rfl, ?_⟩) hHeld ?_
          rotate_left
          · (intro wq hSw; go_simp; try with_reducible rfl)
          simp only [Act.put, List.setIfInBounds_toArray, List.set_cons_zero, List.set_cons_succ]
          refine wpAnyH_done (by kernel_rfl) ?_ _
          refine NoPanic.normal ?_
          go_wp2
          (try simp only [Exit.inBlock, Exit.then])
          rw [hR.out]
          exact bodyPost_ret (results_row_tmp Try.results14 _ _ w.heap.size _ _ _ _ rfl h6 Try.underlying30 rfl (msg_size _ rfl) _ rfl) rfl ⟨⟨_, rfl, MsgAt.zero _⟩, HB9.out.trans hHeld.2.2⟩
        exact AllReadyH.nil
    have q15 : ((kc : Int) == 15) = false := by simp; omega
    have hn15 : c ≠ 15 := fun h => hk15 (by rw [hkc, h]; rfl)
    have hR : Hid (R = (MsgM.zero, 4)) := hide (HRn.out (by unfold Coils.formOf; simp [hn1, hn2, hn5, hn15]))
    clear HRn HRf
    go_wp2_with ((with_reducible (show wpList _ _ _ ({ dst := _, op := Op.store _ _ _, type := _, pos := _, after := _, guard := _ } :: _) _ _)); refine wpList_store_lies rfl 30 _ _ rfl w.heap.size zeroCells rfl rfl _ _ HZ.out (msg_size _ rfl) rfl zero_one ?_)
    intro w2 h2 b2 n2 z2
    go_wp2
    (try simp only [Exit.inBlock, Exit.then])
    rw [hR.out]
    exact bodyPost_ret (results_row_tmp Try.results14 _ _ w.heap.size _ _ _ _ rfl h2 Try.underlying30 rfl (msg_size _ rfl) _ rfl) rfl ⟨⟨_, rfl, MsgAt.zero _⟩, H0.out.below.trans (b2 _ (Nat.le_refl _))⟩
  · go_upto_region 5 with ((with_reducible (show wpList _ _ _ ({ dst := _, op := Op.store _ _ _, type := _, pos := _, after := _, guard := _ } :: _) _ _)); refine wpList_store_lies rfl 30 _ _ rfl (w.heap.size + 1 + 1) (codeCells c) rfl rfl _ _ (heap_alloc3_new _ _ _ _) (msg_size _ rfl) rfl (by simp [Value.oneCell']) ?_; intro w1 h1 b1 n1 z1)
    obtain ⟨h, hz⟩ := rr_entry HX.out hlen h1 b1
    have H0 := hide h
    have HZ := hide hz
    clear h hz h1 b1 n1 z1
    rw [show byteV c = .int .u8 (kc : Int) by rw [hkc]]
    by_cases hk1 : kc = 1
    · have hc : c = 1 := by apply UInt8.toNat_inj.1; rw [← hkc, hk1]; rfl
      have q1 : ((kc : Int) == 1) = true := by simp; omega
      go_wp2_with fail
      refine (rr_byte H0.out).mono ?_
      rintro e w2 ⟨rfl, h2⟩
      have H2 := hide h2
      clear h2 H0
      obtain ⟨kk, hkk⟩ : ∃ n : Nat, n = (St.new xs).byte.toNat := ⟨_, rfl⟩
      have bk : kk < 256 := by rw [hkk]; exact byte_lt _
      obtain ⟨ok, hok⟩ : ∃ b : Bool, b = (decide (1 ≤ kk) && decide (kk ≤ 250)) := ⟨_, rfl⟩
      have HF : Hid (R = finish ((MsgM.of c).put_data (((St.new xs).afterB.need ok 5).got (kk : Int) 1), ((St.new xs).afterB.need ok 5).next (kk : Int) 1)) := hide (by rw [HRf.out .told (by unfold Coils.formOf; simp [hc]), hok, hkk]; rfl)
      rw [show byteV (St.new xs).byte = .int .u8 (kk : Int) by rw [hkk]]
      have HOK := hide hok
      clear hkk hok HRf HRn
      have hwk : IntKind.i64.wrap (kk : Int) = (kk : Int) := by rw [IntKind.wrap_i64]; omega
      generalize (St.new xs).afterB = s2 at *
      have HQ : Hid (decide ((kk : Int) ≤ 250) = decide (kk ≤ 250)) := hide (by rw [Bool.eq_iff_iff]; simp; omega)
      by_cases hp : 0 < kk
      all_goals
        go_wp2_with fail
        refine (rr_need H2.out _ _).mono ?_
        rintro e w3 ⟨rfl, h3⟩
        have H3 : Hid (RRd w w1 (w.heap.size + 3) (w.heap.size + 1 + 1) (w.heap.size + 1) a len cap xs (MsgM.of c) (s2.need ok 5) w3) := hide (by rw [HOK.out]; have hp1 : (1 ≤ kk) = (0 < kk) := rfl; first | (simpa [hp1, hp, HQ.out] using h3) | (simpa [hp1, hp] using h3))
        clear h3 H2
        generalize s2.need ok 5 = s3 at *
        go_wp2_with fail
        refine (rr_bytes H3.out (kk : Int)).mono ?_
        rintro e w4 ⟨⟨a4, c4, rfl, hx4⟩, h4⟩
        generalize s3.got (kk : Int) 1 = D at *
        generalize s3.next (kk : Int) 1 = N at *
        obtain ⟨ad, ld, cd, k4, _⟩ := h4.mb.c_data
        have f4 := h4.mb.fr 14
        have H := hide (h4.put_data hx4)
        clear h4 hx4 H3 HQ HOK
        go_wp2_with fail
        refine (rr_end H.out).mono ?_
        rintro e w9 ⟨rfl, h9⟩
        obtain ⟨kc, _, _, hg9, _, _⟩ := h9.cur
        have c9 := rcur_c3 hg9
        obtain ⟨cs, hb9, hm9⟩ := h9.box
        have e1 := (h9.keep w.heap.size (by omega) (by omega) (by omega)).trans HZ.out
        obtain ⟨hsz, hone⟩ := (hm9 _ (Off.refl _ _ _)).row
        have HM9 := hide hm9
        have HB9 := hide h9.below
        have hw9 : w.heap.size ≤ w9.heap.size := h9.below.size
        unfold finish at HF
        simp only at HF
        generalize St.e _ = E at *
        clear h9 hm9 hg9 H
        by_cases hE : E = 0
        · have hR : Hid (R = (_, 0)) := hide (by rw [HF.out, if_pos hE])
          clear HF
          subst hE
          go_wp2_with (first | ((with_reducible (show wpList _ _ _ ({ dst := _, op := Op.load _ _, type := _, pos := _, after := _, guard := _ } :: _) _ _)); refine wpList_load_row rfl 30 _ rfl (w.heap.size + 1 + 1) rfl 30 cs (0, 0) _ hb9 Try.underlying30 rfl (msg_size cs hsz) ?_) | ((with_reducible (show wpList _ _ _ ({ dst := _, op := Op.store _ _ _, type := _, pos := _, after := _, guard := _ } :: _) _ _)); refine wpList_store_lies rfl 30 _ _ rfl w.heap.size cs rfl rfl _ _ e1 (msg_size cs hsz) hsz.symm hone ?_))
          intro w7 h7 b7 n7 z7
          go_wp2
          (try simp only [Exit.inBlock, Exit.then])
          rw [hR.out]
          exact bodyPost_ret (results_row_tmp Try.results14 _ _ w.heap.size _ _ _ _ rfl h7 Try.underlying30 rfl (msg_size _ hsz) _ rfl) rfl ⟨⟨_, rfl, HM9.out _ ⟨Nat.le_of_eq z7.symm, fun k _ hk => n7 k (by omega)⟩⟩, HB9.out.trans (b7 _ (Nat.le_refl _))⟩
        · have hR : Hid (R = (MsgM.zero, E)) := hide (by rw [HF.out, if_neg hE])
          have hE' : (E == 0) = false := by simpa using hE
          clear HF
          go_upto_region 28 with fail
          refine wp_region_noPanic ?_
          refine wp_region_held_drew (S := fun w' => w'.heap[w.heap.size]? = some (.cells zeroCells 30 (0, 0)) ∧ w'.cell? ⟨w.heap.size + 1, 3, none⟩ = some (.int .i64 E) ∧ Below w.heap.size w9 w') (by kernel_rfl) (⟨e1, c9, (Below.refl _ _).drew⟩) (fun hHeld => ?_)
          refine wpAnyH_take (i := 0) (oi := { dst := some 107, op := Op.build 30 #[], type := _, pos := _, after := _, guard := none }) (v := ?_) rfl (by kernel_rfl) (by kernel_rfl) (by kernel_rfl) (fun _ _ _ h => h) (Or.inl ⟨by rfl, ?_⟩) hHeld ?_
          rotate_left
          · (intro wq hSw; go_simp; try with_reducible rfl)
          simp only [Act.put, List.setIfInBounds_toArray, List.set_cons_zero, List.set_cons_succ]
          refine wpAnyH_take (i := 1) (oi := { dst := some 108, op := Op.move (Operand.tmp 8), type := _, pos := _, after := _, guard := none }) (v := ?_) rfl (by kernel_rfl) (by kernel_rfl) (by kernel_rfl) (fun _ _ _ h => h) (Or.inl ⟨by rfl, ?_⟩) hHeld ?_
          rotate_left
          · (intro wq hSw; go_simp; try with_reducible rfl)
          simp only [Act.put, List.setIfInBounds_toArray, List.set_cons_zero, List.set_cons_succ]
          refine wpAnyH_take (i := 2) (oi := { dst := some 109, op := Op.nilCheck (Operand.tmp 108), type := _, pos := _, after := _, guard := none }) (v := ?_) rfl (by kernel_rfl) (by kernel_rfl) (by kernel_rfl) (fun _ _ _ h => h) (Or.inl ⟨by rfl, ?_⟩) hHeld ?_
          rotate_left
          · (intro wq hSw; go_simp; try with_reducible rfl)
          simp only [Act.put, List.setIfInBounds_toArray, List.set_cons_zero, List.set_cons_succ]
          refine wpAnyH_take (i := 3) (oi := { dst := some 110, op := Op.fieldAddr 60 (Operand.tmp 109) 3, type := _, pos := _, after := _, guard := none }) (v := ?_) rfl (by kernel_rfl) (by kernel_rfl) (by kernel_rfl) (fun _ _ _ h => h) (Or.inl ⟨by rfl, ?_⟩) hHeld ?_
          rotate_left
          · (intro wq hSw; go_simp; try with_reducible rfl)
          simp only [Act.put, List.setIfInBounds_toArray, List.set_cons_zero, List.set_cons_succ]
          refine wpAnyH_take (i := 4) (oi := { dst := some 111, op := Op.load 31 (Operand.tmp 110), type := _, pos := _, after := _, guard := none }) (v := ?_) rfl (by kernel_rfl) (by kernel_rfl) (by kernel_rfl) (fun _ _ _ h => h) (Or.inl ⟨by rfl, ?_⟩) hHeld ?_
          rotate_left
          · (intro wq hSw; have hcv := hSw.2.1; go_simp; try with_reducible rfl)
          simp only [Act.put, List.setIfInBounds_toArray, List.set_cons_zero, List.set_cons_succ]
          refine wpAnyH_ready (rs := [5]) (by kernel_rfl) (by simp) ?_
          refine AllReadyH.cons (o := { dst := none, op := Op.store 30 (Operand.tmp 6) (Operand.tmp 107), type := _, pos := _, after := _, guard := none }) rfl (fun K hK => ?_) ?_
          · refine step_store (by rfl) _ _ _ (by rfl) w.heap.size zeroCells (by rfl) (by rfl) _ _ hHeld.1 (msg_size _ rfl) rfl zero_one ?_
            intro w6 h6 b6 n6 z6
            refine hK.out _ _ ?_ (fun hHeld => ?_)
            · exact ⟨h6, (World.cell?_of_block (n6 (w.heap.size + 1) (by omega))).trans hHeld.2.1, hHeld.2.2.trans (b6 _ (Nat.le_refl _))⟩
            clear hK K
            try simp only [Act.put]
            refine wpAnyH_take (i := 6) (oi := { dst := some 7, op := Op.assign (Operand.tmp 111), type := _, pos := _, after := _, guard := none }) (v := ?_) rfl (by kernel_rfl) (by kernel_rfl) (by kernel_rfl) (fun _ _ _ h => h) (Or.inl ⟨by rfl, ?_⟩) hHeld ?_
            rotate_left
            · (intro wq hSw; go_simp; try with_reducible rfl)
            simp only [Act.put, List.setIfInBounds_toArray, List.set_cons_zero, List.set_cons_succ]
            refine wpAnyH_done (by kernel_rfl) ?_ _
            refine NoPanic.normal ?_
            go_wp2
            (try simp only [Exit.inBlock, Exit.then])
            rw [hR.out]
            exact bodyPost_ret (results_row_tmp Try.results14 _ _ w.heap.size _ _ _ _ rfl h6 Try.underlying30 rfl (msg_size _ rfl) _ rfl) rfl ⟨⟨_, rfl, MsgAt.zero _⟩, HB9.out.trans hHeld.2.2⟩
          exact AllReadyH.nil
    have q1 : ((kc : Int) == 1) = false := by simp; omega
    have hn1 : c ≠ 1 := fun h => hk1 (by rw [hkc, h]; rfl)
    by_cases hk2 : kc = 2
    · have hc : c = 2 := by apply UInt8.toNat_inj.1; rw [← hkc, hk2]; rfl
      have q2 : ((kc : Int) == 2) = true := by simp; omega
      go_wp2_with fail
      refine (rr_byte H0.out).mono ?_
      rintro e w2 ⟨rfl, h2⟩
      have H2 := hide h2
      clear h2 H0
      obtain ⟨kk, hkk⟩ : ∃ n : Nat, n = (St.new xs).byte.toNat := ⟨_, rfl⟩
      have bk : kk < 256 := by rw [hkk]; exact byte_lt _
      obtain ⟨ok, hok⟩ : ∃ b : Bool, b = (decide (1 ≤ kk) && decide (kk ≤ 250)) := ⟨_, rfl⟩
      have HF : Hid (R = finish ((MsgM.of c).put_data (((St.new xs).afterB.need ok 5).got (kk : Int) 1), ((St.new xs).afterB.need ok 5).next (kk : Int) 1)) := hide (by rw [HRf.out .told (by unfold Coils.formOf; simp [hc]), hok, hkk]; rfl)
      rw [show byteV (St.new xs).byte = .int .u8 (kk : Int) by rw [hkk]]
      have HOK := hide hok
      clear hkk hok HRf HRn
      have hwk : IntKind.i64.wrap (kk : Int) = (kk : Int) := by rw [IntKind.wrap_i64]; omega
      generalize (St.new xs).afterB = s2 at *
      have HQ : Hid (decide ((kk : Int) ≤ 250) = decide (kk ≤ 250)) := hide (by rw [Bool.eq_iff_iff]; simp; omega)
      by_cases hp : 0 < kk
      all_goals
        go_wp2_with fail
        refine (rr_need H2.out _ _).mono ?_
        rintro e w3 ⟨rfl, h3⟩
        have H3 : Hid (RRd w w1 (w.heap.size + 3) (w.heap.size + 1 + 1) (w.heap.size + 1) a len cap xs (MsgM.of c) (s2.need ok 5) w3) := hide (by rw [HOK.out]; have hp1 : (1 ≤ kk) = (0 < kk) := rfl; first | (simpa [hp1, hp, HQ.out] using h3) | (simpa [hp1, hp] using h3))
        clear h3 H2
        generalize s2.need ok 5 = s3 at *
        go_wp2_with fail
        refine (rr_bytes H3.out (kk : Int)).mono ?_
        rintro e w4 ⟨⟨a4, c4, rfl, hx4⟩, h4⟩
        generalize s3.got (kk : Int) 1 = D at *
        generalize s3.next (kk : Int) 1 = N at *
        obtain ⟨ad, ld, cd, k4, _⟩ := h4.mb.c_data
        have f4 := h4.mb.fr 14
        have H := hide (h4.put_data hx4)
        clear h4 hx4 H3 HQ HOK
        go_wp2_with fail
        refine (rr_end H.out).mono ?_
        rintro e w9 ⟨rfl, h9⟩
        obtain ⟨kc, _, _, hg9, _, _⟩ := h9.cur
        have c9 := rcur_c3 hg9
        obtain ⟨cs, hb9, hm9⟩ := h9.box
        have e1 := (h9.keep w.heap.size (by omega) (by omega) (by omega)).trans HZ.out
        obtain ⟨hsz, hone⟩ := (hm9 _ (Off.refl _ _ _)).row
        have HM9 := hide hm9
        have HB9 := hide h9.below
        have hw9 : w.heap.size ≤ w9.heap.size := h9.below.size
        unfold finish at HF
        simp only at HF
        generalize St.e _ = E at *
        clear h9 hm9 hg9 H
        by_cases hE : E = 0
        · have hR : Hid (R = (_, 0)) := hide (by rw [HF.out, if_pos hE])
          clear HF
          subst hE
          go_wp2_with (first | ((with_reducible (show wpList _ _ _ ({ dst := _, op := Op.load _ _, type := _, pos := _, after := _, guard := _ } :: _) _ _)); refine wpList_load_row rfl 30 _ rfl (w.heap.size + 1 + 1) rfl 30 cs (0, 0) _ hb9 Try.underlying30 rfl (msg_size cs hsz) ?_) | ((with_reducible (show wpList _ _ _ ({ dst := _, op := Op.store _ _ _, type := _, pos := _, after := _, guard := _ } :: _) _ _)); refine wpList_store_lies rfl 30 _ _ rfl w.heap.size cs rfl rfl _ _ e1 (msg_size cs hsz) hsz.symm hone ?_))
          intro w7 h7 b7 n7 z7
          go_wp2
          (try simp only [Exit.inBlock, Exit.then])
          rw [hR.out]
          exact bodyPost_ret (results_row_tmp Try.results14 _ _ w.heap.size _ _ _ _ rfl h7 Try.underlying30 rfl (msg_size _ hsz) _ rfl) rfl ⟨⟨_, rfl, HM9.out _ ⟨Nat.le_of_eq z7.symm, fun k _ hk => n7 k (by omega)⟩⟩, HB9.out.trans (b7 _ (Nat.le_refl _))⟩
        · have hR : Hid (R = (MsgM.zero, E)) := hide (by rw [HF.out, if_neg hE])
          have hE' : (E == 0) = false := by simpa using hE
          clear HF
          go_upto_region 28 with fail
          refine wp_region_noPanic ?_
          refine wp_region_held_drew (S := fun w' => w'.heap[w.heap.size]? = some (.cells zeroCells 30 (0, 0)) ∧ w'.cell? ⟨w.heap.size + 1, 3, none⟩ = some (.int .i64 E) ∧ Below w.heap.size w9 w') (by kernel_rfl) (⟨e1, c9, (Below.refl _ _).drew⟩) (fun hHeld => ?_)
          refine wpAnyH_take (i := 0) (oi := { dst := some 107, op := Op.build 30 #[], type := _, pos := _, after := _, guard := none }) (v := ?_) rfl (by kernel_rfl) (by kernel_rfl) (by kernel_rfl) (fun _ _ _ h => h) (Or.inl ⟨by rfl, ?_⟩) hHeld ?_
          rotate_left
          · (intro wq hSw; go_simp; try with_reducible rfl)
          simp only [Act.put, List.setIfInBounds_toArray, List.set_cons_zero, List.set_cons_succ]
          refine wpAnyH_take (i := 1) (oi := { dst := some 108, op := Op.move (Operand.tmp 8), type := _, pos := _, after := _, guard := none }) (v := ?_) rfl (by kernel_rfl) (by kernel_rfl) (by kernel_rfl) (fun _ _ _ h => h) (Or.inl ⟨by rfl, ?_⟩) hHeld ?_
          rotate_left
          · (intro wq hSw; go_simp; try with_reducible rfl)
          simp only [Act.put, List.setIfInBounds_toArray, List.set_cons_zero, List.set_cons_succ]
          refine wpAnyH_take (i := 2) (oi := { dst := some 109, op := Op.nilCheck (Operand.tmp 108), type := _, pos := _, after := _, guard := none }) (v := ?_) rfl (by kernel_rfl) (by kernel_rfl) (by kernel_rfl) (fun _ _ _ h => h) (Or.inl ⟨by rfl, ?_⟩) hHeld ?_
          rotate_left
          · (intro wq hSw; go_simp; try with_reducible rfl)
          simp only [Act.put, List.setIfInBounds_toArray, List.set_cons_zero, List.set_cons_succ]
          refine wpAnyH_take (i := 3) (oi := { dst := some 110, op := Op.fieldAddr 60 (Operand.tmp 109) 3, type := _, pos := _, after := _, guard := none }) (v := ?_) rfl (by kernel_rfl) (by kernel_rfl) (by kernel_rfl) (fun _ _ _ h => h) (Or.inl ⟨by rfl, ?_⟩) hHeld ?_
          rotate_left
          · (intro wq hSw; go_simp; try with_reducible rfl)
          simp only [Act.put, List.setIfInBounds_toArray, List.set_cons_zero, List.set_cons_succ]
          refine wpAnyH_take (i := 4) (oi := { dst := some 111, op := Op.load 31 (Operand.tmp 110), type := _, pos := _, after := _, guard := none }) (v := ?_) rfl (by kernel_rfl) (by kernel_rfl) (by kernel_rfl) (fun _ _ _ h => h) (Or.inl ⟨by rfl, ?_⟩) hHeld ?_
          rotate_left
          · (intro wq hSw; have hcv := hSw.2.1; go_simp; try with_reducible rfl)
          simp only [Act.put, List.setIfInBounds_toArray, List.set_cons_zero, List.set_cons_succ]
          refine wpAnyH_ready (rs := [5]) (by kernel_rfl) (by simp) ?_
          refine AllReadyH.cons (o := { dst := none, op := Op.store 30 (Operand.tmp 6) (Operand.tmp 107), type := _, pos := _, after := _, guard := none }) rfl (fun K hK => ?_) ?_
          · refine step_store (by rfl) _ _ _ (by rfl) w.heap.size zeroCells (by rfl) (by rfl) _ _ hHeld.1 (msg_size _ rfl) rfl zero_one ?_
            intro w6 h6 b6 n6 z6
            refine hK.out _ _ ?_ (fun hHeld => ?_)
            · exact ⟨h6, (World.cell?_of_block (n6 (w.heap.size + 1) (by omega))).trans hHeld.2.1, hHeld.2.2.trans (b6 _ (Nat.le_refl _))⟩
            clear hK K
            try simp only [Act.put]
            refine wpAnyH_take (i := 6) (oi := { dst := some 7, op := Op.assign (Operand.tmp 111), type := _, pos := _, after := _, guard := none }) (v := ?_) rfl (by kernel_rfl) (by kernel_rfl) (by kernel_rfl) (fun _ _ _ h => h) (Or.inl ⟨by rfl, ?_⟩) hHeld ?_
            rotate_left
            · (intro wq hSw; go_simp; try with_reducible rfl)
            simp only [Act.put, List.setIfInBounds_toArray, List.set_cons_zero, List.set_cons_succ]
            refine wpAnyH_done (by kernel_rfl) ?_ _
            refine NoPanic.normal ?_
            go_wp2
            (try simp only [Exit.inBlock, Exit.then])
            rw [hR.out]
            exact bodyPost_ret (results_row_tmp Try.results14 _ _ w.heap.size _ _ _ _ rfl h6 Try.underlying30 rfl (msg_size _ rfl) _ rfl) rfl ⟨⟨_, rfl, MsgAt.zero _⟩, HB9.out.trans hHeld.2.2⟩
          exact AllReadyH.nil
    have q2 : ((kc : Int) == 2) = false := by simp; omega
    have hn2 : c ≠ 2 := fun h => hk2 (by rw [hkc, h]; rfl)
    by_cases hk5 : kc = 5
    · have hc : c = 5 := by apply UInt8.toNat_inj.1; rw [← hkc, hk5]; rfl
      have q5 : ((kc : Int) == 5) = true := by simp; omega
      go_wp2_with fail
      refine (rr_word H0.out).mono ?_
      rintro e w2 ⟨rfl, h2⟩
      have f2 := h2.mb.fr 2
      have k2 := h2.mb.c_addr
      have H2 := hide (h2.put_addr (St.new xs).word)
      clear h2 H0
      go_wp2_with fail
      generalize w2.setCell ⟨w.heap.size + 1 + 1, 2, none⟩ (wordV (St.new xs).word) = w3 at *
      clear f2 k2
      refine (rr_word H2.out).mono ?_
      rintro e w4 ⟨rfl, h4⟩
      have f4 := h4.mb.fr 4
      have k4 := h4.mb.c_value
      have H4 := hide (h4.put_value (St.new xs).afterW.word)
      clear h4 H2
      go_upto_region 17 with fail
      generalize w4.setCell ⟨w.heap.size + 1 + 1, 4, none⟩ (wordV (St.new xs).afterW.word) = w5 at *
      clear f4 k4
      obtain ⟨kk, hkk⟩ : ∃ n : Nat, n = (St.new xs).afterW.word.toNat := ⟨_, rfl⟩
      have bk : kk < 65536 := by rw [hkk]; exact word_lt _
      obtain ⟨ok, hok⟩ : ∃ b : Bool, b = (decide (kk = 0) || decide (kk = 65280)) := ⟨_, rfl⟩
      have k5 : w5.cell? ⟨w.heap.size + 1 + 1, 4, none⟩ = some (.int .u16 (kk : Int)) := by rw [hkk]; exact H4.out.mb.c_value
      have HF : Hid (R = finish (((MsgM.of c).put_addr (St.new xs).word).put_value (St.new xs).afterW.word, (St.new xs).afterW.afterW.need ok 6)) := hide (by rw [HRf.out .one (by unfold Coils.formOf; simp [hc]), hok, hkk]; rfl)
      have HOK := hide hok
      clear hkk hok HRf HRn
      generalize ((MsgM.of c).put_addr (St.new xs).word).put_value (St.new xs).afterW.word = m4 at *
      generalize (St.new xs).afterW.afterW = s4 at *
      generalize wordV (St.new xs).word = x1 at *
      generalize wordV (St.new xs).afterW.word = x2 at *
      have HQ : Hid (((kk : Int) == 0 || (kk : Int) == 65280) = (decide (kk = 0) || decide (kk = 65280))) := hide (by rw [Bool.eq_iff_iff]; simp; omega)
      have HQ2 : Hid (((kk : Int) == 65280) = decide (kk = 65280)) := hide (by rw [Bool.eq_iff_iff]; simp; omega)
      by_cases hp : kk = 0
      all_goals
        go_wp2_with fail
        refine (rr_need H4.out _ _).mono ?_
        rintro e w6 ⟨rfl, h6⟩
        have H : Hid (RRd w w1 (w.heap.size + 3) (w.heap.size + 1 + 1) (w.heap.size + 1) a len cap xs m4 (s4.need ok 6) w6) := hide (by rw [HOK.out]; first | (simpa [hp] using h6) | (simp only [HQ.out] at h6; exact h6) | (rw [← HQ.out]; exact h6) | (simp only [HQ2.out] at h6; simpa [hp] using h6))
        clear h6 H4 HQ HQ2 HOK
        generalize s4.need ok 6 = s6 at *
        go_wp2_with fail
        refine (rr_end H.out).mono ?_
        rintro e w9 ⟨rfl, h9⟩
        obtain ⟨kc, _, _, hg9, _, _⟩ := h9.cur
        have c9 := rcur_c3 hg9
        obtain ⟨cs, hb9, hm9⟩ := h9.box
        have e1 := (h9.keep w.heap.size (by omega) (by omega) (by omega)).trans HZ.out
        obtain ⟨hsz, hone⟩ := (hm9 _ (Off.refl _ _ _)).row
        have HM9 := hide hm9
        have HB9 := hide h9.below
        have hw9 : w.heap.size ≤ w9.heap.size := h9.below.size
        unfold finish at HF
        simp only at HF
        generalize St.e _ = E at *
        clear h9 hm9 hg9 H
        by_cases hE : E = 0
        · have hR : Hid (R = (_, 0)) := hide (by rw [HF.out, if_pos hE])
          clear HF
          subst hE
          go_wp2_with (first | ((with_reducible (show wpList _ _ _ ({ dst := _, op := Op.load _ _, type := _, pos := _, after := _, guard := _ } :: _) _ _)); refine wpList_load_row rfl 30 _ rfl (w.heap.size + 1 + 1) rfl 30 cs (0, 0) _ hb9 Try.underlying30 rfl (msg_size cs hsz) ?_) | ((with_reducible (show wpList _ _ _ ({ dst := _, op := Op.store _ _ _, type := _, pos := _, after := _, guard := _ } :: _) _ _)); refine wpList_store_lies rfl 30 _ _ rfl w.heap.size cs rfl rfl _ _ e1 (msg_size cs hsz) hsz.symm hone ?_))
          intro w7 h7 b7 n7 z7
          go_wp2
          (try simp only [Exit.inBlock, Exit.then])
          rw [hR.out]
          exact bodyPost_ret (results_row_tmp Try.results14 _ _ w.heap.size _ _ _ _ rfl h7 Try.underlying30 rfl (msg_size _ hsz) _ rfl) rfl ⟨⟨_, rfl, HM9.out _ ⟨Nat.le_of_eq z7.symm, fun k _ hk => n7 k (by omega)⟩⟩, HB9.out.trans (b7 _ (Nat.le_refl _))⟩
        · have hR : Hid (R = (MsgM.zero, E)) := hide (by rw [HF.out, if_neg hE])
          have hE' : (E == 0) = false := by simpa using hE
          clear HF
          go_upto_region 28 with fail
          refine wp_region_noPanic ?_
          refine wp_region_held_drew (S := fun w' => w'.heap[w.heap.size]? = some (.cells zeroCells 30 (0, 0)) ∧ w'.cell? ⟨w.heap.size + 1, 3, none⟩ = some (.int .i64 E) ∧ Below w.heap.size w9 w') (by kernel_rfl) (⟨e1, c9, (Below.refl _ _).drew⟩) (fun hHeld => ?_)
          refine wpAnyH_take (i := 0) (oi := { dst := some 107, op := Op.build 30 #[], type := _, pos := _, after := _, guard := none }) (v := ?_) rfl (by kernel_rfl) (by kernel_rfl) (by kernel_rfl) (fun _ _ _ h => h) (Or.inl ⟨by rfl, ?_⟩) hHeld ?_
          rotate_left
          · (intro wq hSw; go_simp; try with_reducible rfl)
          simp only [Act.put, List.setIfInBounds_toArray, List.set_cons_zero, List.set_cons_succ]
          refine wpAnyH_take (i := 1) (oi := { dst := some 108, op := Op.move (Operand.tmp 8), type := _, pos := _, after := _, guard := none }) (v := ?_) rfl (by kernel_rfl) (by kernel_rfl) (by kernel_rfl) (fun _ _ _ h => h) (Or.inl ⟨by rfl, ?_⟩) hHeld ?_
          rotate_left
          · (intro wq hSw; go_simp; try with_reducible rfl)
          simp only [Act.put, List.setIfInBounds_toArray, List.set_cons_zero, List.set_cons_succ]
          refine wpAnyH_take (i := 2) (oi := { dst := some 109, op := Op.nilCheck (Operand.tmp 108), type := _, pos := _, after := _, guard := none }) (v := ?_) rfl (by kernel_rfl) (by kernel_rfl) (by kernel_rfl) (fun _ _ _ h => h) (Or.inl ⟨by rfl, ?_⟩) hHeld ?_
          rotate_left
          · (intro wq hSw; go_simp; try with_reducible rfl)
          simp only [Act.put, List.setIfInBounds_toArray, List.set_cons_zero, List.set_cons_succ]
          refine wpAnyH_take (i := 3) (oi := { dst := some 110, op := Op.fieldAddr 60 (Operand.tmp 109) 3, type := _, pos := _, after := _, guard := none }) (v := ?_) rfl (by kernel_rfl) (by kernel_rfl) (by kernel_rfl) (fun _ _ _ h => h) (Or.inl ⟨by rfl, ?_⟩) hHeld ?_
          rotate_left
          · (intro wq hSw; go_simp; try with_reducible rfl)
          simp only [Act.put, List.setIfInBounds_toArray, List.set_cons_zero, List.set_cons_succ]
          refine wpAnyH_take (i := 4) (oi := { dst := some 111, op := Op.load 31 (Operand.tmp 110), type := _, pos := _, after := _, guard := none }) (v := ?_) rfl (by kernel_rfl) (by kernel_rfl) (by kernel_rfl) (fun _ _ _ h => h) (Or.inl ⟨by rfl, ?_⟩) hHeld ?_
          rotate_left
          · (intro wq hSw; have hcv := hSw.2.1; go_simp; try with_reducible rfl)
          simp only [Act.put, List.setIfInBounds_toArray, List.set_cons_zero, List.set_cons_succ]
          refine wpAnyH_ready (rs := [5]) (by kernel_rfl) (by simp) ?_
          refine AllReadyH.cons (o := { dst := none, op := Op.store 30 (Operand.tmp 6) (Operand.tmp 107), type := _, pos := _, after := _, guard := none }) rfl (fun K hK => ?_) ?_
          · refine step_store (by rfl) _ _ _ (by rfl) w.heap.size zeroCells (by rfl) (by rfl) _ _ hHeld.1 (msg_size _ rfl) rfl zero_one ?_
            intro w6 h6 b6 n6 z6
            refine hK.out _ _ ?_ (fun hHeld => ?_)
            · exact ⟨h6, (World.cell?_of_block (n6 (w.heap.size + 1) (by omega))).trans hHeld.2.1, hHeld.2.2.trans (b6 _ (Nat.le_refl _))⟩
            clear hK K
            try simp only [Act.put]
            refine wpAnyH_take (i := 6) (oi := { dst := some 7, op := Op.assign (Operand.tmp 111), type := _, pos := _, after := _, guard := none }) (v := ?_) rfl (by kernel_rfl) (by kernel_rfl) (by kernel_rfl) (fun _ _ _ h => h) (Or.inl ⟨by rfl, ?_⟩) hHeld ?_
            rotate_left
            · (intro wq hSw; go_simp; try with_reducible rfl)
            simp only [Act.put, List.setIfInBounds_toArray, List.set_cons_zero, List.set_cons_succ]
            refine wpAnyH_done (by kernel_rfl) ?_ _
            refine NoPanic.normal ?_
            go_wp2
            (try simp only [Exit.inBlock, Exit.then])
            rw [hR.out]
            exact bodyPost_ret (results_row_tmp Try.results14 _ _ w.heap.size _ _ _ _ rfl h6 Try.underlying30 rfl (msg_size _ rfl) _ rfl) rfl ⟨⟨_, rfl, MsgAt.zero _⟩, HB9.out.trans hHeld.2.2⟩
          exact AllReadyH.nil
    have q5 : ((kc : Int) == 5) = false := by simp; omega
    have hn5 : c ≠ 5 := fun h => hk5 (by rw [hkc, h]; rfl)
    by_cases hk15 : kc = 15
    · have hc : c = 15 := by apply UInt8.toNat_inj.1; rw [← hkc, hk15]; rfl
      have q15 : ((kc : Int) == 15) = true := by simp; omega
      go_wp2_with fail
      refine (span_any H0.out 1968).mono ?_
      rintro e w2 ⟨rfl, h2⟩
      have H := hide h2
      have HF : Hid (R = finish (Coils.readPlaces 1968 (MsgM.of c, St.new xs))) := hide (HRf.out .done (by unfold Coils.formOf; simp [hc]))
      generalize Coils.readPlaces 1968 (MsgM.of c, St.new xs) = P at *
      obtain ⟨m2, s2⟩ := P
      clear h2 H0 HRf HRn
      go_wp2_with fail
      refine (rr_end H.out).mono ?_
      rintro e w9 ⟨rfl, h9⟩
      obtain ⟨kc, _, _, hg9, _, _⟩ := h9.cur
      have c9 := rcur_c3 hg9
      obtain ⟨cs, hb9, hm9⟩ := h9.box
      have e1 := (h9.keep w.heap.size (by omega) (by omega) (by omega)).trans HZ.out
      obtain ⟨hsz, hone⟩ := (hm9 _ (Off.refl _ _ _)).row
      have HM9 := hide hm9
      have HB9 := hide h9.below
      have hw9 : w.heap.size ≤ w9.heap.size := h9.below.size
      unfold finish at HF
      simp only at HF
      generalize St.e _ = E at *
      clear h9 hm9 hg9 H
      by_cases hE : E = 0
      · have hR : Hid (R = (_, 0)) := hide (by rw [HF.out, if_pos hE])
        clear HF
        subst hE
        go_wp2_with (first | ((with_reducible (show wpList _ _ _ ({ dst := _, op := Op.load _ _, type := _, pos := _, after := _, guard := _ } :: _) _ _)); refine wpList_load_row rfl 30 _ rfl (w.heap.size + 1 + 1) rfl 30 cs (0, 0) _ hb9 Try.underlying30 rfl (msg_size cs hsz) ?_) | ((with_reducible (show wpList _ _ _ ({ dst := _, op := Op.store _ _ _, type := _, pos := _, after := _, guard := _ } :: _) _ _)); refine wpList_store_lies rfl 30 _ _ rfl w.heap.size cs rfl rfl _ _ e1 (msg_size cs hsz) hsz.symm hone ?_))
        intro w7 h7 b7 n7 z7
        go_wp2
        (try simp only [Exit.inBlock, Exit.then])
        rw [hR.out]
        exact bodyPost_ret (results_row_tmp Try.results14 _ _ w.heap.size _ _ _ _ rfl h7 Try.underlying30 rfl (msg_size _ hsz) _ rfl) rfl ⟨⟨_, rfl, HM9.out _ ⟨Nat.le_of_eq z7.symm, fun k _ hk => n7 k (by omega)⟩⟩, HB9.out.trans (b7 _ (Nat.le_refl _))⟩
      · have hR : Hid (R = (MsgM.zero, E)) := hide (by rw [HF.out, if_neg hE])
        have hE' : (E == 0) = false := by simpa using hE
        clear HF
        go_upto_region 28 with fail
        refine wp_region_noPanic ?_
        refine wp_region_held_drew (S := fun w' => w'.heap[w.heap.size]? = some (.cells zeroCells 30 (0, 0)) ∧ w'.cell? ⟨w.heap.size + 1, 3, none⟩ = some (.int .i64 E) ∧ Below w.heap.size w9 w') (by kernel_rfl) (⟨e1, c9, (Below.refl _ _).drew⟩) (fun hHeld => ?_)
        refine wpAnyH_take (i := 0) (oi := { dst := some 107, op := Op.build 30 #[], type := _, pos := _, after := _, guard := none }) (v := ?_) rfl (by kernel_rfl) (by kernel_rfl) (by kernel_rfl) (fun _ _ _ h => h) (Or.inl ⟨by rfl, ?_⟩) hHeld ?_
        rotate_left
        · (intro wq hSw; go_simp; try with_reducible rfl)
        simp only [Act.put, List.setIfInBounds_toArray, List.set_cons_zero, List.set_cons_succ]
        refine wpAnyH_take (i := 1) (oi := { dst := some 108, op := Op.move (Operand.tmp 8), type := _, pos := _, after := _, guard := none }) (v := ?_) rfl (by kernel_rfl) (by kernel_rfl) (by kernel_rfl) (fun _ _ _ h => h) (Or.inl ⟨by rfl, ?_⟩) hHeld ?_
        rotate_left
        · (intro wq hSw; go_simp; try with_reducible rfl)
        simp only [Act.put, List.setIfInBounds_toArray, List.set_cons_zero, List.set_cons_succ]
        refine wpAnyH_take (i := 2) (oi := { dst := some 109, op := Op.nilCheck (Operand.tmp 108), type := _, pos := _, after := _, guard := none }) (v := ?_) rfl (by kernel_rfl) (by kernel_rfl) (by kernel_rfl) (fun _ _ _ h => h) (Or.inl ⟨by rfl, ?_⟩) hHeld ?_
        rotate_left
        · (intro wq hSw; go_simp; try with_reducible rfl)
        simp only [Act.put, List.setIfInBounds_toArray, List.set_cons_zero, List.set_cons_succ]
        refine wpAnyH_take (i := 3) (oi := { dst := some 110, op := Op.fieldAddr 60 (Operand.tmp 109) 3, type := _, pos := _, after := _, guard := none }) (v := ?_) rfl (by kernel_rfl) (by kernel_rfl) (by kernel_rfl) (fun _ _ _ h => h) (Or.inl ⟨by rfl, ?_⟩) hHeld ?_
        rotate_left
        · (intro wq hSw; go_simp; try with_reducible rfl)
        simp only [Act.put, List.setIfInBounds_toArray, List.set_cons_zero, List.set_cons_succ]
        refine wpAnyH_take (i := 4) (oi := { dst := some 111, op := Op.load 31 (Operand.tmp 110), type := _, pos := _, after := _, guard := none }) (v := ?_) rfl (by kernel_rfl) (by kernel_rfl) (by kernel_rfl) (fun _ _ _ h => h) (Or.inl ⟨by rfl, ?_⟩) hHeld ?_
        rotate_left
        · (intro wq hSw; have hcv := hSw.2.1; go_simp; try with_reducible rfl)
        simp only [Act.put, List.setIfInBounds_toArray, List.set_cons_zero, List.set_cons_succ]
        refine wpAnyH_ready (rs := [5]) (by kernel_rfl) (by simp) ?_
        refine AllReadyH.cons (o := { dst := none, op := Op.store 30 (Operand.tmp 6) (Operand.tmp 107), type := _, pos := _, after := _, guard := none }) rfl (fun K hK => ?_) ?_
        · refine step_store (by rfl) _ _ _ (by rfl) w.heap.size zeroCells (by rfl) (by rfl) _ _ hHeld.1 (msg_size _ rfl) rfl zero_one ?_
          intro w6 h6 b6 n6 z6
          refine hK.out _ _ ?_ (fun hHeld => ?_)
          · exact ⟨h6, (World.cell?_of_block (n6 (w.heap.size + 1) (by omega))).trans hHeld.2.1, hHeld.2.2.trans (b6 _ (Nat.le_refl _))⟩
          clear hK K
          try simp only [Act.put]
          refine wpAnyH_take (i := 6) (oi := { dst := some 7, op := Op.assign (Operand.tmp 111), type := _, pos := _, after := _, guard := none }) (v := ?_) rfl (by kernel_rfl) (by kernel_rfl) (by kernel_rfl) (fun _ _ _ h => h) (Or.inl ⟨by rfl, ?_⟩) hHeld ?_
          rotate_left
          · (intro wq hSw; go_simp; try with_reducible rfl)
          simp only [Act.put, List.setIfInBounds_toArray, List.set_cons_zero, List.set_cons_succ]
          refine wpAnyH_done (by kernel_rfl) ?_ _
          refine NoPanic.normal ?_
          go_wp2
          (try simp only [Exit.inBlock, Exit.then])
          rw [hR.out]
          exact bodyPost_ret (results_row_tmp Try.results14 _ _ w.heap.size _ _ _ _ rfl h6 Try.underlying30 rfl (msg_size _ rfl) _ rfl) rfl ⟨⟨_, rfl, MsgAt.zero _⟩, HB9.out.trans hHeld.2.2⟩
        exact AllReadyH.nil
    have q15 : ((kc : Int) == 15) = false := by simp; omega
    have hn15 : c ≠ 15 := fun h => hk15 (by rw [hkc, h]; rfl)
    have hR : Hid (R = (MsgM.zero, 4)) := hide (HRn.out (by unfold Coils.formOf; simp [hn1, hn2, hn5, hn15]))
    clear HRn HRf
    go_wp2_with ((with_reducible (show wpList _ _ _ ({ dst := _, op := Op.store _ _ _, type := _, pos := _, after := _, guard := _ } :: _) _ _)); refine wpList_store_lies rfl 30 _ _ rfl w.heap.size zeroCells rfl rfl _ _ HZ.out (msg_size _ rfl) rfl zero_one ?_)
    intro w2 h2 b2 n2 z2
    go_wp2
    (try simp only [Exit.inBlock, Exit.then])
    rw [hR.out]
    exact bodyPost_ret (results_row_tmp Try.results14 _ _ w.heap.size _ _ _ _ rfl h2 Try.underlying30 rfl (msg_size _ rfl) _ rfl) rfl ⟨⟨_, rfl, MsgAt.zero _⟩, H0.out.below.trans (b2 _ (Nat.le_refl _))⟩

end Go.Proofs.Ytgacfocbdeohaaa
