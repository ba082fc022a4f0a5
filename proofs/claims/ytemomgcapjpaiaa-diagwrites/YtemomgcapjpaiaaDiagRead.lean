/-
  Package diag: the contracts of the closures that read forms.
-/
import Derived.Test.YtemomgcapjpaiaaDiagWord
import Derived.Test.YtemomgcapjpaiaaCodeRd
import Derived.Test.YtemomgcapjpaiaaWordPut
import Derived.Test.YtemomgcapjpaiaaJoinA
import Derived.BigRegion
import Derived.Deep.RegionHeld3
import Derived.Deep.CutBlock
import Derived.Deep.DeepCutAuto
namespace Go.Proofs.Ytemomgcapjpaiaa
open Go.RowKit
open Word Bits Cursor

abbrev CR := CRd 30

theorem hasForm_any (dir : Int) (hd : dir = 0 ∨ dir = 1) (s : UInt16) (w : World) :
    Calls Try.prog 62 #[.int .i64 dir, wordV s] w fun e w' => e = .returned (.bool (Diag.okSub dir s)) ∧ Below w.heap.size w w' := by
  obtain ⟨n, hn⟩ : ∃ n : Nat, n = s.toNat := ⟨_, rfl⟩
  have hl : n < 65536 := by rw [hn]; exact word_lt s
  obtain ⟨R, hR⟩ : ∃ R, R = Diag.okSub dir s := ⟨_, rfl⟩
  have HE : Hid (R = (isSub n && (decide (n ≠ 4) || decide (dir = 0)))) := hide (by rw [hR, hn]; rfl)
  rw [show wordV s = .int .u16 (n : Int) by rw [hn], ← hR]
  clear hn hR
  go_enter Try.func62, Try.ntmps62
  go_wp2_with fail
  refine (bits_any n hl _).mono ?_
  rintro e w1 ⟨rfl, hb⟩
  cases hS : isSub n with
  | false =>
    have hR : Hid (R = false) := hide (by rw [HE.out, hS]; rfl)
    clear HE hS
    go_wp2
    go_ret
    exact ⟨ret_bool hR.out.symm, hb⟩
  | true =>
    rcases hd with rfl | rfl
    · have hR : Hid (R = true) := hide (by rw [HE.out, hS]; simp)
      clear HE hS
      go_wp2
      go_ret
      exact ⟨ret_bool hR.out.symm, hb⟩
    · by_cases h4 : n = 4
      · subst h4
        have hR : Hid (R = false) := hide (by rw [HE.out, hS]; simp)
        clear HE hS
        go_wp2
        go_ret
        exact ⟨ret_bool hR.out.symm, hb⟩
      · have hR : Hid (R = true) := hide (by rw [HE.out, hS]; simp [h4])
        have hq : ((n : Int) == 4) = false := by simp; omega
        clear HE hS
        go_wp2
        go_ret
        exact ⟨ret_bool hR.out.symm, hb⟩

theorem own_word (w : World) (x : UInt16) (t : TypeId) : Own wordV (w.alloc (.cells #[wordV x] t)) w.heap.size (some ⟨w.heap.size, 0, none⟩) 1 1 [x] := Own.fresh w [x] [wordV x] t 1 rfl (by unfold maxLen; omega) rfl
theorem mem2 (x : UInt16) : decide (x ∈ [(0 : UInt16), 65535]) = Diag.isBusy x := by
  unfold Diag.isBusy
  rw [Bool.eq_iff_iff]
  simp [← UInt16.toNat_inj]
theorem lits2 (x y : UInt16) : ∀ i (h : i < [x, y].length), (#[wordV x, wordV y] : Array Value)[0 + i]? = some (wordV ([x, y][i])) := fun i h => by
  match i, h with
  | 0, _ => rfl
  | 1, _ => rfl

theorem Cursor.St.need_false (c : St) (e : Int) (h : e ≠ 0) : (c.need false e).e ≠ 0 := by
  unfold Cursor.St.need
  by_cases h0 : c.e = 0
  · rw [if_pos ⟨h0, rfl⟩]; exact h
  · rw [if_neg (fun h => h0 h.1)]; exact h0

section
variable {w0 wb : World} {hi gm gc : Nat} {m : MsgM} {c : St} {w : World}

/-- What was made ahead of the message and the cursor. -/
structure Kept (wc wb : World) (gm gc : Nat) : Prop where
  below : Below wc.heap.size wc wb
  gm : wc.heap.size ≤ gm
  gc : wc.heap.size ≤ gc
theorem CRd.held {t : TypeId} (h : CRd t w0 wb hi gm gc m c w) {wc : World} (k : Kept wc wb gm gc) {g : Nat} {o : Obj} (hg : wc.heap[g]? = some o) : w.heap[g]? = some o := by
  have h1 := lt_of_block hg
  have h2 := k.gm
  have h3 := k.gc
  have h4 := h.mh
  exact (h.keep g (by omega) (by omega) (by omega)).trans ((k.below.block g h1).trans hg)

set_option maxRecDepth 20000 in
set_option maxHeartbeats 2000000 in
theorem readEcho_any (h : CR w0 wb hi gm gc m c w) :
    Calls Try.prog 63 #[ptrV gc] w fun r w' =>
      (∃ a' cap', r = .returned (.slice a' (Diag.rRest c).1.length cap') ∧ ∀ v, Off 0 hi w' v → Ws v a' (Diag.rRest c).1.length cap' (Diag.rRest c).1) ∧ CR w0 wb hi gm gc m (Diag.rRest c).2 w' := by
  have hsm := h.cur.small
  have H := hide h
  clear h
  obtain ⟨R, hR⟩ : ∃ R, R = Diag.rRest c := ⟨_, rfl⟩
  rw [← hR]
  have HR := hide hR
  clear hR
  go_enter Try.func63, Try.ntmps63
  go_wp2_with fail
  refine (cr_left H.out).mono ?_
  rintro r w1 ⟨rfl, rfl⟩
  obtain ⟨kk, hkk⟩ : ∃ n : Nat, n = c.xs.length := ⟨_, rfl⟩
  obtain ⟨ok, hok⟩ : ∃ b : Bool, b = Diag.restOk kk := ⟨_, rfl⟩
  obtain ⟨hf, hhf⟩ : ∃ n : Nat, n = kk / 2 := ⟨_, rfl⟩
  have HE : Hid (R = (takeW ((c.need ok 5).got (hf : Int) 2), (c.need ok 5).next (hf : Int) 2)) := hide (by rw [HR.out, hok, hhf, hkk]; rfl)
  have hok' : ok = (decide (kk % 2 = 0) && decide (2 ≤ kk) && decide (kk ≤ 250)) := hok
  have HOK := hide hok'
  rw [← hkk] at hsm ⊢
  have hq : (kk : Int) / 2 = (hf : Int) := by rw [hhf]; omega
  clear hkk HR hok hok' hhf
  rcases Nat.mod_two_eq_zero_or_one kk with h0 | h0
  all_goals
    have hr0 : (kk : Int) % 2 = ((kk % 2 : Nat) : Int) := by omega
    by_cases h2 : 2 ≤ kk
    all_goals
      have h2i : (2 : Int) ≤ (kk : Int) ↔ 2 ≤ kk := by omega
      go_wp2_with fail
      refine (cr_need H.out _ _).mono ?_
      rintro r w2 ⟨rfl, hh, _⟩
      have hc : CR w0 wb hi gm gc m (c.need ok 5) w2 := by
        have hv := HOK.out
        first
          | (rw [show ok = false by rw [hv]; simp; omega]; exact hh)
          | (rw [show ok = decide ((kk : Int) ≤ 250) by rw [hv, Bool.eq_iff_iff]; simp; omega]; exact hh)
      have H2 := hide hc
      clear hc hh HOK hr0 h2i
      go_wp2_with fail
      refine (cr_words H2.out _).mono ?_
      rintro r w3 ⟨⟨a3, c3, rfl, hx3⟩, h3⟩
      go_wp2
      go_ret
      rw [HE.out]
      exact ⟨⟨a3, c3, rfl, hx3⟩, h3⟩

set_option maxRecDepth 20000 in
theorem readOne_nil (h : CR w0 wb hi gm gc m c w) :
    Calls Try.prog 64 #[ptrV gc, .nilFunc] w fun r w' =>
      (∃ a' cap', r = .returned (.slice a' 1 cap') ∧ ∀ v, Off 0 hi w' v → Ws v a' 1 cap' [c.word]) ∧ CR w0 wb hi gm gc m (c.afterW.need false 6) w' ∧ But gc w w' := by
  have H := hide h
  clear h
  have hnil : ∀ w : World, (binOp .neq 45 .nilFunc .nilFunc).run Try.prog w = .ok (.bool false) w := fun _ => by kernel_rfl
  go_enter Try.func64, Try.ntmps64
  go_wp2_with fail
  refine (word_any gc c w H.out.cur).mono ?_
  rintro r w1 ⟨rfl, h1, h2⟩
  have H1 := hide (H.out.step h1 h2)
  rw [wordV_word]
  clear H h1
  go_wp2_with fail
  refine (need_any gc c.afterW false 6 w1 H1.out.cur).mono ?_
  rintro r w2 ⟨rfl, h3, h4⟩
  have H2 := hide (H1.out.step h3 h4)
  clear H1 h3
  go_wp2
  go_ret
  have hb := (Below.refl w2.heap.size w2).alloc (Nat.le_refl _) (.cells #[wordV c.word] 24 (0, 0))
  exact ⟨⟨_, _, rfl, fun v hv => (own_word w2 c.word 24).off H2.out.hs hv⟩, H2.out.mono hb, (h2.trans h4).trans (But.of hb)⟩

set_option maxRecDepth 20000 in
theorem readOne_says (h : CR w0 wb hi gm gc m c w) {lo b : Nat} {v : Value} {p : UInt16 → Bool} (hv : Says lo b w v p) (hl : gc < lo) :
    Calls Try.prog 64 #[ptrV gc, v] w fun r w' =>
      (∃ a' cap', r = .returned (.slice a' 1 cap') ∧ ∀ v, Off 0 hi w' v → Ws v a' 1 cap' [c.word]) ∧ CR w0 wb hi gm gc m (c.afterW.need (p c.word) 6) w' ∧ But gc w w' := by
  have H := hide h
  clear h
  obtain ⟨F, caps, rfl, hcf, hs⟩ := hv
  have HS := hide hs
  clear hs
  have hnil : ∀ w : World, (binOp .neq 45 (clV F caps) .nilFunc).run Try.prog w = .ok (.bool true) w := fun _ => by kernel_rfl
  go_enter Try.func64, Try.ntmps64
  go_wp2_with fail
  refine (word_any gc c w H.out.cur).mono ?_
  rintro r w1 ⟨rfl, h1, h2⟩
  have H1 := hide (H.out.step h1 h2)
  rw [wordV_word]
  clear H h1
  go_wp2_with fail
  refine (HS.out c.word w1 (fun g o g1 _ g2 => (h2.block g (lt_of_block g2) (by omega)).trans g2)).mono ?_
  rintro r w3 ⟨rfl, hb3⟩
  replace H1 := hide (H1.out.mono hb3)
  replace h2 : But gc w w3 := h2.trans (But.of hb3)
  clear HS hb3 hcf
  go_wp2_with fail
  refine (need_any gc c.afterW (p c.word) 6 w3 H1.out.cur).mono ?_
  rintro r w2 ⟨rfl, h3, h4⟩
  have H2 := hide (H1.out.step h3 h4)
  clear H1 h3
  go_wp2
  go_ret
  have hb := (Below.refl w2.heap.size w2).alloc (Nat.le_refl _) (.cells #[wordV c.word] 24 (0, 0))
  exact ⟨⟨_, _, rfl, fun v hv => (own_word w2 c.word 24).off H2.out.hs hv⟩, H2.out.mono hb, (h2.trans h4).trans (But.of hb)⟩

set_option maxRecDepth 20000 in
set_option maxHeartbeats 2000000 in
theorem flagsRead_any (h : CR w0 wb hi gm gc m c w) :
    Calls Try.prog 68 #[ptrV gc, ptrV gm] w fun r w' => r = .returned (.tuple #[]) ∧ CR w0 wb hi gm gc (Diag.putVal m c.byte) c.afterB w' := by
  have H := hide h
  clear h
  go_enter Try.func68, Try.ntmps68
  go_wp2_with fail
  refine (cr_byte H.out).mono ?_
  rintro r w1 ⟨rfl, h1⟩
  have f1 := h1.mb.fr 4
  have k1 := h1.mb.c_value
  have H1 := hide (h1.put_value (UInt16.ofNat c.byte.toNat))
  clear h1 H
  have hc8 := byte_lt c.byte
  have HV : Hid (wordV (UInt16.ofNat c.byte.toNat) = .int .u16 (c.byte.toNat : Int)) := hide (by simp only [wordV, UInt16.toNat_ofNat']; congr 2; omega)
  rw [HV.out] at H1
  have hwk : IntKind.u16.wrap (c.byte.toNat : Int) = (c.byte.toNat : Int) := by rw [IntKind.wrap_u16]; omega
  go_wp2
  go_end0
  exact ⟨rfl, H1.out⟩

set_option maxRecDepth 20000 in
set_option maxHeartbeats 2000000 in
theorem eventsRead_any (h : CR w0 wb hi gm gc m c w) :
    Calls Try.prog 71 #[ptrV gc, ptrV gm] w fun r w' => r = .returned (.tuple #[]) ∧ CR w0 wb hi gm gc (Diag.putStat m (Diag.rStat c).1) (Diag.rStat c).2 w' := by
  have H := hide h
  clear h
  obtain ⟨R, hR⟩ : ∃ R, R = (Diag.putStat m (Diag.rStat c).1, (Diag.rStat c).2) := ⟨_, rfl⟩
  have e1 : Diag.putStat m (Diag.rStat c).1 = R.1 := by rw [hR]
  have e2 : (Diag.rStat c).2 = R.2 := by rw [hR]
  rw [e1, e2]
  have HE : Hid (R = ((m.put_status c.word).put_events (c.afterW.need (Diag.isBusy c.word) 6).word, (c.afterW.need (Diag.isBusy c.word) 6).afterW)) := hide hR
  clear e1 e2 hR
  go_enter Try.func71, Try.ntmps71
  go_wp2_with fail
  refine (cr_word H.out).mono ?_
  rintro r w1 ⟨rfl, h1⟩
  have f1 := h1.mb.fr 9
  have k1 := h1.mb.c_status
  have H1 := hide (h1.put_status c.word)
  clear h1 H
  go_upto_region 1 with fail
  generalize w1.setCell ⟨gm, 9, none⟩ (wordV c.word) = w2 at *
  clear f1 k1
  have hcd := H1.out.drew
  clear H1
  refine wp_region_noPanic ?_
  refine wp_region_held_drew (S := fun w' => ∃ c', CR w0 wb hi gm gc (m.put_status c.word) c' w') (by kernel_rfl) (⟨_, hcd⟩) (fun hHeld => ?_)
  refine wpAnyH_take (i := 0) (oi := ⟨some 9, .move (.tmp 0), _, _, _, none⟩) (v := ?_) rfl (by kernel_rfl) (by kernel_rfl) (by kernel_rfl) (fun _ _ _ h => h) (Or.inl ⟨by rfl, ?_⟩) hHeld ?_
  rotate_left
  · (intro wq hSw; go_simp; try with_reducible rfl)
  simp only [Act.put, List.setIfInBounds_toArray, List.set_cons_zero, List.set_cons_succ]
  refine wpAnyH_take (i := 3) (oi := ⟨some 12, .move (.tmp 1), _, _, _, none⟩) (v := ?_) rfl (by kernel_rfl) (by kernel_rfl) (by kernel_rfl) (fun _ _ _ h => h) (Or.inl ⟨by rfl, ?_⟩) hHeld ?_
  rotate_left
  · (intro wq hSw; go_simp; try with_reducible rfl)
  simp only [Act.put, List.setIfInBounds_toArray, List.set_cons_zero, List.set_cons_succ]
  refine wpAnyH_take (i := 4) (oi := ⟨some 13, .nilCheck (.tmp 12), _, _, _, none⟩) (v := ?_) rfl (by kernel_rfl) (by kernel_rfl) (by kernel_rfl) (fun _ _ _ h => h) (Or.inl ⟨by rfl, ?_⟩) hHeld ?_
  rotate_left
  · (intro wq hSw; go_simp; try with_reducible rfl)
  simp only [Act.put, List.setIfInBounds_toArray, List.set_cons_zero, List.set_cons_succ]
  refine wpAnyH_take (i := 5) (oi := ⟨some 14, .fieldAddr 30 (.tmp 13) 9, _, _, _, none⟩) (v := ?_) rfl (by kernel_rfl) (by kernel_rfl) (by kernel_rfl) (fun _ _ _ h => h) (Or.inl ⟨by rfl, ?_⟩) hHeld ?_
  rotate_left
  · (intro wq hSw; go_simp; try with_reducible rfl)
  simp only [Act.put, List.setIfInBounds_toArray, List.set_cons_zero, List.set_cons_succ]
  refine wpAnyH_take (i := 6) (oi := ⟨some 15, .load 24 (.tmp 14), _, _, _, none⟩) (v := ?_) rfl (by kernel_rfl) (by kernel_rfl) (by kernel_rfl) (fun _ _ _ h => h) (Or.inl ⟨by rfl, ?_⟩) hHeld ?_
  rotate_left
  · (intro wq hSw; have hcv : wq.cell? ⟨gm, 9, none⟩ = some (wordV c.word) := (by obtain ⟨_, hq⟩ := hSw; exact hq.mb.c_status); go_simp; try with_reducible rfl)
  simp only [Act.put, List.setIfInBounds_toArray, List.set_cons_zero, List.set_cons_succ]
  refine wpAnyH_ready (rs := [1]) (by kernel_rfl) (by simp) ?_
  refine AllReadyH.cons (o := ⟨some 10, .buildSlice 25 2 #[(0, .const (Value.int IntKind.u16 0)), (1, .const (Value.int IntKind.u16 65535))], _, _, _, none⟩) rfl (fun K hK => ?_) ?_
  · go_simp
    refine hK.out _ _ ?_ (fun hHeld => ?_)
    · exact ⟨_, hcd.mono ((Below.refl _ _).alloc (Nat.le_refl _) _)⟩
    clear hK K
    try simp only [Act.put, List.setIfInBounds_toArray, List.set_cons_zero, List.set_cons_succ]
    refine wpAnyH_ready (rs := [2]) (by kernel_rfl) (by simp) ?_
    refine AllReadyH.cons (o := ⟨some 11, .call ⟨.value (.func 83), #[.tmp 10], #[25]⟩, _, _, _, none⟩) rfl (fun K hK => ?_) ?_
    · go_simp
      refine (among_any _ _ _ _).mono ?_
      rintro r w4 ⟨g, hg, rfl, hc4, hb4⟩
      have hlit := (hb4.block _ (lt_of_block (heap_alloc_new _ _))).trans (heap_alloc_new _ _)
      have s4 := hcd.mono (below_next ((Below.refl _ _).alloc (Nat.le_refl _) _) hb4 (Nat.le_refl _))
      refine hK.out _ _ ?_ (fun hHeld => ?_)
      · exact ⟨_, s4⟩
      clear hK K
      try simp only [Act.put, List.setIfInBounds_toArray, List.set_cons_zero, List.set_cons_succ]
      refine wpAnyH_ready (rs := [7]) (by kernel_rfl) (by simp) ?_
      refine AllReadyH.cons (o := ⟨some 16, .call ⟨.value (.tmp 11), #[.tmp 15], #[24]⟩, _, _, _, none⟩) rfl (fun K hK => ?_) ?_
      · go_simp
        refine (amongWord_any c.word g _ 2 2 [0, 65535] w4 hc4 (Sl.block hlit rfl (Nat.le_refl _) (by unfold maxLen; omega) (lits2 0 65535))).mono ?_
        rintro r w5 ⟨rfl, hb5⟩
        have s5 := s4.mono hb5
        rw [mem2]
        refine hK.out _ _ ?_ (fun hHeld => ?_)
        · exact ⟨_, s5⟩
        clear hK K
        try simp only [Act.put, List.setIfInBounds_toArray, List.set_cons_zero, List.set_cons_succ]
        refine wpAnyH_ready (rs := [8]) (by kernel_rfl) (by simp) ?_
        refine AllReadyH.cons (o := ⟨some 17, .call ⟨.value (.func 40), #[.tmp 9, .tmp 16, .const (Value.int IntKind.i64 6)], #[54, 4, 31]⟩, _, _, _, none⟩) rfl (fun K hK => ?_) ?_
        · go_simp
          refine (cr_need s5 _ _).mono ?_
          rintro r w6 ⟨rfl, h6, _⟩
          refine hK.out _ _ ?_ (fun hHeld => ?_)
          · exact ⟨_, h6⟩
          clear hK K
          try simp only [Act.put, List.setIfInBounds_toArray, List.set_cons_zero, List.set_cons_succ]
          refine wpAnyH_done (by kernel_rfl) ?_ _
          refine NoPanic.normal ?_
          replace h6 : CR w0 wb hi gm gc (m.put_status c.word) (c.afterW.need (Diag.isBusy c.word) 6) w6 := h6
          have H6 := hide h6
          clear h6 hcd hHeld
          generalize c.afterW.need (Diag.isBusy c.word) 6 = d at *
          go_wp2_with fail
          refine (cr_word H6.out).mono ?_
          rintro r w7 ⟨rfl, h7⟩
          have f7 := h7.mb.fr 10
          have k7 := h7.mb.c_events
          have H7 := hide (h7.put_events d.word)
          clear h7 H6
          go_wp2
          go_end0
          rw [HE.out]
          exact ⟨rfl, H7.out⟩
        exact AllReadyH.nil
      exact AllReadyH.nil
    exact AllReadyH.nil
  exact AllReadyH.nil

set_option maxRecDepth 20000 in
set_option maxHeartbeats 2000000 in
theorem itselfRead_any (h : CR w0 wb hi gm gc m c w) :
    Calls Try.prog 77 #[ptrV gc, ptrV gm] w fun r w' => r = .returned (.tuple #[]) ∧ CR w0 wb hi gm gc (Diag.putName m (Diag.rName c).1) (Diag.rName c).2 w' := by
  have H := hide h
  clear h
  obtain ⟨R, hR⟩ : ∃ R, R = (Diag.putName m (Diag.rName c).1, (Diag.rName c).2) := ⟨_, rfl⟩
  have e1 : Diag.putName m (Diag.rName c).1 = R.1 := by rw [hR]
  have e2 : (Diag.rName c).2 = R.2 := by rw [hR]
  rw [e1, e2]
  have HR := hide hR
  clear e1 e2 hR
  go_enter Try.func77, Try.ntmps77
  go_wp2_with fail
  refine (cr_byte H.out).mono ?_
  rintro r w1 ⟨rfl, h1⟩
  have H1 := hide h1
  clear h1 H
  obtain ⟨kk, hkk⟩ : ∃ n : Nat, n = c.byte.toNat := ⟨_, rfl⟩
  have bk : kk < 256 := by rw [hkk]; exact byte_lt _
  obtain ⟨ok, hok⟩ : ∃ b : Bool, b = (decide (1 ≤ kk) && decide (kk ≤ 251)) := ⟨_, rfl⟩
  have HE : Hid (R = (m.put_data ((c.afterB.need ok 5).got (kk : Int) 1), (c.afterB.need ok 5).next (kk : Int) 1)) := hide (by rw [HR.out, hok, hkk]; rfl)
  rw [show byteV c.byte = .int .u8 (kk : Int) by rw [hkk]]
  have HOK := hide hok
  have hwk : IntKind.i64.wrap (kk : Int) = (kk : Int) := by rw [IntKind.wrap_i64]; omega
  clear hkk HR hok
  by_cases h1 : 1 ≤ kk
  all_goals
    go_wp2_with fail
    refine (cr_need H1.out _ _).mono ?_
    rintro r w2 ⟨rfl, h2, _⟩
    have h2' : CR w0 wb hi gm gc m (c.afterB.need ok 5) w2 := by
      first
        | (rw [show ok = false by rw [HOK.out]; simp; omega]; exact h2)
        | (rw [show ok = decide ((kk : Int) ≤ 251) by rw [HOK.out, Bool.eq_iff_iff]; simp; omega]; exact h2)
    have H2 := hide h2'
    clear h2 h2' H1
    go_wp2_with fail
    refine (cr_bytes H2.out _).mono ?_
    rintro r w3 ⟨⟨a3, c3, rfl, hx3⟩, h3⟩
    have f3 := h3.mb.fr 14
    obtain ⟨a4, l4, c4, k3, _⟩ := h3.mb.c_data
    have H3 := hide (h3.put_data hx3)
    clear h3 H2 hx3
    go_wp2
    go_end0
    rw [HE.out]
    exact ⟨rfl, H3.out⟩

set_option maxRecDepth 20000 in
set_option maxHeartbeats 2000000 in
theorem loggedRead_any (h : CR w0 wb hi gm gc m c w) :
    Calls Try.prog 73 #[ptrV gc, ptrV gm] w fun r w' => r = .returned (.tuple #[]) ∧ CR w0 wb hi gm gc (Diag.putLog m (Diag.rLog c).1) (Diag.rLog c).2 w' := by
  have H := hide h
  clear h
  obtain ⟨R, hR⟩ : ∃ R, R = (Diag.putLog m (Diag.rLog c).1, (Diag.rLog c).2) := ⟨_, rfl⟩
  have e1 : Diag.putLog m (Diag.rLog c).1 = R.1 := by rw [hR]
  have e2 : (Diag.rLog c).2 = R.2 := by rw [hR]
  rw [e1, e2]
  have HR := hide hR
  clear e1 e2 hR
  go_enter Try.func73, Try.ntmps73
  go_wp2_with fail
  refine (cr_byte H.out).mono ?_
  rintro r w1 ⟨rfl, h1⟩
  have H1 := hide h1
  clear h1 H
  obtain ⟨kk, hkk⟩ : ∃ n : Nat, n = c.byte.toNat := ⟨_, rfl⟩
  have bk : kk < 256 := by rw [hkk]; exact byte_lt _
  obtain ⟨ok, hok⟩ : ∃ b : Bool, b = (decide (6 ≤ kk) && decide (kk ≤ 70)) := ⟨_, rfl⟩
  have HE : Hid (R = (((Diag.putStat m (Diag.rStat (c.afterB.need ok 5)).1).put_messages (Diag.rStat (c.afterB.need ok 5)).2.word).put_data ((Diag.rStat (c.afterB.need ok 5)).2.afterW.got ((kk : Int) - 6) 1), (Diag.rStat (c.afterB.need ok 5)).2.afterW.next ((kk : Int) - 6) 1)) := hide (by rw [HR.out, hok, hkk]; rfl)
  rw [show byteV c.byte = .int .u8 (kk : Int) by rw [hkk]]
  have HOK := hide hok
  have hwk : IntKind.i64.wrap (kk : Int) = (kk : Int) := by rw [IntKind.wrap_i64]; omega
  have hwk6 : IntKind.i64.wrap ((kk : Int) - 6) = (kk : Int) - 6 := by rw [IntKind.wrap_i64]; omega
  clear hkk HR hok
  by_cases h1 : 6 ≤ kk
  all_goals
    go_wp2_with fail
    refine (cr_need H1.out _ _).mono ?_
    rintro r w2 ⟨rfl, h2, _⟩
    have h2' : CR w0 wb hi gm gc m (c.afterB.need ok 5) w2 := by
      first
        | (rw [show ok = false by rw [HOK.out]; simp; omega]; exact h2)
        | (rw [show ok = decide ((kk : Int) ≤ 70) by rw [HOK.out, Bool.eq_iff_iff]; simp; omega]; exact h2)
    have H2 := hide h2'
    clear h2 h2' H1
    generalize c.afterB.need ok 5 = d at *
    go_wp2_with fail
    refine (eventsRead_any H2.out).mono ?_
    rintro r w3 ⟨rfl, h3⟩
    have H3 := hide h3
    clear h3 H2
    generalize Diag.putStat m (Diag.rStat d).1 = m3 at *
    generalize (Diag.rStat d).2 = d3 at *
    go_wp2_with fail
    refine (cr_word H3.out).mono ?_
    rintro r w4 ⟨rfl, h4⟩
    have f4 := h4.mb.fr 11
    have k4 := h4.mb.c_messages
    have H4 := hide (h4.put_messages d3.word)
    clear h4 H3
    go_wp2_with fail
    generalize w4.setCell ⟨gm, 11, none⟩ (wordV d3.word) = w5 at *
    clear f4 k4
    refine (cr_bytes H4.out _).mono ?_
    rintro r w6 ⟨⟨a3, c3, rfl, hx3⟩, h6⟩
    have f3 := h6.mb.fr 14
    obtain ⟨a4, l4, c4, k3, _⟩ := h6.mb.c_data
    have H6 := hide (h6.put_data hx3)
    clear h6 H4 hx3
    go_wp2
    go_end0
    rw [HE.out]
    exact ⟨rfl, H6.out⟩

set_option maxRecDepth 20000 in
set_option maxHeartbeats 2000000 in
theorem diagRead_any (h : CR w0 wb hi gm gc m c w) (dir : Int) (hd : dir = 0 ∨ dir = 1) {wc : World} (hk : Kept wc wb gm gc) (g : Nat) (hg : wc.heap[g]? = some (.cells #[.int .i64 dir] 3 (0, 0))) :
    Calls Try.prog 60 #[ptrV gc, ptrV gm, ptrV g] w fun r w' => r = .returned (.tuple #[]) ∧ CR w0 wb hi gm gc (Diag.putSub m (Diag.rSub dir c).1) (Diag.rSub dir c).2 w' := by
  have H := hide h
  clear h
  have HG := hide hg
  clear hg
  obtain ⟨R, hR⟩ : ∃ R, R = (Diag.putSub m (Diag.rSub dir c).1, (Diag.rSub dir c).2) := ⟨_, rfl⟩
  have e1 : Diag.putSub m (Diag.rSub dir c).1 = R.1 := by rw [hR]
  have e2 : (Diag.rSub dir c).2 = R.2 := by rw [hR]
  rw [e1, e2]
  have HR : Hid (R = ((m.put_sub c.word).put_words (Diag.rEnd dir c.word (c.afterW.need (Diag.okSub dir c.word) 8)).1, (Diag.rEnd dir c.word (c.afterW.need (Diag.okSub dir c.word) 8)).2)) := hide hR
  clear e1 e2 hR
  go_enter Try.func60, Try.ntmps60
  go_wp2_with fail
  refine (cr_word H.out).mono ?_
  rintro r w1 ⟨rfl, h1⟩
  have f1 := h1.mb.fr 8
  have k1 := h1.mb.c_sub
  have H1 := hide (h1.put_sub c.word)
  clear h1 H
  go_upto_region 1 with fail
  generalize w1.setCell ⟨gm, 8, none⟩ (wordV c.word) = w2 at *
  clear f1 k1
  have hcd := H1.out.drew
  clear H1
  refine wp_region_noPanic ?_
  refine wp_region_held_drew (S := fun w' => ∃ c', CR w0 wb hi gm gc (m.put_sub c.word) c' w') (by kernel_rfl) (⟨_, hcd⟩) (fun hHeld => ?_)
  refine wpAnyH_take (i := 0) (oi := ⟨some 10, .move (.tmp 0), _, _, _, none⟩) (v := ?_) rfl (by kernel_rfl) (by kernel_rfl) (by kernel_rfl) (fun _ _ _ h => h) (Or.inl ⟨by rfl, ?_⟩) hHeld ?_
  rotate_left
  · (intro wq hSw; go_simp; try with_reducible rfl)
  simp only [Act.put, List.setIfInBounds_toArray, List.set_cons_zero, List.set_cons_succ]
  refine wpAnyH_take (i := 1) (oi := ⟨some 11, .load 3 (.tmp 2), _, _, _, none⟩) (v := ?_) rfl (by kernel_rfl) (by kernel_rfl) (by kernel_rfl) (fun _ _ _ h => h) (Or.inl ⟨by rfl, ?_⟩) hHeld ?_
  rotate_left
  · (intro wq hSw; have hcv : wq.cell? ⟨g, 0, none⟩ = some (.int .i64 dir) := (by obtain ⟨_, hq⟩ := hSw; exact cell_of_row _ g 0 _ _ _ (hq.held hk HG.out)); go_simp; try with_reducible rfl)
  simp only [Act.put, List.setIfInBounds_toArray, List.set_cons_zero, List.set_cons_succ]
  refine wpAnyH_take (i := 2) (oi := ⟨some 12, .move (.tmp 1), _, _, _, none⟩) (v := ?_) rfl (by kernel_rfl) (by kernel_rfl) (by kernel_rfl) (fun _ _ _ h => h) (Or.inl ⟨by rfl, ?_⟩) hHeld ?_
  rotate_left
  · (intro wq hSw; go_simp; try with_reducible rfl)
  simp only [Act.put, List.setIfInBounds_toArray, List.set_cons_zero, List.set_cons_succ]
  refine wpAnyH_take (i := 3) (oi := ⟨some 13, .nilCheck (.tmp 12), _, _, _, none⟩) (v := ?_) rfl (by kernel_rfl) (by kernel_rfl) (by kernel_rfl) (fun _ _ _ h => h) (Or.inl ⟨by rfl, ?_⟩) hHeld ?_
  rotate_left
  · (intro wq hSw; go_simp; try with_reducible rfl)
  simp only [Act.put, List.setIfInBounds_toArray, List.set_cons_zero, List.set_cons_succ]
  refine wpAnyH_take (i := 4) (oi := ⟨some 14, .fieldAddr 30 (.tmp 13) 8, _, _, _, none⟩) (v := ?_) rfl (by kernel_rfl) (by kernel_rfl) (by kernel_rfl) (fun _ _ _ h => h) (Or.inl ⟨by rfl, ?_⟩) hHeld ?_
  rotate_left
  · (intro wq hSw; go_simp; try with_reducible rfl)
  simp only [Act.put, List.setIfInBounds_toArray, List.set_cons_zero, List.set_cons_succ]
  refine wpAnyH_take (i := 5) (oi := ⟨some 15, .load 24 (.tmp 14), _, _, _, none⟩) (v := ?_) rfl (by kernel_rfl) (by kernel_rfl) (by kernel_rfl) (fun _ _ _ h => h) (Or.inl ⟨by rfl, ?_⟩) hHeld ?_
  rotate_left
  · (intro wq hSw; have hcv : wq.cell? ⟨gm, 8, none⟩ = some (wordV c.word) := (by obtain ⟨_, hq⟩ := hSw; exact hq.mb.c_sub); go_simp; try with_reducible rfl)
  simp only [Act.put, List.setIfInBounds_toArray, List.set_cons_zero, List.set_cons_succ]
  refine wpAnyH_ready (rs := [6]) (by kernel_rfl) (by simp) ?_
  refine AllReadyH.cons (o := ⟨some 16, .call ⟨.value (.func 62), #[.tmp 11, .tmp 15], #[3, 24]⟩, _, _, _, none⟩) rfl (fun K hK => ?_) ?_
  · go_simp
    refine (hasForm_any dir hd c.word _).mono ?_
    rintro r w4 ⟨rfl, hb4⟩
    have s4 := hcd.mono hb4
    refine hK.out _ _ ?_ (fun hHeld => ?_)
    · exact ⟨_, s4⟩
    clear hK K
    try simp only [Act.put, List.setIfInBounds_toArray, List.set_cons_zero, List.set_cons_succ]
    refine wpAnyH_ready (rs := [7]) (by kernel_rfl) (by simp) ?_
    refine AllReadyH.cons (o := ⟨some 17, .call ⟨.value (.func 40), #[.tmp 10, .tmp 16, .const (Value.int IntKind.i64 8)], #[54, 4, 31]⟩, _, _, _, none⟩) rfl (fun K hK => ?_) ?_
    · go_simp
      refine (cr_need s4 _ _).mono ?_
      rintro r w6 ⟨rfl, h6, _⟩
      refine hK.out _ _ ?_ (fun hHeld => ?_)
      · exact ⟨_, h6⟩
      clear hK K
      try simp only [Act.put, List.setIfInBounds_toArray, List.set_cons_zero, List.set_cons_succ]
      refine wpAnyH_done (by kernel_rfl) ?_ _
      refine NoPanic.normal ?_
      have H6 := hide h6
      clear h6 hcd hHeld s4 hb4
      have HD : Hid (Diag.okSub dir c.word = false → (c.afterW.need (Diag.okSub dir c.word) 8).e ≠ 0) := hide (fun h => by rw [h]; exact St.need_false _ _ (by omega))
      have HN : Hid (Diag.okSub dir c.word = true → Diag.sub_is c.word.toNat = true) := hide (fun h => by unfold Diag.okSub at h; simp at h; exact h.1)
      generalize c.afterW.need (Diag.okSub dir c.word) 8 = d at *
      have HK := hide H6.out.mb.c_sub
      obtain ⟨n, hn⟩ : ∃ n : Nat, n = c.word.toNat := ⟨_, rfl⟩
      replace HK : Hid (w6.cell? ⟨gm, 8, none⟩ = some (.int .u16 (n : Int))) := hide (by rw [hn]; exact HK.out)
      have HW : Hid (c.word.toNat = n) := hide hn.symm
      clear hn
      by_cases h0 : n = 0
      · subst h0
        have hk6 := HK.out
        have hz : c.word = 0 := UInt16.toNat.inj HW.out
        have HE : Hid (R = ((m.put_sub c.word).put_words (Diag.rRest d).1, (Diag.rRest d).2)) := hide (by rw [HR.out]; unfold Diag.rEnd; rw [if_pos hz])
        clear HR HK HD HN hz
        go_wp2_with fail
        refine (readEcho_any H6.out).mono ?_
        rintro r w7 ⟨⟨a7, c7, rfl, hx7⟩, h7⟩
        have f7 := h7.mb.fr 12
        obtain ⟨a8, l8, c8, k8, _⟩ := h7.mb.c_words
        have H7 := hide (h7.put_words hx7)
        clear h7 H6 hx7 hk6
        go_wp2
        go_end0
        rw [HE.out]
        exact ⟨rfl, H7.out⟩
      · have hz : ¬ c.word = 0 := fun h => h0 (by rw [← HW.out, h]; rfl)
        have HE : Hid (R = ((m.put_sub c.word).put_words [d.word], d.afterW.need (Diag.may dir n d.word.toNat) 6)) := hide (by rw [HR.out]; unfold Diag.rEnd; rw [if_neg hz, HW.out])
        have hk6 := HK.out
        clear HR HK hz
        go_upto_region 4 with fail
        have hcd := H6.out.drew
        have hgc : gc < w6.drew.heap.size := hcd.cur.lt
        have hgm : gm < w6.drew.heap.size := hcd.mb.lt
        clear H6 hk6
        cases hA : Diag.asks n with
        | true =>
          refine wp_region_noPanic ?_
          refine wp_region_held_drew (S := fun w' => ∃ m' c', CR w0 wb hi gm gc m' c' w' ∧ m'.sub = c.word) (by kernel_rfl) (⟨_, _, hcd, rfl⟩) (fun hHeld => ?_)
          refine wpAnyH_take (i := 0) (oi := ⟨some 28, .move (.tmp 1), _, _, _, none⟩) (v := ?_) rfl (by kernel_rfl) (by kernel_rfl) (by kernel_rfl) (fun _ _ _ h => h) (Or.inl ⟨by rfl, ?_⟩) hHeld ?_
          rotate_left
          · (intro wq hSw; go_simp; try with_reducible rfl)
          simp only [Act.put, List.setIfInBounds_toArray, List.set_cons_zero, List.set_cons_succ]
          refine wpAnyH_take (i := 1) (oi := ⟨some 29, .move (.tmp 0), _, _, _, none⟩) (v := ?_) rfl (by kernel_rfl) (by kernel_rfl) (by kernel_rfl) (fun _ _ _ h => h) (Or.inl ⟨by rfl, ?_⟩) hHeld ?_
          rotate_left
          · (intro wq hSw; go_simp; try with_reducible rfl)
          simp only [Act.put, List.setIfInBounds_toArray, List.set_cons_zero, List.set_cons_succ]
          refine wpAnyH_take (i := 2) (oi := ⟨some 30, .load 3 (.tmp 2), _, _, _, none⟩) (v := ?_) rfl (by kernel_rfl) (by kernel_rfl) (by kernel_rfl) (fun _ _ _ h => h) (Or.inl ⟨by rfl, ?_⟩) hHeld ?_
          rotate_left
          · (intro wq hSw; have hcv : wq.cell? ⟨g, 0, none⟩ = some (.int .i64 dir) := (by obtain ⟨_, _, hq, _⟩ := hSw; exact cell_of_row _ g 0 _ _ _ (hq.held hk HG.out)); go_simp; try with_reducible rfl)
          simp only [Act.put, List.setIfInBounds_toArray, List.set_cons_zero, List.set_cons_succ]
          refine wpAnyH_take (i := 4) (oi := ⟨some 32, .move (.tmp 1), _, _, _, none⟩) (v := ?_) rfl (by kernel_rfl) (by kernel_rfl) (by kernel_rfl) (fun _ _ _ h => h) (Or.inl ⟨by rfl, ?_⟩) hHeld ?_
          rotate_left
          · (intro wq hSw; go_simp; try with_reducible rfl)
          simp only [Act.put, List.setIfInBounds_toArray, List.set_cons_zero, List.set_cons_succ]
          refine wpAnyH_take (i := 5) (oi := ⟨some 33, .nilCheck (.tmp 32), _, _, _, none⟩) (v := ?_) rfl (by kernel_rfl) (by kernel_rfl) (by kernel_rfl) (fun _ _ _ h => h) (Or.inl ⟨by rfl, ?_⟩) hHeld ?_
          rotate_left
          · (intro wq hSw; go_simp; try with_reducible rfl)
          simp only [Act.put, List.setIfInBounds_toArray, List.set_cons_zero, List.set_cons_succ]
          refine wpAnyH_take (i := 6) (oi := ⟨some 34, .fieldAddr 30 (.tmp 33) 8, _, _, _, none⟩) (v := ?_) rfl (by kernel_rfl) (by kernel_rfl) (by kernel_rfl) (fun _ _ _ h => h) (Or.inl ⟨by rfl, ?_⟩) hHeld ?_
          rotate_left
          · (intro wq hSw; go_simp; try with_reducible rfl)
          simp only [Act.put, List.setIfInBounds_toArray, List.set_cons_zero, List.set_cons_succ]
          refine wpAnyH_take (i := 7) (oi := ⟨some 35, .load 24 (.tmp 34), _, _, _, none⟩) (v := ?_) rfl (by kernel_rfl) (by kernel_rfl) (by kernel_rfl) (fun _ _ _ h => h) (Or.inl ⟨by rfl, ?_⟩) hHeld ?_
          rotate_left
          · (intro wq hSw; have hcv : wq.cell? ⟨gm, 8, none⟩ = some (.int .u16 (n : Int)) := (by obtain ⟨_, _, hq, hqs⟩ := hSw; have := hq.mb.c_sub; rw [hqs] at this; rw [← HW.out]; exact this); go_simp; try with_reducible rfl)
          simp only [Act.put, List.setIfInBounds_toArray, List.set_cons_zero, List.set_cons_succ]
          refine wpAnyH_ready (rs := [3]) (by kernel_rfl) (by simp) ?_
          refine AllReadyH.cons (o := ⟨some 31, .call ⟨.value (.func 65), #[.tmp 30], #[3]⟩, _, _, _, none⟩) rfl (fun K hK => ?_) ?_
          · go_simp
            refine (wordsOf_any dir _).mono ?_
            rintro r w3 ⟨b, rfl, hb3, hlt, l, hT, hW⟩
            have s3 := hcd.mono hb3
            obtain ⟨v, hv, p, hs, hp⟩ := (hW n).1 hA
            have HLK : Hid (∀ wq, TabW wq b l → (Instr.lookup 94 (.map (some b)) (.int .u16 (n : Int)) false).run Try.prog wq = .ok v wq) := hide (fun wq h => by rw [run_tabW1 h _ _ _ Try.underlying94 Try.underlying24 .nilFunc (by kernel_rfl), hv]; rfl)
            clear hW hv
            refine hK.out _ _ ?_ (fun hHeld => ?_)
            · exact ⟨_, _, s3, rfl⟩
            clear hK K
            try simp only [Act.put, List.setIfInBounds_toArray, List.set_cons_zero, List.set_cons_succ]
            refine wpAnyH_sub (fun w' => TabW w' b l ∧ ∃ m' c', CR w0 wb hi gm gc m' c' w' ∧ m'.sub = c.word) (fun _ h => h.2) _ _ _ _ ?_
            replace hHeld : TabW w3 b l ∧ ∃ m' c', CR w0 wb hi gm gc m' c' w3 ∧ m'.sub = c.word := ⟨hT, _, _, s3, rfl⟩
            refine wpAnyH_take (i := 8) (oi := ⟨some 36, .lookup 94 (.tmp 31) (.tmp 35) false, _, _, _, none⟩) (v := ?_) rfl (by kernel_rfl) (by kernel_rfl) (by kernel_rfl) (fun _ _ _ h => h) (Or.inl ⟨by rfl, ?_⟩) hHeld ?_
            rotate_left
            · (intro wq hSw; have hcv := HLK.out wq hSw.1; go_simp; try with_reducible rfl)
            simp only [Act.put, List.setIfInBounds_toArray, List.set_cons_zero, List.set_cons_succ]
            refine wpAnyH_ready (rs := [9]) (by kernel_rfl) (by simp) ?_
            refine AllReadyH.cons (o := ⟨some 37, .call ⟨.value (.func 64), #[.tmp 29, .tmp 36], #[54, 45]⟩, _, _, _, none⟩) rfl (fun K hK => ?_) ?_
            · go_simp
              refine (readOne_says s3 hs hgc).mono ?_
              rintro r w9 ⟨⟨a9, c9, rfl, hx9⟩, h9, hb9⟩
              rw [hp] at h9
              have f9 := h9.mb.fr 12
              obtain ⟨a8, l8, c8, k8, _⟩ := h9.mb.c_words
              have h10 := h9.put_words hx9
              have hT9 : TabW w9 b l := (hb9.block b hT.lt (by omega)).trans hT
              refine hK.out _ _ ?_ (fun hHeld => ?_)
              · exact ⟨hT9, _, _, h9, rfl⟩
              clear hK K
              try simp only [Act.put, List.setIfInBounds_toArray, List.set_cons_zero, List.set_cons_succ]
              refine wpAnyH_take (i := 10) (oi := ⟨some 38, .nilCheck (.tmp 28), _, _, _, none⟩) (v := ?_) rfl (by kernel_rfl) (by kernel_rfl) (by kernel_rfl) (fun _ _ _ h => h) (Or.inl ⟨by rfl, ?_⟩) hHeld ?_
              rotate_left
              · (intro wq hSw; go_simp; try with_reducible rfl)
              simp only [Act.put, List.setIfInBounds_toArray, List.set_cons_zero, List.set_cons_succ]
              refine wpAnyH_take (i := 11) (oi := ⟨some 39, .fieldAddr 30 (.tmp 38) 12, _, _, _, none⟩) (v := ?_) rfl (by kernel_rfl) (by kernel_rfl) (by kernel_rfl) (fun _ _ _ h => h) (Or.inl ⟨by rfl, ?_⟩) hHeld ?_
              rotate_left
              · (intro wq hSw; go_simp; try with_reducible rfl)
              simp only [Act.put, List.setIfInBounds_toArray, List.set_cons_zero, List.set_cons_succ]
              refine wpAnyH_ready (rs := [12]) (by kernel_rfl) (by simp) ?_
              refine AllReadyH.cons (o := ⟨none, .store 25 (.tmp 39) (.tmp 37), _, _, _, none⟩) rfl (fun K hK => ?_) ?_
              · go_simp
                refine hK.out _ _ ?_ (fun hHeld => ?_)
                · exact ⟨(Below.heap_setCell _ _ _ _ (show b ≠ gm by omega)).trans hT9, _, _, h10, rfl⟩
                clear hK K
                try simp only [Act.put]
                refine wpAnyH_done (by kernel_rfl) ?_ _
                refine NoPanic.normal ?_
                go_end0
                rw [HE.out]
                exact ⟨rfl, h10⟩
              exact AllReadyH.nil
            exact AllReadyH.nil
          exact AllReadyH.nil
        | false =>
          have hde : d.e ≠ 0 := by
            apply HD.out
            cases ho : Diag.okSub dir c.word with
            | false => rfl
            | true =>
              have h1 := HN.out ho
              rw [HW.out] at h1
              unfold Diag.asks at hA
              rw [h1] at hA
              simp [h0] at hA
          replace HE : Hid (R = ((m.put_sub c.word).put_words [d.word], d.afterW.need false 6)) := hide (by
            rw [HE.out]
            have ha := St.afterW_bad d hde
            rw [St.need_bad _ _ _ (by rw [ha]; exact hde), St.need_bad _ _ _ (by rw [ha]; exact hde)])
          refine wp_region_noPanic ?_
          refine wp_region_held_drew (S := fun w' => ∃ m' c', CR w0 wb hi gm gc m' c' w' ∧ m'.sub = c.word) (by kernel_rfl) (⟨_, _, hcd, rfl⟩) (fun hHeld => ?_)
          refine wpAnyH_take (i := 0) (oi := ⟨some 28, .move (.tmp 1), _, _, _, none⟩) (v := ?_) rfl (by kernel_rfl) (by kernel_rfl) (by kernel_rfl) (fun _ _ _ h => h) (Or.inl ⟨by rfl, ?_⟩) hHeld ?_
          rotate_left
          · (intro wq hSw; go_simp; try with_reducible rfl)
          simp only [Act.put, List.setIfInBounds_toArray, List.set_cons_zero, List.set_cons_succ]
          refine wpAnyH_take (i := 1) (oi := ⟨some 29, .move (.tmp 0), _, _, _, none⟩) (v := ?_) rfl (by kernel_rfl) (by kernel_rfl) (by kernel_rfl) (fun _ _ _ h => h) (Or.inl ⟨by rfl, ?_⟩) hHeld ?_
          rotate_left
          · (intro wq hSw; go_simp; try with_reducible rfl)
          simp only [Act.put, List.setIfInBounds_toArray, List.set_cons_zero, List.set_cons_succ]
          refine wpAnyH_take (i := 2) (oi := ⟨some 30, .load 3 (.tmp 2), _, _, _, none⟩) (v := ?_) rfl (by kernel_rfl) (by kernel_rfl) (by kernel_rfl) (fun _ _ _ h => h) (Or.inl ⟨by rfl, ?_⟩) hHeld ?_
          rotate_left
          · (intro wq hSw; have hcv : wq.cell? ⟨g, 0, none⟩ = some (.int .i64 dir) := (by obtain ⟨_, _, hq, _⟩ := hSw; exact cell_of_row _ g 0 _ _ _ (hq.held hk HG.out)); go_simp; try with_reducible rfl)
          simp only [Act.put, List.setIfInBounds_toArray, List.set_cons_zero, List.set_cons_succ]
          refine wpAnyH_take (i := 4) (oi := ⟨some 32, .move (.tmp 1), _, _, _, none⟩) (v := ?_) rfl (by kernel_rfl) (by kernel_rfl) (by kernel_rfl) (fun _ _ _ h => h) (Or.inl ⟨by rfl, ?_⟩) hHeld ?_
          rotate_left
          · (intro wq hSw; go_simp; try with_reducible rfl)
          simp only [Act.put, List.setIfInBounds_toArray, List.set_cons_zero, List.set_cons_succ]
          refine wpAnyH_take (i := 5) (oi := ⟨some 33, .nilCheck (.tmp 32), _, _, _, none⟩) (v := ?_) rfl (by kernel_rfl) (by kernel_rfl) (by kernel_rfl) (fun _ _ _ h => h) (Or.inl ⟨by rfl, ?_⟩) hHeld ?_
          rotate_left
          · (intro wq hSw; go_simp; try with_reducible rfl)
          simp only [Act.put, List.setIfInBounds_toArray, List.set_cons_zero, List.set_cons_succ]
          refine wpAnyH_take (i := 6) (oi := ⟨some 34, .fieldAddr 30 (.tmp 33) 8, _, _, _, none⟩) (v := ?_) rfl (by kernel_rfl) (by kernel_rfl) (by kernel_rfl) (fun _ _ _ h => h) (Or.inl ⟨by rfl, ?_⟩) hHeld ?_
          rotate_left
          · (intro wq hSw; go_simp; try with_reducible rfl)
          simp only [Act.put, List.setIfInBounds_toArray, List.set_cons_zero, List.set_cons_succ]
          refine wpAnyH_take (i := 7) (oi := ⟨some 35, .load 24 (.tmp 34), _, _, _, none⟩) (v := ?_) rfl (by kernel_rfl) (by kernel_rfl) (by kernel_rfl) (fun _ _ _ h => h) (Or.inl ⟨by rfl, ?_⟩) hHeld ?_
          rotate_left
          · (intro wq hSw; have hcv : wq.cell? ⟨gm, 8, none⟩ = some (.int .u16 (n : Int)) := (by obtain ⟨_, _, hq, hqs⟩ := hSw; have := hq.mb.c_sub; rw [hqs] at this; rw [← HW.out]; exact this); go_simp; try with_reducible rfl)
          simp only [Act.put, List.setIfInBounds_toArray, List.set_cons_zero, List.set_cons_succ]
          refine wpAnyH_ready (rs := [3]) (by kernel_rfl) (by simp) ?_
          refine AllReadyH.cons (o := ⟨some 31, .call ⟨.value (.func 65), #[.tmp 30], #[3]⟩, _, _, _, none⟩) rfl (fun K hK => ?_) ?_
          · go_simp
            refine (wordsOf_any dir _).mono ?_
            rintro r w3 ⟨b, rfl, hb3, hlt, l, hT, hW⟩
            have s3 := hcd.mono hb3
            have hv := (hW n).2 hA
            have HLK : Hid (∀ wq, TabW wq b l → (Instr.lookup 94 (.map (some b)) (.int .u16 (n : Int)) false).run Try.prog wq = .ok .nilFunc wq) := hide (fun wq h => by rw [run_tabW1 h _ _ _ Try.underlying94 Try.underlying24 .nilFunc (by kernel_rfl), hv]; rfl)
            clear hW hv
            refine hK.out _ _ ?_ (fun hHeld => ?_)
            · exact ⟨_, _, s3, rfl⟩
            clear hK K
            try simp only [Act.put, List.setIfInBounds_toArray, List.set_cons_zero, List.set_cons_succ]
            refine wpAnyH_sub (fun w' => TabW w' b l ∧ ∃ m' c', CR w0 wb hi gm gc m' c' w' ∧ m'.sub = c.word) (fun _ h => h.2) _ _ _ _ ?_
            replace hHeld : TabW w3 b l ∧ ∃ m' c', CR w0 wb hi gm gc m' c' w3 ∧ m'.sub = c.word := ⟨hT, _, _, s3, rfl⟩
            refine wpAnyH_take (i := 8) (oi := ⟨some 36, .lookup 94 (.tmp 31) (.tmp 35) false, _, _, _, none⟩) (v := ?_) rfl (by kernel_rfl) (by kernel_rfl) (by kernel_rfl) (fun _ _ _ h => h) (Or.inl ⟨by rfl, ?_⟩) hHeld ?_
            rotate_left
            · (intro wq hSw; have hcv := HLK.out wq hSw.1; go_simp; try with_reducible rfl)
            simp only [Act.put, List.setIfInBounds_toArray, List.set_cons_zero, List.set_cons_succ]
            refine wpAnyH_ready (rs := [9]) (by kernel_rfl) (by simp) ?_
            refine AllReadyH.cons (o := ⟨some 37, .call ⟨.value (.func 64), #[.tmp 29, .tmp 36], #[54, 45]⟩, _, _, _, none⟩) rfl (fun K hK => ?_) ?_
            · go_simp
              refine (readOne_nil s3).mono ?_
              rintro r w9 ⟨⟨a9, c9, rfl, hx9⟩, h9, hb9⟩
              have f9 := h9.mb.fr 12
              obtain ⟨a8, l8, c8, k8, _⟩ := h9.mb.c_words
              have h10 := h9.put_words hx9
              have hT9 : TabW w9 b l := (hb9.block b hT.lt (by omega)).trans hT
              refine hK.out _ _ ?_ (fun hHeld => ?_)
              · exact ⟨hT9, _, _, h9, rfl⟩
              clear hK K
              try simp only [Act.put, List.setIfInBounds_toArray, List.set_cons_zero, List.set_cons_succ]
              refine wpAnyH_take (i := 10) (oi := ⟨some 38, .nilCheck (.tmp 28), _, _, _, none⟩) (v := ?_) rfl (by kernel_rfl) (by kernel_rfl) (by kernel_rfl) (fun _ _ _ h => h) (Or.inl ⟨by rfl, ?_⟩) hHeld ?_
              rotate_left
              · (intro wq hSw; go_simp; try with_reducible rfl)
              simp only [Act.put, List.setIfInBounds_toArray, List.set_cons_zero, List.set_cons_succ]
              refine wpAnyH_take (i := 11) (oi := ⟨some 39, .fieldAddr 30 (.tmp 38) 12, _, _, _, none⟩) (v := ?_) rfl (by kernel_rfl) (by kernel_rfl) (by kernel_rfl) (fun _ _ _ h => h) (Or.inl ⟨by rfl, ?_⟩) hHeld ?_
              rotate_left
              · (intro wq hSw; go_simp; try with_reducible rfl)
              simp only [Act.put, List.setIfInBounds_toArray, List.set_cons_zero, List.set_cons_succ]
              refine wpAnyH_ready (rs := [12]) (by kernel_rfl) (by simp) ?_
              refine AllReadyH.cons (o := ⟨none, .store 25 (.tmp 39) (.tmp 37), _, _, _, none⟩) rfl (fun K hK => ?_) ?_
              · go_simp
                refine hK.out _ _ ?_ (fun hHeld => ?_)
                · exact ⟨(Below.heap_setCell _ _ _ _ (show b ≠ gm by omega)).trans hT9, _, _, h10, rfl⟩
                clear hK K
                try simp only [Act.put]
                refine wpAnyH_done (by kernel_rfl) ?_ _
                refine NoPanic.normal ?_
                go_end0
                rw [HE.out]
                exact ⟨rfl, h10⟩
              exact AllReadyH.nil
            exact AllReadyH.nil
          exact AllReadyH.nil
    exact AllReadyH.nil
  exact AllReadyH.nil

/-! the forms, as values -/
namespace Diag
def Frm.rd : Frm → FuncId
  | 0 => 58
  | 1 => 68
  | 2 => 60
  | 3 => 60
  | 4 => 71
  | 5 => 73
  | 6 => 77
def Frm.wr : Frm → FuncId
  | 0 => 59
  | 1 => 70
  | 2 => 66
  | 3 => 66
  | 4 => 72
  | 5 => 75
  | 6 => 78
/-- What a form's closures have captured. -/
def Frm.caps (w0 : World) : Frm → Array Value → Array Value → Prop
  | 2, r, s => ∃ g, r = #[ptrV g] ∧ s = #[] ∧ w0.heap[g]? = some (.cells #[.int .i64 0] 3 (0, 0))
  | 3, r, s => ∃ g, r = #[ptrV g] ∧ s = #[] ∧ w0.heap[g]? = some (.cells #[.int .i64 1] 3 (0, 0))
  | 0, r, s => r = #[] ∧ s = #[]
  | 1, r, s => r = #[] ∧ s = #[]
  | 4, r, s => r = #[] ∧ s = #[]
  | 5, r, s => r = #[] ∧ s = #[]
  | 6, r, s => r = #[] ∧ s = #[]
theorem Frm.caps_key {w0 w1 : World} (key : ∀ (g : Nat) (cs : Array Value) (t : TypeId), w0.heap[g]? = some (.cells cs t (0, 0)) → cs ≠ #[.nilFunc, .nilFunc] → w1.heap[g]? = some (.cells cs t (0, 0))) {f : Frm} {r s : Array Value} (h : f.caps w0 r s) : f.caps w1 r s := by
  rcases Frm.seven f with rfl | rfl | rfl | rfl | rfl | rfl | rfl
  · exact h
  · exact h
  · obtain ⟨g, h1, h2, h3⟩ := h; exact ⟨g, h1, h2, key _ _ _ h3 (by simp)⟩
  · obtain ⟨g, h1, h2, h3⟩ := h; exact ⟨g, h1, h2, key _ _ _ h3 (by simp)⟩
  · exact h
  · exact h
  · exact h
theorem Frm.caps_mono {w0 w1 : World} (hb : Below w0.heap.size w0 w1) {f : Frm} {r s : Array Value} (h : f.caps w0 r s) : f.caps w1 r s :=
  Frm.caps_key (fun _ _ _ hg _ => (hb.block _ (lt_of_block hg)).trans hg) h
theorem Frm.caps_set {w0 w1 : World} {r0 : Nat} {t : TypeId} (e0 : w0.heap[r0]? = some (.cells #[.nilFunc, .nilFunc] t (0, 0))) (hn : ∀ k, k ≠ r0 → w1.heap[k]? = w0.heap[k]?) {f : Frm} {r s : Array Value} (h : f.caps w0 r s) : f.caps w1 r s :=
  Frm.caps_key (fun g cs t hg hc => (hn g (fun h => hc (by
    subst h
    rw [hg] at e0
    injection e0 with e0
    injection e0)) ).trans hg) h
end Diag

theorem nothingRead_any (h : CR w0 wb hi gm gc m c w) :
    Calls Try.prog 58 #[ptrV gc, ptrV gm] w fun r w' => r = .returned (.tuple #[]) ∧ CR w0 wb hi gm gc m c w' := by
  have H := hide h
  clear h
  go_enter Try.func58, Try.ntmps58
  go_wp2
  go_end0
  exact ⟨rfl, H.out⟩

/-- What a form's closure reads. -/
theorem formRead_any (f : Diag.Frm) {rc sc : Array Value} {wc : World} (hk : Kept wc wb gm gc) (hf : f.caps wc rc sc) (h : CR w0 wb hi gm gc m c w) :
    Calls Try.prog f.rd (#[ptrV gc, ptrV gm] ++ rc) w fun r w' => r = .returned (.tuple #[]) ∧ CR w0 wb hi gm gc (f.read (m, c)).1 (f.read (m, c)).2 w' := by
  rcases Diag.Frm.seven f with rfl | rfl | rfl | rfl | rfl | rfl | rfl
  · obtain ⟨rfl, _⟩ := hf; exact nothingRead_any h
  · obtain ⟨rfl, _⟩ := hf; exact flagsRead_any h
  · obtain ⟨g, rfl, _, h3⟩ := hf; exact diagRead_any h 0 (.inl rfl) hk g h3
  · obtain ⟨g, rfl, _, h3⟩ := hf; exact diagRead_any h 1 (.inr rfl) hk g h3
  · obtain ⟨rfl, _⟩ := hf; exact eventsRead_any h
  · obtain ⟨rfl, _⟩ := hf; exact loggedRead_any h
  · obtain ⟨rfl, _⟩ := hf; exact itselfRead_any h
theorem rd_enter (f : Diag.Frm) (args : Array Value) (w : World) : (callFunc f.rd args).run Try.prog w = .ok (.enter f.rd args) w := by
  rcases Diag.Frm.seven f with rfl | rfl | rfl | rfl | rfl | rfl | rfl <;> kernel_rfl
theorem wr_enter (f : Diag.Frm) (args : Array Value) (w : World) : (callFunc f.wr args).run Try.prog w = .ok (.enter f.wr args) w := by
  rcases Diag.Frm.seven f with rfl | rfl | rfl | rfl | rfl | rfl | rfl <;> kernel_rfl
end

end Go.Proofs.Ytemomgcapjpaiaa
