/-
  Package diag: the contracts of the closures that write forms.
-/
import Derived.Test.YtemomgcapjpaiaaDiagForm
import Derived.Test.YtemomgcapjpaiaaAppBut
import Derived.Test.YtemomgcapjpaiaaSmall
namespace Go.Proofs.Ytemomgcapjpaiaa
open Go.RowKit
open Word Bits Cursor

theorem litW (w : World) (xs : List UInt16) (n : Nat) (h : xs.length = n) (hn : n ≤ 1000) (cs : List Value) (t : TypeId) (hc : cs = xs.map wordV) : Own wordV (w.alloc (.cells cs.toArray t)) w.heap.size (some ⟨w.heap.size, 0, none⟩) n n xs :=
  Own.fresh w xs cs t n h (by unfold maxLen; omega) hc

set_option maxHeartbeats 1000000 in
theorem measured_any (a : Option Addr) (len cap : Nat) (xs : List UInt8) (w : World) (hx : Bs w a len cap xs) (hl : len ≤ 100000) :
    Calls Try.prog 76 #[.slice a len cap] w fun e w' =>
      (∃ a' c', e = .returned (.slice a' (1 + len) c') ∧ Own byteV w' w.heap.size a' (1 + len) c' (UInt8.ofNat xs.length :: xs)) ∧ Below w.heap.size w w' := by
  have HX := hide hx
  have HL := hide hx.hlen
  clear hx
  have HE : Hid (UInt8.ofNat xs.length = UInt8.ofNat (len % 256)) := hide (by
    rw [HL.out]
    apply UInt8.toNat_inj.1
    simp)
  go_enter Try.func76, Try.ntmps76
  go_wp2_with (at_builtin; refine app rfl _ _ rfl w.heap.size rfl (one_own _ _ (len % 256) (by first | rfl | omega | (simp; omega)) (by omega) _) rfl (HX.out.alloc _) (by omega) (by simp) ?_)
  intro a3 c3 w3 ho3 hb3
  go_wp2
  go_ret
  rw [HE.out]
  exact ⟨⟨a3, c3, rfl, ho3⟩, ((Below.refl _ _).alloc (Nat.le_refl _) _).trans hb3⟩

set_option maxRecDepth 20000 in
set_option maxHeartbeats 2000000 in
theorem countedWrite_any (v : Value) (m : MsgM) (w : World) (hm : MsgAt w v m) :
    Calls Try.prog 72 #[v] w fun e w' => (∃ a' c', e = .returned (.slice a' 4 c') ∧ Own byteV w' w.heap.size a' 4 c' (putW [m.status, m.events])) ∧ Below w.heap.size w w' := by
  obtain ⟨cs, rfl, hsz, hone, _⟩ := hm.agg
  have HM := MB.made w cs hm 30
  have b0 := (Below.refl w.heap.size w).alloc (Nat.le_refl _) (.cells cs 30 (0, 0))
  have z0 := HM.lt
  have k0 := HM.c_status
  have k1 := HM.c_events
  clear HM
  go_enter Try.func72, Try.ntmps72
  go_upto_region 1 with (refine wpList_boxC rfl 30 _ rfl cs rfl ?_)
  generalize w.alloc (.cells cs 30 (0, 0)) = u at *
  go_wp2_with fail
  refine (put_any _ _ _ _ _ (litW u [m.status, m.events] 2 rfl (by omega) [wordV m.status, wordV m.events] 24 rfl).sl (by omega)).mono ?_
  rintro r w1 ⟨⟨a1, c1, rfl, hx1⟩, hb1⟩
  have hbu := (Below.refl u.heap.size u).alloc (Nat.le_refl _) (.cells #[wordV m.status, wordV m.events] 24 (0, 0))
  have hb2 : Below u.heap.size u w1 := hbu.trans (hb1.mono hbu.size)
  have hx2 := hx1.base (Nat.le_trans b0.size hbu.size)
  go_wp2
  go_ret
  exact ⟨⟨a1, c1, rfl, hx2⟩, b0.trans (hb2.mono b0.size)⟩

theorem nothingWrite_any (v : Value) (m : MsgM) (w : World) (hm : MsgAt w v m) :
    Calls Try.prog 59 #[v] w fun e w' => (∃ a' c', e = .returned (.slice a' 0 c') ∧ Own byteV w' w.heap.size a' 0 c' []) ∧ Below w.heap.size w w' := by
  obtain ⟨cs, rfl, hsz, hone, _⟩ := hm.agg
  have b0 := (Below.refl w.heap.size w).alloc (Nat.le_refl _) (.cells cs 30 (0, 0))
  go_enter Try.func59, Try.ntmps59
  go_upto_region 1 with (refine wpList_boxC rfl 30 _ rfl cs rfl ?_)
  generalize w.alloc (.cells cs 30 (0, 0)) = u at *
  go_wp2
  go_ret
  exact ⟨⟨_, _, rfl, Own.empty _ _ _⟩, b0⟩

set_option maxRecDepth 20000 in
set_option maxHeartbeats 2000000 in
theorem flagsWrite_any (v : Value) (m : MsgM) (w : World) (hm : MsgAt w v m) :
    Calls Try.prog 70 #[v] w fun e w' => (∃ a' c', e = .returned (.slice a' 1 c') ∧ Own byteV w' w.heap.size a' 1 c' [UInt8.ofNat m.value.toNat]) ∧ Below w.heap.size w w' := by
  obtain ⟨cs, rfl, hsz, hone, _⟩ := hm.agg
  have HM := MB.made w cs hm 30
  have b0 := (Below.refl w.heap.size w).alloc (Nat.le_refl _) (.cells cs 30 (0, 0))
  have k0 := HM.c_value
  clear HM
  obtain ⟨n, hn⟩ : ∃ n : Nat, n = m.value.toNat := ⟨_, rfl⟩
  replace k0 : (w.alloc (.cells cs 30 (0, 0))).cell? ⟨w.heap.size, 4, none⟩ = some (.int .u16 (n : Int)) := by rw [hn]; exact k0
  rw [← hn]
  have hw8 : IntKind.u8.wrap (n : Int) = ((n % 256 : Nat) : Int) := by rw [IntKind.wrap_u8]; omega
  have HE : Hid (UInt8.ofNat n = UInt8.ofNat (n % 256)) := hide (by apply UInt8.toNat_inj.1; simp)
  clear hn
  go_enter Try.func70, Try.ntmps70
  go_upto_region 1 with (refine wpList_boxC rfl 30 _ rfl cs rfl ?_)
  generalize w.alloc (.cells cs 30 (0, 0)) = u at *
  go_wp2
  go_ret
  have hbu := fun v => (Below.refl u.heap.size u).alloc (Nat.le_refl _) (.cells #[v] 5 (0, 0))
  rw [HE.out]
  exact ⟨⟨_, _, rfl, (one_own _ _ (n % 256) (by first | rfl | omega | (simp; omega)) (by omega) _).base b0.size⟩, b0.trans ((hbu _).mono b0.size)⟩

set_option maxRecDepth 20000 in
set_option maxHeartbeats 2000000 in
theorem itselfWrite_any (v : Value) (m : MsgM) (w : World) (hm : MsgAt w v m) (hl : m.data.length ≤ 50000) :
    Calls Try.prog 78 #[v] w fun e w' => (∃ a' l' c', e = .returned (.slice a' l' c') ∧ l' ≤ 100000 ∧ Bs w' a' l' c' ([UInt8.ofNat m.data.length] ++ m.data)) ∧ Below w.heap.size w w' := by
  obtain ⟨cs, rfl, hsz, hone, _⟩ := hm.agg
  have HM := MB.made w cs hm 30
  have b0 := (Below.refl w.heap.size w).alloc (Nat.le_refl _) (.cells cs 30 (0, 0))
  obtain ⟨aw, lw, cw, kw, hw⟩ := HM.c_data
  have h1 : lw ≤ 50000 := by rw [← hw.hlen]; exact hl
  clear HM hl
  go_enter Try.func78, Try.ntmps78
  go_upto_region 1 with (refine wpList_boxC rfl 30 _ rfl cs rfl ?_)
  generalize w.alloc (.cells cs 30 (0, 0)) = u at *
  go_wp2_with fail
  refine (measured_any aw lw cw m.data u hw (by omega)).mono ?_
  rintro r w1 ⟨⟨a1, c1, rfl, hx1⟩, hb1⟩
  go_wp2
  go_ret
  exact ⟨⟨a1, _, c1, rfl, by omega, hx1.sl⟩, b0.trans (hb1.mono b0.size)⟩

set_option maxRecDepth 20000 in
set_option maxHeartbeats 2000000 in
theorem diagWrite_form (v : Value) (m : MsgM) (w : World) (hm : MsgAt w v m) (hl : m.words.length ≤ 40000) :
    Calls Try.prog 66 #[v] w fun e w' => (∃ a' l' c', e = .returned (.slice a' l' c') ∧ l' ≤ 100000 ∧ Bs w' a' l' c' (putW (m.sub :: m.words))) ∧ Below w.heap.size w w' := by
  obtain ⟨cs, rfl, hsz, hone, _⟩ := hm.agg
  have HM := MB.made w cs hm 30
  have b0 := (Below.refl w.heap.size w).alloc (Nat.le_refl _) (.cells cs 30 (0, 0))
  have z0 := HM.lt
  have k0 := HM.c_sub
  obtain ⟨aw, lw, cw, kw, hw⟩ := HM.c_words
  have h1 : lw ≤ 40000 := by rw [← hw.hlen]; exact hl
  clear HM hl hm
  go_enter Try.func66, Try.ntmps66
  go_upto_region 1 with (refine wpList_boxC rfl 30 _ rfl cs rfl ?_)
  generalize w.alloc (.cells cs 30 (0, 0)) = u at *
  have HWu := hide hw
  clear hw
  refine wp_region_noPanic ?_
  refine wp_region_held_drew (S := fun w' => Below u.heap.size u w') (by kernel_rfl) ((Below.refl u.heap.size u).drew) (fun hHeld => ?_)
  refine wpAnyH_take (i := 0) (oi := ⟨some 3, .fieldAddr 30 (.tmp 1) 8, _, _, _, none⟩) (v := ?_) rfl (by kernel_rfl) (by kernel_rfl) (by kernel_rfl) (fun _ _ _ h => h) (Or.inl ⟨by rfl, ?_⟩) hHeld ?_
  rotate_left
  · (intro wq hSw; go_simp; try with_reducible rfl)
  simp only [Act.put, List.setIfInBounds_toArray, List.set_cons_zero, List.set_cons_succ]
  refine wpAnyH_take (i := 1) (oi := ⟨some 4, .load 24 (.tmp 3), _, _, _, none⟩) (v := ?_) rfl (by kernel_rfl) (by kernel_rfl) (by kernel_rfl) (fun _ _ _ h => h) (Or.inl ⟨by rfl, ?_⟩) hHeld ?_
  rotate_left
  · (intro wq hSw; have hcv := (hSw.cell (p := ⟨w.heap.size, 8, none⟩) z0).trans k0; go_simp; try with_reducible rfl)
  simp only [Act.put, List.setIfInBounds_toArray, List.set_cons_zero, List.set_cons_succ]
  refine wpAnyH_take (i := 4) (oi := ⟨some 7, .fieldAddr 30 (.tmp 1) 12, _, _, _, none⟩) (v := ?_) rfl (by kernel_rfl) (by kernel_rfl) (by kernel_rfl) (fun _ _ _ h => h) (Or.inl ⟨by rfl, ?_⟩) hHeld ?_
  rotate_left
  · (intro wq hSw; go_simp; try with_reducible rfl)
  simp only [Act.put, List.setIfInBounds_toArray, List.set_cons_zero, List.set_cons_succ]
  refine wpAnyH_take (i := 5) (oi := ⟨some 8, .load 25 (.tmp 7), _, _, _, none⟩) (v := ?_) rfl (by kernel_rfl) (by kernel_rfl) (by kernel_rfl) (fun _ _ _ h => h) (Or.inl ⟨by rfl, ?_⟩) hHeld ?_
  rotate_left
  · (intro wq hSw; have hcv := (hSw.cell (p := ⟨w.heap.size, 12, none⟩) z0).trans kw; go_simp; try with_reducible rfl)
  simp only [Act.put, List.setIfInBounds_toArray, List.set_cons_zero, List.set_cons_succ]
  refine wpAnyH_ready (rs := [2]) (by kernel_rfl) (by simp) ?_
  refine AllReadyH.cons (o := ⟨some 5, .buildSlice 25 1 #[(0, .tmp 4)], _, _, _, none⟩) rfl (fun K hK => ?_) ?_
  · go_simp
    refine hK.out _ _ ?_ (fun hHeld => ?_)
    · first | exact Below.alloc hHeld hHeld.size _ | exact (Below.alloc hHeld hHeld.size _).drew
    clear hK K
    try simp only [Act.put, List.setIfInBounds_toArray, List.set_cons_zero, List.set_cons_succ]
    refine wpAnyH_ready (rs := [3]) (by kernel_rfl) (by simp) ?_
    refine AllReadyH.cons (o := ⟨some 6, .call ⟨.value (.func 67), #[.tmp 5], #[25]⟩, _, _, _, none⟩) rfl (fun K hK => ?_) ?_
    · go_simp
      refine (put_any _ _ _ [m.sub] _ (by first | exact (own_word u m.sub 24).sl.drew | exact (own_word u.drew m.sub 24).sl) (by omega)).mono ?_
      rintro r w1 ⟨⟨a1, c1, rfl, hx1⟩, hb1⟩
      have s1 : Below u.heap.size u w1 := below_next hHeld hb1 (Nat.le_refl _)
      have hB1 := hHeld.size
      refine hK.out _ _ ?_ (fun hHeld => ?_)
      · exact s1
      clear hK K
      try simp only [Act.put, List.setIfInBounds_toArray, List.set_cons_zero, List.set_cons_succ]
      refine wpAnyH_ready (rs := [6]) (by kernel_rfl) (by simp) ?_
      refine AllReadyH.cons (o := ⟨some 9, .call ⟨.value (.func 67), #[.tmp 8], #[25]⟩, _, _, _, none⟩) rfl (fun K hK => ?_) ?_
      · go_simp
        refine (put_any _ _ _ m.words _ (HWu.out.mono s1) (by omega)).mono ?_
        rintro r w2 ⟨⟨a2, c2, rfl, hx2⟩, hb2⟩
        have s2 : Below u.heap.size u w2 := below_next s1 hb2 (Nat.le_refl _)
        refine hK.out _ _ ?_ (fun hHeld => ?_)
        · exact s2
        clear hK K
        try simp only [Act.put, List.setIfInBounds_toArray, List.set_cons_zero, List.set_cons_succ]
        refine wpAnyH_ready (rs := [7]) (by kernel_rfl) (by simp) ?_
        refine AllReadyH.cons (o := ⟨some 10, .call ⟨.builtin .append, #[.tmp 6, .tmp 9], #[22, 22]⟩, _, _, _, none⟩) rfl (fun K hK => ?_) ?_
        · refine step_app (by rfl) _ _ (by rfl) u.heap.size (by rfl) ((hx1.base hB1).mono hb2) (by rfl) hx2.sl (by omega) s2.size ?_
          intro a3 c3 w3 ho3 hb3
          have s3 : Below u.heap.size u w3 := s2.trans hb3
          refine hK.out _ _ ?_ (fun hHeld => ?_)
          · exact s3
          clear hK K
          try simp only [Act.put, List.setIfInBounds_toArray, List.set_cons_zero, List.set_cons_succ]
          refine wpAnyH_take (i := 8) (oi := ⟨some 2, .assign (.tmp 10), _, _, _, none⟩) (v := ?_) rfl (by kernel_rfl) (by kernel_rfl) (by kernel_rfl) (fun _ _ _ h => h) (Or.inl ⟨by rfl, ?_⟩) hHeld ?_
          rotate_left
          · (intro wq hSw; go_simp; try with_reducible rfl)
          simp only [Act.put, List.setIfInBounds_toArray, List.set_cons_zero, List.set_cons_succ]
          refine wpAnyH_done (by kernel_rfl) ?_ _
          refine NoPanic.normal ?_
          go_wp2
          go_ret
          exact ⟨⟨a3, _, c3, rfl, by omega, ho3.sl⟩, b0.trans (s3.mono b0.size)⟩
        exact AllReadyH.nil
      exact AllReadyH.nil
    exact AllReadyH.nil
  exact AllReadyH.nil

set_option maxRecDepth 20000 in
set_option maxHeartbeats 2000000 in
theorem loggedWrite_any (v : Value) (m : MsgM) (w : World) (hm : MsgAt w v m) (hl : m.data.length ≤ 50000) :
    Calls Try.prog 75 #[v] w fun e w' => (∃ a' l' c', e = .returned (.slice a' l' c') ∧ l' ≤ 100000 ∧ Bs w' a' l' c' ([UInt8.ofNat (m.data.length + 6)] ++ putW [m.status, m.events, m.messages] ++ m.data)) ∧ Below w.heap.size w w' := by
  obtain ⟨B, hB⟩ : ∃ B, B = [UInt8.ofNat (m.data.length + 6)] ++ putW [m.status, m.events, m.messages] ++ m.data := ⟨_, rfl⟩
  rw [← hB]
  have HB : Hid (B = UInt8.ofNat (putW [m.status, m.events, m.messages] ++ m.data).length :: (putW [m.status, m.events, m.messages] ++ m.data)) := hide (by
    rw [hB, List.length_append, putW_length, Nat.add_comm]; rfl)
  clear hB
  obtain ⟨cs, rfl, hsz, hone, _⟩ := hm.agg
  have HM := MB.made w cs hm 30
  have b0 := (Below.refl w.heap.size w).alloc (Nat.le_refl _) (.cells cs 30 (0, 0))
  have z0 := HM.lt
  have k0 := HM.c_status
  have k1 := HM.c_events
  have k2 := HM.c_messages
  obtain ⟨aw, lw, cw, kw, hw⟩ := HM.c_data
  have h1 : lw ≤ 50000 := by rw [← hw.hlen]; exact hl
  clear HM hl hm
  go_enter Try.func75, Try.ntmps75
  go_upto_region 1 with (refine wpList_boxC rfl 30 _ rfl cs rfl ?_)
  generalize w.alloc (.cells cs 30 (0, 0)) = u at *
  have HWu := hide hw
  clear hw
  refine wp_region_noPanic ?_
  refine wp_region_held_drew (S := fun w' => Below u.heap.size u w') (by kernel_rfl) ((Below.refl u.heap.size u).drew) (fun hHeld => ?_)
  refine wpAnyH_take (i := 0) (oi := ⟨some 3, .fieldAddr 30 (.tmp 1) 9, _, _, _, none⟩) (v := ?_) rfl (by kernel_rfl) (by kernel_rfl) (by kernel_rfl) (fun _ _ _ h => h) (Or.inl ⟨by rfl, ?_⟩) hHeld ?_
  rotate_left
  · (intro wq hSw; go_simp; try with_reducible rfl)
  simp only [Act.put, List.setIfInBounds_toArray, List.set_cons_zero, List.set_cons_succ]
  refine wpAnyH_take (i := 1) (oi := ⟨some 4, .load 24 (.tmp 3), _, _, _, none⟩) (v := ?_) rfl (by kernel_rfl) (by kernel_rfl) (by kernel_rfl) (fun _ _ _ h => h) (Or.inl ⟨by rfl, ?_⟩) hHeld ?_
  rotate_left
  · (intro wq hSw; have hcv := (hSw.cell (p := ⟨w.heap.size, 9, none⟩) z0).trans k0; go_simp; try with_reducible rfl)
  simp only [Act.put, List.setIfInBounds_toArray, List.set_cons_zero, List.set_cons_succ]
  refine wpAnyH_take (i := 2) (oi := ⟨some 5, .fieldAddr 30 (.tmp 1) 10, _, _, _, none⟩) (v := ?_) rfl (by kernel_rfl) (by kernel_rfl) (by kernel_rfl) (fun _ _ _ h => h) (Or.inl ⟨by rfl, ?_⟩) hHeld ?_
  rotate_left
  · (intro wq hSw; go_simp; try with_reducible rfl)
  simp only [Act.put, List.setIfInBounds_toArray, List.set_cons_zero, List.set_cons_succ]
  refine wpAnyH_take (i := 3) (oi := ⟨some 6, .load 24 (.tmp 5), _, _, _, none⟩) (v := ?_) rfl (by kernel_rfl) (by kernel_rfl) (by kernel_rfl) (fun _ _ _ h => h) (Or.inl ⟨by rfl, ?_⟩) hHeld ?_
  rotate_left
  · (intro wq hSw; have hcv := (hSw.cell (p := ⟨w.heap.size, 10, none⟩) z0).trans k1; go_simp; try with_reducible rfl)
  simp only [Act.put, List.setIfInBounds_toArray, List.set_cons_zero, List.set_cons_succ]
  refine wpAnyH_take (i := 4) (oi := ⟨some 7, .fieldAddr 30 (.tmp 1) 11, _, _, _, none⟩) (v := ?_) rfl (by kernel_rfl) (by kernel_rfl) (by kernel_rfl) (fun _ _ _ h => h) (Or.inl ⟨by rfl, ?_⟩) hHeld ?_
  rotate_left
  · (intro wq hSw; go_simp; try with_reducible rfl)
  simp only [Act.put, List.setIfInBounds_toArray, List.set_cons_zero, List.set_cons_succ]
  refine wpAnyH_take (i := 5) (oi := ⟨some 8, .load 24 (.tmp 7), _, _, _, none⟩) (v := ?_) rfl (by kernel_rfl) (by kernel_rfl) (by kernel_rfl) (fun _ _ _ h => h) (Or.inl ⟨by rfl, ?_⟩) hHeld ?_
  rotate_left
  · (intro wq hSw; have hcv := (hSw.cell (p := ⟨w.heap.size, 11, none⟩) z0).trans k2; go_simp; try with_reducible rfl)
  simp only [Act.put, List.setIfInBounds_toArray, List.set_cons_zero, List.set_cons_succ]
  refine wpAnyH_take (i := 8) (oi := ⟨some 11, .fieldAddr 30 (.tmp 1) 14, _, _, _, none⟩) (v := ?_) rfl (by kernel_rfl) (by kernel_rfl) (by kernel_rfl) (fun _ _ _ h => h) (Or.inl ⟨by rfl, ?_⟩) hHeld ?_
  rotate_left
  · (intro wq hSw; go_simp; try with_reducible rfl)
  simp only [Act.put, List.setIfInBounds_toArray, List.set_cons_zero, List.set_cons_succ]
  refine wpAnyH_take (i := 9) (oi := ⟨some 12, .load 22 (.tmp 11), _, _, _, none⟩) (v := ?_) rfl (by kernel_rfl) (by kernel_rfl) (by kernel_rfl) (fun _ _ _ h => h) (Or.inl ⟨by rfl, ?_⟩) hHeld ?_
  rotate_left
  · (intro wq hSw; have hcv := (hSw.cell (p := ⟨w.heap.size, 14, none⟩) z0).trans kw; go_simp; try with_reducible rfl)
  simp only [Act.put, List.setIfInBounds_toArray, List.set_cons_zero, List.set_cons_succ]
  refine wpAnyH_ready (rs := [6]) (by kernel_rfl) (by simp) ?_
  refine AllReadyH.cons (o := ⟨some 9, .buildSlice 25 3 #[(0, .tmp 4), (1, .tmp 6), (2, .tmp 8)], _, _, _, none⟩) rfl (fun K hK => ?_) ?_
  · go_simp
    refine hK.out _ _ ?_ (fun hHeld => ?_)
    · first | exact Below.alloc hHeld hHeld.size _ | exact (Below.alloc hHeld hHeld.size _).drew
    clear hK K
    try simp only [Act.put, List.setIfInBounds_toArray, List.set_cons_zero, List.set_cons_succ]
    refine wpAnyH_ready (rs := [7]) (by kernel_rfl) (by simp) ?_
    refine AllReadyH.cons (o := ⟨some 10, .call ⟨.value (.func 67), #[.tmp 9], #[25]⟩, _, _, _, none⟩) rfl (fun K hK => ?_) ?_
    · go_simp
      refine (put_any _ _ _ [m.status, m.events, m.messages] _ (by first | exact (litW u [m.status, m.events, m.messages] 3 rfl (by omega) [wordV m.status, wordV m.events, wordV m.messages] 24 rfl).sl.drew | exact (litW u.drew [m.status, m.events, m.messages] 3 rfl (by omega) [wordV m.status, wordV m.events, wordV m.messages] 24 rfl).sl) (by omega)).mono ?_
      rintro r w1 ⟨⟨a1, c1, rfl, hx1⟩, hb1⟩
      have s1 : Below u.heap.size u w1 := below_next hHeld hb1 (Nat.le_refl _)
      have hB1 := hHeld.size
      refine hK.out _ _ ?_ (fun hHeld => ?_)
      · exact s1
      clear hK K
      try simp only [Act.put, List.setIfInBounds_toArray, List.set_cons_zero, List.set_cons_succ]
      refine wpAnyH_ready (rs := [10]) (by kernel_rfl) (by simp) ?_
      refine AllReadyH.cons (o := ⟨some 13, .call ⟨.builtin .append, #[.tmp 10, .tmp 12], #[22, 22]⟩, _, _, _, none⟩) rfl (fun K hK => ?_) ?_
      · refine step_app (by rfl) _ _ (by rfl) u.heap.size (by rfl) (hx1.base hB1) (by rfl) (HWu.out.mono s1) (by omega) s1.size ?_
        intro a2 c2 w2 ho2 hb2
        have s2 : Below u.heap.size u w2 := s1.trans hb2
        refine hK.out _ _ ?_ (fun hHeld => ?_)
        · exact s2
        clear hK K
        try simp only [Act.put, List.setIfInBounds_toArray, List.set_cons_zero, List.set_cons_succ]
        refine wpAnyH_ready (rs := [11]) (by kernel_rfl) (by simp) ?_
        refine AllReadyH.cons (o := ⟨some 14, .call ⟨.value (.func 76), #[.tmp 13], #[22]⟩, _, _, _, none⟩) rfl (fun K hK => ?_) ?_
        · go_simp
          refine (measured_any _ _ _ _ _ ho2.sl (by omega)).mono ?_
          rintro r w3 ⟨⟨a3, c3, rfl, hx3⟩, hb3⟩
          have s3 : Below u.heap.size u w3 := below_next s2 hb3 (Nat.le_refl _)
          refine hK.out _ _ ?_ (fun hHeld => ?_)
          · exact s3
          clear hK K
          try simp only [Act.put, List.setIfInBounds_toArray, List.set_cons_zero, List.set_cons_succ]
          refine wpAnyH_take (i := 12) (oi := ⟨some 2, .assign (.tmp 14), _, _, _, none⟩) (v := ?_) rfl (by kernel_rfl) (by kernel_rfl) (by kernel_rfl) (fun _ _ _ h => h) (Or.inl ⟨by rfl, ?_⟩) hHeld ?_
          rotate_left
          · (intro wq hSw; go_simp; try with_reducible rfl)
          simp only [Act.put, List.setIfInBounds_toArray, List.set_cons_zero, List.set_cons_succ]
          refine wpAnyH_done (by kernel_rfl) ?_ _
          refine NoPanic.normal ?_
          go_wp2
          go_ret
          rw [HB.out]
          exact ⟨⟨a3, _, c3, rfl, by omega, hx3.sl⟩, b0.trans (s3.mono b0.size)⟩
        exact AllReadyH.nil
      exact AllReadyH.nil
    exact AllReadyH.nil
  exact AllReadyH.nil

/-- What a form's closure writes. -/
theorem formWrite_any (f : Diag.Frm) {rc sc : Array Value} (v : Value) (m : MsgM) (w : World) (hm : MsgAt w v m) (hs : m.Small) (hf : f.caps w rc sc) :
    Calls Try.prog f.wr (#[v] ++ sc) w fun e w' => (∃ a l c, e = .returned (.slice a l c) ∧ l ≤ 100000 ∧ Bs w' a l c (f.bytes m)) ∧ Below w.heap.size w w' := by
  have key : ∀ {F : FuncId} {n : Nat} {xs : List UInt8}, Calls Try.prog F #[v] w (fun e w' => (∃ a' c', e = .returned (.slice a' n c') ∧ Own byteV w' w.heap.size a' n c' xs) ∧ Below w.heap.size w w') → n ≤ 100000 →
      Calls Try.prog F #[v] w fun e w' => (∃ a l c, e = .returned (.slice a l c) ∧ l ≤ 100000 ∧ Bs w' a l c xs) ∧ Below w.heap.size w w' := fun h hn => h.mono (by
    rintro e w' ⟨⟨a, c, he, ho⟩, hb⟩
    exact ⟨⟨a, _, c, he, hn, ho.sl⟩, hb⟩)
  rcases Diag.Frm.seven f with rfl | rfl | rfl | rfl | rfl | rfl | rfl
  · obtain ⟨_, rfl⟩ := hf; exact key (nothingWrite_any v m w hm) (by omega)
  · obtain ⟨_, rfl⟩ := hf; exact key (flagsWrite_any v m w hm) (by omega)
  · obtain ⟨_, _, rfl, _⟩ := hf; exact diagWrite_form v m w hm hs.words
  · obtain ⟨_, _, rfl, _⟩ := hf; exact diagWrite_form v m w hm hs.words
  · obtain ⟨_, rfl⟩ := hf; exact key (countedWrite_any v m w hm) (by omega)
  · obtain ⟨_, rfl⟩ := hf; exact loggedWrite_any v m w hm hs.data
  · obtain ⟨_, rfl⟩ := hf; exact itselfWrite_any v m w hm hs.data

end Go.Proofs.Ytemomgcapjpaiaa
