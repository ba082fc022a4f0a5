/-
  Package regs: the contracts of the closures that write forms.
-/
import Derived.Test.YtaccebkgmjiaaaaRegForm
import Derived.Test.YtaccebkgmjiaaaaAppBut
namespace Go.Proofs.Ytaccebkgmjiaaaa
open Go.RowKit
open Word Bits Cursor

set_option maxHeartbeats 1000000 in
theorem withWords_any (B g : Nat) (a a2 : Option Addr) (len cap len2 cap2 : Nat) (xs : List UInt8) (ys : List UInt16) (w : World) (hx : Own byteV w B a len cap xs) (hg : ∀ b off, a = some ⟨b, off, none⟩ → b = g) (hgw : g < w.heap.size) (hy : Ws w a2 len2 cap2 ys) (hB : B ≤ w.heap.size) (h1 : len ≤ 100) (h2 : len2 ≤ 50000) :
    Calls Try.prog 71 #[.slice a len cap, .slice a2 len2 cap2] w fun e w' =>
      (∃ a' c', e = .returned (.slice a' (len + 1 + 2 * len2) c') ∧ Own byteV w' B a' (len + 1 + 2 * len2) c' (xs ++ Regs.counted ys)) ∧ Below B w w' := by
  have HX := hide hx
  have HY := hide hy
  have HL := hide hy.hlen
  clear hx hy
  have HE : Hid (xs ++ Regs.counted ys = (xs ++ [UInt8.ofNat ((2 * len2) % 256)]) ++ putW ys) := hide (by
    unfold Regs.counted
    rw [HL.out, List.append_assoc]
    congr 2
    apply UInt8.toNat_inj.1
    simp)
  go_enter Try.func71, Try.ntmps71
  go_wp2_with fail
  refine (put_any _ _ _ _ _ HY.out (by omega)).mono ?_
  rintro r w1 ⟨⟨a1, c1, rfl, hx1⟩, hb1⟩
  replace HX := hide (HX.out.mono hb1)
  have hz1 := hb1.size
  have HY1 := hide hx1
  clear hx1 HY
  go_wp2_with (at_builtin; refine app_but rfl _ _ rfl B rfl (HX.out.mono ((Below.refl _ _).alloc (Nat.le_refl _) _)) rfl (one_own _ _ ((2 * len2) % 256) (by first | rfl | omega | (simp; omega)) (by omega) _).sl (by omega) (Nat.le_trans hB (by simp; omega)) g hg ?_)
  intro a3 c3 w3 ho3 hb3 hu3
  have hB3 : Below B w w3 := ((hb1.mono hB).alloc (Nat.le_trans hB hz1) _).trans hb3
  have hy3 : Bs w3 a1 (2 * len2) c1 (putW ys) := by
    have hq := HY1.out.sl.mono ((Below.refl w1.heap.size w1).alloc (Nat.le_refl _) (.cells #[.int .u8 (2 * (len2 : Int) % 256)] 5))
    by_cases hz : 0 < len2
    · obtain ⟨b, off, h1, h2, _⟩ := HY1.out.room 0 (by have := HY1.out.sl.hle; omega)
      exact hq.aside hu3 (fun b' off' h => by rw [h1] at h; cases h; omega)
    · have h0 : putW ys = [] := List.eq_nil_of_length_eq_zero (by have := HY1.out.sl.hlen; omega)
      rw [h0] at hq ⊢
      exact hq.bare _
  clear hu3 hb3
  go_wp2_with (at_builtin; refine app rfl _ _ rfl B rfl ho3 rfl hy3 (by omega) (Nat.le_trans hB hB3.size) ?_)
  intro a4 c4 w4 ho4 hb4
  go_wp2
  go_ret
  rw [HE.out, List.append_assoc]
  exact ⟨⟨a4, c4, rfl, ho4⟩, hB3.trans hb4⟩

theorem litW (w : World) (xs : List UInt16) (n : Nat) (h : xs.length = n) (hn : n ≤ 1000) (cs : List Value) (t : TypeId) (hc : cs = xs.map wordV) : Own wordV (w.alloc (.cells cs.toArray t)) w.heap.size (some ⟨w.heap.size, 0, none⟩) n n xs :=
  Own.fresh w xs cs t n h (by unfold maxLen; omega) hc

set_option maxRecDepth 20000 in
set_option maxHeartbeats 2000000 in
theorem placesWrite_any (v : Value) (m : MsgM) (w : World) (hm : MsgAt w v m) :
    Calls Try.prog 64 #[v] w fun e w' => (∃ a' c', e = .returned (.slice a' 4 c') ∧ Own byteV w' w.heap.size a' 4 c' (putW [m.addr, m.count])) ∧ Below w.heap.size w w' := by
  obtain ⟨cs, rfl, hsz, hone, _⟩ := hm.agg
  have HM := MB.made w cs hm 30
  have b0 := (Below.refl w.heap.size w).alloc (Nat.le_refl _) (.cells cs 30 (0, 0))
  have z0 := HM.lt
  have k0 := HM.c_addr
  have k1 := HM.c_count
  clear HM
  go_enter Try.func64, Try.ntmps64
  go_upto_region 1 with (refine wpList_boxC rfl 30 _ rfl cs rfl ?_)
  generalize w.alloc (.cells cs 30 (0, 0)) = u at *
  go_wp2_with fail
  refine (put_any _ _ _ _ _ (litW u [m.addr, m.count] 2 rfl (by omega) [wordV m.addr, wordV m.count] 24 rfl).sl (by omega)).mono ?_
  rintro r w1 ⟨⟨a1, c1, rfl, hx1⟩, hb1⟩
  have hbu := (Below.refl u.heap.size u).alloc (Nat.le_refl _) (.cells #[wordV m.addr, wordV m.count] 24 (0, 0))
  have hb2 : Below u.heap.size u w1 := hbu.trans (hb1.mono hbu.size)
  have hx2 := hx1.base (Nat.le_trans b0.size hbu.size)
  go_wp2
  go_ret
  exact ⟨⟨a1, c1, rfl, hx2⟩, b0.trans (hb2.mono b0.size)⟩

set_option maxRecDepth 20000 in
set_option maxHeartbeats 2000000 in
theorem oneWrite_any (v : Value) (m : MsgM) (w : World) (hm : MsgAt w v m) :
    Calls Try.prog 67 #[v] w fun e w' => (∃ a' c', e = .returned (.slice a' 4 c') ∧ Own byteV w' w.heap.size a' 4 c' (putW [m.addr, m.value])) ∧ Below w.heap.size w w' := by
  obtain ⟨cs, rfl, hsz, hone, _⟩ := hm.agg
  have HM := MB.made w cs hm 30
  have b0 := (Below.refl w.heap.size w).alloc (Nat.le_refl _) (.cells cs 30 (0, 0))
  have z0 := HM.lt
  have k0 := HM.c_addr
  have k1 := HM.c_value
  clear HM
  go_enter Try.func67, Try.ntmps67
  go_upto_region 1 with (refine wpList_boxC rfl 30 _ rfl cs rfl ?_)
  generalize w.alloc (.cells cs 30 (0, 0)) = u at *
  go_wp2_with fail
  refine (put_any _ _ _ _ _ (litW u [m.addr, m.value] 2 rfl (by omega) [wordV m.addr, wordV m.value] 24 rfl).sl (by omega)).mono ?_
  rintro r w1 ⟨⟨a1, c1, rfl, hx1⟩, hb1⟩
  have hbu := (Below.refl u.heap.size u).alloc (Nat.le_refl _) (.cells #[wordV m.addr, wordV m.value] 24 (0, 0))
  have hb2 : Below u.heap.size u w1 := hbu.trans (hb1.mono hbu.size)
  have hx2 := hx1.base (Nat.le_trans b0.size hbu.size)
  go_wp2
  go_ret
  exact ⟨⟨a1, c1, rfl, hx2⟩, b0.trans (hb2.mono b0.size)⟩

set_option maxRecDepth 20000 in
set_option maxHeartbeats 2000000 in
theorem masksWrite_any (v : Value) (m : MsgM) (w : World) (hm : MsgAt w v m) :
    Calls Try.prog 73 #[v] w fun e w' => (∃ a' c', e = .returned (.slice a' 6 c') ∧ Own byteV w' w.heap.size a' 6 c' (putW [m.addr, m.and_, m.or_])) ∧ Below w.heap.size w w' := by
  obtain ⟨cs, rfl, hsz, hone, _⟩ := hm.agg
  have HM := MB.made w cs hm 30
  have b0 := (Below.refl w.heap.size w).alloc (Nat.le_refl _) (.cells cs 30 (0, 0))
  have z0 := HM.lt
  have k0 := HM.c_addr
  have k1 := HM.c_and
  have k2 := HM.c_or
  clear HM
  go_enter Try.func73, Try.ntmps73
  go_upto_region 1 with (refine wpList_boxC rfl 30 _ rfl cs rfl ?_)
  generalize w.alloc (.cells cs 30 (0, 0)) = u at *
  go_wp2_with fail
  refine (put_any _ _ _ _ _ (litW u [m.addr, m.and_, m.or_] 3 rfl (by omega) [wordV m.addr, wordV m.and_, wordV m.or_] 24 rfl).sl (by omega)).mono ?_
  rintro r w1 ⟨⟨a1, c1, rfl, hx1⟩, hb1⟩
  have hbu := (Below.refl u.heap.size u).alloc (Nat.le_refl _) (.cells #[wordV m.addr, wordV m.and_, wordV m.or_] 24 (0, 0))
  have hb2 : Below u.heap.size u w1 := hbu.trans (hb1.mono hbu.size)
  have hx2 := hx1.base (Nat.le_trans b0.size hbu.size)
  go_wp2
  go_ret
  exact ⟨⟨a1, c1, rfl, hx2⟩, b0.trans (hb2.mono b0.size)⟩

set_option maxRecDepth 20000 in
set_option maxHeartbeats 2000000 in
theorem queueWrite_any (v : Value) (m : MsgM) (w : World) (hm : MsgAt w v m) :
    Calls Try.prog 77 #[v] w fun e w' => (∃ a' c', e = .returned (.slice a' 2 c') ∧ Own byteV w' w.heap.size a' 2 c' (putW [m.addr])) ∧ Below w.heap.size w w' := by
  obtain ⟨cs, rfl, hsz, hone, _⟩ := hm.agg
  have HM := MB.made w cs hm 30
  have b0 := (Below.refl w.heap.size w).alloc (Nat.le_refl _) (.cells cs 30 (0, 0))
  have z0 := HM.lt
  have k0 := HM.c_addr
  clear HM
  go_enter Try.func77, Try.ntmps77
  go_upto_region 1 with (refine wpList_boxC rfl 30 _ rfl cs rfl ?_)
  generalize w.alloc (.cells cs 30 (0, 0)) = u at *
  go_wp2_with fail
  refine (put_any _ _ _ _ _ (litW u [m.addr] 1 rfl (by omega) [wordV m.addr] 24 rfl).sl (by omega)).mono ?_
  rintro r w1 ⟨⟨a1, c1, rfl, hx1⟩, hb1⟩
  have hbu := (Below.refl u.heap.size u).alloc (Nat.le_refl _) (.cells #[wordV m.addr] 24 (0, 0))
  have hb2 : Below u.heap.size u w1 := hbu.trans (hb1.mono hbu.size)
  have hx2 := hx1.base (Nat.le_trans b0.size hbu.size)
  go_wp2
  go_ret
  exact ⟨⟨a1, c1, rfl, hx2⟩, b0.trans (hb2.mono b0.size)⟩

set_option maxRecDepth 20000 in
set_option maxHeartbeats 2000000 in
theorem toldWrite_any (v : Value) (m : MsgM) (w : World) (hm : MsgAt w v m) (hl : m.words.length ≤ 125) :
    Calls Try.prog 81 #[v] w fun e w' => (∃ a' l' c', e = .returned (.slice a' l' c') ∧ l' ≤ 100000 ∧ Bs w' a' l' c' (Regs.counted m.words)) ∧ Below w.heap.size w w' := by
  obtain ⟨cs, rfl, hsz, hone, _⟩ := hm.agg
  have HM := MB.made w cs hm 30
  have b0 := (Below.refl w.heap.size w).alloc (Nat.le_refl _) (.cells cs 30 (0, 0))
  have z0 := HM.lt
  obtain ⟨aw, lw, cw, kw, hw⟩ := HM.c_words
  have h1 : lw ≤ 125 := by rw [← hw.hlen]; exact hl
  clear HM hl
  go_enter Try.func81, Try.ntmps81
  go_upto_region 1 with (refine wpList_boxC rfl 30 _ rfl cs rfl ?_)
  generalize w.alloc (.cells cs 30 (0, 0)) = u at *
  go_wp2_with fail
  refine (withWords_any w.heap.size w.heap.size none aw 0 0 lw cw [] m.words u (Own.empty _ _ _) (fun _ _ h => by cases h) z0 hw b0.size (by omega) (by omega)).mono ?_
  rintro r w1 ⟨⟨a1, c1, rfl, hx1⟩, hb1⟩
  go_wp2
  go_ret
  exact ⟨⟨a1, _, c1, rfl, by omega, hx1.sl⟩, b0.trans hb1⟩

set_option maxRecDepth 20000 in
set_option maxHeartbeats 2000000 in
theorem someWrite_any (v : Value) (m : MsgM) (w : World) (hm : MsgAt w v m) (hl : m.words.length ≤ 125) (ga g : Nat) (hg : AheadAt w ga g 123) :
    Calls Try.prog 70 #[v, ptrV ga] w fun e w' => (∃ a' l' c', e = .returned (.slice a' l' c') ∧ l' ≤ 100000 ∧ Bs w' a' l' c' (putW [m.addr, m.count] ++ Regs.counted m.words)) ∧ Below w.heap.size w w' := by
  obtain ⟨cs, rfl, hsz, hone, _⟩ := hm.agg
  have HM := MB.made w cs hm 30
  have b0 := (Below.refl w.heap.size w).alloc (Nat.le_refl _) (.cells cs 30 (0, 0))
  have z0 := HM.lt
  obtain ⟨aw, lw, cw, kw, hw⟩ := HM.c_words
  have h1 : lw ≤ 125 := by rw [← hw.hlen]; exact hl
  have hga := (b0.block ga (lt_of_block hg.1)).trans hg.1
  have hgb := heap_alloc_new w (.cells cs 30 (0, 0))
  have hmu := hm.mono b0
  clear HM hl hg hm
  have hld : ∀ wx : World, wx.heap[w.heap.size]? = some (.cells cs 30 (0, 0)) → (loadVar 30 ⟨w.heap.size, 0, none⟩).run Try.prog wx = .ok (.agg cs) wx := fun wx h => load_whole h hsz
  go_enter Try.func70, Try.ntmps70
  go_upto_region 1 with (refine wpList_boxC rfl 30 _ rfl cs rfl ?_)
  generalize w.alloc (.cells cs 30 (0, 0)) = u at *
  have k1 : u.cell? ⟨ga, 1, none⟩ = some (clV 64 #[]) := cell_of_row u ga 1 _ _ _ hga
  have zga := lt_of_block hga
  have HMu := hide hmu
  have HWu := hide hw
  clear hmu hw hga hld
  refine wp_region_noPanic ?_
  refine wp_region_held_drew (S := fun w' => Below u.heap.size u w') (by kernel_rfl) ((Below.refl u.heap.size u).drew) (fun hHeld => ?_)
  refine wpAnyH_take (i := 0) (oi := ⟨some 4, .fieldAddr 51 (.tmp 1) 1, _, _, _, none⟩) (v := ?_) rfl (by kernel_rfl) (by kernel_rfl) (by kernel_rfl) (fun _ _ _ h => h) (Or.inl ⟨by rfl, ?_⟩) hHeld ?_
  rotate_left
  · (intro wq hSw; go_simp; try with_reducible rfl)
  simp only [Act.put, List.setIfInBounds_toArray, List.set_cons_zero, List.set_cons_succ]
  refine wpAnyH_take (i := 1) (oi := ⟨some 5, .load 49 (.tmp 4), _, _, _, none⟩) (v := ?_) rfl (by kernel_rfl) (by kernel_rfl) (by kernel_rfl) (fun _ _ _ h => h) (Or.inl ⟨by rfl, ?_⟩) hHeld ?_
  rotate_left
  · (intro wq hSw; have hcv := (hSw.cell (p := ⟨ga, 1, none⟩) zga).trans k1; go_simp; try with_reducible rfl)
  simp only [Act.put, List.setIfInBounds_toArray, List.set_cons_zero, List.set_cons_succ]
  refine wpAnyH_take (i := 2) (oi := ⟨some 6, .load 30 (.tmp 2), _, _, _, none⟩) (v := .agg cs) rfl (by kernel_rfl) (by kernel_rfl) (by kernel_rfl) (fun _ _ _ h => h) (Or.inl ⟨by rfl, ?_⟩) hHeld ?_
  · (intro wq hSw; exact load_take 30 _ rfl w.heap.size rfl cs (load_whole ((hSw.block _ z0).trans hgb) hsz))
  simp only [Act.put, List.setIfInBounds_toArray, List.set_cons_zero, List.set_cons_succ]
  refine wpAnyH_take (i := 4) (oi := ⟨some 8, .fieldAddr 30 (.tmp 2) 12, _, _, _, none⟩) (v := ?_) rfl (by kernel_rfl) (by kernel_rfl) (by kernel_rfl) (fun _ _ _ h => h) (Or.inl ⟨by rfl, ?_⟩) hHeld ?_
  rotate_left
  · (intro wq hSw; go_simp; try with_reducible rfl)
  simp only [Act.put, List.setIfInBounds_toArray, List.set_cons_zero, List.set_cons_succ]
  refine wpAnyH_take (i := 5) (oi := ⟨some 9, .load 25 (.tmp 8), _, _, _, none⟩) (v := ?_) rfl (by kernel_rfl) (by kernel_rfl) (by kernel_rfl) (fun _ _ _ h => h) (Or.inl ⟨by rfl, ?_⟩) hHeld ?_
  rotate_left
  · (intro wq hSw; have hcv := (hSw.cell (p := ⟨w.heap.size, 12, none⟩) z0).trans kw; go_simp; try with_reducible rfl)
  simp only [Act.put, List.setIfInBounds_toArray, List.set_cons_zero, List.set_cons_succ]
  refine wpAnyH_ready (rs := [3]) (by kernel_rfl) (by simp) ?_
  refine AllReadyH.cons (o := ⟨some 7, .call ⟨.value (.tmp 5), #[.tmp 6], #[30]⟩, _, _, _, none⟩) rfl (fun K hK => ?_) ?_
  · go_simp
    refine (placesWrite_any _ m _ (HMu.out.mono hHeld)).mono ?_
    rintro r w1 ⟨⟨a1, c1, rfl, hx1⟩, hb1⟩
    have s1 : Below u.heap.size u w1 := below_next hHeld hb1 (Nat.le_refl _)
    have hB1 := hHeld.size
    refine hK.out _ _ ?_ (fun hHeld => ?_)
    · exact s1
    clear hK K
    try simp only [Act.put, List.setIfInBounds_toArray, List.set_cons_zero, List.set_cons_succ]
    refine wpAnyH_ready (rs := [6]) (by kernel_rfl) (by simp) ?_
    refine AllReadyH.cons (o := ⟨some 10, .call ⟨.value (.func 71), #[.tmp 7, .tmp 9], #[22, 25]⟩, _, _, _, none⟩) rfl (fun K hK => ?_) ?_
    · go_simp
      obtain ⟨gg, off, hag, hgl, hgs, _⟩ := hx1.room 0 (by have := hx1.sl.hle; omega)
      refine (withWords_any u.heap.size gg a1 aw 4 c1 lw cw _ m.words _ (hx1.base hB1) (fun b off h => by rw [hag] at h; cases h; rfl) hgs (HWu.out.mono s1) s1.size (by omega) (by omega)).mono ?_
      rintro r w2 ⟨⟨a2, c2, rfl, hx2⟩, hb2⟩
      have s2 : Below u.heap.size u w2 := s1.trans hb2
      refine hK.out _ _ ?_ (fun hHeld => ?_)
      · exact s2
      clear hK K
      try simp only [Act.put, List.setIfInBounds_toArray, List.set_cons_zero, List.set_cons_succ]
      refine wpAnyH_take (i := 7) (oi := ⟨some 3, .assign (.tmp 10), _, _, _, none⟩) (v := ?_) rfl (by kernel_rfl) (by kernel_rfl) (by kernel_rfl) (fun _ _ _ h => h) (Or.inl ⟨by rfl, ?_⟩) hHeld ?_
      rotate_left
      · (intro wq hSw; go_simp; try with_reducible rfl)
      simp only [Act.put, List.setIfInBounds_toArray, List.set_cons_zero, List.set_cons_succ]
      refine wpAnyH_done (by kernel_rfl) ?_ _
      refine NoPanic.normal ?_
      go_wp2
      go_ret
      exact ⟨⟨a2, _, c2, rfl, by omega, hx2.sl⟩, b0.trans (s2.mono b0.size)⟩
    exact AllReadyH.nil
  exact AllReadyH.nil

set_option maxRecDepth 20000 in
set_option maxHeartbeats 2000000 in
theorem bothWrite_any (v : Value) (m : MsgM) (w : World) (hm : MsgAt w v m) (hl : m.words.length ≤ 125) :
    Calls Try.prog 75 #[v] w fun e w' => (∃ a' l' c', e = .returned (.slice a' l' c') ∧ l' ≤ 100000 ∧ Bs w' a' l' c' (putW [m.addr, m.count, m.addr2, UInt16.ofNat m.words.length] ++ Regs.counted m.words)) ∧ Below w.heap.size w w' := by
  obtain ⟨cs, rfl, hsz, hone, _⟩ := hm.agg
  have HM := MB.made w cs hm 30
  have b0 := (Below.refl w.heap.size w).alloc (Nat.le_refl _) (.cells cs 30 (0, 0))
  have z0 := HM.lt
  obtain ⟨aw, lw, cw, kw, hw⟩ := HM.c_words
  have h1 : lw ≤ 125 := by rw [← hw.hlen]; exact hl
  have k0 := HM.c_addr
  have k1 := HM.c_count
  have k2 := HM.c_addr2
  rw [hw.hlen]
  have hlit : ∀ (wx : World), Own wordV (wx.alloc (.cells #[wordV m.addr, wordV m.count, wordV m.addr2, .int .u16 (lw : Int)] 24)) wx.heap.size (some ⟨wx.heap.size, 0, none⟩) 4 4 [m.addr, m.count, m.addr2, UInt16.ofNat lw] := fun wx =>
    litW wx [m.addr, m.count, m.addr2, UInt16.ofNat lw] 4 rfl (by omega) [wordV m.addr, wordV m.count, wordV m.addr2, .int .u16 (lw : Int)] 24 (by simp [wordV]; omega)
  have HLIT := hide hlit
  have hwk : IntKind.u16.wrap (lw : Int) = (lw : Int) := by rw [IntKind.wrap_u16]; omega
  clear HM hl hm hlit
  go_enter Try.func75, Try.ntmps75
  go_upto_region 2 with (refine wpList_boxC rfl 30 _ rfl cs rfl ?_)
  generalize w.alloc (.cells cs 30 (0, 0)) = u at *
  have HWu := hide hw
  clear hw
  refine wp_region_noPanic ?_
  refine wp_region_held_drew (S := fun w' => Below u.heap.size u w') (by kernel_rfl) ((Below.refl u.heap.size u).drew) (fun hHeld => ?_)
  refine wpAnyH_take (i := 0) (oi := ⟨some 8, .fieldAddr 30 (.tmp 1) 2, _, _, _, none⟩) (v := ?_) rfl (by kernel_rfl) (by kernel_rfl) (by kernel_rfl) (fun _ _ _ h => h) (Or.inl ⟨by rfl, ?_⟩) hHeld ?_
  rotate_left
  · (intro wq hSw; go_simp; try with_reducible rfl)
  simp only [Act.put, List.setIfInBounds_toArray, List.set_cons_zero, List.set_cons_succ]
  refine wpAnyH_take (i := 1) (oi := ⟨some 9, .load 24 (.tmp 8), _, _, _, none⟩) (v := ?_) rfl (by kernel_rfl) (by kernel_rfl) (by kernel_rfl) (fun _ _ _ h => h) (Or.inl ⟨by rfl, ?_⟩) hHeld ?_
  rotate_left
  · (intro wq hSw; have hcv := (hSw.cell (p := ⟨w.heap.size, 2, none⟩) z0).trans k0; go_simp; try with_reducible rfl)
  simp only [Act.put, List.setIfInBounds_toArray, List.set_cons_zero, List.set_cons_succ]
  refine wpAnyH_take (i := 2) (oi := ⟨some 10, .fieldAddr 30 (.tmp 1) 3, _, _, _, none⟩) (v := ?_) rfl (by kernel_rfl) (by kernel_rfl) (by kernel_rfl) (fun _ _ _ h => h) (Or.inl ⟨by rfl, ?_⟩) hHeld ?_
  rotate_left
  · (intro wq hSw; go_simp; try with_reducible rfl)
  simp only [Act.put, List.setIfInBounds_toArray, List.set_cons_zero, List.set_cons_succ]
  refine wpAnyH_take (i := 3) (oi := ⟨some 11, .load 24 (.tmp 10), _, _, _, none⟩) (v := ?_) rfl (by kernel_rfl) (by kernel_rfl) (by kernel_rfl) (fun _ _ _ h => h) (Or.inl ⟨by rfl, ?_⟩) hHeld ?_
  rotate_left
  · (intro wq hSw; have hcv := (hSw.cell (p := ⟨w.heap.size, 3, none⟩) z0).trans k1; go_simp; try with_reducible rfl)
  simp only [Act.put, List.setIfInBounds_toArray, List.set_cons_zero, List.set_cons_succ]
  refine wpAnyH_take (i := 4) (oi := ⟨some 12, .fieldAddr 30 (.tmp 1) 7, _, _, _, none⟩) (v := ?_) rfl (by kernel_rfl) (by kernel_rfl) (by kernel_rfl) (fun _ _ _ h => h) (Or.inl ⟨by rfl, ?_⟩) hHeld ?_
  rotate_left
  · (intro wq hSw; go_simp; try with_reducible rfl)
  simp only [Act.put, List.setIfInBounds_toArray, List.set_cons_zero, List.set_cons_succ]
  refine wpAnyH_take (i := 5) (oi := ⟨some 13, .load 24 (.tmp 12), _, _, _, none⟩) (v := ?_) rfl (by kernel_rfl) (by kernel_rfl) (by kernel_rfl) (fun _ _ _ h => h) (Or.inl ⟨by rfl, ?_⟩) hHeld ?_
  rotate_left
  · (intro wq hSw; have hcv := (hSw.cell (p := ⟨w.heap.size, 7, none⟩) z0).trans k2; go_simp; try with_reducible rfl)
  simp only [Act.put, List.setIfInBounds_toArray, List.set_cons_zero, List.set_cons_succ]
  refine wpAnyH_take (i := 6) (oi := ⟨some 14, .move (.tmp 3), _, _, _, none⟩) (v := ?_) rfl (by kernel_rfl) (by kernel_rfl) (by kernel_rfl) (fun _ _ _ h => h) (Or.inl ⟨by rfl, ?_⟩) hHeld ?_
  rotate_left
  · (intro wq hSw; go_simp; try with_reducible rfl)
  simp only [Act.put, List.setIfInBounds_toArray, List.set_cons_zero, List.set_cons_succ]
  refine wpAnyH_take (i := 9) (oi := ⟨some 17, .fieldAddr 30 (.tmp 1) 12, _, _, _, none⟩) (v := ?_) rfl (by kernel_rfl) (by kernel_rfl) (by kernel_rfl) (fun _ _ _ h => h) (Or.inl ⟨by rfl, ?_⟩) hHeld ?_
  rotate_left
  · (intro wq hSw; go_simp; try with_reducible rfl)
  simp only [Act.put, List.setIfInBounds_toArray, List.set_cons_zero, List.set_cons_succ]
  refine wpAnyH_take (i := 10) (oi := ⟨some 18, .load 25 (.tmp 17), _, _, _, none⟩) (v := ?_) rfl (by kernel_rfl) (by kernel_rfl) (by kernel_rfl) (fun _ _ _ h => h) (Or.inl ⟨by rfl, ?_⟩) hHeld ?_
  rotate_left
  · (intro wq hSw; have hcv := (hSw.cell (p := ⟨w.heap.size, 12, none⟩) z0).trans kw; go_simp; try with_reducible rfl)
  simp only [Act.put, List.setIfInBounds_toArray, List.set_cons_zero, List.set_cons_succ]
  refine wpAnyH_ready (rs := [7]) (by kernel_rfl) (by simp) ?_
  refine AllReadyH.cons (o := ⟨some 15, .buildSlice 25 4 #[(0, .tmp 9), (1, .tmp 11), (2, .tmp 13), (3, .tmp 14)], _, _, _, none⟩) rfl (fun K hK => ?_) ?_
  · go_simp
    refine hK.out _ _ ?_ (fun hHeld => ?_)
    · first | exact Below.alloc hHeld hHeld.size _ | exact (Below.alloc hHeld hHeld.size _).drew
    clear hK K
    try simp only [Act.put, List.setIfInBounds_toArray, List.set_cons_zero, List.set_cons_succ]
    refine wpAnyH_ready (rs := [8]) (by kernel_rfl) (by simp) ?_
    refine AllReadyH.cons (o := ⟨some 16, .call ⟨.value (.func 65), #[.tmp 15], #[25]⟩, _, _, _, none⟩) rfl (fun K hK => ?_) ?_
    · go_simp
      refine (put_any _ _ _ _ _ (HLIT.out u).sl.drew (by omega)).mono ?_
      rintro r w1 ⟨⟨a1, c1, rfl, hx1⟩, hb1⟩
      have s1 : Below u.heap.size u w1 := below_next hHeld hb1 (Nat.le_refl _)
      have hB1 := hHeld.size
      refine hK.out _ _ ?_ (fun hHeld => ?_)
      · exact s1
      clear hK K
      try simp only [Act.put, List.setIfInBounds_toArray, List.set_cons_zero, List.set_cons_succ]
      refine wpAnyH_ready (rs := [11]) (by kernel_rfl) (by simp) ?_
      refine AllReadyH.cons (o := ⟨some 19, .call ⟨.value (.func 71), #[.tmp 16, .tmp 18], #[22, 25]⟩, _, _, _, none⟩) rfl (fun K hK => ?_) ?_
      · go_simp
        obtain ⟨gg, off, hag, hgl, hgs, _⟩ := hx1.room 0 (by have := hx1.sl.hle; omega)
        refine (withWords_any u.heap.size gg a1 aw 8 c1 lw cw _ m.words _ (hx1.base hB1) (fun b off h => by rw [hag] at h; cases h; rfl) hgs (HWu.out.mono s1) s1.size (by omega) (by omega)).mono ?_
        rintro r w2 ⟨⟨a2, c2, rfl, hx2⟩, hb2⟩
        have s2 : Below u.heap.size u w2 := s1.trans hb2
        refine hK.out _ _ ?_ (fun hHeld => ?_)
        · exact s2
        clear hK K
        try simp only [Act.put, List.setIfInBounds_toArray, List.set_cons_zero, List.set_cons_succ]
        refine wpAnyH_take (i := 12) (oi := ⟨some 2, .assign (.tmp 19), _, _, _, none⟩) (v := ?_) rfl (by kernel_rfl) (by kernel_rfl) (by kernel_rfl) (fun _ _ _ h => h) (Or.inl ⟨by rfl, ?_⟩) hHeld ?_
        rotate_left
        · (intro wq hSw; go_simp; try with_reducible rfl)
        simp only [Act.put, List.setIfInBounds_toArray, List.set_cons_zero, List.set_cons_succ]
        refine wpAnyH_done (by kernel_rfl) ?_ _
        refine NoPanic.normal ?_
        go_wp2
        go_ret
        exact ⟨⟨a2, _, c2, rfl, by omega, hx2.sl⟩, b0.trans (s2.mono b0.size)⟩
      exact AllReadyH.nil
    exact AllReadyH.nil
  exact AllReadyH.nil

set_option maxRecDepth 20000 in
set_option maxHeartbeats 2000000 in
theorem queuedWrite_any (v : Value) (m : MsgM) (w : World) (hm : MsgAt w v m) (hl : m.words.length ≤ 125) :
    Calls Try.prog 83 #[v] w fun e w' => (∃ a' l' c', e = .returned (.slice a' l' c') ∧ l' ≤ 100000 ∧ Bs w' a' l' c' (putW [UInt16.ofNat (2 * m.words.length + 2), UInt16.ofNat m.words.length] ++ putW m.words)) ∧ Below w.heap.size w w' := by
  obtain ⟨cs, rfl, hsz, hone, _⟩ := hm.agg
  have HM := MB.made w cs hm 30
  have b0 := (Below.refl w.heap.size w).alloc (Nat.le_refl _) (.cells cs 30 (0, 0))
  have z0 := HM.lt
  obtain ⟨aw, lw, cw, kw, hw⟩ := HM.c_words
  have h1 : lw ≤ 125 := by rw [← hw.hlen]; exact hl
  rw [hw.hlen]
  have hlit : ∀ (wx : World), Own wordV (wx.alloc (.cells #[.int .u16 (2 * (lw : Int) + 2), .int .u16 (lw : Int)] 24)) wx.heap.size (some ⟨wx.heap.size, 0, none⟩) 2 2 [UInt16.ofNat (2 * lw + 2), UInt16.ofNat lw] := fun wx =>
    litW wx [UInt16.ofNat (2 * lw + 2), UInt16.ofNat lw] 2 rfl (by omega) [.int .u16 (2 * (lw : Int) + 2), .int .u16 (lw : Int)] 24 (by simp [wordV]; omega)
  have HLIT := hide hlit
  have hwk : IntKind.u16.wrap (lw : Int) = (lw : Int) := by rw [IntKind.wrap_u16]; omega
  have hwk2 : IntKind.u16.wrap (2 * (lw : Int)) = 2 * (lw : Int) := by rw [IntKind.wrap_u16]; omega
  have hwk3 : IntKind.u16.wrap (2 * (lw : Int) + 2) = 2 * (lw : Int) + 2 := by rw [IntKind.wrap_u16]; omega
  clear HM hl hm hlit
  go_enter Try.func83, Try.ntmps83
  go_upto_region 2 with (refine wpList_boxC rfl 30 _ rfl cs rfl ?_)
  generalize w.alloc (.cells cs 30 (0, 0)) = u at *
  have HWu := hide hw
  clear hw
  refine wp_region_noPanic ?_
  refine wp_region_held_drew (S := fun w' => Below u.heap.size u w') (by kernel_rfl) ((Below.refl u.heap.size u).drew) (fun hHeld => ?_)
  refine wpAnyH_take (i := 0) (oi := ⟨some 8, .move (.tmp 3), _, _, _, none⟩) (v := ?_) rfl (by kernel_rfl) (by kernel_rfl) (by kernel_rfl) (fun _ _ _ h => h) (Or.inl ⟨by rfl, ?_⟩) hHeld ?_
  rotate_left
  · (intro wq hSw; go_simp; try with_reducible rfl)
  simp only [Act.put, List.setIfInBounds_toArray, List.set_cons_zero, List.set_cons_succ]
  refine wpAnyH_take (i := 1) (oi := ⟨some 9, .binOp .mul 24 (.const (Value.int IntKind.u16 2)) (.tmp 8) 24, _, _, _, none⟩) (v := ?_) rfl (by kernel_rfl) (by kernel_rfl) (by kernel_rfl) (fun _ _ _ h => h) (Or.inl ⟨by rfl, ?_⟩) hHeld ?_
  rotate_left
  · (intro wq hSw; go_simp; try with_reducible rfl)
  simp only [Act.put, List.setIfInBounds_toArray, List.set_cons_zero, List.set_cons_succ]
  refine wpAnyH_take (i := 2) (oi := ⟨some 10, .binOp .add 24 (.tmp 9) (.const (Value.int IntKind.u16 2)) 24, _, _, _, none⟩) (v := ?_) rfl (by kernel_rfl) (by kernel_rfl) (by kernel_rfl) (fun _ _ _ h => h) (Or.inl ⟨by rfl, ?_⟩) hHeld ?_
  rotate_left
  · (intro wq hSw; go_simp; try with_reducible rfl)
  simp only [Act.put, List.setIfInBounds_toArray, List.set_cons_zero, List.set_cons_succ]
  refine wpAnyH_take (i := 3) (oi := ⟨some 11, .move (.tmp 3), _, _, _, none⟩) (v := ?_) rfl (by kernel_rfl) (by kernel_rfl) (by kernel_rfl) (fun _ _ _ h => h) (Or.inl ⟨by rfl, ?_⟩) hHeld ?_
  rotate_left
  · (intro wq hSw; go_simp; try with_reducible rfl)
  simp only [Act.put, List.setIfInBounds_toArray, List.set_cons_zero, List.set_cons_succ]
  refine wpAnyH_take (i := 6) (oi := ⟨some 14, .fieldAddr 30 (.tmp 1) 12, _, _, _, none⟩) (v := ?_) rfl (by kernel_rfl) (by kernel_rfl) (by kernel_rfl) (fun _ _ _ h => h) (Or.inl ⟨by rfl, ?_⟩) hHeld ?_
  rotate_left
  · (intro wq hSw; go_simp; try with_reducible rfl)
  simp only [Act.put, List.setIfInBounds_toArray, List.set_cons_zero, List.set_cons_succ]
  refine wpAnyH_take (i := 7) (oi := ⟨some 15, .load 25 (.tmp 14), _, _, _, none⟩) (v := ?_) rfl (by kernel_rfl) (by kernel_rfl) (by kernel_rfl) (fun _ _ _ h => h) (Or.inl ⟨by rfl, ?_⟩) hHeld ?_
  rotate_left
  · (intro wq hSw; have hcv := (hSw.cell (p := ⟨w.heap.size, 12, none⟩) z0).trans kw; go_simp; try with_reducible rfl)
  simp only [Act.put, List.setIfInBounds_toArray, List.set_cons_zero, List.set_cons_succ]
  refine wpAnyH_ready (rs := [4]) (by kernel_rfl) (by simp) ?_
  refine AllReadyH.cons (o := ⟨some 12, .buildSlice 25 2 #[(0, .tmp 10), (1, .tmp 11)], _, _, _, none⟩) rfl (fun K hK => ?_) ?_
  · go_simp
    refine hK.out _ _ ?_ (fun hHeld => ?_)
    · first | exact Below.alloc hHeld hHeld.size _ | exact (Below.alloc hHeld hHeld.size _).drew
    clear hK K
    try simp only [Act.put, List.setIfInBounds_toArray, List.set_cons_zero, List.set_cons_succ]
    refine wpAnyH_ready (rs := [5]) (by kernel_rfl) (by simp) ?_
    refine AllReadyH.cons (o := ⟨some 13, .call ⟨.value (.func 65), #[.tmp 12], #[25]⟩, _, _, _, none⟩) rfl (fun K hK => ?_) ?_
    · go_simp
      refine (put_any _ _ _ _ _ (HLIT.out u).sl.drew (by omega)).mono ?_
      rintro r w1 ⟨⟨a1, c1, rfl, hx1⟩, hb1⟩
      have s1 : Below u.heap.size u w1 := below_next hHeld hb1 (Nat.le_refl _)
      have hB1 := hHeld.size
      refine hK.out _ _ ?_ (fun hHeld => ?_)
      · exact s1
      clear hK K
      try simp only [Act.put, List.setIfInBounds_toArray, List.set_cons_zero, List.set_cons_succ]
      refine wpAnyH_ready (rs := [8]) (by kernel_rfl) (by simp) ?_
      refine AllReadyH.cons (o := ⟨some 16, .call ⟨.value (.func 65), #[.tmp 15], #[25]⟩, _, _, _, none⟩) rfl (fun K hK => ?_) ?_
      · go_simp
        refine (put_any _ _ _ _ _ (HWu.out.mono hHeld) (by omega)).mono ?_
        rintro r w2 ⟨⟨a2, c2, rfl, hx2⟩, hb2⟩
        have s2 : Below u.heap.size u w2 := below_next hHeld hb2 (Nat.le_refl _)
        refine hK.out _ _ ?_ (fun hHeld => ?_)
        · exact s2
        clear hK K
        try simp only [Act.put, List.setIfInBounds_toArray, List.set_cons_zero, List.set_cons_succ]
        refine wpAnyH_ready (rs := [9]) (by kernel_rfl) (by simp) ?_
        refine AllReadyH.cons (o := ⟨some 17, .call ⟨.builtin .append, #[.tmp 13, .tmp 16], #[22, 22]⟩, _, _, _, none⟩) rfl (fun K hK => ?_) ?_
        · refine step_app (by rfl) _ _ (by rfl) u.heap.size (by rfl) ((hx1.base hB1).mono hb2) (by rfl) hx2.sl (by omega) s2.size ?_
          intro a3 c3 w3 ho3 hb3
          have s3 : Below u.heap.size u w3 := s2.trans hb3
          refine hK.out _ _ ?_ (fun hHeld => ?_)
          · exact s3
          clear hK K
          try simp only [Act.put, List.setIfInBounds_toArray, List.set_cons_zero, List.set_cons_succ]
          refine wpAnyH_take (i := 10) (oi := ⟨some 2, .assign (.tmp 17), _, _, _, none⟩) (v := ?_) rfl (by kernel_rfl) (by kernel_rfl) (by kernel_rfl) (fun _ _ _ h => h) (Or.inl ⟨by rfl, ?_⟩) hHeld ?_
          rotate_left
          · (intro wq hSw; go_simp; try with_reducible rfl)
          simp only [Act.put, List.setIfInBounds_toArray, List.set_cons_zero, List.set_cons_succ]
          refine wpAnyH_done (by kernel_rfl) ?_ _
          refine NoPanic.normal ?_
          go_wp2
          go_ret
          exact ⟨⟨a3, _, c3, rfl, by omega, ho3.sl⟩, b0.trans (s3.mono b0.size)⟩
        exact AllReadyH.nil
      exact AllReadyH.nil
    exact AllReadyH.nil
  exact AllReadyH.nil

/-- What a form's closure writes. -/
theorem formWrite_any (f : Regs.Frm) {rc sc : Array Value} (v : Value) (m : MsgM) (w : World) (hm : MsgAt w v m) (hl : m.words.length ≤ 125) (hf : f.caps w rc sc) :
    Calls Try.prog f.wr (#[v] ++ sc) w fun e w' => (∃ a l c, e = .returned (.slice a l c) ∧ l ≤ 100000 ∧ Bs w' a l c (f.bytes m)) ∧ Below w.heap.size w w' := by
  have key : ∀ {F : FuncId} {n : Nat} {xs : List UInt8}, Calls Try.prog F #[v] w (fun e w' => (∃ a' c', e = .returned (.slice a' n c') ∧ Own byteV w' w.heap.size a' n c' xs) ∧ Below w.heap.size w w') → n ≤ 100000 →
      Calls Try.prog F #[v] w fun e w' => (∃ a l c, e = .returned (.slice a l c) ∧ l ≤ 100000 ∧ Bs w' a l c xs) ∧ Below w.heap.size w w' := fun h hn => h.mono (by
    rintro e w' ⟨⟨a, c, he, ho⟩, hb⟩
    exact ⟨⟨a, _, c, he, hn, ho.sl⟩, hb⟩)
  rcases Regs.Frm.nine f with rfl | rfl | rfl | rfl | rfl | rfl | rfl | rfl | rfl
  · obtain ⟨_, _, rfl, _⟩ := hf; exact key (placesWrite_any v m w hm) (by omega)
  · obtain ⟨_, rfl⟩ := hf; exact toldWrite_any v m w hm hl
  · obtain ⟨_, rfl⟩ := hf; exact key (oneWrite_any v m w hm) (by omega)
  · obtain ⟨ga, g, _, rfl, h3⟩ := hf; exact someWrite_any v m w hm hl ga g h3
  · obtain ⟨_, _, rfl, _⟩ := hf; exact key (placesWrite_any v m w hm) (by omega)
  · obtain ⟨_, rfl⟩ := hf; exact key (masksWrite_any v m w hm) (by omega)
  · obtain ⟨ga, g, _, rfl, h3⟩ := hf; exact bothWrite_any v m w hm hl
  · obtain ⟨_, rfl⟩ := hf; exact key (queueWrite_any v m w hm) (by omega)
  · obtain ⟨_, rfl⟩ := hf; exact queuedWrite_any v m w hm hl

end Go.Proofs.Ytaccebkgmjiaaaa
