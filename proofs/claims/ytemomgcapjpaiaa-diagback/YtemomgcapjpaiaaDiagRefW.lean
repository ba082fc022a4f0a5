/-
  The document's own answers for diag: a message's bytes.
-/
import Derived.Test.YtemomgcapjpaiaaDiagPut
import Derived.Test.YtemomgcapjpaiaaRefPut
import Derived.Test.YtemomgcapjpaiaaJoinA
import Derived.Deep.CutBlock
import Derived.Deep.DeepCutAuto
namespace Go.Proofs.Ytemomgcapjpaiaa
open Go.RowKit
open Word Bits Cursor

theorem own8_of {B : Nat} {a w : World} {t : TypeId} {u : Int} (h0 : B ≤ w.heap.size) (_h : Below B a (w.alloc (.cells #[.int .u8 u] t))) (n : Nat) (hu : u = n) (hn : n < 256) : Own byteV (w.alloc (.cells #[.int .u8 u] t)) B (some ⟨w.heap.size, 0, none⟩) 1 1 [UInt8.ofNat n] := (one_own w u n hu hn t).base h0
theorem own8_of' {B : Nat} {a w : World} {t : TypeId} {u : Int} (h0 : B ≤ w.heap.size) (_h : Below B a (w.alloc (.cells #[.int .u8 u] t)).drew) (n : Nat) (hu : u = n) (hn : n < 256) : Own byteV (w.alloc (.cells #[.int .u8 u] t)).drew B (some ⟨w.heap.size, 0, none⟩) 1 1 [UInt8.ofNat n] := ((one_own w u n hu hn t).base h0).drew
theorem own3_of {B : Nat} {a w : World} {t : TypeId} (x y z : UInt16) (h0 : B ≤ w.heap.size) (_h : Below B a (w.alloc (.cells #[wordV x, wordV y, wordV z] t))) : Own wordV (w.alloc (.cells #[wordV x, wordV y, wordV z] t)) B (some ⟨w.heap.size, 0, none⟩) 3 3 [x, y, z] := (litW w [x, y, z] 3 rfl (by omega) [wordV x, wordV y, wordV z] t rfl).base h0
theorem own3_of' {B : Nat} {a w : World} {t : TypeId} (x y z : UInt16) (h0 : B ≤ w.heap.size) (_h : Below B a (w.alloc (.cells #[wordV x, wordV y, wordV z] t)).drew) : Own wordV (w.alloc (.cells #[wordV x, wordV y, wordV z] t)).drew B (some ⟨w.heap.size, 0, none⟩) 3 3 [x, y, z] := ((litW w [x, y, z] 3 rfl (by omega) [wordV x, wordV y, wordV z] t rfl).base h0).drew
theorem own_keep {α : Type} {f : α → Value} {B C : Nat} {a w : World} {o : Obj} (_h : Below B a (w.alloc o)) {q : Option Addr} {l c : Nat} {xs : List α} (hx : Own f w C q l c xs) : Own f (w.alloc o) C q l c xs := hx.mono ((Below.refl _ _).alloc (Nat.le_refl _) _)
theorem own_keep' {α : Type} {f : α → Value} {B C : Nat} {a w : World} {o : Obj} (_h : Below B a (w.alloc o).drew) {q : Option Addr} {l c : Nat} {xs : List α} (hx : Own f w.drew C q l c xs) : Own f (w.alloc o).drew C q l c xs := hx.mono ((Below.refl _ _).alloc (Nat.le_refl _) _)

set_option maxRecDepth 20000 in
set_option maxHeartbeats 4000000 in
theorem rb_8 (dir : Int) (v : Value) (m : MsgM) (hc : m.code = 8) (w : World) (hm : MsgAt w v m) (hs : m.Small) :
    Calls Try.prog 35 #[.int .i64 dir, v] w fun e w' => (∃ a l c, e = .returned (.slice a l c) ∧ l ≤ 100000 ∧ Bs w' a l c (putW (m.sub :: m.words))) ∧ Below w.heap.size w w' := by
  obtain ⟨cs, rfl, hsz, hone, hc0⟩ := hm.agg
  have HM := MB.made w cs hm 30
  have b0 := (Below.refl w.heap.size w).alloc (Nat.le_refl _) (.cells cs 30 (0, 0))
  have z0 := HM.lt
  have k0 := HM.c_code
  have k1 := HM.c_sub
  obtain ⟨aw, lw, cw, kw, hw⟩ := HM.c_words
  have h1 : lw ≤ 40000 := by rw [← hw.hlen]; exact hs.words
  rw [show byteV m.code = .int .u8 (8 : Int) by rw [hc]; rfl] at k0
  clear hc
  clear HM hm hs
  go_enter Try.func35, Try.ntmps35
  go_upto_region 1 with (refine wpList_boxC rfl 30 _ rfl cs rfl ?_)
  generalize w.alloc (.cells cs 30 (0, 0)) = u at *
  have HWu := hide hw
  clear hw
  go_wp2_with (at_builtin; refine app16 (by rfl) _ _ rfl u.heap.size rfl (own_word u m.sub 24) rfl (HWu.out.alloc _) (by omega) (by simp) ?_)
  intro a3 c3 w3 ho3 hb3
  have b3 : Below u.heap.size u w3 := ((Below.refl _ _).alloc (Nat.le_refl _) _).trans hb3
  have HO3 := hide ho3
  clear ho3 hb3
  go_wp2_with fail
  refine (refPut_any _ _ _ _ _ HO3.out.sl (by omega)).mono ?_
  rintro r w4 ⟨⟨a4, c4, rfl, hx4⟩, hb4⟩
  have b4 : Below u.heap.size u w4 := below_next b3 hb4 (Nat.le_refl _)
  go_wp2
  go_ret
  exact ⟨⟨a4, _, c4, rfl, by omega, hx4.sl⟩, b0.trans (b4.mono b0.size)⟩

set_option maxRecDepth 20000 in
set_option maxHeartbeats 4000000 in
theorem rb_0 (v : Value) (m : MsgM) (n8 : m.code ≠ 8) (w : World) (hm : MsgAt w v m) (_hs : m.Small) :
    Calls Try.prog 35 #[.int .i64 0, v] w fun e w' => (∃ a l c, e = .returned (.slice a l c) ∧ l ≤ 100000 ∧ Bs w' a l c ([])) ∧ Below w.heap.size w w' := by
  obtain ⟨cs, rfl, hsz, hone, hc0⟩ := hm.agg
  have HM := MB.made w cs hm 30
  have b0 := (Below.refl w.heap.size w).alloc (Nat.le_refl _) (.cells cs 30 (0, 0))
  have z0 := HM.lt
  have k0 := HM.c_code
  obtain ⟨kc, hkc⟩ : ∃ k : Nat, k = m.code.toNat := ⟨_, rfl⟩
  rw [show byteV m.code = .int .u8 (kc : Int) by rw [hkc]] at k0
  have q8 : ((kc : Int) == 8) = false := by
    have : kc ≠ 8 := fun h => n8 (by apply UInt8.toNat_inj.1; rw [← hkc, h]; rfl)
    simp; omega
  clear hkc n8
  clear HM hm
  go_enter Try.func35, Try.ntmps35
  go_upto_region 1 with (refine wpList_boxC rfl 30 _ rfl cs rfl ?_)
  generalize w.alloc (.cells cs 30 (0, 0)) = u at *
  go_wp2
  go_ret
  exact ⟨⟨_, _, _, rfl, Nat.zero_le _, Sl.nil _ _ (by unfold maxLen; omega)⟩, b0⟩

set_option maxRecDepth 20000 in
set_option maxHeartbeats 4000000 in
theorem rb_7 (dir : Int) (hd : (dir == 0) = false) (v : Value) (m : MsgM) (hc : m.code = 7) (w : World) (hm : MsgAt w v m) (_hs : m.Small) :
    Calls Try.prog 35 #[.int .i64 dir, v] w fun e w' => (∃ a l c, e = .returned (.slice a l c) ∧ l ≤ 100000 ∧ Bs w' a l c ([UInt8.ofNat m.value.toNat])) ∧ Below w.heap.size w w' := by
  obtain ⟨cs, rfl, hsz, hone, hc0⟩ := hm.agg
  have HM := MB.made w cs hm 30
  have b0 := (Below.refl w.heap.size w).alloc (Nat.le_refl _) (.cells cs 30 (0, 0))
  have z0 := HM.lt
  have k0 := HM.c_code
  have k1 := HM.c_value
  rw [show byteV m.code = .int .u8 (7 : Int) by rw [hc]; rfl] at k0
  clear hc
  obtain ⟨n, hn⟩ : ∃ n : Nat, n = m.value.toNat := ⟨_, rfl⟩
  replace k1 : (w.alloc (.cells cs 30 (0, 0))).cell? ⟨w.heap.size, 4, none⟩ = some (.int .u16 (n : Int)) := by rw [hn]; exact k1
  rw [← hn]
  have hw8 : IntKind.u8.wrap (n : Int) = ((n % 256 : Nat) : Int) := by rw [IntKind.wrap_u8]; omega
  have HE : Hid (UInt8.ofNat n = UInt8.ofNat (n % 256)) := hide (by apply UInt8.toNat_inj.1; simp)
  clear hn HM hm
  go_enter Try.func35, Try.ntmps35
  go_upto_region 1 with (refine wpList_boxC rfl 30 _ rfl cs rfl ?_)
  generalize w.alloc (.cells cs 30 (0, 0)) = u at *
  go_wp2
  go_ret
  have hbu := fun v => (Below.refl u.heap.size u).alloc (Nat.le_refl _) (.cells #[v] 5 (0, 0))
  rw [HE.out]
  exact ⟨⟨_, _, _, rfl, by omega, (one_own _ _ (n % 256) (by first | rfl | omega | (simp; omega)) (by omega) _).sl⟩, b0.trans ((hbu _).mono b0.size)⟩

set_option maxRecDepth 20000 in
set_option maxHeartbeats 4000000 in
theorem rb_11 (dir : Int) (hd : (dir == 0) = false) (v : Value) (m : MsgM) (hc : m.code = 11) (w : World) (hm : MsgAt w v m) (_hs : m.Small) :
    Calls Try.prog 35 #[.int .i64 dir, v] w fun e w' => (∃ a l c, e = .returned (.slice a l c) ∧ l ≤ 100000 ∧ Bs w' a l c (putW [m.status, m.events])) ∧ Below w.heap.size w w' := by
  obtain ⟨cs, rfl, hsz, hone, hc0⟩ := hm.agg
  have HM := MB.made w cs hm 30
  have b0 := (Below.refl w.heap.size w).alloc (Nat.le_refl _) (.cells cs 30 (0, 0))
  have z0 := HM.lt
  have k0 := HM.c_code
  have k1 := HM.c_status
  have k2 := HM.c_events
  rw [show byteV m.code = .int .u8 (11 : Int) by rw [hc]; rfl] at k0
  clear hc
  clear HM hm
  go_enter Try.func35, Try.ntmps35
  go_upto_region 1 with (refine wpList_boxC rfl 30 _ rfl cs rfl ?_)
  generalize w.alloc (.cells cs 30 (0, 0)) = u at *
  go_wp2_with fail
  refine (refPut_any _ _ _ _ _ (litW u [m.status, m.events] 2 rfl (by omega) [wordV m.status, wordV m.events] 24 rfl).sl (by omega)).mono ?_
  rintro r w1 ⟨⟨a1, c1, rfl, hx1⟩, hb1⟩
  have hbu := (Below.refl u.heap.size u).alloc (Nat.le_refl _) (.cells #[wordV m.status, wordV m.events] 24 (0, 0))
  have hb2 : Below u.heap.size u w1 := hbu.trans (hb1.mono hbu.size)
  go_wp2
  go_ret
  exact ⟨⟨a1, _, c1, rfl, by omega, hx1.sl⟩, b0.trans (hb2.mono b0.size)⟩

set_option maxRecDepth 20000 in
set_option maxHeartbeats 4000000 in
theorem rb_12 (dir : Int) (hd : (dir == 0) = false) (v : Value) (m : MsgM) (hc : m.code = 12) (w : World) (hm : MsgAt w v m) (hs : m.Small) :
    Calls Try.prog 35 #[.int .i64 dir, v] w fun e w' => (∃ a l c, e = .returned (.slice a l c) ∧ l ≤ 100000 ∧ Bs w' a l c ([UInt8.ofNat (m.data.length + 6)] ++ putW [m.status, m.events, m.messages] ++ m.data)) ∧ Below w.heap.size w w' := by
  obtain ⟨cs, rfl, hsz, hone, hc0⟩ := hm.agg
  have HM := MB.made w cs hm 30
  have b0 := (Below.refl w.heap.size w).alloc (Nat.le_refl _) (.cells cs 30 (0, 0))
  have z0 := HM.lt
  have k0 := HM.c_code
  have k1 := HM.c_status
  have k2 := HM.c_events
  have k3 := HM.c_messages
  obtain ⟨aw, lw, cw, kw, hw⟩ := HM.c_data
  have h1 : lw ≤ 50000 := by rw [← hw.hlen]; exact hs.data
  rw [show byteV m.code = .int .u8 (12 : Int) by rw [hc]; rfl] at k0
  clear hc
  have hwk : IntKind.i64.wrap ((lw : Int) + 6) = (lw : Int) + 6 := by rw [IntKind.wrap_i64]; omega
  have hw8 : IntKind.u8.wrap ((lw : Int) + 6) = (((lw + 6) % 256 : Nat) : Int) := by rw [IntKind.wrap_u8]; omega
  have HE : Hid (UInt8.ofNat (m.data.length + 6) = UInt8.ofNat ((lw + 6) % 256)) := hide (by rw [hw.hlen]; apply UInt8.toNat_inj.1; simp)
  clear HM hm hs
  go_enter Try.func35, Try.ntmps35
  go_upto_region 1 with (refine wpList_boxC rfl 30 _ rfl cs rfl ?_)
  generalize w.alloc (.cells cs 30 (0, 0)) = u at *
  have HWu := hide hw
  clear hw
  go_upto_region 11 with fail
  refine wp_region_noPanic ?_
  refine wp_region_held_drew (S := fun w' => Below u.heap.size u w') (by kernel_rfl) ((Below.refl u.heap.size u).drew) (fun hHeld => ?_)
  refine wpAnyH_take (i := 0) (oi := ⟨some 36, .fieldAddr 30 (.tmp 3) 14, _, _, _, none⟩) (v := ?_) rfl (by kernel_rfl) (by kernel_rfl) (by kernel_rfl) (fun _ _ _ h => h) (Or.inl ⟨by rfl, ?_⟩) hHeld ?_
  rotate_left
  · (intro wq hSw; go_simp; try with_reducible rfl)
  simp only [Act.put, List.setIfInBounds_toArray, List.set_cons_zero, List.set_cons_succ]
  refine wpAnyH_take (i := 1) (oi := ⟨some 37, .load 22 (.tmp 36), _, _, _, none⟩) (v := ?_) rfl (by kernel_rfl) (by kernel_rfl) (by kernel_rfl) (fun _ _ _ h => h) (Or.inl ⟨by rfl, ?_⟩) hHeld ?_
  rotate_left
  · (intro wq hSw; have hcv := (hSw.cell (p := ⟨w.heap.size, 14, none⟩) z0).trans kw; go_simp; try with_reducible rfl)
  simp only [Act.put, List.setIfInBounds_toArray, List.set_cons_zero, List.set_cons_succ]
  refine wpAnyH_take (i := 2) (oi := ⟨some 38, .call ⟨.builtin .len, #[.tmp 37], #[22]⟩, _, _, _, none⟩) (v := ?_) rfl (by kernel_rfl) (by kernel_rfl) (by kernel_rfl) (fun _ _ _ h => h) (Or.inl ⟨by rfl, ?_⟩) hHeld ?_
  rotate_left
  · (intro wq hSw; go_simp; try with_reducible rfl)
  simp only [Act.put, List.setIfInBounds_toArray, List.set_cons_zero, List.set_cons_succ]
  refine wpAnyH_take (i := 3) (oi := ⟨some 39, .binOp .add 3 (.tmp 38) (.const (Value.int IntKind.i64 6)) 3, _, _, _, none⟩) (v := ?_) rfl (by kernel_rfl) (by kernel_rfl) (by kernel_rfl) (fun _ _ _ h => h) (Or.inl ⟨by rfl, ?_⟩) hHeld ?_
  rotate_left
  · (intro wq hSw; go_simp; try with_reducible rfl)
  simp only [Act.put, List.setIfInBounds_toArray, List.set_cons_zero, List.set_cons_succ]
  refine wpAnyH_take (i := 4) (oi := ⟨some 40, .convert 3 5 (.tmp 39), _, _, _, none⟩) (v := ?_) rfl (by kernel_rfl) (by kernel_rfl) (by kernel_rfl) (fun _ _ _ h => h) (Or.inl ⟨by rfl, ?_⟩) hHeld ?_
  rotate_left
  · (intro wq hSw; go_simp; try with_reducible rfl)
  simp only [Act.put, List.setIfInBounds_toArray, List.set_cons_zero, List.set_cons_succ]
  refine wpAnyH_take (i := 6) (oi := ⟨some 42, .fieldAddr 30 (.tmp 3) 9, _, _, _, none⟩) (v := ?_) rfl (by kernel_rfl) (by kernel_rfl) (by kernel_rfl) (fun _ _ _ h => h) (Or.inl ⟨by rfl, ?_⟩) hHeld ?_
  rotate_left
  · (intro wq hSw; go_simp; try with_reducible rfl)
  simp only [Act.put, List.setIfInBounds_toArray, List.set_cons_zero, List.set_cons_succ]
  refine wpAnyH_take (i := 7) (oi := ⟨some 43, .load 24 (.tmp 42), _, _, _, none⟩) (v := ?_) rfl (by kernel_rfl) (by kernel_rfl) (by kernel_rfl) (fun _ _ _ h => h) (Or.inl ⟨by rfl, ?_⟩) hHeld ?_
  rotate_left
  · (intro wq hSw; have hcv := (hSw.cell (p := ⟨w.heap.size, 9, none⟩) z0).trans k1; go_simp; try with_reducible rfl)
  simp only [Act.put, List.setIfInBounds_toArray, List.set_cons_zero, List.set_cons_succ]
  refine wpAnyH_take (i := 8) (oi := ⟨some 44, .fieldAddr 30 (.tmp 3) 10, _, _, _, none⟩) (v := ?_) rfl (by kernel_rfl) (by kernel_rfl) (by kernel_rfl) (fun _ _ _ h => h) (Or.inl ⟨by rfl, ?_⟩) hHeld ?_
  rotate_left
  · (intro wq hSw; go_simp; try with_reducible rfl)
  simp only [Act.put, List.setIfInBounds_toArray, List.set_cons_zero, List.set_cons_succ]
  refine wpAnyH_take (i := 9) (oi := ⟨some 45, .load 24 (.tmp 44), _, _, _, none⟩) (v := ?_) rfl (by kernel_rfl) (by kernel_rfl) (by kernel_rfl) (fun _ _ _ h => h) (Or.inl ⟨by rfl, ?_⟩) hHeld ?_
  rotate_left
  · (intro wq hSw; have hcv := (hSw.cell (p := ⟨w.heap.size, 10, none⟩) z0).trans k2; go_simp; try with_reducible rfl)
  simp only [Act.put, List.setIfInBounds_toArray, List.set_cons_zero, List.set_cons_succ]
  refine wpAnyH_take (i := 10) (oi := ⟨some 46, .fieldAddr 30 (.tmp 3) 11, _, _, _, none⟩) (v := ?_) rfl (by kernel_rfl) (by kernel_rfl) (by kernel_rfl) (fun _ _ _ h => h) (Or.inl ⟨by rfl, ?_⟩) hHeld ?_
  rotate_left
  · (intro wq hSw; go_simp; try with_reducible rfl)
  simp only [Act.put, List.setIfInBounds_toArray, List.set_cons_zero, List.set_cons_succ]
  refine wpAnyH_take (i := 11) (oi := ⟨some 47, .load 24 (.tmp 46), _, _, _, none⟩) (v := ?_) rfl (by kernel_rfl) (by kernel_rfl) (by kernel_rfl) (fun _ _ _ h => h) (Or.inl ⟨by rfl, ?_⟩) hHeld ?_
  rotate_left
  · (intro wq hSw; have hcv := (hSw.cell (p := ⟨w.heap.size, 11, none⟩) z0).trans k3; go_simp; try with_reducible rfl)
  simp only [Act.put, List.setIfInBounds_toArray, List.set_cons_zero, List.set_cons_succ]
  refine wpAnyH_ready (rs := [5, 12]) (by kernel_rfl) (by simp) ?_
  refine AllReadyH.cons (o := ⟨some 41, .buildSlice 22 1 #[(0, .tmp 40)], _, _, _, none⟩) rfl (fun K hK => ?_) ?_
  · have hA := hHeld.size
    go_simp
    refine hK.out _ _ ?_ (fun hHeld => ?_)
    · first | exact Below.alloc hHeld hHeld.size _ | exact (Below.alloc hHeld hHeld.size _).drew
    clear hK K
    try simp only [Act.put, List.setIfInBounds_toArray, List.set_cons_zero, List.set_cons_succ]
    have hL := by first | exact own8_of' (by first | exact hA | simpa using hA) hHeld ((lw + 6) % 256) (by first | rfl | omega | (simp; omega)) (by omega) | exact own8_of (by first | exact hA | simpa using hA) hHeld ((lw + 6) % 256) (by first | rfl | omega | (simp; omega)) (by omega)
    try replace hW := by first | exact own_keep' hHeld hW | exact own_keep hHeld hW
    try replace hX1 := by first | exact own_keep' hHeld hX1 | exact own_keep hHeld hX1
    try simp only [World.size_alloc] at hL
    try simp only [World.size_alloc] at hW
    refine wpAnyH_ready (rs := [12]) (by kernel_rfl) (by simp) ?_
    refine AllReadyH.cons (o := ⟨some 48, .buildSlice 25 3 #[(0, .tmp 43), (1, .tmp 45), (2, .tmp 47)], _, _, _, none⟩) rfl (fun K hK => ?_) ?_
    · have hA := hHeld.size
      go_simp
      refine hK.out _ _ ?_ (fun hHeld => ?_)
      · first | exact Below.alloc hHeld hHeld.size _ | exact (Below.alloc hHeld hHeld.size _).drew
      clear hK K
      try simp only [Act.put, List.setIfInBounds_toArray, List.set_cons_zero, List.set_cons_succ]
      have hW := by first | exact own3_of' m.status m.events m.messages (by first | exact hA | simpa using hA) hHeld | exact own3_of m.status m.events m.messages (by first | exact hA | simpa using hA) hHeld
      try replace hL := by first | exact own_keep' hHeld hL | exact own_keep hHeld hL
      try simp only [World.size_alloc] at hL
      try simp only [World.size_alloc] at hW
      refine wpAnyH_ready (rs := [13]) (by kernel_rfl) (by simp) ?_
      refine AllReadyH.cons (o := ⟨some 49, .call ⟨.value (.func 51), #[.tmp 48], #[25]⟩, _, _, _, none⟩) rfl (fun K hK => ?_) ?_
      · go_simp
        refine (refPut_any _ _ _ [m.status, m.events, m.messages] _ hW.sl (by omega)).mono ?_
        rintro r w1 ⟨⟨a1, c1, rfl, hx1⟩, hb1⟩
        have s1 : Below u.heap.size u w1 := below_next hHeld hb1 (Nat.le_refl _)
        have hX1 := hx1.base (B' := u.heap.size) hHeld.size
        try replace hL := hL.mono hb1
        refine hK.out _ _ ?_ (fun hHeld => ?_)
        · exact s1
        clear hK K
        try simp only [Act.put, List.setIfInBounds_toArray, List.set_cons_zero, List.set_cons_succ]
        refine wpAnyH_ready (rs := [14]) (by kernel_rfl) (by simp) ?_
        refine AllReadyH.cons (o := ⟨some 50, .call ⟨.builtin .append, #[.tmp 41, .tmp 49], #[22, 22]⟩, _, _, _, none⟩) rfl (fun K hK => ?_) ?_
        · refine step_app (by rfl) _ _ (by rfl) u.heap.size (by rfl) hL (by rfl) hX1.sl (by omega) hHeld.size ?_
          intro a2 c2 w2 ho2 hb2
          have s2 : Below u.heap.size u w2 := hHeld.trans hb2
          refine hK.out _ _ ?_ (fun hHeld => ?_)
          · exact s2
          clear hK K
          try simp only [Act.put, List.setIfInBounds_toArray, List.set_cons_zero, List.set_cons_succ]
          refine wpAnyH_take (i := 15) (oi := ⟨some 5, .assign (.tmp 50), _, _, _, none⟩) (v := ?_) rfl (by kernel_rfl) (by kernel_rfl) (by kernel_rfl) (fun _ _ _ h => h) (Or.inl ⟨by rfl, ?_⟩) hHeld ?_
          rotate_left
          · (intro wq hSw; go_simp; try with_reducible rfl)
          simp only [Act.put, List.setIfInBounds_toArray, List.set_cons_zero, List.set_cons_succ]
          refine wpAnyH_done (by kernel_rfl) ?_ _
          refine NoPanic.normal ?_
          have kd := (s2.cell (p := ⟨w.heap.size, 14, none⟩) z0).trans kw
          go_wp2_with (at_builtin; refine app rfl _ _ rfl u.heap.size rfl ho2 rfl (HWu.out.mono s2) (by omega) s2.size ?_)
          intro a3 c3 w3 ho3 hb3
          go_wp2
          go_ret
          rw [HE.out]
          exact ⟨⟨a3, _, c3, rfl, by omega, ho3.sl⟩, b0.trans ((s2.trans hb3).mono b0.size)⟩
        exact AllReadyH.nil
      exact AllReadyH.nil
    exact AllReadyH.nil
  refine AllReadyH.cons (o := ⟨some 48, .buildSlice 25 3 #[(0, .tmp 43), (1, .tmp 45), (2, .tmp 47)], _, _, _, none⟩) rfl (fun K hK => ?_) ?_
  · have hA := hHeld.size
    go_simp
    refine hK.out _ _ ?_ (fun hHeld => ?_)
    · first | exact Below.alloc hHeld hHeld.size _ | exact (Below.alloc hHeld hHeld.size _).drew
    clear hK K
    try simp only [Act.put, List.setIfInBounds_toArray, List.set_cons_zero, List.set_cons_succ]
    have hW := by first | exact own3_of' m.status m.events m.messages (by first | exact hA | simpa using hA) hHeld | exact own3_of m.status m.events m.messages (by first | exact hA | simpa using hA) hHeld
    try replace hL := by first | exact own_keep' hHeld hL | exact own_keep hHeld hL
    try simp only [World.size_alloc] at hL
    try simp only [World.size_alloc] at hW
    refine wpAnyH_ready (rs := [5, 13]) (by kernel_rfl) (by simp) ?_
    refine AllReadyH.cons (o := ⟨some 41, .buildSlice 22 1 #[(0, .tmp 40)], _, _, _, none⟩) rfl (fun K hK => ?_) ?_
    · have hA := hHeld.size
      go_simp
      refine hK.out _ _ ?_ (fun hHeld => ?_)
      · first | exact Below.alloc hHeld hHeld.size _ | exact (Below.alloc hHeld hHeld.size _).drew
      clear hK K
      try simp only [Act.put, List.setIfInBounds_toArray, List.set_cons_zero, List.set_cons_succ]
      have hL := by first | exact own8_of' (by first | exact hA | simpa using hA) hHeld ((lw + 6) % 256) (by first | rfl | omega | (simp; omega)) (by omega) | exact own8_of (by first | exact hA | simpa using hA) hHeld ((lw + 6) % 256) (by first | rfl | omega | (simp; omega)) (by omega)
      try replace hW := by first | exact own_keep' hHeld hW | exact own_keep hHeld hW
      try replace hX1 := by first | exact own_keep' hHeld hX1 | exact own_keep hHeld hX1
      try simp only [World.size_alloc] at hL
      try simp only [World.size_alloc] at hW
      refine wpAnyH_ready (rs := [13]) (by kernel_rfl) (by simp) ?_
      refine AllReadyH.cons (o := ⟨some 49, .call ⟨.value (.func 51), #[.tmp 48], #[25]⟩, _, _, _, none⟩) rfl (fun K hK => ?_) ?_
      · go_simp
        refine (refPut_any _ _ _ [m.status, m.events, m.messages] _ hW.sl (by omega)).mono ?_
        rintro r w1 ⟨⟨a1, c1, rfl, hx1⟩, hb1⟩
        have s1 : Below u.heap.size u w1 := below_next hHeld hb1 (Nat.le_refl _)
        have hX1 := hx1.base (B' := u.heap.size) hHeld.size
        try replace hL := hL.mono hb1
        refine hK.out _ _ ?_ (fun hHeld => ?_)
        · exact s1
        clear hK K
        try simp only [Act.put, List.setIfInBounds_toArray, List.set_cons_zero, List.set_cons_succ]
        refine wpAnyH_ready (rs := [14]) (by kernel_rfl) (by simp) ?_
        refine AllReadyH.cons (o := ⟨some 50, .call ⟨.builtin .append, #[.tmp 41, .tmp 49], #[22, 22]⟩, _, _, _, none⟩) rfl (fun K hK => ?_) ?_
        · refine step_app (by rfl) _ _ (by rfl) u.heap.size (by rfl) hL (by rfl) hX1.sl (by omega) hHeld.size ?_
          intro a2 c2 w2 ho2 hb2
          have s2 : Below u.heap.size u w2 := hHeld.trans hb2
          refine hK.out _ _ ?_ (fun hHeld => ?_)
          · exact s2
          clear hK K
          try simp only [Act.put, List.setIfInBounds_toArray, List.set_cons_zero, List.set_cons_succ]
          refine wpAnyH_take (i := 15) (oi := ⟨some 5, .assign (.tmp 50), _, _, _, none⟩) (v := ?_) rfl (by kernel_rfl) (by kernel_rfl) (by kernel_rfl) (fun _ _ _ h => h) (Or.inl ⟨by rfl, ?_⟩) hHeld ?_
          rotate_left
          · (intro wq hSw; go_simp; try with_reducible rfl)
          simp only [Act.put, List.setIfInBounds_toArray, List.set_cons_zero, List.set_cons_succ]
          refine wpAnyH_done (by kernel_rfl) ?_ _
          refine NoPanic.normal ?_
          have kd := (s2.cell (p := ⟨w.heap.size, 14, none⟩) z0).trans kw
          go_wp2_with (at_builtin; refine app rfl _ _ rfl u.heap.size rfl ho2 rfl (HWu.out.mono s2) (by omega) s2.size ?_)
          intro a3 c3 w3 ho3 hb3
          go_wp2
          go_ret
          rw [HE.out]
          exact ⟨⟨a3, _, c3, rfl, by omega, ho3.sl⟩, b0.trans ((s2.trans hb3).mono b0.size)⟩
        exact AllReadyH.nil
      exact AllReadyH.nil
    refine AllReadyH.cons (o := ⟨some 49, .call ⟨.value (.func 51), #[.tmp 48], #[25]⟩, _, _, _, none⟩) rfl (fun K hK => ?_) ?_
    · go_simp
      refine (refPut_any _ _ _ [m.status, m.events, m.messages] _ hW.sl (by omega)).mono ?_
      rintro r w1 ⟨⟨a1, c1, rfl, hx1⟩, hb1⟩
      have s1 : Below u.heap.size u w1 := below_next hHeld hb1 (Nat.le_refl _)
      have hX1 := hx1.base (B' := u.heap.size) hHeld.size
      try replace hL := hL.mono hb1
      refine hK.out _ _ ?_ (fun hHeld => ?_)
      · exact s1
      clear hK K
      try simp only [Act.put, List.setIfInBounds_toArray, List.set_cons_zero, List.set_cons_succ]
      refine wpAnyH_ready (rs := [5]) (by kernel_rfl) (by simp) ?_
      refine AllReadyH.cons (o := ⟨some 41, .buildSlice 22 1 #[(0, .tmp 40)], _, _, _, none⟩) rfl (fun K hK => ?_) ?_
      · have hA := hHeld.size
        go_simp
        refine hK.out _ _ ?_ (fun hHeld => ?_)
        · first | exact Below.alloc hHeld hHeld.size _ | exact (Below.alloc hHeld hHeld.size _).drew
        clear hK K
        try simp only [Act.put, List.setIfInBounds_toArray, List.set_cons_zero, List.set_cons_succ]
        have hL := by first | exact own8_of' (by first | exact hA | simpa using hA) hHeld ((lw + 6) % 256) (by first | rfl | omega | (simp; omega)) (by omega) | exact own8_of (by first | exact hA | simpa using hA) hHeld ((lw + 6) % 256) (by first | rfl | omega | (simp; omega)) (by omega)
        try replace hW := by first | exact own_keep' hHeld hW | exact own_keep hHeld hW
        try replace hX1 := by first | exact own_keep' hHeld hX1 | exact own_keep hHeld hX1
        try simp only [World.size_alloc] at hL
        try simp only [World.size_alloc] at hW
        refine wpAnyH_ready (rs := [14]) (by kernel_rfl) (by simp) ?_
        refine AllReadyH.cons (o := ⟨some 50, .call ⟨.builtin .append, #[.tmp 41, .tmp 49], #[22, 22]⟩, _, _, _, none⟩) rfl (fun K hK => ?_) ?_
        · refine step_app (by rfl) _ _ (by rfl) u.heap.size (by rfl) hL (by rfl) hX1.sl (by omega) hHeld.size ?_
          intro a2 c2 w2 ho2 hb2
          have s2 : Below u.heap.size u w2 := hHeld.trans hb2
          refine hK.out _ _ ?_ (fun hHeld => ?_)
          · exact s2
          clear hK K
          try simp only [Act.put, List.setIfInBounds_toArray, List.set_cons_zero, List.set_cons_succ]
          refine wpAnyH_take (i := 15) (oi := ⟨some 5, .assign (.tmp 50), _, _, _, none⟩) (v := ?_) rfl (by kernel_rfl) (by kernel_rfl) (by kernel_rfl) (fun _ _ _ h => h) (Or.inl ⟨by rfl, ?_⟩) hHeld ?_
          rotate_left
          · (intro wq hSw; go_simp; try with_reducible rfl)
          simp only [Act.put, List.setIfInBounds_toArray, List.set_cons_zero, List.set_cons_succ]
          refine wpAnyH_done (by kernel_rfl) ?_ _
          refine NoPanic.normal ?_
          have kd := (s2.cell (p := ⟨w.heap.size, 14, none⟩) z0).trans kw
          go_wp2_with (at_builtin; refine app rfl _ _ rfl u.heap.size rfl ho2 rfl (HWu.out.mono s2) (by omega) s2.size ?_)
          intro a3 c3 w3 ho3 hb3
          go_wp2
          go_ret
          rw [HE.out]
          exact ⟨⟨a3, _, c3, rfl, by omega, ho3.sl⟩, b0.trans ((s2.trans hb3).mono b0.size)⟩
        exact AllReadyH.nil
      exact AllReadyH.nil
    exact AllReadyH.nil
  exact AllReadyH.nil
set_option maxRecDepth 20000 in
set_option maxHeartbeats 4000000 in
theorem rb_17 (dir : Int) (hd : (dir == 0) = false) (v : Value) (m : MsgM) (n8 : m.code ≠ 8) (n7 : m.code ≠ 7) (n11 : m.code ≠ 11) (n12 : m.code ≠ 12) (w : World) (hm : MsgAt w v m) (hs : m.Small) :
    Calls Try.prog 35 #[.int .i64 dir, v] w fun e w' => (∃ a l c, e = .returned (.slice a l c) ∧ l ≤ 100000 ∧ Bs w' a l c ([UInt8.ofNat m.data.length] ++ m.data)) ∧ Below w.heap.size w w' := by
  obtain ⟨cs, rfl, hsz, hone, hc0⟩ := hm.agg
  have HM := MB.made w cs hm 30
  have b0 := (Below.refl w.heap.size w).alloc (Nat.le_refl _) (.cells cs 30 (0, 0))
  have z0 := HM.lt
  have k0 := HM.c_code
  obtain ⟨aw, lw, cw, kw, hw⟩ := HM.c_data
  have h1 : lw ≤ 50000 := by rw [← hw.hlen]; exact hs.data
  obtain ⟨kc, hkc⟩ : ∃ k : Nat, k = m.code.toNat := ⟨_, rfl⟩
  rw [show byteV m.code = .int .u8 (kc : Int) by rw [hkc]] at k0
  have q8 : ((kc : Int) == 8) = false := by
    have : kc ≠ 8 := fun h => n8 (by apply UInt8.toNat_inj.1; rw [← hkc, h]; rfl)
    simp; omega
  have q7 : ((kc : Int) == 7) = false := by
    have : kc ≠ 7 := fun h => n7 (by apply UInt8.toNat_inj.1; rw [← hkc, h]; rfl)
    simp; omega
  have q11 : ((kc : Int) == 11) = false := by
    have : kc ≠ 11 := fun h => n11 (by apply UInt8.toNat_inj.1; rw [← hkc, h]; rfl)
    simp; omega
  have q12 : ((kc : Int) == 12) = false := by
    have : kc ≠ 12 := fun h => n12 (by apply UInt8.toNat_inj.1; rw [← hkc, h]; rfl)
    simp; omega
  clear hkc n8 n7 n11 n12
  have hw8 : IntKind.u8.wrap (lw : Int) = ((lw % 256 : Nat) : Int) := by rw [IntKind.wrap_u8]; omega
  have HE : Hid (UInt8.ofNat m.data.length = UInt8.ofNat (lw % 256)) := hide (by rw [hw.hlen]; apply UInt8.toNat_inj.1; simp)
  clear HM hm hs
  go_enter Try.func35, Try.ntmps35
  go_upto_region 1 with (refine wpList_boxC rfl 30 _ rfl cs rfl ?_)
  generalize w.alloc (.cells cs 30 (0, 0)) = u at *
  have HWu := hide hw
  clear hw
  go_wp2_with (at_builtin; refine app rfl _ _ rfl u.heap.size rfl (one_own _ _ (lw % 256) (by first | rfl | omega | (simp; omega)) (by omega) _) rfl (HWu.out.alloc _) (by omega) (by simp) ?_)
  intro a3 c3 w3 ho3 hb3
  have b3 : Below u.heap.size u w3 := ((Below.refl _ _).alloc (Nat.le_refl _) _).trans hb3
  go_wp2
  go_ret
  rw [HE.out]
  exact ⟨⟨a3, _, c3, rfl, by omega, ho3.sl⟩, b0.trans (b3.mono b0.size)⟩

end Go.Proofs.Ytemomgcapjpaiaa
