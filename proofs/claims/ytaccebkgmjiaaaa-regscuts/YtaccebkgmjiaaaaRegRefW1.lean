/-
  The document's own answers for regs: a message's bytes.
-/
import Derived.Test.YtaccebkgmjiaaaaRegPut
import Derived.Test.YtaccebkgmjiaaaaRefPut
import Derived.Deep.CutBlock
import Derived.Deep.DeepCutAuto
namespace Go.Proofs.Ytaccebkgmjiaaaa
open Go.RowKit
open Word Bits Cursor

set_option maxRecDepth 20000 in
set_option maxHeartbeats 4000000 in
theorem rb_1_3 (v : Value) (m : MsgM) (hc : m.code = 3) (w : World) (hm : MsgAt w v m) (hl : m.words.length ≤ 40000) :
    Calls Try.prog 33 #[.int .i64 1, v] w fun e w' => (∃ a l c, e = .returned (.slice a l c) ∧ l ≤ 100000 ∧ Bs w' a l c (Regs.counted m.words)) ∧ Below w.heap.size w w' := by
  obtain ⟨cs, rfl, hsz, hone, hc0⟩ := hm.agg
  have HM := MB.made w cs hm 30
  have b0 := (Below.refl w.heap.size w).alloc (Nat.le_refl _) (.cells cs 30 (0, 0))
  obtain ⟨aw, lw, cw, kw, hw⟩ := HM.c_words
  have HLW := hide hw.hlen
  have hlw : lw ≤ 40000 := by rw [← hw.hlen]; exact hl
  have HMB := hide HM
  have HW := hide hw
  have z0 := HM.lt
  have HCV : Hid (byteV m.code = .int .u8 (3 : Int)) := hide (by rw [hc]; rfl)
  clear hc
  clear HM hm hl hw
  go_enter Try.func33, Try.ntmps33
  go_upto_region 1 with (refine wpList_boxC rfl 30 _ rfl cs rfl ?_)
  generalize w.alloc (.cells cs 30 (0, 0)) = u at *
  go_wp2_with fail
  refine (refPut_any _ _ _ _ _ HW.out (by omega)).mono ?_
  rintro r w2 ⟨⟨a2, c2, rfl, hx2⟩, hb2⟩
  have HM2 := hide (HMB.out.mono hb2)
  have HX2 := hide hx2.sl
  have b2 := b0.trans (hb2.mono b0.size)
  have k0 := HM2.out.c_code
  rw [HCV.out] at k0
  obtain ⟨aw', lw', cw', kw', hw'⟩ := HM2.out.c_words
  obtain rfl : lw' = lw := by rw [← hw'.hlen, HLW.out]
  have z2 := HM2.out.lt
  clear hw' HMB HW kw hx2 hb2 b0 z0 HCV HM2
  go_wp2_with fail
  refine (refPut_any none 0 0 [] _ (Sl.nil _ _ (by unfold maxLen; omega)) (by omega)).mono ?_
  rintro r w3 ⟨⟨a3, c3, rfl, hx3⟩, b3⟩
  have HX3 := hide hx3
  have HXW := hide (HX2.out.mono b3)
  clear hx3
  go_wp2_with (at_builtin; refine app rfl _ _ rfl w2.heap.size rfl (HX3.out.mono ((Below.refl _ _).alloc (Nat.le_refl _) _)) rfl (one_own _ _ ((2 * lw') % 256) (by first | rfl | omega | (simp; omega)) (by omega) _).sl (by omega) (Nat.le_trans b3.size (by simp)) ?_)
  intro a4 c4 w4 ho4 hb4
  have b4 : Below w2.heap.size w2 w4 := (b3.alloc b3.size _).trans hb4
  have HX4 := hide ho4
  replace HXW := hide (HX2.out.mono b4)
  clear ho4 hb4 HX3 HX2
  go_wp2_with (at_builtin; refine app rfl _ _ rfl w2.heap.size rfl HX4.out rfl HXW.out (by omega) b4.size ?_)
  intro a5 c5 w5 ho5 hb5
  have b5 : Below w2.heap.size w2 w5 := b4.trans hb5
  have HO5 := hide ho5.sl
  clear ho5
  go_wp2
  go_ret
  rw [show Regs.counted m.words = ([] ++ [UInt8.ofNat ((2 * lw') % 256)]) ++ putW m.words by (unfold Regs.counted; rw [HLW.out, List.append_assoc]; first | (congr 2; apply UInt8.toNat_inj.1; simp) | (simp; apply UInt8.toNat_inj.1; simp))]
  exact ⟨⟨a5, _, c5, rfl, by omega, HO5.out⟩, b2.trans (b5.mono b2.size)⟩

set_option maxRecDepth 20000 in
set_option maxHeartbeats 4000000 in
theorem rb_1_23 (v : Value) (m : MsgM) (hc : m.code = 23) (w : World) (hm : MsgAt w v m) (hl : m.words.length ≤ 40000) :
    Calls Try.prog 33 #[.int .i64 1, v] w fun e w' => (∃ a l c, e = .returned (.slice a l c) ∧ l ≤ 100000 ∧ Bs w' a l c (Regs.counted m.words)) ∧ Below w.heap.size w w' := by
  obtain ⟨cs, rfl, hsz, hone, hc0⟩ := hm.agg
  have HM := MB.made w cs hm 30
  have b0 := (Below.refl w.heap.size w).alloc (Nat.le_refl _) (.cells cs 30 (0, 0))
  obtain ⟨aw, lw, cw, kw, hw⟩ := HM.c_words
  have HLW := hide hw.hlen
  have hlw : lw ≤ 40000 := by rw [← hw.hlen]; exact hl
  have HMB := hide HM
  have HW := hide hw
  have z0 := HM.lt
  have HCV : Hid (byteV m.code = .int .u8 (23 : Int)) := hide (by rw [hc]; rfl)
  clear hc
  clear HM hm hl hw
  go_enter Try.func33, Try.ntmps33
  go_upto_region 1 with (refine wpList_boxC rfl 30 _ rfl cs rfl ?_)
  generalize w.alloc (.cells cs 30 (0, 0)) = u at *
  go_wp2_with fail
  refine (refPut_any _ _ _ _ _ HW.out (by omega)).mono ?_
  rintro r w2 ⟨⟨a2, c2, rfl, hx2⟩, hb2⟩
  have HM2 := hide (HMB.out.mono hb2)
  have HX2 := hide hx2.sl
  have b2 := b0.trans (hb2.mono b0.size)
  have k0 := HM2.out.c_code
  rw [HCV.out] at k0
  obtain ⟨aw', lw', cw', kw', hw'⟩ := HM2.out.c_words
  obtain rfl : lw' = lw := by rw [← hw'.hlen, HLW.out]
  have z2 := HM2.out.lt
  clear hw' HMB HW kw hx2 hb2 b0 z0 HCV HM2
  go_wp2_with fail
  refine (refPut_any none 0 0 [] _ (Sl.nil _ _ (by unfold maxLen; omega)) (by omega)).mono ?_
  rintro r w3 ⟨⟨a3, c3, rfl, hx3⟩, b3⟩
  have HX3 := hide hx3
  have HXW := hide (HX2.out.mono b3)
  clear hx3
  go_wp2_with (at_builtin; refine app rfl _ _ rfl w2.heap.size rfl (HX3.out.mono ((Below.refl _ _).alloc (Nat.le_refl _) _)) rfl (one_own _ _ ((2 * lw') % 256) (by first | rfl | omega | (simp; omega)) (by omega) _).sl (by omega) (Nat.le_trans b3.size (by simp)) ?_)
  intro a4 c4 w4 ho4 hb4
  have b4 : Below w2.heap.size w2 w4 := (b3.alloc b3.size _).trans hb4
  have HX4 := hide ho4
  replace HXW := hide (HX2.out.mono b4)
  clear ho4 hb4 HX3 HX2
  go_wp2_with (at_builtin; refine app rfl _ _ rfl w2.heap.size rfl HX4.out rfl HXW.out (by omega) b4.size ?_)
  intro a5 c5 w5 ho5 hb5
  have b5 : Below w2.heap.size w2 w5 := b4.trans hb5
  have HO5 := hide ho5.sl
  clear ho5
  go_wp2
  go_ret
  rw [show Regs.counted m.words = ([] ++ [UInt8.ofNat ((2 * lw') % 256)]) ++ putW m.words by (unfold Regs.counted; rw [HLW.out, List.append_assoc]; first | (congr 2; apply UInt8.toNat_inj.1; simp) | (simp; apply UInt8.toNat_inj.1; simp))]
  exact ⟨⟨a5, _, c5, rfl, by omega, HO5.out⟩, b2.trans (b5.mono b2.size)⟩

set_option maxRecDepth 20000 in
set_option maxHeartbeats 4000000 in
theorem rb_n_4 (dir : Int) (hd : (dir == 1) = false) (v : Value) (m : MsgM) (hc : m.code = 4) (w : World) (hm : MsgAt w v m) (hl : m.words.length ≤ 40000) :
    Calls Try.prog 33 #[.int .i64 dir, v] w fun e w' => (∃ a l c, e = .returned (.slice a l c) ∧ l ≤ 100000 ∧ Bs w' a l c (putW [m.addr, m.count])) ∧ Below w.heap.size w w' := by
  obtain ⟨cs, rfl, hsz, hone, hc0⟩ := hm.agg
  have HM := MB.made w cs hm 30
  have b0 := (Below.refl w.heap.size w).alloc (Nat.le_refl _) (.cells cs 30 (0, 0))
  obtain ⟨aw, lw, cw, kw, hw⟩ := HM.c_words
  have HLW := hide hw.hlen
  have hlw : lw ≤ 40000 := by rw [← hw.hlen]; exact hl
  have HMB := hide HM
  have HW := hide hw
  have z0 := HM.lt
  have HCV : Hid (byteV m.code = .int .u8 (4 : Int)) := hide (by rw [hc]; rfl)
  clear hc
  clear HM hm hl hw
  go_enter Try.func33, Try.ntmps33
  go_upto_region 1 with (refine wpList_boxC rfl 30 _ rfl cs rfl ?_)
  generalize w.alloc (.cells cs 30 (0, 0)) = u at *
  go_wp2_with fail
  refine (refPut_any _ _ _ _ _ HW.out (by omega)).mono ?_
  rintro r w2 ⟨⟨a2, c2, rfl, hx2⟩, hb2⟩
  have HM2 := hide (HMB.out.mono hb2)
  have HX2 := hide hx2.sl
  have b2 := b0.trans (hb2.mono b0.size)
  have k0 := HM2.out.c_code
  rw [HCV.out] at k0
  obtain ⟨aw', lw', cw', kw', hw'⟩ := HM2.out.c_words
  obtain rfl : lw' = lw := by rw [← hw'.hlen, HLW.out]
  have z2 := HM2.out.lt
  have k_addr := HM2.out.c_addr
  have k_count := HM2.out.c_count
  clear hw' HMB HW kw hx2 hb2 b0 z0 HCV HM2
  go_wp2_with fail
  refine (refPut_any _ _ _ _ _ (litW w2 [m.addr, m.count] 2 rfl (by omega) [wordV m.addr, wordV m.count] 24 rfl).sl (by omega)).mono ?_
  rintro r w3 ⟨⟨a3, c3, rfl, hx3⟩, hb3⟩
  have hbu := (Below.refl w2.heap.size w2).alloc (Nat.le_refl _) (.cells #[wordV m.addr, wordV m.count] 24 (0, 0))
  have b3 : Below w2.heap.size w2 w3 := hbu.trans (hb3.mono hbu.size)
  go_wp2
  go_ret
  exact ⟨⟨a3, _, c3, rfl, by omega, hx3.sl⟩, b2.trans (b3.mono b2.size)⟩

set_option maxRecDepth 20000 in
set_option maxHeartbeats 4000000 in
theorem rb_n_16 (dir : Int) (hd : (dir == 1) = false) (v : Value) (m : MsgM) (hc : m.code = 16) (w : World) (hm : MsgAt w v m) (hl : m.words.length ≤ 40000) :
    Calls Try.prog 33 #[.int .i64 dir, v] w fun e w' => (∃ a l c, e = .returned (.slice a l c) ∧ l ≤ 100000 ∧ Bs w' a l c (putW [m.addr, m.count] ++ Regs.counted m.words)) ∧ Below w.heap.size w w' := by
  obtain ⟨cs, rfl, hsz, hone, hc0⟩ := hm.agg
  have HM := MB.made w cs hm 30
  have b0 := (Below.refl w.heap.size w).alloc (Nat.le_refl _) (.cells cs 30 (0, 0))
  obtain ⟨aw, lw, cw, kw, hw⟩ := HM.c_words
  have HLW := hide hw.hlen
  have hlw : lw ≤ 40000 := by rw [← hw.hlen]; exact hl
  have HMB := hide HM
  have HW := hide hw
  have z0 := HM.lt
  have HCV : Hid (byteV m.code = .int .u8 (16 : Int)) := hide (by rw [hc]; rfl)
  clear hc
  clear HM hm hl hw
  go_enter Try.func33, Try.ntmps33
  go_upto_region 1 with (refine wpList_boxC rfl 30 _ rfl cs rfl ?_)
  generalize w.alloc (.cells cs 30 (0, 0)) = u at *
  go_wp2_with fail
  refine (refPut_any _ _ _ _ _ HW.out (by omega)).mono ?_
  rintro r w2 ⟨⟨a2, c2, rfl, hx2⟩, hb2⟩
  have HM2 := hide (HMB.out.mono hb2)
  have HX2 := hide hx2.sl
  have b2 := b0.trans (hb2.mono b0.size)
  have k0 := HM2.out.c_code
  rw [HCV.out] at k0
  obtain ⟨aw', lw', cw', kw', hw'⟩ := HM2.out.c_words
  obtain rfl : lw' = lw := by rw [← hw'.hlen, HLW.out]
  have z2 := HM2.out.lt
  have k_addr := HM2.out.c_addr
  have k_count := HM2.out.c_count
  clear hw' HMB HW kw hx2 hb2 b0 z0 HCV HM2
  have hlit := litW w2 [m.addr, m.count] 2 rfl (by omega) [wordV m.addr, wordV m.count] 24 rfl
  have HLIT := hide hlit
  clear hlit
  go_wp2_with fail
  refine (refPut_any _ _ _ _ _ HLIT.out.sl (by omega)).mono ?_
  rintro r w3 ⟨⟨a3, c3, rfl, hx3⟩, hb3⟩
  have hbu := (Below.refl w2.heap.size w2).alloc (Nat.le_refl _) (.cells #[wordV m.addr, wordV m.count] 24 (0, 0))
  have b3 : Below w2.heap.size w2 w3 := hbu.trans (hb3.mono hbu.size)
  have HX3 := hide (hx3.base (B' := w2.heap.size) hbu.size)
  have HXW := hide (HX2.out.mono b3)
  clear hx3 hb3 hbu HLIT
  go_wp2_with (at_builtin; refine app rfl _ _ rfl w2.heap.size rfl (HX3.out.mono ((Below.refl _ _).alloc (Nat.le_refl _) _)) rfl (one_own _ _ ((2 * lw') % 256) (by first | rfl | omega | (simp; omega)) (by omega) _).sl (by omega) (Nat.le_trans b3.size (by simp)) ?_)
  intro a4 c4 w4 ho4 hb4
  have b4 : Below w2.heap.size w2 w4 := (b3.alloc b3.size _).trans hb4
  have HX4 := hide ho4
  replace HXW := hide (HX2.out.mono b4)
  clear ho4 hb4 HX3 HX2
  go_wp2_with (at_builtin; refine app rfl _ _ rfl w2.heap.size rfl HX4.out rfl HXW.out (by omega) b4.size ?_)
  intro a5 c5 w5 ho5 hb5
  have b5 : Below w2.heap.size w2 w5 := b4.trans hb5
  have HO5 := hide ho5.sl
  clear ho5
  go_wp2
  go_ret
  rw [show putW [m.addr, m.count] ++ Regs.counted m.words = (putW [m.addr, m.count] ++ [UInt8.ofNat ((2 * lw') % 256)]) ++ putW m.words by (unfold Regs.counted; rw [HLW.out, List.append_assoc]; first | (congr 2; apply UInt8.toNat_inj.1; simp) | (simp; apply UInt8.toNat_inj.1; simp))]
  exact ⟨⟨a5, _, c5, rfl, by omega, HO5.out⟩, b2.trans (b5.mono b2.size)⟩

set_option maxRecDepth 20000 in
set_option maxHeartbeats 4000000 in
theorem rb_n_6 (dir : Int) (hd : (dir == 1) = false) (v : Value) (m : MsgM) (hc : m.code = 6) (w : World) (hm : MsgAt w v m) (hl : m.words.length ≤ 40000) :
    Calls Try.prog 33 #[.int .i64 dir, v] w fun e w' => (∃ a l c, e = .returned (.slice a l c) ∧ l ≤ 100000 ∧ Bs w' a l c (putW [m.addr, m.value])) ∧ Below w.heap.size w w' := by
  obtain ⟨cs, rfl, hsz, hone, hc0⟩ := hm.agg
  have HM := MB.made w cs hm 30
  have b0 := (Below.refl w.heap.size w).alloc (Nat.le_refl _) (.cells cs 30 (0, 0))
  obtain ⟨aw, lw, cw, kw, hw⟩ := HM.c_words
  have HLW := hide hw.hlen
  have hlw : lw ≤ 40000 := by rw [← hw.hlen]; exact hl
  have HMB := hide HM
  have HW := hide hw
  have z0 := HM.lt
  have HCV : Hid (byteV m.code = .int .u8 (6 : Int)) := hide (by rw [hc]; rfl)
  clear hc
  clear HM hm hl hw
  go_enter Try.func33, Try.ntmps33
  go_upto_region 1 with (refine wpList_boxC rfl 30 _ rfl cs rfl ?_)
  generalize w.alloc (.cells cs 30 (0, 0)) = u at *
  go_wp2_with fail
  refine (refPut_any _ _ _ _ _ HW.out (by omega)).mono ?_
  rintro r w2 ⟨⟨a2, c2, rfl, hx2⟩, hb2⟩
  have HM2 := hide (HMB.out.mono hb2)
  have HX2 := hide hx2.sl
  have b2 := b0.trans (hb2.mono b0.size)
  have k0 := HM2.out.c_code
  rw [HCV.out] at k0
  obtain ⟨aw', lw', cw', kw', hw'⟩ := HM2.out.c_words
  obtain rfl : lw' = lw := by rw [← hw'.hlen, HLW.out]
  have z2 := HM2.out.lt
  have k_addr := HM2.out.c_addr
  have k_value := HM2.out.c_value
  clear hw' HMB HW kw hx2 hb2 b0 z0 HCV HM2
  go_wp2_with fail
  refine (refPut_any _ _ _ _ _ (litW w2 [m.addr, m.value] 2 rfl (by omega) [wordV m.addr, wordV m.value] 24 rfl).sl (by omega)).mono ?_
  rintro r w3 ⟨⟨a3, c3, rfl, hx3⟩, hb3⟩
  have hbu := (Below.refl w2.heap.size w2).alloc (Nat.le_refl _) (.cells #[wordV m.addr, wordV m.value] 24 (0, 0))
  have b3 : Below w2.heap.size w2 w3 := hbu.trans (hb3.mono hbu.size)
  go_wp2
  go_ret
  exact ⟨⟨a3, _, c3, rfl, by omega, hx3.sl⟩, b2.trans (b3.mono b2.size)⟩

set_option maxRecDepth 20000 in
set_option maxHeartbeats 4000000 in
theorem rb_n_22 (dir : Int) (hd : (dir == 1) = false) (v : Value) (m : MsgM) (hc : m.code = 22) (w : World) (hm : MsgAt w v m) (hl : m.words.length ≤ 40000) :
    Calls Try.prog 33 #[.int .i64 dir, v] w fun e w' => (∃ a l c, e = .returned (.slice a l c) ∧ l ≤ 100000 ∧ Bs w' a l c (putW [m.addr, m.and_, m.or_])) ∧ Below w.heap.size w w' := by
  obtain ⟨cs, rfl, hsz, hone, hc0⟩ := hm.agg
  have HM := MB.made w cs hm 30
  have b0 := (Below.refl w.heap.size w).alloc (Nat.le_refl _) (.cells cs 30 (0, 0))
  obtain ⟨aw, lw, cw, kw, hw⟩ := HM.c_words
  have HLW := hide hw.hlen
  have hlw : lw ≤ 40000 := by rw [← hw.hlen]; exact hl
  have HMB := hide HM
  have HW := hide hw
  have z0 := HM.lt
  have HCV : Hid (byteV m.code = .int .u8 (22 : Int)) := hide (by rw [hc]; rfl)
  clear hc
  clear HM hm hl hw
  go_enter Try.func33, Try.ntmps33
  go_upto_region 1 with (refine wpList_boxC rfl 30 _ rfl cs rfl ?_)
  generalize w.alloc (.cells cs 30 (0, 0)) = u at *
  go_wp2_with fail
  refine (refPut_any _ _ _ _ _ HW.out (by omega)).mono ?_
  rintro r w2 ⟨⟨a2, c2, rfl, hx2⟩, hb2⟩
  have HM2 := hide (HMB.out.mono hb2)
  have HX2 := hide hx2.sl
  have b2 := b0.trans (hb2.mono b0.size)
  have k0 := HM2.out.c_code
  rw [HCV.out] at k0
  obtain ⟨aw', lw', cw', kw', hw'⟩ := HM2.out.c_words
  obtain rfl : lw' = lw := by rw [← hw'.hlen, HLW.out]
  have z2 := HM2.out.lt
  have k_addr := HM2.out.c_addr
  have k_and := HM2.out.c_and
  have k_or := HM2.out.c_or
  clear hw' HMB HW kw hx2 hb2 b0 z0 HCV HM2
  go_wp2_with fail
  refine (refPut_any _ _ _ _ _ (litW w2 [m.addr, m.and_, m.or_] 3 rfl (by omega) [wordV m.addr, wordV m.and_, wordV m.or_] 24 rfl).sl (by omega)).mono ?_
  rintro r w3 ⟨⟨a3, c3, rfl, hx3⟩, hb3⟩
  have hbu := (Below.refl w2.heap.size w2).alloc (Nat.le_refl _) (.cells #[wordV m.addr, wordV m.and_, wordV m.or_] 24 (0, 0))
  have b3 : Below w2.heap.size w2 w3 := hbu.trans (hb3.mono hbu.size)
  go_wp2
  go_ret
  exact ⟨⟨a3, _, c3, rfl, by omega, hx3.sl⟩, b2.trans (b3.mono b2.size)⟩

set_option maxRecDepth 20000 in
set_option maxHeartbeats 4000000 in
theorem rb_1_24 (v : Value) (m : MsgM) (hc : m.code = 24) (w : World) (hm : MsgAt w v m) (hl : m.words.length ≤ 40000) :
    Calls Try.prog 33 #[.int .i64 1, v] w fun e w' => (∃ a l c, e = .returned (.slice a l c) ∧ l ≤ 100000 ∧ Bs w' a l c (putW [UInt16.ofNat (2 * m.words.length + 2), UInt16.ofNat m.words.length] ++ putW m.words)) ∧ Below w.heap.size w w' := by
  obtain ⟨cs, rfl, hsz, hone, hc0⟩ := hm.agg
  have HM := MB.made w cs hm 30
  have b0 := (Below.refl w.heap.size w).alloc (Nat.le_refl _) (.cells cs 30 (0, 0))
  obtain ⟨aw, lw, cw, kw, hw⟩ := HM.c_words
  have HLW := hide hw.hlen
  have hlw : lw ≤ 40000 := by rw [← hw.hlen]; exact hl
  have HMB := hide HM
  have HW := hide hw
  have z0 := HM.lt
  have HCV : Hid (byteV m.code = .int .u8 (24 : Int)) := hide (by rw [hc]; rfl)
  clear hc
  clear HM hm hl hw
  go_enter Try.func33, Try.ntmps33
  go_upto_region 1 with (refine wpList_boxC rfl 30 _ rfl cs rfl ?_)
  generalize w.alloc (.cells cs 30 (0, 0)) = u at *
  go_wp2_with fail
  refine (refPut_any _ _ _ _ _ HW.out (by omega)).mono ?_
  rintro r w2 ⟨⟨a2, c2, rfl, hx2⟩, hb2⟩
  have HM2 := hide (HMB.out.mono hb2)
  have HX2 := hide hx2.sl
  have b2 := b0.trans (hb2.mono b0.size)
  have k0 := HM2.out.c_code
  rw [HCV.out] at k0
  obtain ⟨aw', lw', cw', kw', hw'⟩ := HM2.out.c_words
  obtain rfl : lw' = lw := by rw [← hw'.hlen, HLW.out]
  have z2 := HM2.out.lt
  clear hw' HMB HW kw hx2 hb2 b0 z0 HCV HM2
  have hwk : IntKind.u16.wrap (lw' : Int) = (lw' : Int) := by rw [IntKind.wrap_u16]; omega
  have hw1 : IntKind.i64.wrap (2 * (lw' : Int)) = 2 * (lw' : Int) := by rw [IntKind.wrap_i64]; omega
  have hw3 : IntKind.i64.wrap (2 * (lw' : Int) + 2) = 2 * (lw' : Int) + 2 := by rw [IntKind.wrap_i64]; omega
  have hw4 : IntKind.u16.wrap (2 * (lw' : Int) + 2) = (2 * (lw' : Int) + 2) % 65536 := by rw [IntKind.wrap_u16]
  have hlit := litW w2 [UInt16.ofNat (2 * lw' + 2), UInt16.ofNat lw'] 2 rfl (by omega) [.int .u16 ((2 * (lw' : Int) + 2) % 65536), .int .u16 (lw' : Int)] 24 (by simp [wordV]; omega)
  have HLIT := hide hlit
  clear hlit
  generalize hHD : ([UInt16.ofNat (2 * lw' + 2), UInt16.ofNat lw'] : List UInt16) = HD at HLIT
  have HHD := hide hHD
  clear hHD
  go_wp2_with fail
  refine (refPut_any _ _ _ _ _ HLIT.out.sl (by omega)).mono ?_
  rintro r w3 ⟨⟨a3, c3, rfl, hx3⟩, hb3⟩
  have hbu := (Below.refl w2.heap.size w2).alloc (Nat.le_refl _) (.cells #[.int .u16 ((2 * (lw' : Int) + 2) % 65536), .int .u16 (lw' : Int)] 24 (0, 0))
  have b3 : Below w2.heap.size w2 w3 := hbu.trans (hb3.mono hbu.size)
  have HX3 := hide (hx3.base (B' := w2.heap.size) hbu.size)
  have HXW := hide (HX2.out.mono b3)
  clear hx3 hb3 hbu HLIT
  go_wp2_with (at_builtin; refine app rfl _ _ rfl w2.heap.size rfl HX3.out rfl HXW.out (by omega) b3.size ?_)
  intro a5 c5 w5 ho5 hb5
  have b5 : Below w2.heap.size w2 w5 := b3.trans hb5
  have HO5 := hide ho5.sl
  clear ho5
  go_wp2
  go_ret
  rw [show putW [UInt16.ofNat (2 * m.words.length + 2), UInt16.ofNat m.words.length] ++ putW m.words = putW HD ++ putW m.words by rw [HLW.out, HHD.out]]
  exact ⟨⟨a5, _, c5, rfl, by omega, HO5.out⟩, b2.trans (b5.mono b2.size)⟩

set_option maxRecDepth 20000 in
set_option maxHeartbeats 4000000 in
theorem rb_n_24 (dir : Int) (hd : (dir == 1) = false) (hd0 : (dir == 0) = false) (v : Value) (m : MsgM) (hc : m.code = 24) (w : World) (hm : MsgAt w v m) (hl : m.words.length ≤ 40000) :
    Calls Try.prog 33 #[.int .i64 dir, v] w fun e w' => (∃ a l c, e = .returned (.slice a l c) ∧ l ≤ 100000 ∧ Bs w' a l c (putW [UInt16.ofNat (2 * m.words.length + 2), UInt16.ofNat m.words.length] ++ putW m.words)) ∧ Below w.heap.size w w' := by
  obtain ⟨cs, rfl, hsz, hone, hc0⟩ := hm.agg
  have HM := MB.made w cs hm 30
  have b0 := (Below.refl w.heap.size w).alloc (Nat.le_refl _) (.cells cs 30 (0, 0))
  obtain ⟨aw, lw, cw, kw, hw⟩ := HM.c_words
  have HLW := hide hw.hlen
  have hlw : lw ≤ 40000 := by rw [← hw.hlen]; exact hl
  have HMB := hide HM
  have HW := hide hw
  have z0 := HM.lt
  have HCV : Hid (byteV m.code = .int .u8 (24 : Int)) := hide (by rw [hc]; rfl)
  clear hc
  clear HM hm hl hw
  go_enter Try.func33, Try.ntmps33
  go_upto_region 1 with (refine wpList_boxC rfl 30 _ rfl cs rfl ?_)
  generalize w.alloc (.cells cs 30 (0, 0)) = u at *
  go_wp2_with fail
  refine (refPut_any _ _ _ _ _ HW.out (by omega)).mono ?_
  rintro r w2 ⟨⟨a2, c2, rfl, hx2⟩, hb2⟩
  have HM2 := hide (HMB.out.mono hb2)
  have HX2 := hide hx2.sl
  have b2 := b0.trans (hb2.mono b0.size)
  have k0 := HM2.out.c_code
  rw [HCV.out] at k0
  obtain ⟨aw', lw', cw', kw', hw'⟩ := HM2.out.c_words
  obtain rfl : lw' = lw := by rw [← hw'.hlen, HLW.out]
  have z2 := HM2.out.lt
  clear hw' HMB HW kw hx2 hb2 b0 z0 HCV HM2
  have hwk : IntKind.u16.wrap (lw' : Int) = (lw' : Int) := by rw [IntKind.wrap_u16]; omega
  have hw1 : IntKind.i64.wrap (2 * (lw' : Int)) = 2 * (lw' : Int) := by rw [IntKind.wrap_i64]; omega
  have hw3 : IntKind.i64.wrap (2 * (lw' : Int) + 2) = 2 * (lw' : Int) + 2 := by rw [IntKind.wrap_i64]; omega
  have hw4 : IntKind.u16.wrap (2 * (lw' : Int) + 2) = (2 * (lw' : Int) + 2) % 65536 := by rw [IntKind.wrap_u16]
  have hlit := litW w2 [UInt16.ofNat (2 * lw' + 2), UInt16.ofNat lw'] 2 rfl (by omega) [.int .u16 ((2 * (lw' : Int) + 2) % 65536), .int .u16 (lw' : Int)] 24 (by simp [wordV]; omega)
  have HLIT := hide hlit
  clear hlit
  generalize hHD : ([UInt16.ofNat (2 * lw' + 2), UInt16.ofNat lw'] : List UInt16) = HD at HLIT
  have HHD := hide hHD
  clear hHD
  go_wp2_with fail
  refine (refPut_any _ _ _ _ _ HLIT.out.sl (by omega)).mono ?_
  rintro r w3 ⟨⟨a3, c3, rfl, hx3⟩, hb3⟩
  have hbu := (Below.refl w2.heap.size w2).alloc (Nat.le_refl _) (.cells #[.int .u16 ((2 * (lw' : Int) + 2) % 65536), .int .u16 (lw' : Int)] 24 (0, 0))
  have b3 : Below w2.heap.size w2 w3 := hbu.trans (hb3.mono hbu.size)
  have HX3 := hide (hx3.base (B' := w2.heap.size) hbu.size)
  have HXW := hide (HX2.out.mono b3)
  clear hx3 hb3 hbu HLIT
  go_wp2_with (at_builtin; refine app rfl _ _ rfl w2.heap.size rfl HX3.out rfl HXW.out (by omega) b3.size ?_)
  intro a5 c5 w5 ho5 hb5
  have b5 : Below w2.heap.size w2 w5 := b3.trans hb5
  have HO5 := hide ho5.sl
  clear ho5
  go_wp2
  go_ret
  rw [show putW [UInt16.ofNat (2 * m.words.length + 2), UInt16.ofNat m.words.length] ++ putW m.words = putW HD ++ putW m.words by rw [HLW.out, HHD.out]]
  exact ⟨⟨a5, _, c5, rfl, by omega, HO5.out⟩, b2.trans (b5.mono b2.size)⟩

set_option maxRecDepth 20000 in
set_option maxHeartbeats 4000000 in
theorem rb_n_else (dir : Int) (hd : (dir == 1) = false) (v : Value) (m : MsgM) (n3 : m.code ≠ 3) (n4 : m.code ≠ 4) (n6 : m.code ≠ 6) (n16 : m.code ≠ 16) (n22 : m.code ≠ 22) (n23 : m.code ≠ 23) (n24 : m.code ≠ 24) (w : World) (hm : MsgAt w v m) (hl : m.words.length ≤ 40000) :
    Calls Try.prog 33 #[.int .i64 dir, v] w fun e w' => (∃ a l c, e = .returned (.slice a l c) ∧ l ≤ 100000 ∧ Bs w' a l c (Regs.counted m.words)) ∧ Below w.heap.size w w' := by
  obtain ⟨cs, rfl, hsz, hone, hc0⟩ := hm.agg
  have HM := MB.made w cs hm 30
  have b0 := (Below.refl w.heap.size w).alloc (Nat.le_refl _) (.cells cs 30 (0, 0))
  obtain ⟨aw, lw, cw, kw, hw⟩ := HM.c_words
  have HLW := hide hw.hlen
  have hlw : lw ≤ 40000 := by rw [← hw.hlen]; exact hl
  have HMB := hide HM
  have HW := hide hw
  have z0 := HM.lt
  obtain ⟨kc, hkc⟩ : ∃ k : Nat, k = m.code.toNat := ⟨_, rfl⟩
  have HCV : Hid (byteV m.code = .int .u8 (kc : Int)) := hide (by rw [hkc])
  have q3 : ((kc : Int) == 3) = false := by
    have : kc ≠ 3 := fun h => n3 (by apply UInt8.toNat_inj.1; rw [← hkc, h]; rfl)
    simp; omega
  have q4 : ((kc : Int) == 4) = false := by
    have : kc ≠ 4 := fun h => n4 (by apply UInt8.toNat_inj.1; rw [← hkc, h]; rfl)
    simp; omega
  have q6 : ((kc : Int) == 6) = false := by
    have : kc ≠ 6 := fun h => n6 (by apply UInt8.toNat_inj.1; rw [← hkc, h]; rfl)
    simp; omega
  have q16 : ((kc : Int) == 16) = false := by
    have : kc ≠ 16 := fun h => n16 (by apply UInt8.toNat_inj.1; rw [← hkc, h]; rfl)
    simp; omega
  have q22 : ((kc : Int) == 22) = false := by
    have : kc ≠ 22 := fun h => n22 (by apply UInt8.toNat_inj.1; rw [← hkc, h]; rfl)
    simp; omega
  have q23 : ((kc : Int) == 23) = false := by
    have : kc ≠ 23 := fun h => n23 (by apply UInt8.toNat_inj.1; rw [← hkc, h]; rfl)
    simp; omega
  have q24 : ((kc : Int) == 24) = false := by
    have : kc ≠ 24 := fun h => n24 (by apply UInt8.toNat_inj.1; rw [← hkc, h]; rfl)
    simp; omega
  clear hkc n3 n4 n6 n16 n22 n23 n24
  clear HM hm hl hw
  go_enter Try.func33, Try.ntmps33
  go_upto_region 1 with (refine wpList_boxC rfl 30 _ rfl cs rfl ?_)
  generalize w.alloc (.cells cs 30 (0, 0)) = u at *
  go_wp2_with fail
  refine (refPut_any _ _ _ _ _ HW.out (by omega)).mono ?_
  rintro r w2 ⟨⟨a2, c2, rfl, hx2⟩, hb2⟩
  have HM2 := hide (HMB.out.mono hb2)
  have HX2 := hide hx2.sl
  have b2 := b0.trans (hb2.mono b0.size)
  have k0 := HM2.out.c_code
  rw [HCV.out] at k0
  obtain ⟨aw', lw', cw', kw', hw'⟩ := HM2.out.c_words
  obtain rfl : lw' = lw := by rw [← hw'.hlen, HLW.out]
  have z2 := HM2.out.lt
  clear hw' HMB HW kw hx2 hb2 b0 z0 HCV HM2
  go_wp2_with fail
  refine (refPut_any none 0 0 [] _ (Sl.nil _ _ (by unfold maxLen; omega)) (by omega)).mono ?_
  rintro r w3 ⟨⟨a3, c3, rfl, hx3⟩, b3⟩
  have HX3 := hide hx3
  have HXW := hide (HX2.out.mono b3)
  clear hx3
  go_wp2_with (at_builtin; refine app rfl _ _ rfl w2.heap.size rfl (HX3.out.mono ((Below.refl _ _).alloc (Nat.le_refl _) _)) rfl (one_own _ _ ((2 * lw') % 256) (by first | rfl | omega | (simp; omega)) (by omega) _).sl (by omega) (Nat.le_trans b3.size (by simp)) ?_)
  intro a4 c4 w4 ho4 hb4
  have b4 : Below w2.heap.size w2 w4 := (b3.alloc b3.size _).trans hb4
  have HX4 := hide ho4
  replace HXW := hide (HX2.out.mono b4)
  clear ho4 hb4 HX3 HX2
  go_wp2_with (at_builtin; refine app rfl _ _ rfl w2.heap.size rfl HX4.out rfl HXW.out (by omega) b4.size ?_)
  intro a5 c5 w5 ho5 hb5
  have b5 : Below w2.heap.size w2 w5 := b4.trans hb5
  have HO5 := hide ho5.sl
  clear ho5
  go_wp2
  go_ret
  rw [show Regs.counted m.words = ([] ++ [UInt8.ofNat ((2 * lw') % 256)]) ++ putW m.words by (unfold Regs.counted; rw [HLW.out, List.append_assoc]; first | (congr 2; apply UInt8.toNat_inj.1; simp) | (simp; apply UInt8.toNat_inj.1; simp))]
  exact ⟨⟨a5, _, c5, rfl, by omega, HO5.out⟩, b2.trans (b5.mono b2.size)⟩

end Go.Proofs.Ytaccebkgmjiaaaa
