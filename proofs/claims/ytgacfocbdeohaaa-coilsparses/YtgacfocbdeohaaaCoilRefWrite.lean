/-
  The document's own answers for coils: a message's bytes, and Write.
-/
import Derived.Test.YtgacfocbdeohaaaCoilRefParse
import Derived.Test.YtgacfocbdeohaaaCoilPut
import Derived.Test.YtgacfocbdeohaaaRefSame
namespace Go.Proofs.Ytgacfocbdeohaaa
open Go.RowKit
open Word Bits Cursor

namespace Coils
def refBytes (dir : Int) (m : MsgM) : List UInt8 :=
  if m.code = 1 ∨ m.code = 2 then (if dir = 1 then counted [] m.data else putW [m.addr, m.count])
  else if m.code = 5 then putW [m.addr, m.value]
  else if m.code = 15 then (if dir = 0 then counted (putW [m.addr, m.count]) (packB m.bits) else putW [m.addr, m.count])
  else putW [m.addr, m.count]
theorem refBytes_form {dir : Int} {m : MsgM} {f : Frm} (h : formOf dir m.code = Option.some f) : refBytes dir m = f.bytes m := by
  unfold formOf at h
  unfold refBytes
  by_cases h0 : dir = 0
  · rw [if_pos h0] at h
    by_cases h1 : m.code = 1 ∨ m.code = 2
    · rw [if_pos h1] at h ⊢; cases h; rw [if_neg (by omega)]; rfl
    rw [if_neg h1] at h ⊢
    by_cases h5 : m.code = 5
    · rw [if_pos h5] at h ⊢; cases h; rfl
    rw [if_neg h5] at h ⊢
    by_cases h15 : m.code = 15
    · rw [if_pos h15] at h ⊢; cases h; rw [if_pos h0]; rfl
    · rw [if_neg h15] at h; cases h
  · rw [if_neg h0] at h
    by_cases hd1 : dir = 1
    · rw [if_pos hd1] at h
      by_cases h1 : m.code = 1 ∨ m.code = 2
      · rw [if_pos h1] at h ⊢; cases h; rw [if_pos hd1]; rfl
      rw [if_neg h1] at h ⊢
      by_cases h5 : m.code = 5
      · rw [if_pos h5] at h ⊢; cases h; rfl
      rw [if_neg h5] at h ⊢
      by_cases h15 : m.code = 15
      · rw [if_pos h15] at h ⊢; cases h; rw [if_neg h0]; rfl
      · rw [if_neg h15] at h; cases h
    · rw [if_neg hd1] at h; cases h
/-- The document's Write is the same: where there is no form nothing is read. -/
theorem write_ref (dir : Int) (m : MsgM) : write dir m = if (parse dir m.code (refBytes dir m)).2 = 0 ∧ MsgM.same (parse dir m.code (refBytes dir m)).1 m = true then Option.some (refBytes dir m) else none := by
  unfold write
  cases hf : formOf dir m.code with
  | none =>
    have : (parse dir m.code (refBytes dir m)).2 ≠ 0 := by
      unfold parse
      split
      · rw [hf]; simp
      · simp
    rw [if_neg (fun h => this h.1)]
  | some f =>
    rw [refBytes_form hf]
end Coils

set_option maxRecDepth 20000 in
set_option maxHeartbeats 4000000 in
theorem refBytesOf_any (dir : Int) (v : Value) (m : MsgM) (w : World) (hm : MsgAt w v m) (hl1 : m.bits.length ≤ 50000) (hl2 : m.data.length ≤ 50000) :
    Calls Try.prog 35 #[.int .i64 dir, v] w fun e w' =>
      (∃ a l c, e = .returned (.slice a l c) ∧ l ≤ 100000 ∧ Bs w' a l c (Coils.refBytes dir m)) ∧ Below w.heap.size w w' := by
  obtain ⟨cs, rfl, hsz, hone, hc0⟩ := hm.agg
  have hmb := MB.made w cs hm apiT
  have hbw := (Below.refl w.heap.size w).alloc (Nat.le_refl _) (.cells cs apiT (0, 0))
  obtain ⟨R, hR⟩ : ∃ R, R = Coils.refBytes dir m := ⟨_, rfl⟩
  rw [← hR]
  have HR := hide hR
  clear hR hm hc0 hone hsz
  go_enter Try.func35, Try.ntmps35
  go_upto_region 1 with (refine wpList_boxC rfl 30 _ rfl cs rfl ?_)
  generalize w.alloc (.cells cs apiT (0, 0)) = w1 at *
  generalize hr : w.heap.size = r at *
  obtain ⟨ka, hka⟩ : ∃ n : Nat, n = m.addr.toNat := ⟨_, rfl⟩
  obtain ⟨kk, hkk⟩ : ∃ n : Nat, n = m.count.toNat := ⟨_, rfl⟩
  obtain ⟨kv, hkv⟩ : ∃ n : Nat, n = m.value.toNat := ⟨_, rfl⟩
  obtain ⟨kc, hkc⟩ : ∃ n : Nat, n = m.code.toNat := ⟨_, rfl⟩
  have ba : ka < 65536 := by rw [hka]; exact word_lt _
  have bk : kk < 65536 := by rw [hkk]; exact word_lt _
  have bv : kv < 65536 := by rw [hkv]; exact word_lt _
  have k2 : w1.cell? ⟨r, 2, none⟩ = some (.int .u16 (ka : Int)) := by rw [hka]; exact hmb.c_addr
  have k3 : w1.cell? ⟨r, 3, none⟩ = some (.int .u16 (kk : Int)) := by rw [hkk]; exact hmb.c_count
  have ne2 := World.new_ne w1 _ k2
  have HE : Hid ([m.addr, m.count] = [UInt16.ofNat ka, UInt16.ofNat kk]) := hide (by rw [hka, hkk]; simp)
  have HEv : Hid ([m.addr, m.value] = [UInt16.ofNat ka, UInt16.ofNat kv]) := hide (by rw [hka, hkv]; simp)
  have HMB := hide hmb
  have hrl : r < w1.heap.size := hmb.lt
  have HKA := hide hka
  have HKV := hide hkv
  have HCK : Hid (kc = m.code.toNat) := hide hkc
  clear hmb hka hkk hkv hkc
  go_wp2_with fail
  refine (refPut_any _ _ _ _ _ (two_own16 w1 (ka : Int) (kk : Int) ka kk rfl rfl ba bk _).sl (by omega)).mono ?_
  rintro e w2 ⟨⟨a2, c2, rfl, hx2⟩, hb2⟩
  have hB12 : Below w1.heap.size w1 w2 := ((Below.refl w1.heap.size w1).alloc (Nat.le_refl _) _).trans (hb2.mono (by simp))
  have HX2 := hide (hx2.base (B' := w1.heap.size) (by simp))
  have HMB2 := hide (HMB.out.mono hB12)
  have HB2 := hide (hbw.trans (hB12.mono (Nat.le_of_lt hrl)))
  have hz2 : w1.heap.size ≤ w2.heap.size := hB12.size
  have c0 : w2.cell? ⟨r, 0, none⟩ = some (.int .u8 (kc : Int)) := by rw [HCK.out]; exact HMB2.out.c_code
  have c2' : w2.cell? ⟨r, 2, none⟩ = some (.int .u16 (ka : Int)) := by rw [HKA.out]; exact HMB2.out.c_addr
  have c4' : w2.cell? ⟨r, 4, none⟩ = some (.int .u16 (kv : Int)) := by rw [HKV.out]; exact HMB2.out.c_value
  have ne3 := World.new_ne w2 _ c2'
  obtain ⟨ad, ld, cd, k14, hxd⟩ := HMB2.out.c_data
  obtain ⟨al, ll, cl, k13, hxl⟩ := HMB2.out.c_bits
  have k14' : ∀ o, (w2.alloc o).cell? ⟨r, 14, none⟩ = some (.slice ad ld cd) := fun o => (World.cell?_alloc_some w2 _ o (by rw [k14]; rfl)).trans k14
  have hld := hxd.hlen
  have hll := hxl.hlen
  have HXD := hide hxd
  have HXL := hide hxl
  clear hx2 hb2 hB12 HMB k2 k3 ne2 hbw HKA HKV hxd hxl
  have HZ2 : Hid (r ≤ w2.heap.size) := hide (by omega)
  have cod : ∀ n : Nat, n < 256 → (kc = n ↔ m.code = UInt8.ofNat n) := fun n hn => by rw [HCK.out]; exact Coils.nat_ne hn
  have i1 := cod 1 (by omega)
  have i2 := cod 2 (by omega)
  have i5 := cod 5 (by omega)
  have i15 := cod 15 (by omega)
  clear cod
  have I1 : Hid (kc = 1 ↔ m.code = 1) := hide i1
  have I2 : Hid (kc = 2 ↔ m.code = 2) := hide i2
  have I5 : Hid (kc = 5 ↔ m.code = 5) := hide i5
  have I15 : Hid (kc = 15 ↔ m.code = 15) := hide i15
  clear i1 i2 i5 i15
  have headWay : Hid (R = putW [m.addr, m.count] → Bs w2 a2 4 c2 R) := hide (fun h => by rw [h, HE.out]; exact HX2.out.sl)
  by_cases h12 : kc = 1 ∨ kc = 2
  · have hm12 : m.code = 1 ∨ m.code = 2 := h12.imp I1.out.1 I2.out.1
    by_cases hd : dir = 1
    · have hR : R = Coils.counted [] m.data := by rw [HR.out]; unfold Coils.refBytes; rw [if_pos hm12, if_pos hd]
      subst hd
      have hlen : ld ≤ 50000 := by omega
      have HF : Hid (R = [UInt8.ofNat (ld % 256)] ++ m.data) := hide (by
        rw [hR]; unfold Coils.counted; rw [hld]
        show [UInt8.ofNat ld] ++ m.data = _
        congr 2
        apply UInt8.toNat_inj.1
        simp)
      clear hR hld hll hl1 hl2
      rcases h12 with rfl | rfl
      all_goals
        go_wp2_with (at_builtin; refine app rfl _ _ rfl w2.heap.size rfl (one_own _ _ (ld % 256) (by first | rfl | omega | (simp; omega)) (by omega) _) rfl (HXD.out.alloc _) (by omega) (by simp) ?_)
        intro a4 c4 w4 ho4 hb4
        go_wp2
        go_ret
        exact ⟨⟨_, _, _, rfl, by omega, by rw [HF.out]; exact ho4.sl⟩, by rw [hr]; exact HB2.out.trans (((Below.refl _ _).alloc (Nat.le_refl _) _).trans hb4 |>.mono HZ2.out)⟩
    · have hR : R = putW [m.addr, m.count] := by rw [HR.out]; unfold Coils.refBytes; rw [if_pos hm12, if_neg hd]
      have hd' : (dir == 1) = false := by simpa using hd
      have HF := hide (headWay.out hR)
      clear hR hld hll hl1 hl2
      rcases h12 with rfl | rfl
      all_goals
        go_wp2
        go_ret
        exact ⟨⟨_, _, _, rfl, by omega, HF.out⟩, by rw [hr]; exact HB2.out⟩
  have q1 : ((kc : Int) == 1) = false := by simp; omega
  have q2 : ((kc : Int) == 2) = false := by simp; omega
  have hm12 : ¬ (m.code = 1 ∨ m.code = 2) := fun h => h12 (h.imp I1.out.2 I2.out.2)
  by_cases h5 : kc = 5
  · have hR : R = putW [m.addr, m.value] := by rw [HR.out]; unfold Coils.refBytes; rw [if_neg hm12, if_pos (I5.out.1 h5)]
    subst h5
    have HF : Hid (R = putW [UInt16.ofNat ka, UInt16.ofNat kv]) := hide (by rw [hR, HEv.out])
    clear hR hld hll hl1 hl2
    go_wp2_with fail
    refine (refPut_any _ _ _ _ _ (two_own16 w2 (ka : Int) (kv : Int) ka kv rfl rfl ba bv _).sl (by omega)).mono ?_
    rintro e w4 ⟨⟨a4, c4, rfl, hx4⟩, hb4⟩
    go_wp2
    go_ret
    exact ⟨⟨_, _, _, rfl, by omega, by rw [HF.out]; exact hx4.sl⟩, by rw [hr]; exact HB2.out.trans (((Below.refl w2.heap.size w2).alloc (Nat.le_refl _) _).trans (hb4.mono (by simp)) |>.mono HZ2.out)⟩
  have q5 : ((kc : Int) == 5) = false := by simp; omega
  have hm5 : ¬ m.code = 5 := fun h => h5 (I5.out.2 h)
  by_cases h15 : kc = 15
  · by_cases hd : dir = 0
    · have hR : R = Coils.counted (putW [m.addr, m.count]) (packB m.bits) := by rw [HR.out]; unfold Coils.refBytes; rw [if_neg hm12, if_neg hm5, if_pos (I15.out.1 h15), if_pos hd]
      subst hd h15
      have hlen : ll ≤ 50000 := by omega
      have hpl : many ll ≤ 50000 := by unfold many; omega
      have HF : Hid (R = (putW [UInt16.ofNat ka, UInt16.ofNat kk] ++ [UInt8.ofNat (many ll % 256)]) ++ packB m.bits) := hide (by
        rw [hR, HE.out]; unfold Coils.counted; rw [packB_length, hll]
        congr 3
        apply UInt8.toNat_inj.1
        simp)
      clear hR hld hll hl1 hl2
      go_wp2_with fail
      refine (refPack_any _ _ _ _ _ HXL.out (by omega)).mono ?_
      rintro e w3 ⟨⟨a3, c3, rfl, hx3⟩, hb3⟩
      obtain ⟨g, off, hag, hgl, hgs, _⟩ := HX2.out.room 0 (by have := HX2.out.sl.hle; omega)
      have HAG := hide hag
      clear hag
      have HX3 := hide hx3
      have HB3 := hide (HB2.out.trans (hb3.mono HZ2.out))
      have hz3 := hb3.size
      have HX2' := hide (HX2.out.mono hb3)
      clear hx3 hb3 k13 k14 c0 c2' c4'
      generalize many ll = nb at *
      go_wp2_with (at_builtin; refine app_but rfl _ _ rfl w1.heap.size rfl (HX2'.out.mono ((Below.refl _ _).alloc (Nat.le_refl _) _)) rfl (one_own _ _ (nb % 256) (by first | rfl | omega | (simp; omega)) (by omega) _).sl (by omega) (by simp; omega) g (fun b off h => by rw [HAG.out] at h; cases h; rfl) ?_)
      intro a4 c4 w4 ho4 hb4 hu4
      have hx4 : Bs w4 a3 nb c3 (packB m.bits) := by
        by_cases hz : 0 < nb
        · refine (HX3.out.sl.mono ((Below.refl _ _).alloc (Nat.le_refl _) _)).aside hu4 (fun b off h => ?_)
          have := own_block HX3.out hz b off h
          omega
        · have h0 : nb = 0 := by omega
          have hq := HX3.out.sl
          have : packB m.bits = [] := List.eq_nil_of_length_eq_zero (by rw [hq.hlen]; exact h0)
          rw [this] at hq ⊢
          exact hq.bare _
      have HB4 : Hid (Below r w w4) := hide (HB3.out.trans (((Below.refl w3.heap.size w3).alloc (Nat.le_refl _) _).mono (show r ≤ w3.heap.size by omega) |>.trans (hb4.mono (by omega))))
      have hz4 : w1.heap.size ≤ w4.heap.size := by have := hb4.size; simp at this; omega
      clear hu4 hb4
      go_wp2_with (at_builtin; refine app rfl _ _ rfl w1.heap.size rfl ho4 rfl hx4 (by omega) hz4 ?_)
      intro a5 c5 w5 ho5 hb5
      go_wp2
      go_ret
      exact ⟨⟨_, _, _, rfl, by omega, by rw [HF.out]; exact ho5.sl⟩, by rw [hr]; exact HB4.out.trans (hb5.mono (by omega))⟩
    · have hR : R = putW [m.addr, m.count] := by rw [HR.out]; unfold Coils.refBytes; rw [if_neg hm12, if_neg hm5, if_pos (I15.out.1 h15), if_neg hd]
      have hd' : (dir == 0) = false := by simpa using hd
      have HF := hide (headWay.out hR)
      subst h15
      clear hR hld hll hl1 hl2
      go_wp2
      go_ret
      exact ⟨⟨_, _, _, rfl, by omega, HF.out⟩, by rw [hr]; exact HB2.out⟩
  have q15 : ((kc : Int) == 15) = false := by simp; omega
  have hm15 : ¬ m.code = 15 := fun h => h15 (I15.out.2 h)
  have hR : R = putW [m.addr, m.count] := by rw [HR.out]; unfold Coils.refBytes; rw [if_neg hm12, if_neg hm5, if_neg hm15]
  have HF := hide (headWay.out hR)
  clear hR hld hll hl1 hl2
  go_wp2
  go_ret
  exact ⟨⟨_, _, _, rfl, by omega, HF.out⟩, by rw [hr]; exact HB2.out⟩

set_option maxRecDepth 20000 in
set_option maxHeartbeats 4000000 in
theorem refWrite_any (dir : Int) (v : Value) (m : MsgM) (w : World) (hm : MsgAt w v m) (hl1 : m.bits.length ≤ 50000) (hl2 : m.data.length ≤ 50000) :
    Calls Try.prog 18 #[.int .i64 dir, v] w fun e w' =>
      (∃ a l c, e = .returned (.tuple #[.slice a l c, .int .i64 (Coils.errW (Coils.write dir m))]) ∧ Bs w' a l c (Coils.outW (Coils.write dir m))) ∧ Below w.heap.size w w' := by
  obtain ⟨cs, rfl, hsz, hone, hc0⟩ := hm.agg
  have HM := hide hm
  have HC0 := hide hc0
  have hbw := (Below.refl w.heap.size w).alloc (Nat.le_refl _) (.cells cs apiT (0, 0))
  have e1 := heap_alloc_new w (.cells cs apiT (0, 0))
  obtain ⟨R, hR⟩ : ∃ R, R = Coils.write dir m := ⟨_, rfl⟩
  rw [← hR]
  rw [Coils.write_ref] at hR
  have HR := hide hR
  clear hR hm hc0 hone
  go_enter Try.func18, Try.ntmps18
  go_upto_region 1 with (refine wpList_boxC rfl 30 _ rfl cs rfl ?_)
  have HM1 := hide (HM.out.mono hbw)
  generalize w.alloc (.cells cs apiT (0, 0)) = w1 at *
  generalize hr : w.heap.size = r at *
  have hrl : r < w1.heap.size := lt_of_block e1
  go_wp2_with (refine wpList_load_row rfl 30 _ rfl r rfl 30 cs (0, 0) _ e1 Try.underlying30 rfl (msg_size cs hsz) ?_)
  refine (refBytesOf_any dir (.agg cs) m w1 HM1.out hl1 hl2).mono ?_
  rintro e w2 ⟨⟨a2, l2, c2, rfl, hl, hx2⟩, hb2⟩
  have HX2 := hide hx2
  replace HM1 := hide (HM1.out.mono hb2)
  replace e1 := (hb2.block r hrl).trans e1
  have HB := hide (hbw.trans (hb2.mono (Nat.le_of_lt hrl)))
  have hr2 : r < w2.heap.size := lt_of_block e1
  have hc2 : w2.cell? ⟨r, 0, none⟩ = some (byteV m.code) := (cell_of_row w2 r 0 _ _ _ e1).trans HC0.out
  clear hx2 hb2 hbw hl1 hl2
  generalize Coils.refBytes dir m = B at *
  go_wp2_with fail
  refine (refParse_any dir m.code a2 l2 c2 B w2 HX2.out hl).mono ?_
  rintro e w6 ⟨⟨v6, rfl, hm6⟩, hb6⟩
  obtain ⟨cs6, rfl, hs6, ho6, _⟩ := hm6.agg
  have hz6 := hb6.size
  have HX6 := hide (HX2.out.mono hb6)
  have HM6 := hide hm6
  have HM7 := hide (HM1.out.mono hb6)
  replace e1 := (hb6.block r hr2).trans e1
  replace HB := hide (HB.out.trans (hb6.mono (Nat.le_of_lt hr2)))
  clear HM1 HX2 hc2 hb6 hm6
  generalize Coils.parse dir m.code B = P at *
  obtain ⟨n, E⟩ := P
  go_wp2_with ((with_reducible (show wpList _ _ _ ({ dst := _, op := Op.store _ _ _, type := _, pos := _, after := _, guard := _ } :: _) _ _)); refine wpList_store_new rfl 30 _ _ rfl cs6 rfl rfl (msg_size cs6 hs6) hs6.symm ho6 ?_)
  intro w7 h7 b7
  replace HX6 := hide (HX6.out.mono b7)
  replace HM6 := hide (HM6.out.mono b7)
  replace HM7 := hide (HM7.out.mono b7)
  replace e1 := (b7.block r (by omega)).trans e1
  replace HB := hide (HB.out.trans (b7.mono (by omega)))
  have hz7 : r ≤ w7.heap.size := Nat.le_of_lt (lt_of_block e1)
  generalize w6.heap.size = g6 at *
  clear b7
  go_wp2_with ((with_reducible (show wpList _ _ _ ({ dst := _, op := Op.load _ _, type := _, pos := _, after := _, guard := _ } :: _) _ _)); first | (refine wpList_load_row rfl 30 _ rfl g6 rfl 30 cs6 (0, 0) _ h7 Try.underlying30 rfl (msg_size cs6 hs6) ?_) | (refine wpList_load_row rfl 30 _ rfl r rfl 30 cs (0, 0) _ e1 Try.underlying30 rfl (msg_size cs hsz) ?_))
  refine (refSame_any _ _ n m w7 HM6.out HM7.out).mono ?_
  rintro e w8 ⟨rfl, b8⟩
  have HX8 := hide (HX6.out.mono b8)
  have HB8 := hide (HB.out.trans (b8.mono hz7))
  generalize MsgM.same n m = q at *
  by_cases hE : E = 0
  · subst hE
    cases q
    · have hR : R = none := by rw [HR.out]; simp
      subst hR
      go_wp2
      go_ret2
      exact ⟨⟨_, _, _, rfl, Sl.nil _ _ (by unfold maxLen; omega)⟩, by rw [hr]; exact HB8.out⟩
    · have hR : R = Option.some B := by rw [HR.out]; simp
      subst hR
      go_wp2
      go_ret2
      exact ⟨⟨_, _, _, rfl, HX8.out⟩, by rw [hr]; exact HB8.out⟩
  · have hR : R = none := by rw [HR.out]; simp [hE]
    subst hR
    have hE' : (E == 0) = false := by simpa using hE
    clear HR
    go_wp2
    go_ret2
    exact ⟨⟨_, _, _, rfl, Sl.nil _ _ (by unfold maxLen; omega)⟩, by rw [hr]; exact HB8.out⟩

end Go.Proofs.Ytgacfocbdeohaaa
