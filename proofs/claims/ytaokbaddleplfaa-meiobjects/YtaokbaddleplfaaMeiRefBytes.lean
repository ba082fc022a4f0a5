/-
  The document's own answers for mei: a message's bytes.
-/
import Derived.Test.YtaokbaddleplfaaMeiRefRow
import Derived.Test.YtaokbaddleplfaaJoinA
import Derived.BigRegion
import Derived.Deep.RegionHeld3
import Derived.Deep.CutBlock
import Derived.Deep.DeepCutAuto
namespace Go.Proofs.Ytaokbaddleplfaa
open Go.RowKit
open Word Bits Cursor

namespace Mei
def refBytes (dir : Int) (m : MsgM) : List UInt8 := Frm.bytes (if dir = 0 then 0 else 1) m
theorem objs_take (l : List ObjM) (k : Nat) (h : k < l.length) : encObjs (l.take (k + 1)) = encObjs (l.take k) ++ encObj l[k] := by
  rw [List.take_succ_eq_append_getElem h, objs_append]
  simp [encObjs]
theorem objs_take_le (l : List ObjM) (h : ∀ o ∈ l, o.value.length ≤ 300) (k : Nat) : (encObjs (l.take k)).length ≤ 302 * l.length :=
  Nat.le_trans (objs_len _ fun o ho => h o (List.mem_of_mem_take ho)) (Nat.mul_le_mul_left _ (by simp; omega))
end Mei
theorem three_lit (w : World) (x0 x1 x2 : UInt8) (t : TypeId) : Bs (w.alloc (.cells #[byteV x0, byteV x1, byteV x2] t)) (some ⟨w.heap.size, 0, none⟩) 3 3 [x0, x1, x2] :=
  Sl.fresh w [x0, x1, x2] _ t _ 3 rfl (by unfold maxLen; omega) rfl
theorem six_lit (w : World) (x0 x1 x2 x3 x4 : UInt8) (v : Int) (n : Nat) (hv : v = ((n % 256 : Nat) : Int)) (t : TypeId) : Own byteV (w.alloc (.cells #[byteV x0, byteV x1, byteV x2, byteV x3, byteV x4, .int .u8 v] t)) w.heap.size (some ⟨w.heap.size, 0, none⟩) 6 6 [x0, x1, x2, x3, x4, UInt8.ofNat n] :=
  Own.fresh w [x0, x1, x2, x3, x4, UInt8.ofNat n] [byteV x0, byteV x1, byteV x2, byteV x3, byteV x4, .int .u8 v] t 6 rfl (by unfold maxLen; omega) (by subst hv; simp only [List.map_cons, List.map_nil, byteV, UInt8.toNat_ofNat'])

set_option maxRecDepth 20000 in
set_option maxHeartbeats 2000000 in
theorem mb_other (dir : Int) (v : Value) (m : MsgM) (hc : m.mei = 13) (w : World) (hm : MsgAt w v m) (hs : m.Small) :
    Calls Try.prog 34 #[.int .i64 dir, v] w fun e w' => (∃ a n c, e = .returned (.slice a n c) ∧ n ≤ 100000 ∧ Bs w' a n c ([m.mei] ++ m.data)) ∧ Below w.heap.size w w' := by
  obtain ⟨cs, rfl, hsz, hone, hc0⟩ := hm.agg
  have HM := MB.made w cs hm 30
  have b0 := (Below.refl w.heap.size w).alloc (Nat.le_refl _) (.cells cs 30 (0, 0))
  obtain ⟨ad, ld, cd, kd, hd⟩ := HM.c_data
  have k0 := HM.c_mei
  rw [hc, show byteV 13 = .int .u8 (13 : Int) from rfl] at k0
  have hld : ld ≤ 50000 := by rw [← hd.hlen]; exact hs.data
  have HD := hide hd
  rw [hc]
  clear hm hs hc0 hc
  go_enter Try.func34, Try.ntmps34
  go_upto_region 1 with (refine wpList_boxC rfl 30 _ rfl cs rfl ?_)
  have hz := HM.lt
  generalize w.alloc (.cells cs 30 (0, 0)) = u at *
  have h13 := one_own u 13 13 rfl (by omega) 5
  have k14 : ∀ o, (u.alloc o).cell? ⟨w.heap.size, 14, none⟩ = some (.slice ad ld cd) := fun o => (((Below.refl _ _).alloc (Nat.le_refl _) o).cell (p := ⟨w.heap.size, 14, none⟩) hz).trans kd
  have hD1 := HD.out.alloc (.cells #[.int .u8 13] 5)
  have hb1 : Below w.heap.size w (u.alloc (.cells #[.int .u8 13] 5)) := b0.alloc b0.size _
  have hsz1 : u.heap.size ≤ (u.alloc (.cells #[.int .u8 13] 5)).heap.size := by simp
  have hsz0 := b0.size
  go_wp2_with (at_builtin; refine app (by rfl) _ _ rfl u.heap.size rfl h13 rfl hD1 (by omega) hsz1 ?_)
  intro a' c' w' ho hb
  go_wp2
  go_ret
  exact ⟨⟨_, _, _, rfl, by omega, ho.sl⟩, hb1.trans (hb.mono hsz0)⟩

set_option maxRecDepth 20000 in
set_option maxHeartbeats 2000000 in
theorem mb_ask (v : Value) (m : MsgM) (hc : m.mei ≠ 13) (w : World) (hm : MsgAt w v m) :
    Calls Try.prog 34 #[.int .i64 0, v] w fun e w' => (∃ a n c, e = .returned (.slice a n c) ∧ n ≤ 100000 ∧ Bs w' a n c [m.mei, m.kind, m.next]) ∧ Below w.heap.size w w' := by
  obtain ⟨cs, rfl, hsz, hone, hc0⟩ := hm.agg
  have HM := MB.made w cs hm 30
  have b0 := (Below.refl w.heap.size w).alloc (Nat.le_refl _) (.cells cs 30 (0, 0))
  have k0 := HM.c_mei
  have k1 := HM.c_kind
  have k2 := HM.c_next
  obtain ⟨n0, hn0⟩ : ∃ n : Nat, n = m.mei.toNat := ⟨_, rfl⟩
  have q13 : ((n0 : Int) == 13) = false := by
    have : n0 ≠ 13 := fun e => hc (UInt8.toNat_inj.1 (by rw [← hn0, e]; rfl))
    simp; omega
  have HK : Hid (byteV m.mei = .int .u8 (n0 : Int)) := hide (by rw [hn0])
  rw [HK.out] at k0
  clear hm hc0 hc hn0
  go_enter Try.func34, Try.ntmps34
  go_upto_region 1 with (refine wpList_boxC rfl 30 _ rfl cs rfl ?_)
  generalize w.alloc (.cells cs 30 (0, 0)) = u at *
  have hl := three_lit u m.mei m.kind m.next 5
  rw [HK.out] at hl
  go_wp2
  go_ret
  exact ⟨⟨_, _, _, rfl, by omega, hl⟩, b0.alloc b0.size _⟩

set_option maxRecDepth 20000 in
set_option maxHeartbeats 2000000 in
theorem mb_told (dir : Int) (hdir : dir ≠ 0) (v : Value) (m : MsgM) (hc : m.mei ≠ 13) (w : World) (hm : MsgAt w v m) (hs : m.Small) :
    Calls Try.prog 34 #[.int .i64 dir, v] w fun e w' => (∃ a n c, e = .returned (.slice a n c) ∧ n ≤ 100000 ∧ Bs w' a n c ([m.mei, m.kind, m.level, m.more, m.next, UInt8.ofNat m.objects.length] ++ Mei.encObjs m.objects)) ∧ Below w.heap.size w w' := by
  obtain ⟨cs, rfl, hsz, hone, hc0⟩ := hm.agg
  have HM := MB.made w cs hm 30
  have b0 := (Below.refl w.heap.size w).alloc (Nat.le_refl _) (.cells cs 30 (0, 0))
  have k0 := HM.c_mei
  have k1 := HM.c_kind
  have k2 := HM.c_level
  have k3 := HM.c_more
  have k4 := HM.c_next
  obtain ⟨ao, lo, co, k5, hobs⟩ := HM.c_objects
  have hlo : lo ≤ 300 := by rw [← hobs.hlen]; exact hs.objects
  have HOB := hide hobs
  have HLN := hide hobs.hlen
  have HOV := hide hs.obj
  have HTK := hide (Mei.objs_take_le m.objects hs.obj)
  have hlm : m.objects.length ≤ 300 := hs.objects
  obtain ⟨n0, hn0⟩ : ∃ n : Nat, n = m.mei.toNat := ⟨_, rfl⟩
  have q13 : ((n0 : Int) == 13) = false := by
    have : n0 ≠ 13 := fun e => hc (UInt8.toNat_inj.1 (by rw [← hn0, e]; rfl))
    simp; omega
  have qd : (dir == 0) = false := by simpa using hdir
  have HK : Hid (byteV m.mei = .int .u8 (n0 : Int)) := hide (by rw [hn0])
  rw [HK.out] at k0
  have z0 := HM.lt
  rw [HLN.out]
  obtain ⟨l, hl0⟩ : ∃ l, l = m.objects := ⟨_, rfl⟩
  rw [← hl0] at HOB HLN HOV HTK hlm ⊢
  clear hm hc0 hc hn0 hdir hs hobs HM hl0
  go_enter Try.func34, Try.ntmps34
  go_upto_region 1 with (refine wpList_boxC rfl 30 _ rfl cs rfl ?_)
  generalize w.alloc (.cells cs 30 (0, 0)) = u at *
  have hl := six_lit u m.mei m.kind m.level m.more m.next ((lo : Int) % 256) lo (by omega) 5
  rw [HK.out] at hl
  have HL6 := hide hl
  have b6 : Below w.heap.size w (u.alloc (.cells #[.int .u8 (n0 : Int), byteV m.kind, byteV m.level, byteV m.more, byteV m.next, .int .u8 ((lo : Int) % 256)] 5)) := b0.alloc b0.size _
  have b6u := (Below.refl u.heap.size u).alloc (Nat.le_refl _) (.cells #[.int .u8 (n0 : Int), byteV m.kind, byteV m.level, byteV m.more, byteV m.next, .int .u8 ((lo : Int) % 256)] 5)
  clear hl
  go_upto_region 6 with fail
  generalize u.alloc (.cells #[.int .u8 (n0 : Int), byteV m.kind, byteV m.level, byteV m.more, byteV m.next, .int .u8 ((lo : Int) % 256)] 5) = u6 at *
  obtain ⟨H6, hH6⟩ : ∃ l, l = [m.mei, m.kind, m.level, m.more, m.next, UInt8.ofNat lo] := ⟨_, rfl⟩
  rw [← hH6] at HL6
  have HH6 := hide hH6
  clear hH6
  clear k0 k1 k2 k3 k4
  go_wp2_with fail
  go_loopw [6, 5] (fun i s wr => ∃ (k : Nat) (a' : Option Addr) (n c' : Nat), k ≤ lo ∧ i = .int .i64 (k : Int) ∧ s = .slice a' n c' ∧ Own byteV wr u.heap.size a' n c' (H6 ++ Mei.encObjs (l.take k)) ∧ Below u.heap.size u wr) (fun i _ _ => lo - (intOf i).toNat)
  case atStart => exact ⟨0, _, _, _, Nat.zero_le _, rfl, rfl, by simpa [Mei.encObjs] using HL6.out, b6u⟩
  case round =>
    obtain ⟨k, a1, n1, c1, hk, rfl, rfl, ho, hbr⟩ := hrel
    have hh6 := HL6.out.sl.hlen
    have hn1 : n1 ≤ 90700 := by
      have h1 := ho.sl.hlen
      have h2 := HTK.out k
      rw [List.length_append] at h1
      omega
    have k5r : wr.cell? ⟨w.heap.size, 21, none⟩ = some (.slice ao lo co) := (hbr.cell (p := ⟨w.heap.size, 21, none⟩) z0).trans k5
    have HO := hide ho
    clear ho hh6
    by_cases hlt : k < lo
    · have hk1 : k < l.length := by rw [HLN.out]; exact hlt
      obtain ⟨b, off, ad, ld, cd, rfl, hbl, hc0, hc1, hx⟩ := HOB.out.hcell k hk1
      have hld : ld ≤ 300 := by rw [← hx.hlen]; exact HOV.out _ (List.getElem_mem hk1)
      have HT := hide (Mei.objs_take l k hk1)
      have HXL := hide hx.hlen
      generalize l[k] = x at *
      obtain ⟨ni, hni⟩ : ∃ n : Nat, n = x.id.toNat := ⟨_, rfl⟩
      have hnb : ni < 256 := by rw [hni]; exact byte_lt _
      rw [show byteV x.id = .int .u8 (ni : Int) by rw [hni]] at hc0
      have HNI := hide hni
      obtain ⟨lb, hlb⟩ : ∃ n : Nat, n = ld % 256 := ⟨_, rfl⟩
      have hlbb : lb < 256 := by omega
      have hw8 : IntKind.u8.wrap (ld : Int) = (lb : Int) := by rw [IntKind.wrap_u8]; omega
      have HLB := hide hlb
      replace hc0 := (hbr.cell (p := ⟨b, off + k * 2, none⟩) hbl).trans hc0
      replace hc1 := (hbr.cell (p := ⟨b, off + k * 2 + 1, none⟩) hbl).trans hc1
      have HXU := hide hx
      have hn21 := World.new_ne wr _ k5r
      have hnc0 := World.new_ne wr _ hc0
      have hnc1 := World.new_ne wr _ hc1
      have hal := ((Below.refl wr.heap.size wr).alloc (Nat.le_refl _) (.cells #[.int .u8 (ni : Int), .int .u8 (lb : Int)] 5)).drew
      have hoA := HO.out.mono hal
      have hlit := (two_own wr (ni : Int) (lb : Int) ni lb rfl rfl hnb hlbb 5).sl
      have hbA : Below u.heap.size u ((wr.alloc (.cells #[.int .u8 (ni : Int), .int .u8 (lb : Int)] 5)).drew) := hbr.trans (hal.mono hbr.size)
      have hszA := hbA.size
      have hki : (k : Int) < (lo : Int) := by omega
      clear hx hni hlb
      go_wp2_with fail
      go_region_held3 (fun w' => w'.cell? ⟨w.heap.size, 21, none⟩ = some (.slice (some ⟨b, off, none⟩) lo co) ∧ w'.cell? ⟨b, off + k * 2, none⟩ = some (.int .u8 (ni : Int)) ∧ w'.cell? ⟨b, off + k * 2 + 1, none⟩ = some (.slice ad ld cd))
        (first
          | go_keep
          | (go_split_ands
             refine ⟨?_, ?_, ?_⟩
             · (rw [hb3.cell (p := ⟨w.heap.size, 21, none⟩) z0]; assumption)
             · (rw [hb3.cell (p := ⟨b, off + k * 2, none⟩) hbl]; assumption)
             · (rw [hb3.cell (p := ⟨b, off + k * 2 + 1, none⟩) hbl]; assumption)))
        ((refine step_app (by rfl) _ _ (by rfl) u.heap.size (by rfl) hoA (by rfl) hlit.drew (by omega) hszA ?_; intro a3 c3 w3 ho3 hb3))
      have hb9 := hbA.trans hb3
      have hq : Below u.heap.size wr w3 := (hal.mono hbr.size).trans hb3
      have k5q := (hq.cell (p := ⟨w.heap.size, 21, none⟩) z0).trans k5r
      have c1q := (hq.cell (p := ⟨b, off + k * 2 + 1, none⟩) hbl).trans hc1
      have HE : Hid (H6 ++ Mei.encObjs (l.take (k + 1)) = H6 ++ Mei.encObjs (l.take k) ++ [UInt8.ofNat ni, UInt8.ofNat lb] ++ x.value) := hide (by
        rw [HT.out, ← List.append_assoc, List.append_assoc (H6 ++ Mei.encObjs (l.take k))]
        congr 1
        show [x.id, UInt8.ofNat x.value.length] ++ x.value = _
        rw [HXL.out, HNI.out, HLB.out]
        congr 1
        congr 1
        · simp
        · congr 1
          apply UInt8.toNat_inj.1
          simp)
      have HX3 := hide (HXU.out.mono hb9)
      have hsz9 := hb9.size
      clear hc0 hc1 hal hoA hlit hbA hszA hb3 hq hn21 hnc0 hnc1 k5r HXU
      go_wp2_with (at_builtin; refine app (by rfl) _ _ rfl u.heap.size rfl ho3 rfl HX3.out (by omega) hsz9 ?_)
      intro a4 c4 w4 ho4 hb4
      have ho5 : Own byteV w4 u.heap.size a4 (n1 + 2 + ld) c4 (H6 ++ Mei.encObjs (l.take (k + 1))) := by
        rw [HE.out]
        simpa using ho4
      have HO4 := hide ho5
      clear ho5 ho4 ho3 k5q c1q HE
      go_wp2
      go_roundw
      case rel => exact ⟨k + 1, a4, _, c4, by omega, by go_num, rfl, HO4.out, hb9.trans hb4⟩
      case measure => simp [intOf]; omega
    · have hkk : k = lo := by omega
      have HR : Hid (Bs wr a1 n1 c1 (H6 ++ Mei.encObjs l)) := hide (by
        have := HO.out.sl
        rwa [List.take_of_length_le (by rw [HLN.out]; omega)] at this)
      have hki : ¬ (k : Int) < (lo : Int) := by omega
      have HB := hide (b0.trans (hbr.mono b0.size))
      clear HO hkk
      go_wp2
      go_ret
      exact ⟨⟨_, _, _, rfl, by omega, by have := HR.out; rw [HH6.out] at this; exact this⟩, HB.out⟩

theorem refBytesOf_any (dir : Int) (v : Value) (m : MsgM) (w : World) (hm : MsgAt w v m) (hs : m.Small) :
    Calls Try.prog 34 #[.int .i64 dir, v] w fun e w' => (∃ a n c, e = .returned (.slice a n c) ∧ n ≤ 100000 ∧ Bs w' a n c (Mei.refBytes dir m)) ∧ Below w.heap.size w w' := by
  by_cases h : m.mei = 13
  · rw [show Mei.refBytes dir m = [m.mei] ++ m.data by unfold Mei.refBytes Mei.Frm.bytes; rw [if_pos h]]
    exact mb_other dir v m h w hm hs
  by_cases d : dir = 0
  · subst d
    rw [show Mei.refBytes 0 m = [m.mei, m.kind, m.next] by unfold Mei.refBytes Mei.Frm.bytes; rw [if_neg h]; rfl]
    exact mb_ask v m h w hm
  · rw [show Mei.refBytes dir m = [m.mei, m.kind, m.level, m.more, m.next, UInt8.ofNat m.objects.length] ++ Mei.encObjs m.objects by unfold Mei.refBytes Mei.Frm.bytes; rw [if_neg h, if_neg d]; rfl]
    exact mb_told dir d v m h w hm hs
theorem Mei.write_ref (dir : Int) (m : MsgM) : Mei.write dir m = if (Mei.parse dir m.code (Mei.refBytes dir m)).2 = 0 ∧ MsgM.same (Mei.parse dir m.code (Mei.refBytes dir m)).1 m = true then some (Mei.refBytes dir m) else none := by
  refine PackW.write_ref (X := Mei.pack) Mei.refBytes (fun dir m f h => ?_) dir m
  have h' : Mei.formOf dir m.code = some f := h
  unfold Mei.formOf at h'
  unfold Mei.refBytes
  split at h'
  · split at h'
    · rename_i d
      injection h' with h'
      rw [if_pos d, ← h']; rfl
    · rename_i d
      split at h'
      · injection h' with h'
        rw [if_neg d, ← h']; rfl
      · cases h'
  · cases h'

end Go.Proofs.Ytaokbaddleplfaa
