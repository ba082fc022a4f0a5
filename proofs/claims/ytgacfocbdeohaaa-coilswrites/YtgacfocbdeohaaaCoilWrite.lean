/-
  Package coils: the contracts of what writes forms.
-/
import Derived.Test.YtgacfocbdeohaaaCoilRead
import Derived.Test.YtgacfocbdeohaaaRegion
import Derived.Test.YtgacfocbdeohaaaAppBut
namespace Go.Proofs.Ytgacfocbdeohaaa
open Go.RowKit
open Word Bits Cursor

set_option maxHeartbeats 1000000 in
theorem counted_any (B g : Nat) (a a2 : Option Addr) (len cap len2 cap2 : Nat) (xs ys : List UInt8) (w : World) (hx : Own byteV w B a len cap xs) (hg : ∀ b off, a = some ⟨b, off, none⟩ → b = g) (hy : Bs w a2 len2 cap2 ys) (hn : 0 < len2 → ∀ b off, a2 = some ⟨b, off, none⟩ → b < w.heap.size → b ≠ g) (hB : B ≤ w.heap.size) (h1 : len ≤ 100000) (h2 : len2 ≤ 100000) :
    Calls Try.prog 66 #[.slice a len cap, .slice a2 len2 cap2] w fun e w' =>
      (∃ a' c', e = .returned (.slice a' (len + 1 + len2) c') ∧ Own byteV w' B a' (len + 1 + len2) c' (Coils.counted xs ys)) ∧ Below B w w' := by
  have HX := hide hx
  have HY := hide hy
  have HL := hide hy.hlen
  clear hx hy
  have HE : Hid (Coils.counted xs ys = (xs ++ [UInt8.ofNat (len2 % 256)]) ++ ys) := hide (by
    unfold Coils.counted
    rw [HL.out]
    congr 3
    apply UInt8.toNat_inj.1
    simp)
  go_enter Try.func66, Try.ntmps66
  go_wp2_with (at_builtin; refine app_but rfl _ _ rfl B rfl (HX.out.mono ((Below.refl _ _).alloc (Nat.le_refl _) _)) rfl (one_own _ _ (len2 % 256) (by first | rfl | omega | (simp; omega)) (by omega) _).sl (by omega) (Nat.le_trans hB (by simp)) g hg ?_)
  intro a3 c3 w3 ho3 hb3 hu3
  have hB3 : Below B w w3 := ((Below.refl B w).alloc hB _).trans hb3
  have hy3 : Bs w3 a2 len2 cap2 ys := by
    by_cases hz : 0 < len2
    · obtain ⟨b, off, rfl, hlt, _⟩ := HY.out.at hz
      exact (HY.out.mono ((Below.refl _ _).alloc (Nat.le_refl _) _)).aside hu3 (fun b' off' h => by cases h; exact hn hz _ _ rfl hlt)
    · have h0 : len2 = 0 := by omega
      have hq := HY.out
      have : ys = [] := List.eq_nil_of_length_eq_zero (by rw [HL.out]; exact h0)
      rw [this] at hq ⊢
      exact hq.bare _
  clear hu3 hb3
  go_wp2_with (at_builtin; refine app rfl _ _ rfl B rfl ho3 rfl hy3 (by omega) (Nat.le_trans hB hB3.size) ?_)
  intro a4 c4 w4 ho4 hb4
  go_wp2
  go_ret
  rw [HE.out]
  exact ⟨⟨a4, c4, rfl, by rw [List.append_assoc]; exact ho4⟩, hB3.trans hb4⟩

theorem two_own16 (w : World) (u v : Int) (m n : Nat) (hu : u = m) (hv : v = n) (hm : m < 65536) (hn : n < 65536) (t : TypeId) : Own wordV (w.alloc (.cells #[.int .u16 u, .int .u16 v] t)) w.heap.size (some ⟨w.heap.size, 0, none⟩) 2 2 [UInt16.ofNat m, UInt16.ofNat n] :=
  Own.fresh w [UInt16.ofNat m, UInt16.ofNat n] [.int .u16 u, .int .u16 v] t 2 rfl (by unfold maxLen; omega) (by
    subst hu hv
    simp only [List.map_cons, List.map_nil, wordV, UInt16.toNat_ofNat']
    rw [Nat.mod_eq_of_lt hm, Nat.mod_eq_of_lt hn])

set_option maxRecDepth 20000 in
set_option maxHeartbeats 2000000 in
theorem writePlaces_any (gm : Nat) (m : MsgM) (w : World) (hm : CM w gm m) :
    Calls Try.prog 37 #[ptrV gm] w fun e w' => (∃ a' c', e = .returned (.slice a' 4 c') ∧ Own byteV w' w.heap.size a' 4 c' (putW [m.addr, m.count])) ∧ Below w.heap.size w w' := by
  have HM := hide hm
  clear hm
  obtain ⟨ka, hka⟩ : ∃ n : Nat, n = m.addr.toNat := ⟨_, rfl⟩
  obtain ⟨kk, hkk⟩ : ∃ n : Nat, n = m.count.toNat := ⟨_, rfl⟩
  have k4 : w.cell? ⟨gm, 2, none⟩ = some (.int .u16 (ka : Int)) := by rw [hka]; exact HM.out.c_addr
  have k5 : w.cell? ⟨gm, 3, none⟩ = some (.int .u16 (kk : Int)) := by rw [hkk]; exact HM.out.c_count
  have bk : kk < 65536 := by rw [hkk]; exact word_lt _
  have ba : ka < 65536 := by rw [hka]; exact word_lt _
  have HE : Hid ([m.addr, m.count] = [UInt16.ofNat ka, UInt16.ofNat kk]) := hide (by rw [hka, hkk]; simp)
  rw [HE.out]
  clear hka hkk HE
  have ne1 := World.new_ne w _ k4
  have ne2 := World.new_ne w _ k5
  have hal := ((Below.refl w.heap.size w).alloc (Nat.le_refl _) (.cells #[.int .u16 (ka : Int), .int .u16 (kk : Int)] 24)).drew
  have hlit := (two_own16 w (ka : Int) (kk : Int) ka kk rfl rfl ba bk 24).sl.drew
  go_enter Try.func37, Try.ntmps37
  go_upto_region 1 with fail
  go_region_held3 (fun w' => w'.cell? ⟨gm, 2, none⟩ = some (.int .u16 (ka : Int)) ∧ w'.cell? ⟨gm, 3, none⟩ = some (.int .u16 (kk : Int)))
    (first
      | go_keep
      | (go_split_ands
         refine ⟨?_, ?_⟩
         · (rw [hb2.cell (p := ⟨gm, 2, none⟩) (Nat.lt_of_lt_of_le HM.out.lt hal.size)]; assumption)
         · (rw [hb2.cell (p := ⟨gm, 3, none⟩) (Nat.lt_of_lt_of_le HM.out.lt hal.size)]; assumption)))
    (first
      | (go_at_call 63; refine (put_any _ _ _ _ _ hlit (by omega)).mono ?_; rintro r w2 ⟨⟨a2, c2, rfl, hx2⟩, hb2⟩))
  go_wp2
  go_ret
  exact ⟨⟨a2, c2, rfl, hx2.base hal.size⟩, hal.trans (hb2.mono hal.size)⟩

set_option maxRecDepth 20000 in
set_option maxHeartbeats 2000000 in
theorem writeOne_any (gm : Nat) (m : MsgM) (w : World) (hm : CM w gm m) :
    Calls Try.prog 41 #[ptrV gm] w fun e w' => (∃ a' c', e = .returned (.slice a' 4 c') ∧ Own byteV w' w.heap.size a' 4 c' (putW [m.addr, m.value])) ∧ Below w.heap.size w w' := by
  have HM := hide hm
  clear hm
  obtain ⟨ka, hka⟩ : ∃ n : Nat, n = m.addr.toNat := ⟨_, rfl⟩
  obtain ⟨kk, hkk⟩ : ∃ n : Nat, n = m.value.toNat := ⟨_, rfl⟩
  have k4 : w.cell? ⟨gm, 2, none⟩ = some (.int .u16 (ka : Int)) := by rw [hka]; exact HM.out.c_addr
  have k5 : w.cell? ⟨gm, 4, none⟩ = some (.int .u16 (kk : Int)) := by rw [hkk]; exact HM.out.c_value
  have bk : kk < 65536 := by rw [hkk]; exact word_lt _
  have ba : ka < 65536 := by rw [hka]; exact word_lt _
  have HE : Hid ([m.addr, m.value] = [UInt16.ofNat ka, UInt16.ofNat kk]) := hide (by rw [hka, hkk]; simp)
  rw [HE.out]
  clear hka hkk HE
  have ne1 := World.new_ne w _ k4
  have ne2 := World.new_ne w _ k5
  have hal := ((Below.refl w.heap.size w).alloc (Nat.le_refl _) (.cells #[.int .u16 (ka : Int), .int .u16 (kk : Int)] 24)).drew
  have hlit := (two_own16 w (ka : Int) (kk : Int) ka kk rfl rfl ba bk 24).sl.drew
  go_enter Try.func41, Try.ntmps41
  go_upto_region 1 with fail
  go_region_held3 (fun w' => w'.cell? ⟨gm, 2, none⟩ = some (.int .u16 (ka : Int)) ∧ w'.cell? ⟨gm, 4, none⟩ = some (.int .u16 (kk : Int)))
    (first
      | go_keep
      | (go_split_ands
         refine ⟨?_, ?_⟩
         · (rw [hb2.cell (p := ⟨gm, 2, none⟩) (Nat.lt_of_lt_of_le HM.out.lt hal.size)]; assumption)
         · (rw [hb2.cell (p := ⟨gm, 4, none⟩) (Nat.lt_of_lt_of_le HM.out.lt hal.size)]; assumption)))
    (first
      | (go_at_call 63; refine (put_any _ _ _ _ _ hlit (by omega)).mono ?_; rintro r w2 ⟨⟨a2, c2, rfl, hx2⟩, hb2⟩))
  go_wp2
  go_ret
  exact ⟨⟨a2, c2, rfl, hx2.base hal.size⟩, hal.trans (hb2.mono hal.size)⟩

theorem writeData_any (gm : Nat) (m : MsgM) (w : World) (hm : CM w gm m) (hl : m.data.length ≤ 100000) :
    Calls Try.prog 39 #[ptrV gm] w fun e w' => (∃ a' c', e = .returned (.slice a' (m.data.length + 1) c') ∧ Own byteV w' w.heap.size a' (m.data.length + 1) c' (Coils.counted [] m.data)) ∧ Below w.heap.size w w' := by
  obtain ⟨a1, l1, c1, k1, hx1⟩ := hm.c_data
  have HX := hide hx1
  have HL := hide hx1.hlen
  have h1 : l1 ≤ 100000 := by rw [← hx1.hlen]; exact hl
  clear hm hx1 hl
  rw [HL.out]
  go_enter Try.func39, Try.ntmps39
  go_wp2_with fail
  refine (counted_any w.heap.size w.heap.size none a1 0 0 l1 c1 [] m.data w (Own.empty _ _ _) (fun _ _ h => by cases h) HX.out (fun _ b _ _ h => by omega) (Nat.le_refl _) (by omega) h1).mono ?_
  rintro r w2 ⟨⟨a2, c2, rfl, hx2⟩, hb2⟩
  go_wp2
  go_ret
  rw [show 0 + 1 + l1 = l1 + 1 by omega] at hx2 ⊢
  exact ⟨⟨a2, c2, rfl, hx2⟩, hb2⟩

set_option maxRecDepth 20000 in
set_option maxHeartbeats 2000000 in
theorem writeSome_any (gm : Nat) (m : MsgM) (w : World) (hm : CM w gm m) (hl : m.bits.length ≤ 100000) :
    Calls Try.prog 43 #[ptrV gm] w fun e w' => (∃ a' c', e = .returned (.slice a' (5 + many m.bits.length) c') ∧ Own byteV w' w.heap.size a' (5 + many m.bits.length) c' (Coils.counted (putW [m.addr, m.count]) (packB m.bits))) ∧ Below w.heap.size w w' := by
  obtain ⟨a0, l0, c0, k0, hx0⟩ := hm.c_bits
  have HX := hide hx0
  have hl0 := hx0.hlen
  have h1 : l0 ≤ 100000 := by rw [← hx0.hlen]; exact hl
  have HMd := hide (hm.mono (Below.refl _ _).drew)
  have HXd := hide (hx0.mono (Below.refl _ _).drew)
  have k0d : w.drew.cell? ⟨gm, 13, none⟩ = some (.slice a0 l0 c0) := k0
  have hlt := hm.lt
  rw [hl0]
  clear hm hx0 hl hl0
  have hm1 : many l0 ≤ 100000 := by unfold many; omega
  go_enter Try.func43, Try.ntmps43
  go_upto_region 1 with fail
  go_region_held3 (fun w' => w'.cell? ⟨gm, 13, none⟩ = some (.slice a0 l0 c0))
    (first
      | go_keep
      | (rw [hb1.cell (p := ⟨gm, 13, none⟩) hlt]; assumption)
      | (rw [hb2.cell (p := ⟨gm, 13, none⟩) (Nat.lt_of_lt_of_le hlt hb1.size)]; assumption)
      | (rw [hb3.cell (p := ⟨gm, 13, none⟩) hlt]; assumption))
    (first
      | (go_at_call 37; refine (writePlaces_any gm m _ HMd.out).mono ?_; rintro r w1 ⟨⟨a1, c1, rfl, hx1⟩, hb1⟩)
      | (go_at_call 70; refine (pack_any _ _ _ _ _ (HXd.out.mono hb1) h1).mono ?_; rintro r w2 ⟨⟨a2, c2, rfl, hx2⟩, hb2⟩)
      | (go_at_call 66
         obtain ⟨g, off, hag, hgl, hgs, _⟩ := hx1.room 0 (by have := hx1.sl.hle; omega)
         have hb13 : Below w.heap.size w w2 := ((Below.refl _ w).drew.trans hb1).trans (hb2.mono hb1.size)
         refine (counted_any w.heap.size g a1 a2 4 c1 (many l0) c2 _ _ _ (hx1.mono hb2) (fun b off h => by rw [hag] at h; cases h; rfl) hx2.sl (fun hz b off h hb => by
           intro hbg
           obtain ⟨b', off', h', hB', _⟩ := hx2.room 0 (by have := hx2.sl.hle; omega)
           rw [h] at h'
           cases h'
           omega) hb13.size (by omega) hm1).mono ?_
         rintro r w3 ⟨⟨a3, c3, rfl, hx3⟩, hb3⟩))
  have hB3 := hb13.trans hb3
  clear hx1 hx2 hb1 hb2 hb3
  go_wp2
  go_ret
  exact ⟨⟨a3, c3, rfl, hx3⟩, hB3⟩

end Go.Proofs.Ytgacfocbdeohaaa
