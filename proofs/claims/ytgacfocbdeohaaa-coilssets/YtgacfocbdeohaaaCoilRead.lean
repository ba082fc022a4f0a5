/-
  Package coils: the contracts of the reads.
-/
import Derived.Test.YtgacfocbdeohaaaCoilMath
import Derived.Test.YtgacfocbdeohaaaMsgBox
import Derived.Test.YtgacfocbdeohaaaWordPut
import Derived.Test.YtgacfocbdeohaaaBits
import Derived.Test.YtgacfocbdeohaaaCoilForms
import Derived.Test.YtgacfocbdeohaaaCursorOwn
import Derived.BigRegion
import Derived.Deep.CutBlock
import Derived.Deep.DeepCutAuto
namespace Go.Proofs.Ytgacfocbdeohaaa
open Go.RowKit
open Word Bits Cursor

theorem word_any' (g : Nat) (c : St) (w : World) (h : Cur w g c) :
    Calls Try.prog 67 #[ptrV g] w fun r w' => r = .returned (wordV c.word) ∧ Cur w' g c.afterW ∧ But g w w' := by
  refine (word_any g c w h).mono ?_
  rintro r w1 ⟨rfl, h1, h2⟩
  exact ⟨by rw [wordV_word], h1, h2⟩
theorem byte_any' (g : Nat) (c : St) (w : World) (h : Cur w g c) :
    Calls Try.prog 64 #[ptrV g] w fun r w' => r = .returned (byteV c.byte) ∧ Cur w' g c.afterB ∧ But g w w' := by
  refine (byte_any g c w h).mono ?_
  rintro r w1 ⟨rfl, h1, h2⟩
  exact ⟨by rw [byteV_byte], h1, h2⟩
/-- A cursor beside a cell that is no byte and is written. -/
theorem Cur.cellSet {w : World} {g : Nat} {c : St} (h : Cur w g c) {p : Addr} (hn : g ≠ p.block) {u : Value} (hp : w.cell? p = some u) (hu : ∀ x, u ≠ byteV x) (v : Value) : Cur (w.setCell p v) g c := by
  obtain ⟨a, len, cap, hg, hx, hl⟩ := h
  exact ⟨a, len, cap, (Below.heap_setCell _ _ _ _ hn).trans hg, hx.cellSet hp hu v, hl⟩

abbrev CM := MB 47

/-- The bytes that a cursor tells are memory of its own. -/
theorem bytes_own (g : Nat) (c : St) (n : Int) (w : World) (h : Cur w g c) :
    Calls Try.prog 65 #[.pointer (some ⟨g, 0, none⟩), .int .i64 n] w fun r w' =>
      (∃ a cap, r = .returned (.slice a (c.got n 1).length cap) ∧ Own byteV w' w.heap.size a (c.got n 1).length cap (c.got n 1)) ∧ Cur w' g (c.next n 1) ∧ But g w w' := by
  have hs := Nat.le_trans (St.got_length c n 1) h.small
  have H := hide h
  obtain ⟨a0, l0, c0, hg, _, _⟩ := h
  have c3 := cur_c3 hg
  clear hg
  go_enter Try.func65, Try.ntmps65
  go_wp2_with fail
  refine (ctake_any g c n 1 (.inl rfl) w H.out).mono ?_
  rintro r w1 ⟨⟨a1, c1, rfl, hx1⟩, hc1, hb1⟩
  go_wp2_with fail
  refine (clone_own _ _ _ _ _ hx1 hs).mono ?_
  rintro r w2 ⟨⟨a2, c2, rfl, hx2⟩, hb2⟩
  go_wp2
  go_ret
  exact ⟨⟨a2, c2, rfl, ⟨hx2.sl, fun i hi => by
    obtain ⟨b, off, h1, h2, h3⟩ := hx2.room i hi
    exact ⟨b, off, h1, Nat.le_trans hb1.size h2, h3⟩⟩⟩, hc1.mono hb2, hb1.trans (But.of hb2)⟩

/-- A list of a message, if it has one, lies from block 'S' on. -/
def SideAt (w : World) (g k S : Nat) : Prop := ∃ a l c, w.cell? ⟨g, k, none⟩ = some (.slice a l c) ∧ (0 < l → ∀ b off, a = some ⟨b, off, none⟩ → S ≤ b)
theorem SideAt.data {t : TypeId} {w : World} {g : Nat} {m : MsgM} (h : MB t w g m) (hd : m.data = []) (S : Nat) : SideAt w g 14 S := by
  obtain ⟨a, l, c, hc, hx⟩ := h.c_data
  refine ⟨a, l, c, hc, fun hl => ?_⟩
  have := hx.hlen
  rw [hd] at this
  simp at this
  omega
theorem SideAt.bits {t : TypeId} {w : World} {g : Nat} {m : MsgM} (h : MB t w g m) (hd : m.bits = []) (S : Nat) : SideAt w g 13 S := by
  obtain ⟨a, l, c, hc, hx⟩ := h.c_bits
  refine ⟨a, l, c, hc, fun hl => ?_⟩
  have := hx.hlen
  rw [hd] at this
  simp at this
  omega

/-- Where a slice that a call made lies. -/
theorem own_block {α : Type} {f : α → Value} {w : World} {B : Nat} {a : Option Addr} {len cap : Nat} {xs : List α} (h : Own f w B a len cap xs) (h0 : 0 < len) (b off : Nat) (e : a = some ⟨b, off, none⟩) : B ≤ b := by
  obtain ⟨b', off', e', h1, _⟩ := h.room 0 (Nat.lt_of_lt_of_le h0 h.sl.hle)
  rw [e] at e'
  cases e'
  exact h1

set_option maxRecDepth 20000 in
set_option maxHeartbeats 2000000 in
theorem readPlaces_any (gm gc B : Nat) (m : MsgM) (c : St) (most : Nat) (_hmost : most < 65536) (w : World) (hm : CM w gm m) (hb : m.Bare) (hc : Cur w gc c) (hn : gm ≠ gc) (hB1 : B ≤ gm) (hB2 : B ≤ gc) :
    Calls Try.prog 62 #[ptrV gm, ptrV gc, .int .u16 (most : Int)] w fun e w' =>
      e = .returned (.tuple #[]) ∧ CM w' gm (Coils.readPlaces most (m, c)).1 ∧ Cur w' gc (Coils.readPlaces most (m, c)).2 ∧ Below B w w' := by
  have HM := hide hm
  have HC := hide hc
  have HB := hide hb
  clear hm hc hb
  obtain ⟨R, hR⟩ : ∃ R, R = Coils.readPlaces most (m, c) := ⟨_, rfl⟩
  rw [← hR]
  have HR := hide hR
  clear hR
  have z0 : B ≤ w.heap.size := Nat.le_trans hB1 (Nat.le_of_lt HM.out.lt)
  go_enter Try.func62, Try.ntmps62
  go_wp2_with fail
  refine (word_any' gc c w HC.out).mono ?_
  rintro r w1 ⟨rfl, hc1, hb1⟩
  have hm1 := HM.out.but HB.out hn hb1
  have f1 := hm1.fr 2
  have k1 := hm1.c_addr
  have HB1 := hide (But.below hb1 hB2 z0)
  have HM2 := hide (hm1.set_addr HB.out c.word)
  have HC2 := hide (hc1.cellSet (p := ⟨gm, 2, none⟩) (Ne.symm hn) k1 (fun x h => by cases h) (wordV c.word))
  replace HB1 := hide (HB1.out.setCell (p := ⟨gm, 2, none⟩) hB1 (wordV c.word))
  clear hm1 hc1 hb1
  go_wp2_with fail
  generalize w1.setCell ⟨gm, 2, none⟩ (wordV c.word) = w2 at *
  clear f1 k1
  refine (word_any' gc c.afterW w2 HC2.out).mono ?_
  rintro r w3 ⟨rfl, hc3, hb3⟩
  have hm3 := HM2.out.but HB.out hn hb3
  have f3 := hm3.fr 3
  have k3 := hm3.c_count
  have z2 : B ≤ w2.heap.size := Nat.le_trans hB1 (Nat.le_of_lt HM2.out.lt)
  have HB3 := hide (HB1.out.trans (But.below hb3 hB2 z2))
  have HM4 := hide (hm3.set_count HB.out c.afterW.word)
  have HC4 := hide (hc3.cellSet (p := ⟨gm, 3, none⟩) (Ne.symm hn) k3 (fun x h => by cases h) (wordV c.afterW.word))
  replace HB3 := hide (HB3.out.setCell (p := ⟨gm, 3, none⟩) hB1 (wordV c.afterW.word))
  clear hm3 hc3 hb3 HB1 HM2 HC2
  go_upto_region 2 with fail
  generalize w3.setCell ⟨gm, 3, none⟩ (wordV c.afterW.word) = w4 at *
  clear f3 k3
  obtain ⟨ka, hka⟩ : ∃ n : Nat, n = c.word.toNat := ⟨_, rfl⟩
  obtain ⟨kk, hkk⟩ : ∃ n : Nat, n = c.afterW.word.toNat := ⟨_, rfl⟩
  have k4 : w4.cell? ⟨gm, 2, none⟩ = some (.int .u16 (ka : Int)) := by rw [hka]; exact HM4.out.c_addr
  have k5 : w4.cell? ⟨gm, 3, none⟩ = some (.int .u16 (kk : Int)) := by rw [hkk]; exact HM4.out.c_count
  have z4 : B ≤ w4.heap.size := Nat.le_trans hB1 (Nat.le_of_lt HM4.out.lt)
  have bk : kk < 65536 := by rw [hkk]; exact word_lt _
  have ba : ka < 65536 := by rw [hka]; exact word_lt _
  have HE : Hid (R = ((m.put_addr c.word).put_count c.afterW.word, (c.afterW.afterW.need (decide (1 ≤ kk) && decide (kk ≤ most)) 5).need (within ka (kk : Int)) 7)) := hide (by rw [HR.out, hka, hkk]; rfl)
  clear hka hkk HR
  have HBm := hide ((HB.out.put_addr c.word).put_count c.afterW.word)
  generalize (m.put_addr c.word).put_count c.afterW.word = m4 at *
  generalize c.afterW.afterW = c4 at *
  generalize wordV c.word = x1 at *
  generalize wordV c.afterW.word = x2 at *
  by_cases h1 : 1 ≤ kk
  · go_wp2_with fail
    refine (need_any gc c4 _ _ w4 HC4.out).mono ?_
    rintro r w5 ⟨rfl, hc5, hb5⟩
    have HM5 := hide (HM4.out.but HBm.out hn hb5)
    have k6 := (hb5.cell (p := ⟨gm, 2, none⟩) HM4.out.lt hn).trans k4
    have k7 := (hb5.cell (p := ⟨gm, 3, none⟩) HM4.out.lt hn).trans k5
    have HB5 := hide (HB3.out.trans (But.below hb5 hB2 z4))
    have hcd := hc5.mono (Below.refl _ _).drew
    have hwk : IntKind.i64.wrap (kk : Int) = (kk : Int) := by rw [IntKind.wrap_i64]; omega
    have hwf : (Lit.int .i64 (kk : Int)).wf = true := WalkArith.wf_i64 (by omega)
    clear hb5 k4 k5 hc5
    go_upto_region 3 with fail
    go_region_held3 (fun w' => w'.cell? ⟨gm, 2, none⟩ = some (.int .u16 (ka : Int)) ∧ w'.cell? ⟨gm, 3, none⟩ = some (.int .u16 (kk : Int)))
      (first
        | go_keep
        | (go_split_ands
           refine ⟨?_, ?_⟩
           · (rw [hb6.cell (p := ⟨gm, 2, none⟩) HM5.out.lt hn]; assumption)
           · (rw [hb6.cell (p := ⟨gm, 3, none⟩) HM5.out.lt hn]; assumption)))
      (first
        | (go_at_call 72; refine (within_any ka ba (kk : Int) hwf _).mono ?_; rintro r w6 ⟨rfl, rfl⟩)
        | (go_at_call 47; refine (need_any gc _ _ _ _ hcd).mono ?_; rintro r w6 ⟨rfl, hc6, hb6⟩))
    have HM6 := (HM5.out.mono (Below.refl _ _).drew).but HBm.out hn hb6
    have HB6 := HB5.out.drew.trans (But.below hb6 hB2 (Nat.le_trans hB1 (Nat.le_of_lt HM5.out.lt)))
    go_end0
    rw [HE.out]
    exact ⟨rfl, HM6, by simpa [h1] using hc6, HB6⟩
  · go_wp2_with fail
    refine (need_any gc c4 _ _ w4 HC4.out).mono ?_
    rintro r w5 ⟨rfl, hc5, hb5⟩
    have HM5 := hide (HM4.out.but HBm.out hn hb5)
    have k6 := (hb5.cell (p := ⟨gm, 2, none⟩) HM4.out.lt hn).trans k4
    have k7 := (hb5.cell (p := ⟨gm, 3, none⟩) HM4.out.lt hn).trans k5
    have HB5 := hide (HB3.out.trans (But.below hb5 hB2 z4))
    have hcd := hc5.mono (Below.refl _ _).drew
    have hwk : IntKind.i64.wrap (kk : Int) = (kk : Int) := by rw [IntKind.wrap_i64]; omega
    have hwf : (Lit.int .i64 (kk : Int)).wf = true := WalkArith.wf_i64 (by omega)
    clear hb5 k4 k5 hc5
    go_upto_region 3 with fail
    go_region_held3 (fun w' => w'.cell? ⟨gm, 2, none⟩ = some (.int .u16 (ka : Int)) ∧ w'.cell? ⟨gm, 3, none⟩ = some (.int .u16 (kk : Int)))
      (first
        | go_keep
        | (go_split_ands
           refine ⟨?_, ?_⟩
           · (rw [hb6.cell (p := ⟨gm, 2, none⟩) HM5.out.lt hn]; assumption)
           · (rw [hb6.cell (p := ⟨gm, 3, none⟩) HM5.out.lt hn]; assumption)))
      (first
        | (go_at_call 72; refine (within_any ka ba (kk : Int) hwf _).mono ?_; rintro r w6 ⟨rfl, rfl⟩)
        | (go_at_call 47; refine (need_any gc _ _ _ _ hcd).mono ?_; rintro r w6 ⟨rfl, hc6, hb6⟩))
    have HM6 := (HM5.out.mono (Below.refl _ _).drew).but HBm.out hn hb6
    have HB6 := HB5.out.drew.trans (But.below hb6 hB2 (Nat.le_trans hB1 (Nat.le_of_lt HM5.out.lt)))
    go_end0
    rw [HE.out]
    exact ⟨rfl, HM6, by simpa [h1] using hc6, HB6⟩

theorem readAsked_any (gm gc B : Nat) (m : MsgM) (c : St) (w : World) (hm : CM w gm m) (hb : m.Bare) (hc : Cur w gc c) (hn : gm ≠ gc) (hB1 : B ≤ gm) (hB2 : B ≤ gc) :
    Calls Try.prog 36 #[ptrV gm, ptrV gc] w fun e w' =>
      e = .returned (.tuple #[]) ∧ CM w' gm (Coils.readPlaces 2000 (m, c)).1 ∧ Cur w' gc (Coils.readPlaces 2000 (m, c)).2 ∧ Below B w w' := by
  go_enter Try.func36, Try.ntmps36
  go_wp2_with fail
  refine (readPlaces_any gm gc B m c 2000 (by omega) w hm hb hc hn hB1 hB2).mono ?_
  rintro r w1 ⟨rfl, h1, h2, h3⟩
  go_wp2
  go_end0
  exact ⟨rfl, h1, h2, h3⟩

theorem readSet_any (gm gc B : Nat) (m : MsgM) (c : St) (w : World) (hm : CM w gm m) (hb : m.Bare) (hc : Cur w gc c) (hn : gm ≠ gc) (hB1 : B ≤ gm) (hB2 : B ≤ gc) :
    Calls Try.prog 44 #[ptrV gm, ptrV gc] w fun e w' =>
      e = .returned (.tuple #[]) ∧ CM w' gm (Coils.readPlaces 1968 (m, c)).1 ∧ Cur w' gc (Coils.readPlaces 1968 (m, c)).2 ∧ Below B w w' := by
  go_enter Try.func44, Try.ntmps44
  go_wp2_with fail
  refine (readPlaces_any gm gc B m c 1968 (by omega) w hm hb hc hn hB1 hB2).mono ?_
  rintro r w1 ⟨rfl, h1, h2, h3⟩
  go_wp2
  go_end0
  exact ⟨rfl, h1, h2, h3⟩

set_option maxRecDepth 20000 in
set_option maxHeartbeats 2000000 in
theorem readOne_any (gm gc B : Nat) (m : MsgM) (c : St) (w : World) (hm : CM w gm m) (hb : m.Bare) (hc : Cur w gc c) (hn : gm ≠ gc) (hB1 : B ≤ gm) (hB2 : B ≤ gc) :
    Calls Try.prog 40 #[ptrV gm, ptrV gc] w fun e w' =>
      e = .returned (.tuple #[]) ∧ CM w' gm (Coils.readOne (m, c)).1 ∧ Cur w' gc (Coils.readOne (m, c)).2 ∧ Below B w w' := by
  have HM := hide hm
  have HC := hide hc
  have HB := hide hb
  clear hm hc hb
  obtain ⟨R, hR⟩ : ∃ R, R = Coils.readOne (m, c) := ⟨_, rfl⟩
  rw [← hR]
  have HR := hide hR
  clear hR
  have z0 : B ≤ w.heap.size := Nat.le_trans hB1 (Nat.le_of_lt HM.out.lt)
  go_enter Try.func40, Try.ntmps40
  go_wp2_with fail
  refine (word_any' gc c w HC.out).mono ?_
  rintro r w1 ⟨rfl, hc1, hb1⟩
  have hm1 := HM.out.but HB.out hn hb1
  have f1 := hm1.fr 2
  have k1 := hm1.c_addr
  have HB1 := hide (But.below hb1 hB2 z0)
  have HM2 := hide (hm1.set_addr HB.out c.word)
  have HC2 := hide (hc1.cellSet (p := ⟨gm, 2, none⟩) (Ne.symm hn) k1 (fun x h => by cases h) (wordV c.word))
  replace HB1 := hide (HB1.out.setCell (p := ⟨gm, 2, none⟩) hB1 (wordV c.word))
  clear hm1 hc1 hb1
  go_wp2_with fail
  generalize w1.setCell ⟨gm, 2, none⟩ (wordV c.word) = w2 at *
  clear f1 k1
  refine (word_any' gc c.afterW w2 HC2.out).mono ?_
  rintro r w3 ⟨rfl, hc3, hb3⟩
  have hm3 := HM2.out.but HB.out hn hb3
  have f3 := hm3.fr 4
  have k3 := hm3.c_value
  have z2 : B ≤ w2.heap.size := Nat.le_trans hB1 (Nat.le_of_lt HM2.out.lt)
  have HB3 := hide (HB1.out.trans (But.below hb3 hB2 z2))
  have HM4 := hide (hm3.set_value HB.out c.afterW.word)
  have HC4 := hide (hc3.cellSet (p := ⟨gm, 4, none⟩) (Ne.symm hn) k3 (fun x h => by cases h) (wordV c.afterW.word))
  replace HB3 := hide (HB3.out.setCell (p := ⟨gm, 4, none⟩) hB1 (wordV c.afterW.word))
  clear hm3 hc3 hb3 HB1 HM2 HC2
  go_upto_region 2 with fail
  generalize w3.setCell ⟨gm, 4, none⟩ (wordV c.afterW.word) = w4 at *
  clear f3 k3
  obtain ⟨kk, hkk⟩ : ∃ n : Nat, n = c.afterW.word.toNat := ⟨_, rfl⟩
  have k5 : w4.cell? ⟨gm, 4, none⟩ = some (.int .u16 (kk : Int)) := by rw [hkk]; exact HM4.out.c_value
  have z4 : B ≤ w4.heap.size := Nat.le_trans hB1 (Nat.le_of_lt HM4.out.lt)
  have bk : kk < 65536 := by rw [hkk]; exact word_lt _
  have HE : Hid (R = ((m.put_addr c.word).put_value c.afterW.word, c.afterW.afterW.need (decide (kk = 0) || decide (kk = 65280)) 6)) := hide (by rw [HR.out, hkk]; rfl)
  clear hkk HR
  have HBm := hide ((HB.out.put_addr c.word).put_value c.afterW.word)
  generalize (m.put_addr c.word).put_value c.afterW.word = m4 at *
  generalize c.afterW.afterW = c4 at *
  generalize wordV c.word = x1 at *
  generalize wordV c.afterW.word = x2 at *
  by_cases h1 : kk = 0
  · go_wp2_with fail
    refine (need_any gc c4 _ _ w4 HC4.out).mono ?_
    rintro r w5 ⟨rfl, hc5, hb5⟩
    have HM5 := HM4.out.but HBm.out hn hb5
    have HB5 := HB3.out.trans (But.below hb5 hB2 z4)
    go_wp2
    go_end0
    rw [HE.out]
    exact ⟨rfl, HM5, by simpa [h1] using hc5, HB5⟩
  · go_wp2_with fail
    refine (need_any gc c4 _ _ w4 HC4.out).mono ?_
    rintro r w5 ⟨rfl, hc5, hb5⟩
    have HM5 := HM4.out.but HBm.out hn hb5
    have HB5 := HB3.out.trans (But.below hb5 hB2 z4)
    go_wp2
    go_end0
    rw [HE.out]
    have he : ((kk : Int) == 0 || (kk : Int) == 65280) = (decide (kk = 0) || decide (kk = 65280)) := by rw [Bool.eq_iff_iff]; simp; omega
    exact ⟨rfl, HM5, by first | exact hc5 | (rw [← he]; exact hc5) | (simp only [he] at hc5; exact hc5), HB5⟩

set_option maxRecDepth 20000 in
set_option maxHeartbeats 2000000 in
theorem readData_any (gm gc B : Nat) (m : MsgM) (c : St) (w : World) (hm : CM w gm m) (hb : m.Bare) (hc : Cur w gc c) (hn : gm ≠ gc) (hB1 : B ≤ gm) (hB2 : B ≤ gc) :
    Calls Try.prog 38 #[ptrV gm, ptrV gc] w fun e w' =>
      e = .returned (.tuple #[]) ∧ CM w' gm (Coils.readData (m, c)).1 ∧ Cur w' gc (Coils.readData (m, c)).2 ∧ Below B w w' ∧ SideAt w' gm 14 w.heap.size := by
  have HM := hide hm
  have HC := hide hc
  have HB := hide hb
  clear hm hc hb
  obtain ⟨R, hR⟩ : ∃ R, R = Coils.readData (m, c) := ⟨_, rfl⟩
  rw [← hR]
  have HR := hide hR
  clear hR
  have z0 : B ≤ w.heap.size := Nat.le_trans hB1 (Nat.le_of_lt HM.out.lt)
  go_enter Try.func38, Try.ntmps38
  go_wp2_with fail
  refine (byte_any' gc c w HC.out).mono ?_
  rintro r w1 ⟨rfl, hc1, hb1⟩
  have HM1 := hide (HM.out.but HB.out hn hb1)
  have HB1 := hide (But.below hb1 hB2 z0)
  have HC1 := hide hc1
  clear hc1 hb1
  obtain ⟨kk, hkk⟩ : ∃ n : Nat, n = c.byte.toNat := ⟨_, rfl⟩
  have bk : kk < 256 := by rw [hkk]; exact byte_lt _
  have HE : Hid (R = (m.put_data ((c.afterB.need (decide (1 ≤ kk) && decide (kk ≤ 250)) 5).got (kk : Int) 1), (c.afterB.need (decide (1 ≤ kk) && decide (kk ≤ 250)) 5).next (kk : Int) 1)) := hide (by rw [HR.out, hkk]; rfl)
  rw [show byteV c.byte = .int .u8 (kk : Int) by rw [hkk]]
  clear hkk HR
  have z1 : B ≤ w1.heap.size := Nat.le_trans hB1 (Nat.le_of_lt HM1.out.lt)
  have hwk : IntKind.i64.wrap (kk : Int) = (kk : Int) := by rw [IntKind.wrap_i64]; omega
  obtain ⟨ok, hok⟩ : ∃ b : Bool, b = (decide (1 ≤ kk) && decide (kk ≤ 250)) := ⟨_, rfl⟩
  rw [← hok] at HE
  have he : decide ((kk : Int) ≤ 250) = decide (kk ≤ 250) := by rw [Bool.eq_iff_iff]; simp; omega
  have HQ := hide he
  clear he
  by_cases h1 : 1 ≤ kk
  all_goals
    go_wp2_with fail
    refine (need_any gc c.afterB _ _ w1 HC1.out).mono ?_
    rintro r w2 ⟨rfl, hc2, hb2⟩
    have hc2' : Cur w2 gc (c.afterB.need ok 5) := by rw [hok]; first | (simpa [h1, HQ.out] using hc2) | (simpa [h1] using hc2)
    have HM2 := hide (HM1.out.but HB.out hn hb2)
    have HB2 := hide (HB1.out.trans (But.below hb2 hB2 z1))
    have HZ2 := hide (HB2.out.size)
    clear hb2 hc2
    go_wp2_with fail
    refine (bytes_own gc _ (kk : Int) w2 hc2').mono ?_
    rintro r w3 ⟨⟨a3, c3, rfl, ho3⟩, hc3, hb3⟩
    have hx3 := ho3.sl
    have HS3 := hide (fun (h0 : 0 < _) b off e => Nat.le_trans HZ2.out (own_block ho3 h0 b off e))
    clear ho3
    generalize (c.afterB.need ok 5).got (kk : Int) 1 = D at *
    generalize (c.afterB.need ok 5).next (kk : Int) 1 = N at *
    have HM3 := hide (HM2.out.but HB.out hn hb3)
    have HB3 := hide (HB2.out.trans (But.below hb3 hB2 (Nat.le_trans hB1 (Nat.le_of_lt HM2.out.lt))))
    obtain ⟨ad, ld, cd, k4, _⟩ := HM3.out.c_data
    have f4 := HM3.out.fr 14
    have HM4 := hide (HM3.out.set_data HB.out hx3)
    have HC4 := hide (hc3.cellSet (p := ⟨gm, 14, none⟩) (Ne.symm hn) k4 (fun x h => by cases h) (.slice a3 D.length c3))
    have HB4 := hide (HB3.out.setCell (p := ⟨gm, 14, none⟩) hB1 (.slice a3 D.length c3))
    have HD4 := hide (World.cell?_setCell_same' w3 ⟨gm, 14, none⟩ (.slice a3 D.length c3) (by rw [k4]; rfl))
    clear hx3 hc3 hb3 hc2' hok
    go_wp2
    go_end0
    rw [HE.out]
    exact ⟨rfl, HM4.out, HC4.out, HB4.out, _, _, _, HD4.out, HS3.out⟩

end Go.Proofs.Ytgacfocbdeohaaa
