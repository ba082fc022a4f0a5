/-
  Package coils: the contract of readSome.
-/
import Derived.Test.YtgacfocbdeohaaaCoilRead
namespace Go.Proofs.Ytgacfocbdeohaaa
open Go.RowKit
open Word Bits Cursor

/-- What the call made itself stays, while an elder block is written. -/
theorem Own.but {α : Type} {f : α → Value} {w w' : World} {B : Nat} {a : Option Addr} {len cap : Nat} {xs : List α} (h : Own f w B a len cap xs) {g : Nat} (hg : g < B) (hb : But g w w') : Sl f w' a len cap xs :=
  ⟨h.sl.hlen, h.sl.hle, h.sl.hmax, fun i hi => by
    obtain ⟨b, off, ha, hlt, hc⟩ := h.sl.hcell i hi
    obtain ⟨b', off', ha', hB, _⟩ := h.room i (by have := h.sl.hlen; have := h.sl.hle; omega)
    rw [ha] at ha'
    cases ha'
    exact ⟨b, off, ha, Nat.lt_of_lt_of_le hlt hb.size, (hb.cell (p := ⟨b, off + i, none⟩) hlt (by show b ≠ g; omega)).trans hc⟩⟩

set_option maxRecDepth 20000 in
set_option maxHeartbeats 2000000 in
theorem readSome_any (gm gc B : Nat) (m : MsgM) (c : St) (w : World) (hm : CM w gm m) (hb : m.Bare) (hc : Cur w gc c) (hn : gm ≠ gc) (hB1 : B ≤ gm) (hB2 : B ≤ gc) :
    Calls Try.prog 42 #[ptrV gm, ptrV gc] w fun e w' =>
      e = .returned (.tuple #[]) ∧ CM w' gm (Coils.readSome (m, c)).1 ∧ Cur w' gc (Coils.readSome (m, c)).2 ∧ Below B w w' ∧ SideAt w' gm 13 w.heap.size := by
  have HB := hide hb
  unfold Coils.readSome
  go_enter Try.func42, Try.ntmps42
  go_wp2_with fail
  refine (readSet_any gm gc B m c w hm hb hc hn hB1 hB2).mono ?_
  rintro r w1 ⟨rfl, hm1, hc1, hbl1⟩
  have hb1 : (Coils.readPlaces 1968 (m, c)).1.Bare := HB.out
  clear hm hc hb HB
  generalize hP : Coils.readPlaces 1968 (m, c) = P at *
  have HP := hide hP
  clear hP
  obtain ⟨m1, c1⟩ := P
  have HM1 := hide hm1
  have HBm := hide hb1
  have HBl := hide hbl1
  have z1 : B ≤ w1.heap.size := Nat.le_trans hB1 (Nat.le_of_lt hm1.lt)
  clear hm1 hb1 hbl1
  go_wp2_with fail
  refine (byte_any' gc c1 w1 hc1).mono ?_
  rintro r w2 ⟨rfl, hc2, hb2⟩
  have HM2 := hide (HM1.out.but HBm.out hn hb2)
  have HB2 := hide (HBl.out.trans (But.below hb2 hB2 z1))
  clear hb2 hc1
  obtain ⟨nn, hnn⟩ : ∃ n : Nat, n = c1.byte.toNat := ⟨_, rfl⟩
  obtain ⟨kk, hkk⟩ : ∃ n : Nat, n = m1.count.toNat := ⟨_, rfl⟩
  have bn : nn < 256 := by rw [hnn]; exact byte_lt _
  have bk : kk < 65536 := by rw [hkk]; exact word_lt _
  have k2 : w2.cell? ⟨gm, 3, none⟩ = some (.int .u16 (kk : Int)) := by rw [hkk]; exact HM2.out.c_count
  obtain ⟨ok, hok⟩ : ∃ b : Bool, b = decide ((nn : Int) = manyI (kk : Int)) := ⟨_, rfl⟩
  have HE : Hid (Coils.readBits (m1, c1) = (m1.put_bits (outU ((c1.afterB.need ok 5).got (nn : Int) 1) (kk : Int)), ((c1.afterB.need ok 5).next (nn : Int) 1).need (good ((c1.afterB.need ok 5).got (nn : Int) 1) (kk : Int)) 6)) := hide (by rw [hok, hnn, hkk]; rfl)
  rw [show byteV c1.byte = .int .u8 (nn : Int) by rw [hnn]]
  have HOK := hide hok
  clear hok hnn hkk
  have hwn : IntKind.i64.wrap (nn : Int) = (nn : Int) := by rw [IntKind.wrap_i64]; omega
  have hwk : IntKind.i64.wrap (kk : Int) = (kk : Int) := by rw [IntKind.wrap_i64]; omega
  have hwf : (Lit.int .i64 (kk : Int)).wf = true := WalkArith.wf_i64 (by omega)
  go_wp2_with fail
  refine (many_any (kk : Int) hwf w2).mono ?_
  rintro r w2' ⟨rfl, hw2⟩
  subst hw2
  have hq : ((nn : Int) == manyI (kk : Int)) = ok := by rw [HOK.out, Bool.eq_iff_iff]; simp
  clear HOK
  generalize manyI (kk : Int) = mk at *
  go_wp2_with fail
  refine (need_any gc c1.afterB _ _ _ hc2).mono ?_
  rintro r w3 ⟨rfl, hc3, hb3⟩
  generalize c1.afterB.need ok 5 = s3 at *
  have HM3 := hide (HM2.out.but HBm.out hn hb3)
  have HB3 := hide (HB2.out.trans (But.below hb3 hB2 (Nat.le_trans hB1 (Nat.le_of_lt HM2.out.lt))))
  have k3 := (hb3.cell (p := ⟨gm, 3, none⟩) HM2.out.lt hn).trans k2
  have hcd := hc3.mono (Below.refl _ _).drew
  have hlen : (s3.got (nn : Int) 1).length ≤ 10000 := Nat.le_trans (St.got_le _ _ _) (by omega)
  clear hb3 hc3 k2 hc2 hq
  go_upto_region 3 with fail
  go_region_held3 (fun w' => w'.cell? ⟨gm, 3, none⟩ = some (.int .u16 (kk : Int)))
    (first
      | go_keep
      | (rw [hb4.cell (p := ⟨gm, 3, none⟩) HM3.out.lt hn]; assumption)
      | (rw [hb5.cell (p := ⟨gm, 3, none⟩) (Nat.lt_of_lt_of_le HM3.out.lt hb4.size)]; assumption))
    (first
      | (go_at_call 65; refine (bytes_any gc _ (nn : Int) _ hcd).mono ?_; rintro r w4 ⟨⟨a4, c4, rfl, hx4⟩, hc4, hb4⟩)
      | (go_at_call 69; refine (unpack_any _ _ _ _ (kk : Int) hwf _ hx4 hlen).mono ?_; rintro r w5 ⟨⟨a5, c5, rfl, hx5⟩, hb5⟩))
  have HM5 := hide (((HM3.out.mono (Below.refl _ _).drew).but HBm.out hn hb4).mono hb5)
  have HB5 := hide ((HB3.out.drew.trans (But.below hb4 hB2 (Nat.le_trans hB1 (Nat.le_of_lt HM3.out.lt)))).trans (hb5.mono (Nat.le_trans (Nat.le_trans hB1 (Nat.le_of_lt HM3.out.lt)) hb4.size)))
  have hc5 := hc4.mono hb5
  have hgc := hc4.lt
  have HS5 := hide (fun (h0 : 0 < _) (b off : Nat) (e : a5 = some ⟨b, off, none⟩) => Nat.le_trans (Nat.le_trans HB3.out.size hb4.size) (own_block hx5 h0 b off e))
  clear hx4 hc4 hb4 hb5
  generalize outU (s3.got (nn : Int) 1) (kk : Int) = L at *
  generalize good (s3.got (nn : Int) 1) (kk : Int) = ok2 at *
  generalize s3.next (nn : Int) 1 = s5 at *
  go_wp2_with fail
  refine (need_any gc s5 _ _ _ hc5).mono ?_
  rintro r w6 ⟨rfl, hc6, hb6⟩
  have HM6 := hide (HM5.out.but HBm.out hn hb6)
  have HB6 := hide (HB5.out.trans (But.below hb6 hB2 (Nat.le_trans hB1 (Nat.le_of_lt HM5.out.lt))))
  have hx6 := hx5.but hgc hb6
  clear hx5 hb6 hc5
  obtain ⟨ad, ld, cd, k6, _⟩ := HM6.out.c_bits
  have f6 := HM6.out.fr 13
  have HM7 := hide (HM6.out.set_bits HBm.out hx6)
  have HC7 := hide (hc6.cellSet (p := ⟨gm, 13, none⟩) (Ne.symm hn) k6 (fun x h => by cases h) (.slice a5 L.length c5))
  have HB7 := hide (HB6.out.setCell (p := ⟨gm, 13, none⟩) hB1 (.slice a5 L.length c5))
  have HD7 := hide (World.cell?_setCell_same' w6 ⟨gm, 13, none⟩ (.slice a5 L.length c5) (by rw [k6]; rfl))
  clear hx6 hc6
  go_wp2
  go_end0
  rw [HP.out, HE.out]
  exact ⟨rfl, HM7.out, HC7.out, HB7.out, _, _, _, HD7.out, HS5.out⟩

end Go.Proofs.Ytgacfocbdeohaaa
