/-
  The document's own answers for mei: Parse, answers.
-/
import Derived.Test.YtaokbaddleplfaaMeiRefRow
import Derived.Test.YtaokbaddleplfaaStoreStep
import Derived.Test.YtaokbaddleplfaaJoinA
import Derived.BigRegion
import Derived.Deep.LoopGhost
import Derived.Deep.CutBlock
import Derived.Deep.DeepCutAuto
import Derived.Deep.QuietTactic
import Derived.Deep.RegionHeld3
namespace Go.Proofs.Ytaokbaddleplfaa
open Go.RowKit
open Word Bits Cursor

set_option maxRecDepth 20000 in
set_option maxHeartbeats 4000000 in
theorem mp_told (a : Option Addr) (len cap : Nat) (xs : List UInt8) (w : World) (hx : Bs w a len cap xs) (hlen : len ≤ 100000) (h13 : (St.new xs).byte ≠ 13) :
    Calls Try.prog 13 #[.int .i64 1, byteV 43, .slice a len cap] w fun e w' =>
      (∃ v, e = .returned (.tuple #[v, .int .i64 (Mei.parse 1 43 xs).2]) ∧ MsgAt w' v (Mei.parse 1 43 xs).1) ∧ Below w.heap.size w w' := by
  have HX := hide hx
  clear hx
  have HRf : Hid (Mei.parse 1 43 xs = finish (Mei.Frm.read 1 (MsgM.of 43, St.new xs))) := hide (Mei.parse_some (by decide))
  obtain ⟨R, hR⟩ : ∃ R, R = Mei.parse 1 43 xs := ⟨_, rfl⟩
  rw [← hR] at HRf ⊢
  clear hR
  obtain ⟨s0, hs0⟩ : ∃ s, s = St.new xs := ⟨_, rfl⟩
  rw [← hs0] at h13 HRf
  obtain ⟨x0, hx0⟩ : ∃ x, x = s0.byte := ⟨_, rfl⟩
  rw [← hx0] at h13
  obtain ⟨n0, hn0⟩ : ∃ n : Nat, n = x0.toNat := ⟨_, rfl⟩
  have hb0 : n0 < 256 := by rw [hn0]; exact byte_lt _
  obtain ⟨s1, hs1⟩ : ∃ s, s = s0.afterB.need (Mei.isMei x0) 8 := ⟨_, rfl⟩
  have hmei : ∃ o0 : Bool, o0 = Mei.isMei x0 := ⟨_, rfl⟩
  obtain ⟨o0, ho0⟩ := hmei
  have n13 : n0 ≠ 13 := fun e => h13 (UInt8.toNat_inj.1 (by rw [← hn0, e]; rfl))
  have q13 : ((n0 : Int) == 13) = false := by simp; omega
  have r14 : ((n0 : Int) == 14) = o0 := by
    rw [ho0]
    unfold Mei.isMei
    rw [← hn0]
    by_cases h : n0 = 14 <;> simp [h, n13] <;> omega
  rw [← ho0] at hs1
  obtain ⟨n1, hn1⟩ : ∃ n : Nat, n = s1.byte.toNat := ⟨_, rfl⟩
  have hb1 : n1 < 256 := by rw [hn1]; exact byte_lt _
  have HK1 : Hid (byteV s1.byte = .int .u8 (n1 : Int)) := hide (by rw [hn1])
  obtain ⟨o1, ho1⟩ : ∃ b : Bool, b = Mei.okKind s1.byte := ⟨_, rfl⟩
  have HO1 : Hid (o1 = (decide (0 < n1) && decide (n1 < 5))) := hide (by rw [ho1]; unfold Mei.okKind; rw [hn1])
  obtain ⟨s2, hs2⟩ : ∃ s, s = s1.afterB.need o1 6 := ⟨_, rfl⟩
  have HS2 := hide hs2
  obtain ⟨n2, hn2⟩ : ∃ n : Nat, n = s2.byte.toNat := ⟨_, rfl⟩
  have hb2 : n2 < 256 := by rw [hn2]; exact byte_lt _
  have HK2 : Hid (byteV s2.byte = .int .u8 (n2 : Int)) := hide (by rw [hn2])
  obtain ⟨o2, ho2⟩ : ∃ b : Bool, b = Mei.okLevel s2.byte := ⟨_, rfl⟩
  have HO2 : Hid (o2 = (decide (1 ≤ n2 % 128) && decide (n2 % 128 ≤ 3))) := hide (by rw [ho2]; unfold Mei.okLevel; rw [← hn2])
  obtain ⟨s3, hs3⟩ : ∃ s, s = s2.afterB.need o2 6 := ⟨_, rfl⟩
  have HS3 := hide hs3
  obtain ⟨n3, hn3⟩ : ∃ n : Nat, n = s3.byte.toNat := ⟨_, rfl⟩
  have hb3 : n3 < 256 := by rw [hn3]; exact byte_lt _
  have HK3 : Hid (byteV s3.byte = .int .u8 (n3 : Int)) := hide (by rw [hn3])
  obtain ⟨o3, ho3⟩ : ∃ b : Bool, b = Mei.okMore s3.byte := ⟨_, rfl⟩
  have HO3 : Hid (o3 = (decide (n3 = 0) || decide (n3 = 255))) := hide (by rw [ho3]; unfold Mei.okMore; rw [← hn3])
  obtain ⟨s4, hs4⟩ : ∃ s, s = s3.afterB.need o3 6 := ⟨_, rfl⟩
  have HS4 := hide hs4
  obtain ⟨n4, hn4⟩ : ∃ n : Nat, n = s4.byte.toNat := ⟨_, rfl⟩
  have hb4 : n4 < 256 := by rw [hn4]; exact byte_lt _
  have HK4 : Hid (byteV s4.byte = .int .u8 (n4 : Int)) := hide (by rw [hn4])
  obtain ⟨o4, ho4⟩ : ∃ b : Bool, b = Mei.okNext s3.byte s4.byte := ⟨_, rfl⟩
  have HO4 : Hid (o4 = (decide (n4 = 0) || decide (n3 = 255))) := hide (by rw [ho4]; unfold Mei.okNext; rw [← hn3, ← hn4])
  obtain ⟨s5, hs5⟩ : ∃ s, s = s4.afterB.need o4 6 := ⟨_, rfl⟩
  have HS5 := hide hs5
  obtain ⟨n5, hn5⟩ : ∃ n : Nat, n = s5.byte.toNat := ⟨_, rfl⟩
  have hb5 : n5 < 256 := by rw [hn5]; exact byte_lt _
  have HK5 : Hid (byteV s5.byte = .int .u8 (n5 : Int)) := hide (by rw [hn5])
  obtain ⟨o5, ho5⟩ : ∃ b : Bool, b = Mei.okCount s1.byte s5.byte := ⟨_, rfl⟩
  have HO5 : Hid (o5 = (decide (n5 = 1) || decide (n1 ≠ 4))) := hide (by rw [ho5]; unfold Mei.okCount; rw [← hn1, ← hn5])
  obtain ⟨s6, hs6⟩ : ∃ s, s = s5.afterB.need o5 5 := ⟨_, rfl⟩
  have HS6 := hide hs6
  obtain ⟨T, hT⟩ : ∃ T, T = Mei.rObjs n5 s6 := ⟨_, rfl⟩
  have HT := hide hT
  have HF : Hid (R = finish (((((((MsgM.of 43).put_mei s0.byte).put_kind s1.byte).put_level s2.byte).put_more s3.byte).put_next s4.byte).put_objects T.1, T.2)) := hide (by
    rw [HRf.out, hT, hn5, hs6, ho5, hs5, ho4, hs4, ho3, hs3, ho2, hs2, ho1, hs1, ho0, hx0]
    show finish (Mei.body 1 ((MsgM.of 43).put_mei s0.byte) s0.byte (s0.afterB.need (Mei.isMei s0.byte) 8)) = _
    unfold Mei.body
    rw [if_neg (by rw [← hx0]; exact h13)]
    rfl)
  clear hn1 hn2 hn3 hn4 hn5 ho0 ho1 ho2 ho3 ho4 ho5 hs2 hs3 hs4 hs5 hs6 hT h13 n13
  have HS0 := hide hs0
  have HK0 : Hid (byteV s0.byte = .int .u8 (n0 : Int)) := hide (by rw [hn0, hx0])
  have HX0 := hide hx0
  have HS1 := hide hs1
  rw [show byteV 43 = .int .u8 (43 : Int) from rfl]
  clear hs0 hx0 hn0 hs1 HRf
  go_enter Try.func13, Try.ntmps13
  go_upto_region 7 with ((with_reducible (show wpList _ _ _ ({ dst := _, op := Op.store _ _ _, type := _, pos := _, after := _, guard := _ } :: _) _ _)); refine wpList_store_lies rfl 30 _ _ rfl (w.heap.size + 1 + 1) (codeCells 43) rfl rfl _ _ (heap_alloc3_new _ _ _ _) (msg_size _ rfl) rfl (by simp [Value.oneCell']) ?_; intro w1 h1 b1 n1 z1)
  obtain ⟨h, hz⟩ := rr_entry HX.out hlen h1 b1
  rw [← HS0.out] at h
  have z21 : Z21 w1 (w.heap.size + 1 + 1) := (cell_of_row w1 _ 21 _ _ _ h1).trans rfl
  have HA := hide h
  have HZ := hide hz
  have HZ0 := hide z21
  clear h hz h1 b1 n1 z1 HX HS0 z21
  have HZA := HZ0
  clear HZ0
  go_wp2_with fail
  refine (rz_byte HA.out HZA.out).mono ?_
  rintro e v0 ⟨rfl, h, z⟩
  have f0 := h.mb.fr 16
  have k0 := h.mb.c_mei
  replace h := h.put_mei s0.byte
  replace z := z.set (i := 16) (by decide) (byteV s0.byte)
  rw [HK0.out] at h z ⊢
  have G0 := hide h
  have GZ0 := hide z
  clear h z HA HZA
  go_upto_region 8 with fail
  generalize v0.setCell ⟨w.heap.size + 1 + 1, 16, none⟩ (.int .u8 (n0 : Int)) = u0w at *
  clear f0 k0
  have kc0 : u0w.cell? ⟨w.heap.size + 1 + 1, 16, none⟩ = some (.int .u8 (n0 : Int)) := by
    rw [G0.out.mb.c_mei]
    show some (byteV s0.byte) = _
    rw [HK0.out]
  go_wp2_with fail
  refine (rz_need G0.out GZ0.out o0 8).mono ?_
  rintro e v ⟨rfl, h, z⟩
  rw [← HS1.out] at h
  have kd0 : v.cell? ⟨w.heap.size + 1 + 1, 16, none⟩ = some (.int .u8 (n0 : Int)) := by
    rw [h.mb.c_mei]
    show some (byteV s0.byte) = _
    rw [HK0.out]
  have Hs := hide h
  have HZs := hide z
  clear h z G0 GZ0 kc0
  go_wp2_with fail
  refine (rz_byte Hs.out HZs.out).mono ?_
  rintro e v1 ⟨rfl, h, z⟩
  have f1 := h.mb.fr 17
  have k1 := h.mb.c_kind
  replace h := h.put_kind s1.byte
  replace z := z.set (i := 17) (by decide) (byteV s1.byte)
  rw [HK1.out] at h z ⊢
  have G1 := hide h
  have GZ1 := hide z
  clear h z Hs HZs
  go_upto_region 10 with fail
  generalize v1.setCell ⟨w.heap.size + 1 + 1, 17, none⟩ (.int .u8 (n1 : Int)) = u1w at *
  clear f1 k1
  have kc1 : u1w.cell? ⟨w.heap.size + 1 + 1, 17, none⟩ = some (.int .u8 (n1 : Int)) := by
    rw [G1.out.mb.c_kind]
    show some (byteV s1.byte) = _
    rw [HK1.out]
  go_cut [] (fun wx => RRd w w1 (w.heap.size + 3) (w.heap.size + 1 + 1) (w.heap.size + 1) a len cap xs (((MsgM.of 43).put_mei s0.byte).put_kind s1.byte) s2 wx ∧ Z21 wx (w.heap.size + 1 + 1))
  case first =>
    by_cases hq : 0 < n1
    · skip
      have g1 : (0 : Int) < (n1 : Int) := by omega
      have r1 : decide ((n1 : Int) < 5) = o1 := by rw [HO1.out]; by_cases hz : n1 < 5 <;> simp [hq, hz] <;> omega
      go_wp2_with fail
      refine (rz_need G1.out GZ1.out o1 6).mono ?_
      rintro e v ⟨rfl, h, z⟩
      go_wp2
      go_meet
      case rel => exact ⟨by rw [HS2.out]; exact h, z⟩
    · skip
      obtain rfl : n1 = 0 := by omega
      obtain rfl : o1 = false := by rw [HO1.out]; rfl
      go_wp2_with fail
      refine (rz_need G1.out GZ1.out false 6).mono ?_
      rintro e v ⟨rfl, h, z⟩
      go_wp2
      go_meet
      case rel => exact ⟨by rw [HS2.out]; exact h, z⟩
  case rest =>
  obtain ⟨h, z⟩ := hcut
  have H1b := hide h
  have HZ1b := hide z
  clear h z G1 GZ1 kc1
  go_wp2_with fail
  refine (rz_byte H1b.out HZ1b.out).mono ?_
  rintro e v2 ⟨rfl, h, z⟩
  have f2 := h.mb.fr 18
  have k2 := h.mb.c_level
  replace h := h.put_level s2.byte
  replace z := z.set (i := 18) (by decide) (byteV s2.byte)
  rw [HK2.out] at h z ⊢
  have G2 := hide h
  have GZ2 := hide z
  clear h z H1b HZ1b
  go_upto_region 12 with fail
  generalize v2.setCell ⟨w.heap.size + 1 + 1, 18, none⟩ (.int .u8 (n2 : Int)) = u2w at *
  clear f2 k2
  have kc2 : u2w.cell? ⟨w.heap.size + 1 + 1, 18, none⟩ = some (.int .u8 (n2 : Int)) := by
    rw [G2.out.mb.c_level]
    show some (byteV s2.byte) = _
    rw [HK2.out]
  go_upto_region 13 with fail
  clear kc2
  go_cut [] (fun wx => RRd w w1 (w.heap.size + 3) (w.heap.size + 1 + 1) (w.heap.size + 1) a len cap xs ((((MsgM.of 43).put_mei s0.byte).put_kind s1.byte).put_level s2.byte) s3 wx ∧ Z21 wx (w.heap.size + 1 + 1))
  case first =>
    by_cases hq : 1 ≤ n2 % 128
    · skip
      have g1 : (1 : Int) ≤ (n2 : Int) % 128 := by omega
      have r1 : decide ((n2 : Int) % 128 ≤ 3) = o2 := by rw [HO2.out]; by_cases hz : n2 % 128 ≤ 3 <;> simp [hq, hz] <;> omega
      go_wp2_with fail
      refine (rz_need G2.out GZ2.out o2 6).mono ?_
      rintro e v ⟨rfl, h, z⟩
      go_wp2
      go_meet
      case rel => exact ⟨by rw [HS3.out]; exact h, z⟩
    · skip
      have g1 : ¬ (1 : Int) ≤ (n2 : Int) % 128 := by omega
      obtain rfl : o2 = false := by rw [HO2.out]; simp [hq]
      go_wp2_with fail
      refine (rz_need G2.out GZ2.out false 6).mono ?_
      rintro e v ⟨rfl, h, z⟩
      go_wp2
      go_meet
      case rel => exact ⟨by rw [HS3.out]; exact h, z⟩
  case rest =>
  obtain ⟨h, z⟩ := hcut
  have H2b := hide h
  have HZ2b := hide z
  clear h z G2 GZ2 
  go_wp2_with fail
  refine (rz_byte H2b.out HZ2b.out).mono ?_
  rintro e v3 ⟨rfl, h, z⟩
  have f3 := h.mb.fr 19
  have k3 := h.mb.c_more
  replace h := h.put_more s3.byte
  replace z := z.set (i := 19) (by decide) (byteV s3.byte)
  rw [HK3.out] at h z ⊢
  have G3 := hide h
  have GZ3 := hide z
  clear h z H2b HZ2b
  go_upto_region 15 with fail
  generalize v3.setCell ⟨w.heap.size + 1 + 1, 19, none⟩ (.int .u8 (n3 : Int)) = u3w at *
  clear f3 k3
  have kc3 : u3w.cell? ⟨w.heap.size + 1 + 1, 19, none⟩ = some (.int .u8 (n3 : Int)) := by
    rw [G3.out.mb.c_more]
    show some (byteV s3.byte) = _
    rw [HK3.out]
  go_cut [] (fun wx => RRd w w1 (w.heap.size + 3) (w.heap.size + 1 + 1) (w.heap.size + 1) a len cap xs (((((MsgM.of 43).put_mei s0.byte).put_kind s1.byte).put_level s2.byte).put_more s3.byte) s4 wx ∧ Z21 wx (w.heap.size + 1 + 1))
  case first =>
    by_cases hq : n3 = 0
    · skip
      have g1 : ((n3 : Int) == 0) = true := by simp; omega
      obtain rfl : o3 = true := by rw [HO3.out]; simp [hq]
      go_wp2_with fail
      refine (rz_need G3.out GZ3.out true 6).mono ?_
      rintro e v ⟨rfl, h, z⟩
      go_wp2
      go_meet
      case rel => exact ⟨by rw [HS4.out]; exact h, z⟩
    · skip
      have g1 : ((n3 : Int) == 0) = false := by simp; omega
      have r1 : ((n3 : Int) == 255) = o3 := by rw [HO3.out]; by_cases hz : n3 = 255 <;> simp [hq, hz] <;> omega
      go_wp2_with fail
      refine (rz_need G3.out GZ3.out o3 6).mono ?_
      rintro e v ⟨rfl, h, z⟩
      go_wp2
      go_meet
      case rel => exact ⟨by rw [HS4.out]; exact h, z⟩
  case rest =>
  obtain ⟨h, z⟩ := hcut
  have H3b := hide h
  have HZ3b := hide z
  clear h z G3 GZ3 kc3
  go_wp2_with fail
  refine (rz_byte H3b.out HZ3b.out).mono ?_
  rintro e v4 ⟨rfl, h, z⟩
  have f4 := h.mb.fr 20
  have k4 := h.mb.c_next
  replace h := h.put_next s4.byte
  replace z := z.set (i := 20) (by decide) (byteV s4.byte)
  rw [HK4.out] at h z ⊢
  have G4 := hide h
  have GZ4 := hide z
  clear h z H3b HZ3b
  go_upto_region 17 with fail
  generalize v4.setCell ⟨w.heap.size + 1 + 1, 20, none⟩ (.int .u8 (n4 : Int)) = u4w at *
  clear f4 k4
  have kc4 : u4w.cell? ⟨w.heap.size + 1 + 1, 20, none⟩ = some (.int .u8 (n4 : Int)) := by
    rw [G4.out.mb.c_next]
    show some (byteV s4.byte) = _
    rw [HK4.out]
  have kc3 : u4w.cell? ⟨w.heap.size + 1 + 1, 19, none⟩ = some (.int .u8 (n3 : Int)) := by
    rw [G4.out.mb.c_more]
    show some (byteV s3.byte) = _
    rw [HK3.out]
  go_cut [] (fun wx => RRd w w1 (w.heap.size + 3) (w.heap.size + 1 + 1) (w.heap.size + 1) a len cap xs ((((((MsgM.of 43).put_mei s0.byte).put_kind s1.byte).put_level s2.byte).put_more s3.byte).put_next s4.byte) s5 wx ∧ Z21 wx (w.heap.size + 1 + 1))
  case first =>
    by_cases hq : n4 = 0
    · skip
      have g1 : ((n4 : Int) == 0) = true := by simp; omega
      obtain rfl : o4 = true := by rw [HO4.out]; simp [hq]
      go_wp2_with fail
      refine (rz_need G4.out GZ4.out true 6).mono ?_
      rintro e v ⟨rfl, h, z⟩
      go_wp2
      go_meet
      case rel => exact ⟨by rw [HS5.out]; exact h, z⟩
    · skip
      have g1 : ((n4 : Int) == 0) = false := by simp; omega
      have r1 : ((n3 : Int) == 255) = o4 := by rw [HO4.out]; by_cases hz : n3 = 255 <;> simp [hq, hz] <;> omega
      go_wp2_with fail
      refine (rz_need G4.out GZ4.out o4 6).mono ?_
      rintro e v ⟨rfl, h, z⟩
      go_wp2
      go_meet
      case rel => exact ⟨by rw [HS5.out]; exact h, z⟩
  case rest =>
  obtain ⟨h, z⟩ := hcut
  have H4b := hide h
  have HZ4b := hide z
  clear h z G4 GZ4 kc4 kc3
  go_wp2_with fail
  refine (rz_byte H4b.out HZ4b.out).mono ?_
  rintro e v5 ⟨rfl, h, z⟩
  rw [HK5.out]
  have G5 := hide h
  have GZ5 := hide z
  clear h z H4b HZ4b
  go_upto_region 19 with fail
  have kc1 : v5.cell? ⟨w.heap.size + 1 + 1, 17, none⟩ = some (.int .u8 (n1 : Int)) := by
    rw [G5.out.mb.c_kind]
    show some (byteV s1.byte) = _
    rw [HK1.out]
  go_cut [] (fun wx => RRd w w1 (w.heap.size + 3) (w.heap.size + 1 + 1) (w.heap.size + 1) a len cap xs ((((((MsgM.of 43).put_mei s0.byte).put_kind s1.byte).put_level s2.byte).put_more s3.byte).put_next s4.byte) s6 wx ∧ Z21 wx (w.heap.size + 1 + 1))
  case first =>
    by_cases hq : n5 = 1
    · skip
      have g1 : ((n5 : Int) == 1) = true := by simp; omega
      obtain rfl : o5 = true := by rw [HO5.out]; simp [hq]
      have HQ := hide hq
      clear hq
      go_wp2_with fail
      refine (rz_need G5.out GZ5.out true 5).mono ?_
      rintro e v ⟨rfl, h, z⟩
      go_wp2
      go_meet
      case rel => exact ⟨by rw [HS6.out]; exact h, z⟩
    · skip
      have g1 : ((n5 : Int) == 1) = false := by simp; omega
      have r1 : ((n1 : Int) != 4) = o5 := by rw [HO5.out]; by_cases hz : n1 = 4 <;> simp [hq, hz] <;> omega
      go_wp2_with fail
      refine (rz_need G5.out GZ5.out o5 5).mono ?_
      rintro e v ⟨rfl, h, z⟩
      go_wp2
      go_meet
      case rel => exact ⟨by rw [HS6.out]; exact h, z⟩
  case rest =>
  obtain ⟨h, z⟩ := hcut
  have H5b := hide h
  have HZ5b := hide z
  clear h z G5 GZ5 kc1
  obtain ⟨cs0, hcz, hcm, hO⟩ := H5b.out.things HZ5b.out
  have HO := hide hO
  have HCM := hide hcm
  have HCZ := hide hcz
  clear hO hcm hcz H5b HZ5b
  obtain ⟨v6, hv6⟩ : ∃ v, v = wc := ⟨_, rfl⟩
  rw [← hv6] at HO HCM ⊢
  clear hv6
  go_upto_region 20 with fail
  go_wp2_with fail
  go_loopg [13] n5 (fun m i wr => ∃ (j : Nat) (pre : List ObjM) (c : St) (a1 : Option Addr) (l1 c1 : Nat), j + m = n5 ∧ i = .int .i64 (j : Int) ∧ l1 = j ∧ (pre ++ (Mei.rObjs m c).1 = T.1 ∧ (Mei.rObjs m c).2 = T.2) ∧ ORd w w1 v6 (w.heap.size + 3) (w.heap.size + 1 + 1) (w.heap.size + 1) a len cap xs cs0 pre c a1 l1 c1 wr)
  case atStart => exact ⟨0, [], s6, none, 0, 0, by omega, rfl, rfl, ⟨by rw [HT.out]; rfl, by rw [HT.out]⟩, HO.out⟩
  case round =>
  obtain ⟨j, pre, c, a1, l1, c1, hj, rfl, rfl, hT, hO⟩ := hrel
  have HO1 := hide hO
  have HTT := hide hT
  clear hO hT HO
  by_cases hg : gk = 0
  · subst hg
    have hlt : ¬ (l1 : Int) < (n5 : Int) := by omega
    have hp : pre = T.1 ∧ c = T.2 := ⟨by have := HTT.out.1; simpa [Mei.rObjs] using this, HTT.out.2⟩
    have H := hide (HO1.out.rd HCM.out)
    obtain ⟨hp1, hp2⟩ := hp
    rw [hp1, hp2] at H
    clear HO1 HTT hp1 hp2 HT
    go_upto_region 35 with fail
    go_wp2_with fail
    refine (rr_end H.out).mono ?_
    rintro e w9 ⟨rfl, h9⟩
    obtain ⟨kc, _, _, hg9, _, _⟩ := h9.cur
    have c9 := rcur_c3 hg9
    obtain ⟨cs, hb9, hm9⟩ := h9.box
    have e1 := (h9.keep w.heap.size (by omega) (by omega) (by omega)).trans HZ.out
    obtain ⟨hsz, hone⟩ := (hm9 _ (Off.refl _ _ _)).row
    have HM9 := hide hm9
    have HB9 := hide h9.below
    have hw9 : w.heap.size ≤ w9.heap.size := h9.below.size
    unfold finish at HF
    simp only at HF
    generalize St.e _ = E at *
    clear h9 hm9 hg9 H
    by_cases hE : E = 0
    · have hR : Hid (R = (_, 0)) := hide (by rw [HF.out, if_pos hE])
      clear HF
      subst hE
      go_wp2_with (first | ((with_reducible (show wpList _ _ _ ({ dst := _, op := Op.load _ _, type := _, pos := _, after := _, guard := _ } :: _) _ _)); refine wpList_load_row rfl 30 _ rfl (w.heap.size + 1 + 1) rfl 30 cs (0, 0) _ hb9 Try.underlying30 rfl (msg_size cs hsz) ?_) | ((with_reducible (show wpList _ _ _ ({ dst := _, op := Op.store _ _ _, type := _, pos := _, after := _, guard := _ } :: _) _ _)); refine wpList_store_lies rfl 30 _ _ rfl w.heap.size cs rfl rfl _ _ e1 (msg_size cs hsz) hsz.symm hone ?_))
      intro w7 h7 b7 n7 z7
      go_wp2
      (try simp only [Exit.inBlock, Exit.then])
      rw [hR.out]
      exact bodyPost_ret (results_row_tmp Try.results13 _ _ w.heap.size _ _ _ _ rfl h7 Try.underlying30 rfl (msg_size _ hsz) _ rfl) rfl ⟨⟨_, rfl, HM9.out _ ⟨Nat.le_of_eq z7.symm, fun k _ hk => n7 k (by omega)⟩⟩, HB9.out.trans (b7 _ (Nat.le_refl _))⟩
    · have hR : Hid (R = (MsgM.zero, E)) := hide (by rw [HF.out, if_neg hE])
      have hE' : (E != 0) = true := by simpa using hE
      clear HF
      go_upto_region 37 with fail
      refine wp_region_noPanic ?_
      refine wp_region_held_drew (S := fun w' => w'.heap[w.heap.size]? = some (.cells zeroCells 30 (0, 0)) ∧ w'.cell? ⟨w.heap.size + 1, 3, none⟩ = some (.int .i64 E) ∧ Below w.heap.size w9 w') (by kernel_rfl) (⟨e1, c9, (Below.refl _ _).drew⟩) (fun hHeld => ?_)
      refine wpAnyH_take (i := 0) (oi := ⟨some 170, .build 30 #[], _, _, _, none⟩) (v := ?_) rfl (by kernel_rfl) (by kernel_rfl) (by kernel_rfl) (fun _ _ _ h => h) (Or.inl ⟨by rfl, ?_⟩) hHeld ?_
      rotate_left
      · (intro wq hSw; go_simp; try with_reducible rfl)
      simp only [Act.put, List.setIfInBounds_toArray, List.set_cons_zero, List.set_cons_succ]
      refine wpAnyH_take (i := 1) (oi := ⟨some 171, .move (.tmp 8), _, _, _, none⟩) (v := ?_) rfl (by kernel_rfl) (by kernel_rfl) (by kernel_rfl) (fun _ _ _ h => h) (Or.inl ⟨by rfl, ?_⟩) hHeld ?_
      rotate_left
      · (intro wq hSw; go_simp; try with_reducible rfl)
      simp only [Act.put, List.setIfInBounds_toArray, List.set_cons_zero, List.set_cons_succ]
      refine wpAnyH_take (i := 2) (oi := ⟨some 172, .nilCheck (.tmp 171), _, _, _, none⟩) (v := ?_) rfl (by kernel_rfl) (by kernel_rfl) (by kernel_rfl) (fun _ _ _ h => h) (Or.inl ⟨by rfl, ?_⟩) hHeld ?_
      rotate_left
      · (intro wq hSw; go_simp; try with_reducible rfl)
      simp only [Act.put, List.setIfInBounds_toArray, List.set_cons_zero, List.set_cons_succ]
      refine wpAnyH_take (i := 3) (oi := ⟨some 173, .fieldAddr 65 (.tmp 172) 3, _, _, _, none⟩) (v := ?_) rfl (by kernel_rfl) (by kernel_rfl) (by kernel_rfl) (fun _ _ _ h => h) (Or.inl ⟨by rfl, ?_⟩) hHeld ?_
      rotate_left
      · (intro wq hSw; go_simp; try with_reducible rfl)
      simp only [Act.put, List.setIfInBounds_toArray, List.set_cons_zero, List.set_cons_succ]
      refine wpAnyH_take (i := 4) (oi := ⟨some 174, .load 31 (.tmp 173), _, _, _, none⟩) (v := ?_) rfl (by kernel_rfl) (by kernel_rfl) (by kernel_rfl) (fun _ _ _ h => h) (Or.inl ⟨by rfl, ?_⟩) hHeld ?_
      rotate_left
      · (intro wq hSw; have hcv := hSw.2.1; go_simp; try with_reducible rfl)
      simp only [Act.put, List.setIfInBounds_toArray, List.set_cons_zero, List.set_cons_succ]
      refine wpAnyH_ready (rs := [5]) (by kernel_rfl) (by simp) ?_
      refine AllReadyH.cons (o := ⟨none, .store 30 (.tmp 6) (.tmp 170), _, _, _, none⟩) rfl (fun K hK => ?_) ?_
      · refine step_store (by rfl) _ _ _ (by rfl) w.heap.size zeroCells (by rfl) (by rfl) _ _ hHeld.1 (msg_size _ rfl) rfl zero_one ?_
        intro w6 h6 b6 n6 z6
        refine hK.out _ _ ?_ (fun hHeld => ?_)
        · exact ⟨h6, (World.cell?_of_block (n6 (w.heap.size + 1) (by omega))).trans hHeld.2.1, hHeld.2.2.trans (b6 _ (Nat.le_refl _))⟩
        clear hK K
        try simp only [Act.put]
        refine wpAnyH_take (i := 6) (oi := ⟨some 7, .assign (.tmp 174), _, _, _, none⟩) (v := ?_) rfl (by kernel_rfl) (by kernel_rfl) (by kernel_rfl) (fun _ _ _ h => h) (Or.inl ⟨by rfl, ?_⟩) hHeld ?_
        rotate_left
        · (intro wq hSw; go_simp; try with_reducible rfl)
        simp only [Act.put, List.setIfInBounds_toArray, List.set_cons_zero, List.set_cons_succ]
        refine wpAnyH_done (by kernel_rfl) ?_ _
        refine NoPanic.normal ?_
        go_wp2
        (try simp only [Exit.inBlock, Exit.then])
        rw [hR.out]
        exact bodyPost_ret (results_row_tmp Try.results13 _ _ w.heap.size _ _ _ _ rfl h6 Try.underlying30 rfl (msg_size _ rfl) _ rfl) rfl ⟨⟨_, rfl, MsgAt.zero _⟩, HB9.out.trans hHeld.2.2⟩
      exact AllReadyH.nil
  obtain ⟨k, rfl⟩ : ∃ k, gk = k + 1 := ⟨gk - 1, by omega⟩
  have hlt : (l1 : Int) < (n5 : Int) := by omega
  have htt := Mei.tot_round HTT.out
  obtain ⟨y, hy⟩ : ∃ y, y = (Mei.rObj c).1 := ⟨_, rfl⟩
  obtain ⟨c', hc'⟩ : ∃ s, s = (Mei.rObj c).2 := ⟨_, rfl⟩
  rw [← hy, ← hc'] at htt
  have HTN := hide htt
  clear htt HTT
  obtain ⟨ni, hni⟩ : ∃ n : Nat, n = c.byte.toNat := ⟨_, rfl⟩
  obtain ⟨nj, hnj⟩ : ∃ n : Nat, n = c.afterB.byte.toNat := ⟨_, rfl⟩
  have hbj : nj < 256 := by rw [hnj]; exact byte_lt _
  have HKI : Hid (byteV c.byte = .int .u8 (ni : Int)) := hide (by rw [hni])
  have HKJ : Hid (byteV c.afterB.byte = .int .u8 (nj : Int)) := hide (by rw [hnj])
  have HYV : Hid (y.value = c.afterB.afterB.got (nj : Int) 1) := hide (by rw [hy, hnj]; rfl)
  have HYI : Hid (byteV y.id = .int .u8 (ni : Int)) := hide (by rw [hy, hni]; rfl)
  have HC' : Hid (c' = c.afterB.afterB.next (nj : Int) 1) := hide (by rw [hc', hnj]; rfl)
  clear hy hc' hni hnj
  go_wp2_with fail
  refine (or_byte HO1.out).mono ?_
  rintro e r1 ⟨rfl, h, _⟩
  rw [HKI.out]
  have HO2 := hide h
  clear h HO1
  go_wp2_with fail
  refine (or_byte HO2.out).mono ?_
  rintro e r2 ⟨rfl, h, _⟩
  rw [HKJ.out]
  have HO3 := hide h
  clear h HO2
  go_wp2_with fail
  refine (or_bytes HO3.out (nj : Int)).mono ?_
  rintro e r3 ⟨⟨aw, cw, rfl, hx⟩, h, _⟩
  rw [← HC'.out] at h
  rw [← HYV.out] at hx ⊢
  have HO4 := hide h
  have HXV := hide hx
  have kx := h.cell HCZ.out
  have hsz4 : v6.heap.size ≤ r3.heap.size := h.off.size
  obtain ⟨L, hL⟩ : ∃ n : Nat, n = y.value.length := ⟨_, rfl⟩
  rw [← hL] at HXV ⊢
  have b5 := (Below.refl r3.heap.size r3).alloc (Nat.le_refl _) (.cells #[.int .u8 (ni : Int), .slice aw L cw] 43 (0, 0))
  have HO5 := hide (h.mono b5)
  have hsrc : Src Try.prog 2 28 (.slice (some ⟨r3.heap.size, 0, none⟩) 1 1) 1 (objCells y (.slice aw L cw)) (r3.alloc (.cells #[.int .u8 (ni : Int), .slice aw L cw] 43 (0, 0))) := by
    have := obj_src r3 y aw L cw 43
    rw [show partO y (.slice aw L cw) = #[.int .u8 (ni : Int), .slice aw L cw] by rw [← HYI.out]] at this
    exact this
  have HSRC := hide hsrc
  have hsm : l1 + 1 ≤ 1000 := by omega
  have hB5 : v6.heap.size ≤ (r3.alloc (.cells #[.int .u8 (ni : Int), .slice aw L cw] 43 (0, 0))).heap.size := Nat.le_trans hsz4 b5.size
  have HB5 := hide hB5
  clear h hx hL b5 hsrc HO3 hB5
  go_wp2_with (at_builtin; refine wpList_appO (by rfl) _ _ (by rfl) HO5.out.own (by rfl) HB5.out y aw L cw (fun u _ hq => HXV.out u hq) (by rfl) HSRC.out hsm ?_)
  intro a6 c6 w6 ho6 hb6 _
  have h6 := HO5.out.low hb6 ho6
  have k6 : w6.cell? ⟨w.heap.size + 1 + 1, 21, none⟩ = some (.slice a1 l1 c1) := (hb6.cell (p := ⟨w.heap.size + 1 + 1, 21, none⟩) (Nat.lt_of_lt_of_le HO5.out.mh HO5.out.hu)).trans (HO5.out.cell HCZ.out)
  have f6 : w6.frozen? ⟨w.heap.size + 1 + 1, 21, none⟩ = false := (hb6.frozen (p := ⟨w.heap.size + 1 + 1, 21, none⟩) (Nat.lt_of_lt_of_le HO5.out.mh HO5.out.hu)).trans (HO5.out.free 21)
  have HO6 := hide h6
  clear h6 ho6 hb6 HO5 HO4 HXV HSRC HB5 kx
  go_wp2
  go_roundg k
  case measure => omega
  case rel => exact ⟨l1 + 1, _, _, a6, _, c6, by omega, by go_num, rfl, HTN.out, HO6.out⟩

end Go.Proofs.Ytaokbaddleplfaa
