/-
  The document's own answers for regs: Parse, all ways.
-/
import Derived.Test.YtaccebkgmjiaaaaRegRefA
import Derived.Test.YtaccebkgmjiaaaaRegRefB
import Derived.Test.YtaccebkgmjiaaaaRegRefC
import Derived.Test.YtaccebkgmjiaaaaRegRefD
import Derived.Test.YtaccebkgmjiaaaaJoinB
import Derived.Test.YtaccebkgmjiaaaaJoinA
import Derived.Deep.QuietTactic
import Derived.Deep.RegionHeld3
namespace Go.Proofs.Ytaccebkgmjiaaaa
open Go.RowKit
open Word Bits Cursor

set_option maxRecDepth 20000 in
set_option maxHeartbeats 4000000 in
theorem refParse_0_else (c : UInt8) (n3 : c ≠ 3) (n4 : c ≠ 4) (n6 : c ≠ 6) (n16 : c ≠ 16) (n22 : c ≠ 22) (n23 : c ≠ 23) (n24 : c ≠ 24) (a : Option Addr) (len cap : Nat) (xs : List UInt8) (w : World) (hx : Bs w a len cap xs) (hlen : len ≤ 100000) :
    Calls Try.prog 13 #[.int .i64 0, byteV c, .slice a len cap] w fun e w' =>
      (∃ v, e = .returned (.tuple #[v, .int .i64 (Regs.parse 0 c xs).2]) ∧ MsgAt w' v (Regs.parse 0 c xs).1) ∧ Below w.heap.size w w' := by
  have HX := hide hx
  clear hx
  have HR : Hid (Regs.parse 0 c xs = (MsgM.zero, 4)) := hide (by
    have hf : Regs.formOf 0 c = none := by unfold Regs.formOf; simp [n3, n4, n6, n16, n22, n23, n24]
    rw [Regs.parse_none hf]
    unfold Regs.errF
    rw [hf]
    rfl)
  obtain ⟨R, hR⟩ : ∃ R, R = Regs.parse 0 c xs := ⟨_, rfl⟩
  rw [← hR] at HR ⊢
  obtain ⟨kc, hkc⟩ : ∃ k : Nat, k = c.toNat := ⟨_, rfl⟩
  have q3 : ((kc : Int) == 3) = false := by
    have : kc ≠ 3 := fun h => n3 (by apply UInt8.toNat_inj.1; rw [← hkc, h]; rfl)
    simp; omega
  have q4 : ((kc : Int) == 4) = false := by
    have : kc ≠ 4 := fun h => n4 (by apply UInt8.toNat_inj.1; rw [← hkc, h]; rfl)
    simp; omega
  have q6 : ((kc : Int) == 6) = false := by
    have : kc ≠ 6 := fun h => n6 (by apply UInt8.toNat_inj.1; rw [← hkc, h]; rfl)
    simp; omega
  have q16 : ((kc : Int) == 16) = false := by
    have : kc ≠ 16 := fun h => n16 (by apply UInt8.toNat_inj.1; rw [← hkc, h]; rfl)
    simp; omega
  have q22 : ((kc : Int) == 22) = false := by
    have : kc ≠ 22 := fun h => n22 (by apply UInt8.toNat_inj.1; rw [← hkc, h]; rfl)
    simp; omega
  have q23 : ((kc : Int) == 23) = false := by
    have : kc ≠ 23 := fun h => n23 (by apply UInt8.toNat_inj.1; rw [← hkc, h]; rfl)
    simp; omega
  have q24 : ((kc : Int) == 24) = false := by
    have : kc ≠ 24 := fun h => n24 (by apply UInt8.toNat_inj.1; rw [← hkc, h]; rfl)
    simp; omega
  clear n3 n4 n6 n16 n22 n23 n24 hR
  have hb : Hid (byteV c = .int .u8 (kc : Int)) := hide (by rw [hkc])
  clear hkc
  go_enter Try.func13, Try.ntmps13
  go_upto_region 6 with ((with_reducible (show wpList _ _ _ ({ dst := _, op := Op.store _ _ _, type := _, pos := _, after := _, guard := _ } :: _) _ _)); refine wpList_store_lies rfl 30 _ _ rfl (w.heap.size + 1 + 1) (codeCells c) rfl rfl _ _ (heap_alloc3_new _ _ _ _) (msg_size _ rfl) rfl (by simp [Value.oneCell']) ?_; intro w1 h1 b1 n1 z1)
  obtain ⟨h, hz⟩ := rr_entry HX.out hlen h1 b1
  have HB := hide h.below
  have HZ := hide hz
  clear h hz h1 b1 n1 z1 HX
  rw [hb.out]
  clear hb
  go_wp2_with ((with_reducible (show wpList _ _ _ ({ dst := _, op := Op.store _ _ _, type := _, pos := _, after := _, guard := _ } :: _) _ _)); refine wpList_store_lies rfl 30 _ _ rfl w.heap.size zeroCells rfl rfl _ _ HZ.out (msg_size _ rfl) rfl zero_one ?_)
  intro w2 h2 b2 n2 z2
  go_wp2
  (try simp only [Exit.inBlock, Exit.then])
  rw [HR.out]
  exact bodyPost_ret (results_row_tmp Try.results13 _ _ w.heap.size _ _ _ _ rfl h2 Try.underlying30 rfl (msg_size _ rfl) _ rfl) rfl ⟨⟨_, rfl, MsgAt.zero _⟩, HB.out.trans (b2 _ (Nat.le_refl _))⟩

set_option maxRecDepth 20000 in
set_option maxHeartbeats 4000000 in
theorem refParse_1_else (c : UInt8) (n3 : c ≠ 3) (n4 : c ≠ 4) (n6 : c ≠ 6) (n16 : c ≠ 16) (n22 : c ≠ 22) (n23 : c ≠ 23) (n24 : c ≠ 24) (a : Option Addr) (len cap : Nat) (xs : List UInt8) (w : World) (hx : Bs w a len cap xs) (hlen : len ≤ 100000) :
    Calls Try.prog 13 #[.int .i64 1, byteV c, .slice a len cap] w fun e w' =>
      (∃ v, e = .returned (.tuple #[v, .int .i64 (Regs.parse 1 c xs).2]) ∧ MsgAt w' v (Regs.parse 1 c xs).1) ∧ Below w.heap.size w w' := by
  have HX := hide hx
  clear hx
  have HR : Hid (Regs.parse 1 c xs = (MsgM.zero, 4)) := hide (by
    have hf : Regs.formOf 1 c = none := by unfold Regs.formOf; simp [n3, n4, n6, n16, n22, n23, n24]
    rw [Regs.parse_none hf]
    unfold Regs.errF
    rw [hf]
    rfl)
  obtain ⟨R, hR⟩ : ∃ R, R = Regs.parse 1 c xs := ⟨_, rfl⟩
  rw [← hR] at HR ⊢
  obtain ⟨kc, hkc⟩ : ∃ k : Nat, k = c.toNat := ⟨_, rfl⟩
  have q3 : ((kc : Int) == 3) = false := by
    have : kc ≠ 3 := fun h => n3 (by apply UInt8.toNat_inj.1; rw [← hkc, h]; rfl)
    simp; omega
  have q4 : ((kc : Int) == 4) = false := by
    have : kc ≠ 4 := fun h => n4 (by apply UInt8.toNat_inj.1; rw [← hkc, h]; rfl)
    simp; omega
  have q6 : ((kc : Int) == 6) = false := by
    have : kc ≠ 6 := fun h => n6 (by apply UInt8.toNat_inj.1; rw [← hkc, h]; rfl)
    simp; omega
  have q16 : ((kc : Int) == 16) = false := by
    have : kc ≠ 16 := fun h => n16 (by apply UInt8.toNat_inj.1; rw [← hkc, h]; rfl)
    simp; omega
  have q22 : ((kc : Int) == 22) = false := by
    have : kc ≠ 22 := fun h => n22 (by apply UInt8.toNat_inj.1; rw [← hkc, h]; rfl)
    simp; omega
  have q23 : ((kc : Int) == 23) = false := by
    have : kc ≠ 23 := fun h => n23 (by apply UInt8.toNat_inj.1; rw [← hkc, h]; rfl)
    simp; omega
  have q24 : ((kc : Int) == 24) = false := by
    have : kc ≠ 24 := fun h => n24 (by apply UInt8.toNat_inj.1; rw [← hkc, h]; rfl)
    simp; omega
  clear n3 n4 n6 n16 n22 n23 n24 hR
  have hb : Hid (byteV c = .int .u8 (kc : Int)) := hide (by rw [hkc])
  clear hkc
  go_enter Try.func13, Try.ntmps13
  go_upto_region 6 with ((with_reducible (show wpList _ _ _ ({ dst := _, op := Op.store _ _ _, type := _, pos := _, after := _, guard := _ } :: _) _ _)); refine wpList_store_lies rfl 30 _ _ rfl (w.heap.size + 1 + 1) (codeCells c) rfl rfl _ _ (heap_alloc3_new _ _ _ _) (msg_size _ rfl) rfl (by simp [Value.oneCell']) ?_; intro w1 h1 b1 n1 z1)
  obtain ⟨h, hz⟩ := rr_entry HX.out hlen h1 b1
  have HB := hide h.below
  have HZ := hide hz
  clear h hz h1 b1 n1 z1 HX
  rw [hb.out]
  clear hb
  go_wp2_with ((with_reducible (show wpList _ _ _ ({ dst := _, op := Op.store _ _ _, type := _, pos := _, after := _, guard := _ } :: _) _ _)); refine wpList_store_lies rfl 30 _ _ rfl w.heap.size zeroCells rfl rfl _ _ HZ.out (msg_size _ rfl) rfl zero_one ?_)
  intro w2 h2 b2 n2 z2
  go_wp2
  (try simp only [Exit.inBlock, Exit.then])
  rw [HR.out]
  exact bodyPost_ret (results_row_tmp Try.results13 _ _ w.heap.size _ _ _ _ rfl h2 Try.underlying30 rfl (msg_size _ rfl) _ rfl) rfl ⟨⟨_, rfl, MsgAt.zero _⟩, HB.out.trans (b2 _ (Nat.le_refl _))⟩

set_option maxRecDepth 20000 in
set_option maxHeartbeats 4000000 in
theorem refParse_no (dir : Int) (h0 : dir ≠ 0) (h1 : dir ≠ 1) (c : UInt8) (a : Option Addr) (len cap : Nat) (xs : List UInt8) (w : World) :
    Calls Try.prog 13 #[.int .i64 dir, byteV c, .slice a len cap] w fun e w' =>
      (∃ v, e = .returned (.tuple #[v, .int .i64 (Regs.parse dir c xs).2]) ∧ MsgAt w' v (Regs.parse dir c xs).1) ∧ Below w.heap.size w w' := by
  have HR : Hid (Regs.parse dir c xs = (MsgM.zero, 1)) := hide (by
    have hf : Regs.formOf dir c = none := by unfold Regs.formOf; rw [if_neg h0, if_neg h1]
    rw [Regs.parse_none hf]
    unfold Regs.errF
    rw [hf]
    simp [h0, h1])
  obtain ⟨R, hR⟩ : ∃ R, R = Regs.parse dir c xs := ⟨_, rfl⟩
  rw [← hR] at HR ⊢
  clear hR
  have hd0 : (dir != 0) = true := by simpa using h0
  have hd1 : (dir != 1) = true := by simpa using h1
  have hz0 := heap_alloc_new w (.cells zeroCells 30 (0, 0))
  clear h0 h1
  go_enter Try.func13, Try.ntmps13
  go_wp2_with ((with_reducible (show wpList _ _ _ ({ dst := _, op := Op.store _ _ _, type := _, pos := _, after := _, guard := _ } :: _) _ _)); refine wpList_store_lies rfl 30 _ _ rfl w.heap.size zeroCells rfl rfl _ _ hz0 (msg_size _ rfl) rfl zero_one ?_)
  intro w2 h2 b2 n2 z2
  go_wp2
  (try simp only [Exit.inBlock, Exit.then])
  rw [HR.out]
  exact bodyPost_ret (results_row_tmp Try.results13 _ _ w.heap.size _ _ _ _ rfl h2 Try.underlying30 rfl (msg_size _ rfl) _ rfl) rfl ⟨⟨_, rfl, MsgAt.zero _⟩, ((Below.refl _ _).alloc (Nat.le_refl _) _).trans (b2 _ (Nat.le_refl _))⟩

theorem refParse_any (dir : Int) (c : UInt8) (a : Option Addr) (len cap : Nat) (xs : List UInt8) (w : World) (hx : Bs w a len cap xs) (hlen : len ≤ 100000) :
    Calls Try.prog 13 #[.int .i64 dir, byteV c, .slice a len cap] w fun e w' =>
      (∃ v, e = .returned (.tuple #[v, .int .i64 (Regs.parse dir c xs).2]) ∧ MsgAt w' v (Regs.parse dir c xs).1) ∧ Below w.heap.size w w' := by
  by_cases hd0 : dir = 0
  · subst hd0
    by_cases n3 : c = 3
    · exact refParse_0_3 c n3 a len cap xs w hx hlen
    by_cases n4 : c = 4
    · exact refParse_0_4 c n4 a len cap xs w hx hlen
    by_cases n6 : c = 6
    · exact refParse_0_6 c n6 a len cap xs w hx hlen
    by_cases n16 : c = 16
    · exact refParse_0_16 c n16 a len cap xs w hx hlen
    by_cases n22 : c = 22
    · exact refParse_0_22 c n22 a len cap xs w hx hlen
    by_cases n23 : c = 23
    · exact refParse_0_23 c n23 a len cap xs w hx hlen
    by_cases n24 : c = 24
    · exact refParse_0_24 c n24 a len cap xs w hx hlen
    exact refParse_0_else c n3 n4 n6 n16 n22 n23 n24 a len cap xs w hx hlen
  by_cases hd1 : dir = 1
  · subst hd1
    by_cases n3 : c = 3
    · exact refParse_1_3 c n3 a len cap xs w hx hlen
    by_cases n4 : c = 4
    · exact refParse_1_4 c n4 a len cap xs w hx hlen
    by_cases n6 : c = 6
    · exact refParse_1_6 c n6 a len cap xs w hx hlen
    by_cases n16 : c = 16
    · exact refParse_1_16 c n16 a len cap xs w hx hlen
    by_cases n22 : c = 22
    · exact refParse_1_22 c n22 a len cap xs w hx hlen
    by_cases n23 : c = 23
    · exact refParse_1_23 c n23 a len cap xs w hx hlen
    by_cases n24 : c = 24
    · exact refParse_1_24 c n24 a len cap xs w hx hlen
    exact refParse_1_else c n3 n4 n6 n16 n22 n23 n24 a len cap xs w hx hlen
  exact refParse_no dir hd0 hd1 c a len cap xs w

end Go.Proofs.Ytaccebkgmjiaaaa
