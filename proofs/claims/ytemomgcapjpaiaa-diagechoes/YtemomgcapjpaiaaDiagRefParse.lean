/-
  The document's own answers for diag: Parse, all ways.
-/
import Derived.Test.YtemomgcapjpaiaaDiagRefA
import Derived.Test.YtemomgcapjpaiaaDiagRefB
import Derived.Test.YtemomgcapjpaiaaDiagRefC
import Derived.Test.YtemomgcapjpaiaaDiagRefD
import Derived.Test.YtemomgcapjpaiaaJoinB
import Derived.Test.YtemomgcapjpaiaaJoinA
import Derived.Deep.QuietTactic
import Derived.Deep.RegionHeld3
namespace Go.Proofs.Ytemomgcapjpaiaa
open Go.RowKit
open Word Bits Cursor

set_option maxRecDepth 20000 in
set_option maxHeartbeats 4000000 in
theorem refParse_0_else (c : UInt8) (n7 : c ≠ 7) (n8 : c ≠ 8) (n11 : c ≠ 11) (n12 : c ≠ 12) (n17 : c ≠ 17) (a : Option Addr) (len cap : Nat) (xs : List UInt8) (w : World) :
    Calls Try.prog 13 #[.int .i64 0, byteV c, .slice a len cap] w fun e w' =>
      (∃ v, e = .returned (.tuple #[v, .int .i64 (Diag.parse 0 c xs).2]) ∧ MsgAt w' v (Diag.parse 0 c xs).1) ∧ Below w.heap.size w w' := by
  have HR : Hid (Diag.parse 0 c xs = (MsgM.zero, 4)) := hide (by
    have hf : Diag.formOf 0 c = none := by unfold Diag.formOf; simp [n7, n8, n11, n12, n17]
    rw [Diag.parse_none hf]
    unfold Diag.errF
    rw [hf]
    rfl)
  obtain ⟨R, hR⟩ : ∃ R, R = Diag.parse 0 c xs := ⟨_, rfl⟩
  rw [← hR] at HR ⊢
  obtain ⟨kc, hkc⟩ : ∃ k : Nat, k = c.toNat := ⟨_, rfl⟩
  have q7 : ((kc : Int) != 7) = true := by
    have : kc ≠ 7 := fun h => n7 (by apply UInt8.toNat_inj.1; rw [← hkc, h]; rfl)
    simp; omega
  have q8 : ((kc : Int) != 8) = true := by
    have : kc ≠ 8 := fun h => n8 (by apply UInt8.toNat_inj.1; rw [← hkc, h]; rfl)
    simp; omega
  have q11 : ((kc : Int) != 11) = true := by
    have : kc ≠ 11 := fun h => n11 (by apply UInt8.toNat_inj.1; rw [← hkc, h]; rfl)
    simp; omega
  have q12 : ((kc : Int) != 12) = true := by
    have : kc ≠ 12 := fun h => n12 (by apply UInt8.toNat_inj.1; rw [← hkc, h]; rfl)
    simp; omega
  have q17 : ((kc : Int) != 17) = true := by
    have : kc ≠ 17 := fun h => n17 (by apply UInt8.toNat_inj.1; rw [← hkc, h]; rfl)
    simp; omega
  clear n7 n8 n11 n12 n17 hR
  rw [show byteV c = .int .u8 (kc : Int) by rw [hkc]]
  clear hkc
  have hz0 := heap_alloc_new w (.cells zeroCells 30 (0, 0))
  go_enter Try.func13, Try.ntmps13
  go_wp2_with ((with_reducible (show wpList _ _ _ ({ dst := _, op := Op.store _ _ _, type := _, pos := _, after := _, guard := _ } :: _) _ _)); refine wpList_store_lies rfl 30 _ _ rfl w.heap.size zeroCells rfl rfl _ _ hz0 (msg_size _ rfl) rfl zero_one ?_)
  intro w2 h2 b2 n2 z2
  go_wp2
  (try simp only [Exit.inBlock, Exit.then])
  rw [HR.out]
  exact bodyPost_ret (results_row_tmp Try.results13 _ _ w.heap.size _ _ _ _ rfl h2 Try.underlying30 rfl (msg_size _ rfl) _ rfl) rfl ⟨⟨_, rfl, MsgAt.zero _⟩, ((Below.refl _ _).alloc (Nat.le_refl _) _).trans (b2 _ (Nat.le_refl _))⟩

set_option maxRecDepth 20000 in
set_option maxHeartbeats 4000000 in
theorem refParse_1_else (c : UInt8) (n7 : c ≠ 7) (n8 : c ≠ 8) (n11 : c ≠ 11) (n12 : c ≠ 12) (n17 : c ≠ 17) (a : Option Addr) (len cap : Nat) (xs : List UInt8) (w : World) :
    Calls Try.prog 13 #[.int .i64 1, byteV c, .slice a len cap] w fun e w' =>
      (∃ v, e = .returned (.tuple #[v, .int .i64 (Diag.parse 1 c xs).2]) ∧ MsgAt w' v (Diag.parse 1 c xs).1) ∧ Below w.heap.size w w' := by
  have HR : Hid (Diag.parse 1 c xs = (MsgM.zero, 4)) := hide (by
    have hf : Diag.formOf 1 c = none := by unfold Diag.formOf; simp [n7, n8, n11, n12, n17]
    rw [Diag.parse_none hf]
    unfold Diag.errF
    rw [hf]
    rfl)
  obtain ⟨R, hR⟩ : ∃ R, R = Diag.parse 1 c xs := ⟨_, rfl⟩
  rw [← hR] at HR ⊢
  obtain ⟨kc, hkc⟩ : ∃ k : Nat, k = c.toNat := ⟨_, rfl⟩
  have q7 : ((kc : Int) != 7) = true := by
    have : kc ≠ 7 := fun h => n7 (by apply UInt8.toNat_inj.1; rw [← hkc, h]; rfl)
    simp; omega
  have q8 : ((kc : Int) != 8) = true := by
    have : kc ≠ 8 := fun h => n8 (by apply UInt8.toNat_inj.1; rw [← hkc, h]; rfl)
    simp; omega
  have q11 : ((kc : Int) != 11) = true := by
    have : kc ≠ 11 := fun h => n11 (by apply UInt8.toNat_inj.1; rw [← hkc, h]; rfl)
    simp; omega
  have q12 : ((kc : Int) != 12) = true := by
    have : kc ≠ 12 := fun h => n12 (by apply UInt8.toNat_inj.1; rw [← hkc, h]; rfl)
    simp; omega
  have q17 : ((kc : Int) != 17) = true := by
    have : kc ≠ 17 := fun h => n17 (by apply UInt8.toNat_inj.1; rw [← hkc, h]; rfl)
    simp; omega
  clear n7 n8 n11 n12 n17 hR
  rw [show byteV c = .int .u8 (kc : Int) by rw [hkc]]
  clear hkc
  have hz0 := heap_alloc_new w (.cells zeroCells 30 (0, 0))
  go_enter Try.func13, Try.ntmps13
  go_wp2_with ((with_reducible (show wpList _ _ _ ({ dst := _, op := Op.store _ _ _, type := _, pos := _, after := _, guard := _ } :: _) _ _)); refine wpList_store_lies rfl 30 _ _ rfl w.heap.size zeroCells rfl rfl _ _ hz0 (msg_size _ rfl) rfl zero_one ?_)
  intro w2 h2 b2 n2 z2
  go_wp2
  (try simp only [Exit.inBlock, Exit.then])
  rw [HR.out]
  exact bodyPost_ret (results_row_tmp Try.results13 _ _ w.heap.size _ _ _ _ rfl h2 Try.underlying30 rfl (msg_size _ rfl) _ rfl) rfl ⟨⟨_, rfl, MsgAt.zero _⟩, ((Below.refl _ _).alloc (Nat.le_refl _) _).trans (b2 _ (Nat.le_refl _))⟩

set_option maxRecDepth 20000 in
set_option maxHeartbeats 4000000 in
theorem refParse_no (dir : Int) (h0 : dir ≠ 0) (h1 : dir ≠ 1) (c : UInt8) (a : Option Addr) (len cap : Nat) (xs : List UInt8) (w : World) :
    Calls Try.prog 13 #[.int .i64 dir, byteV c, .slice a len cap] w fun e w' =>
      (∃ v, e = .returned (.tuple #[v, .int .i64 (Diag.parse dir c xs).2]) ∧ MsgAt w' v (Diag.parse dir c xs).1) ∧ Below w.heap.size w w' := by
  have HR : Hid (Diag.parse dir c xs = (MsgM.zero, 1)) := hide (by
    have hf : Diag.formOf dir c = none := by unfold Diag.formOf; rw [if_neg h0, if_neg h1]
    rw [Diag.parse_none hf]
    unfold Diag.errF
    rw [hf]
    simp [h0, h1])
  obtain ⟨R, hR⟩ : ∃ R, R = Diag.parse dir c xs := ⟨_, rfl⟩
  rw [← hR] at HR ⊢
  clear hR
  have hd0 : (dir != 0) = true := by simpa using h0
  have hd1 : (dir != 1) = true := by simpa using h1
  have hz0 := heap_alloc_new w (.cells zeroCells 30 (0, 0))
  clear h0 h1
  go_enter Try.func13, Try.ntmps13
  go_wp2_with ((with_reducible (show wpList _ _ _ ({ dst := _, op := Op.store _ _ _, type := _, pos := _, after := _, guard := _ } :: _) _ _)); refine wpList_store_lies rfl 30 _ _ rfl w.heap.size zeroCells rfl rfl _ _ hz0 (msg_size _ rfl) rfl zero_one ?_)
  intro w2 h2 b2 n2 z2
  go_wp2
  (try simp only [Exit.inBlock, Exit.then])
  rw [HR.out]
  exact bodyPost_ret (results_row_tmp Try.results13 _ _ w.heap.size _ _ _ _ rfl h2 Try.underlying30 rfl (msg_size _ rfl) _ rfl) rfl ⟨⟨_, rfl, MsgAt.zero _⟩, ((Below.refl _ _).alloc (Nat.le_refl _) _).trans (b2 _ (Nat.le_refl _))⟩

theorem refParse_any (dir : Int) (c : UInt8) (a : Option Addr) (len cap : Nat) (xs : List UInt8) (w : World) (hx : Bs w a len cap xs) (hlen : len ≤ 100000) :
    Calls Try.prog 13 #[.int .i64 dir, byteV c, .slice a len cap] w fun e w' =>
      (∃ v, e = .returned (.tuple #[v, .int .i64 (Diag.parse dir c xs).2]) ∧ MsgAt w' v (Diag.parse dir c xs).1) ∧ Below w.heap.size w w' := by
  by_cases hd0 : dir = 0
  · subst hd0
    by_cases n7 : c = 7
    · subst n7; exact refParse_0_7 a len cap xs w hx hlen
    by_cases n8 : c = 8
    · subst n8; exact refParse_0_8 a len cap xs w hx hlen
    by_cases n11 : c = 11
    · subst n11; exact refParse_0_11 a len cap xs w hx hlen
    by_cases n12 : c = 12
    · subst n12; exact refParse_0_12 a len cap xs w hx hlen
    by_cases n17 : c = 17
    · subst n17; exact refParse_0_17 a len cap xs w hx hlen
    exact refParse_0_else c n7 n8 n11 n12 n17 a len cap xs w
  by_cases hd1 : dir = 1
  · subst hd1
    by_cases n7 : c = 7
    · subst n7; exact refParse_1_7 a len cap xs w hx hlen
    by_cases n8 : c = 8
    · subst n8; exact refParse_1_8 a len cap xs w hx hlen
    by_cases n11 : c = 11
    · subst n11; exact refParse_1_11 a len cap xs w hx hlen
    by_cases n12 : c = 12
    · subst n12; exact refParse_1_12 a len cap xs w hx hlen
    by_cases n17 : c = 17
    · subst n17; exact refParse_1_17 a len cap xs w hx hlen
    exact refParse_1_else c n7 n8 n11 n12 n17 a len cap xs w
  exact refParse_no dir hd0 hd1 c a len cap xs w

end Go.Proofs.Ytemomgcapjpaiaa
