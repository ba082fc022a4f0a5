/-
  The document's own answers for mei: Parse, all ways.
-/
import Derived.Test.YtaokbaddleplfaaMeiRefA
import Derived.Test.YtaokbaddleplfaaMeiRefB
import Derived.Test.YtaokbaddleplfaaMeiRefC
namespace Go.Proofs.Ytaokbaddleplfaa
open Go.RowKit
open Word Bits Cursor

set_option maxRecDepth 20000 in
set_option maxHeartbeats 2000000 in
theorem mp_else0 (c : UInt8) (n43 : c ≠ 43) (a : Option Addr) (len cap : Nat) (w : World) :
    Calls Try.prog 13 #[.int .i64 0, byteV c, .slice a len cap] w fun e w' =>
      (∃ v, e = .returned (.tuple #[v, .int .i64 4]) ∧ MsgAt w' v MsgM.zero) ∧ Below w.heap.size w w' := by
  have e0 := heap_alloc_new w (.cells zeroCells 30 (0, 0))
  have b0 := (Below.refl w.heap.size w).alloc (Nat.le_refl _) (.cells zeroCells 30 (0, 0))
  obtain ⟨kc, hkc⟩ : ∃ k : Nat, k = c.toNat := ⟨_, rfl⟩
  have q43 : ((kc : Int) == 43) = false := by
    have : kc ≠ 43 := fun h => n43 (by apply UInt8.toNat_inj.1; rw [← hkc, h]; rfl)
    simp; omega
  have p43 : ((kc : Int) != 43) = true := by rw [bne, q43]; rfl
  clear n43
  rw [show byteV c = .int .u8 (kc : Int) by rw [hkc]]
  clear hkc
  go_enter Try.func13, Try.ntmps13
  go_wp2_with ((with_reducible (show wpList _ _ _ ({ dst := _, op := Op.store _ _ _, type := _, pos := _, after := _, guard := _ } :: _) _ _)); refine wpList_store_lies rfl 30 _ _ rfl w.heap.size zeroCells rfl rfl _ _ e0 (msg_size _ rfl) rfl zero_one ?_)
  intro w3 h3 b3 n3 z3
  go_wp2
  (try simp only [Exit.inBlock, Exit.then])
  exact bodyPost_ret (results_row_tmp Try.results13 _ _ w.heap.size _ _ _ _ rfl h3 Try.underlying30 rfl (msg_size _ rfl) _ rfl) rfl ⟨⟨_, rfl, MsgAt.zero _⟩, b0.trans (b3 _ (Nat.le_refl _))⟩

set_option maxRecDepth 20000 in
set_option maxHeartbeats 2000000 in
theorem mp_else1 (c : UInt8) (n43 : c ≠ 43) (a : Option Addr) (len cap : Nat) (w : World) :
    Calls Try.prog 13 #[.int .i64 1, byteV c, .slice a len cap] w fun e w' =>
      (∃ v, e = .returned (.tuple #[v, .int .i64 4]) ∧ MsgAt w' v MsgM.zero) ∧ Below w.heap.size w w' := by
  have e0 := heap_alloc_new w (.cells zeroCells 30 (0, 0))
  have b0 := (Below.refl w.heap.size w).alloc (Nat.le_refl _) (.cells zeroCells 30 (0, 0))
  obtain ⟨kc, hkc⟩ : ∃ k : Nat, k = c.toNat := ⟨_, rfl⟩
  have q43 : ((kc : Int) == 43) = false := by
    have : kc ≠ 43 := fun h => n43 (by apply UInt8.toNat_inj.1; rw [← hkc, h]; rfl)
    simp; omega
  have p43 : ((kc : Int) != 43) = true := by rw [bne, q43]; rfl
  clear n43
  rw [show byteV c = .int .u8 (kc : Int) by rw [hkc]]
  clear hkc
  go_enter Try.func13, Try.ntmps13
  go_wp2_with ((with_reducible (show wpList _ _ _ ({ dst := _, op := Op.store _ _ _, type := _, pos := _, after := _, guard := _ } :: _) _ _)); refine wpList_store_lies rfl 30 _ _ rfl w.heap.size zeroCells rfl rfl _ _ e0 (msg_size _ rfl) rfl zero_one ?_)
  intro w3 h3 b3 n3 z3
  go_wp2
  (try simp only [Exit.inBlock, Exit.then])
  exact bodyPost_ret (results_row_tmp Try.results13 _ _ w.heap.size _ _ _ _ rfl h3 Try.underlying30 rfl (msg_size _ rfl) _ rfl) rfl ⟨⟨_, rfl, MsgAt.zero _⟩, b0.trans (b3 _ (Nat.le_refl _))⟩

set_option maxRecDepth 20000 in
set_option maxHeartbeats 2000000 in
theorem mp_way (dir : Int) (d0 : dir ≠ 0) (d1 : dir ≠ 1) (c : UInt8) (a : Option Addr) (len cap : Nat) (w : World) :
    Calls Try.prog 13 #[.int .i64 dir, byteV c, .slice a len cap] w fun e w' =>
      (∃ v, e = .returned (.tuple #[v, .int .i64 1]) ∧ MsgAt w' v MsgM.zero) ∧ Below w.heap.size w w' := by
  have e0 := heap_alloc_new w (.cells zeroCells 30 (0, 0))
  have b0 := (Below.refl w.heap.size w).alloc (Nat.le_refl _) (.cells zeroCells 30 (0, 0))
  have q0 : (dir != 0) = true := by simpa using d0
  have q1 : (dir != 1) = true := by simpa using d1
  clear d0 d1
  go_enter Try.func13, Try.ntmps13
  go_wp2_with ((with_reducible (show wpList _ _ _ ({ dst := _, op := Op.store _ _ _, type := _, pos := _, after := _, guard := _ } :: _) _ _)); refine wpList_store_lies rfl 30 _ _ rfl w.heap.size zeroCells rfl rfl _ _ e0 (msg_size _ rfl) rfl zero_one ?_)
  intro w3 h3 b3 n3 z3
  go_wp2
  (try simp only [Exit.inBlock, Exit.then])
  exact bodyPost_ret (results_row_tmp Try.results13 _ _ w.heap.size _ _ _ _ rfl h3 Try.underlying30 rfl (msg_size _ rfl) _ rfl) rfl ⟨⟨_, rfl, MsgAt.zero _⟩, b0.trans (b3 _ (Nat.le_refl _))⟩

theorem Mei.parse_else {dir : Int} (hd : dir = 0 ∨ dir = 1) {c : UInt8} (n43 : c ≠ 43) (xs : List UInt8) : Mei.parse dir c xs = (MsgM.zero, 4) := by
  have hf : Mei.formOf dir c = none := by unfold Mei.formOf; rw [if_neg n43]
  rw [Mei.parse_none hf]
  unfold Mei.errF
  rw [hf]
  show (MsgM.zero, if dir = 0 ∨ dir = 1 then (4 : Int) else 1) = _
  rw [if_pos hd]
theorem Mei.parse_way {dir : Int} (d0 : dir ≠ 0) (d1 : dir ≠ 1) (c : UInt8) (xs : List UInt8) : Mei.parse dir c xs = (MsgM.zero, 1) := by
  have hf : Mei.formOf dir c = none := by
    unfold Mei.formOf
    rw [if_neg d0, if_neg d1]
    split <;> rfl
  rw [Mei.parse_none hf]
  unfold Mei.errF
  rw [hf]
  show (MsgM.zero, if dir = 0 ∨ dir = 1 then (4 : Int) else 1) = _
  rw [if_neg (fun h => h.elim d0 d1)]

theorem refParse_any (dir : Int) (c : UInt8) (a : Option Addr) (len cap : Nat) (xs : List UInt8) (w : World) (hx : Bs w a len cap xs) (hlen : len ≤ 100000) :
    Calls Try.prog 13 #[.int .i64 dir, byteV c, .slice a len cap] w fun e w' =>
      (∃ v, e = .returned (.tuple #[v, .int .i64 (Mei.parse dir c xs).2]) ∧ MsgAt w' v (Mei.parse dir c xs).1) ∧ Below w.heap.size w w' := by
  by_cases d0 : dir = 0
  · subst d0
    by_cases n43 : c = 43
    · subst n43
      by_cases h : (St.new xs).byte = 13
      · exact mp_other0 a len cap xs w hx hlen h
      · exact mp_ask a len cap xs w hx hlen h
    · rw [Mei.parse_else (.inl rfl) n43]
      exact mp_else0 c n43 a len cap w
  by_cases d1 : dir = 1
  · subst d1
    by_cases n43 : c = 43
    · subst n43
      by_cases h : (St.new xs).byte = 13
      · exact mp_other1 a len cap xs w hx hlen h
      · exact mp_told a len cap xs w hx hlen h
    · rw [Mei.parse_else (.inr rfl) n43]
      exact mp_else1 c n43 a len cap w
  · rw [Mei.parse_way d0 d1]
    exact mp_way dir d0 d1 c a len cap w

end Go.Proofs.Ytaokbaddleplfaa
