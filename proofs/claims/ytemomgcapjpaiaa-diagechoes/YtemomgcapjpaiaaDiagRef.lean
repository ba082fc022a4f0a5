/-
  The document's own answers for diag: a word that may be; where its Parse begins.
-/
import Derived.Test.YtemomgcapjpaiaaRefRd
import Derived.Test.YtemomgcapjpaiaaRefPut
import Derived.Test.YtemomgcapjpaiaaMsgRow
import Derived.Test.YtemomgcapjpaiaaDiagParse
import Derived.Test.YtemomgcapjpaiaaCodeRef
import Derived.BigRegion
import Derived.Deep.CutBlock
import Derived.Deep.DeepCutAuto
namespace Go.Proofs.Ytemomgcapjpaiaa
open Go.RowKit
open Word Bits Cursor

/-- Where the document's Parse begins. -/
theorem rr_entry {w w1 : World} {a : Option Addr} {len cap : Nat} {xs : List UInt8} {c : UInt8} {x z : Obj} (hx : Bs w a len cap xs) (hlen : len ≤ 100000) (h1 : w1.heap[w.heap.size + 1 + 1]? = some (.cells (codeCells c) apiT (0, 0)))
    (b1 : ∀ B, B ≤ w.heap.size + 1 + 1 → Below B (((w.alloc x).alloc (refObj a len cap 0 false 0)).alloc z) w1) : RRd w w1 (w.heap.size + 3) (w.heap.size + 1 + 1) (w.heap.size + 1) a len cap xs (MsgM.of c) (St.new xs) w1 ∧ w1.heap[w.heap.size]? = some x := by
  have hb : Below (w.heap.size + 1 + 1) ((w.alloc x).alloc (refObj a len cap 0 false 0)) w1 := ((Below.refl _ _).alloc (by simp) _).trans (b1 _ (Nat.le_refl _))
  have hw : Below w.heap.size w w1 := (((Below.refl w.heap.size w).alloc (Nat.le_refl _) _).alloc (by simp) _).trans (hb.mono (by omega))
  refine ⟨RRd.made hx hlen (by omega) (by omega) (by omega) (by omega) (by omega) (lt_of_block h1) hw h1 (fun v => MsgAt.of v c) ((hb.block _ (by omega)).trans (heap_alloc2_new _ _ _)), ?_⟩
  rw [hb.block _ (by omega), Below.heap_alloc _ _ _ (by simp), heap_alloc_new]

set_option maxRecDepth 20000 in
theorem rmay_any (dir : Int) (s : Nat) (hs : s < 65536) (v : UInt16) (w : World) :
    Calls Try.prog 28 #[.int .i64 dir, .int .u16 (s : Int), wordV v] w fun e w' => e = .returned (.bool (Diag.may dir s v.toNat)) ∧ w' = w := by
  obtain ⟨n, hn⟩ : ∃ n : Nat, n = v.toNat := ⟨_, rfl⟩
  have bn : n < 65536 := by rw [hn]; exact word_lt _
  rw [show wordV v = .int .u16 (n : Int) by rw [hn], ← hn]
  clear hn
  obtain ⟨R, hR⟩ : ∃ R, R = Diag.may dir s n := ⟨_, rfl⟩
  rw [← hR]
  have HR := hide hR
  clear hR
  go_enter Try.func28, Try.ntmps28
  by_cases h1 : s = 1
  · subst h1
    by_cases h0 : n = 0
    · subst h0
      go_wp2
      go_ret
      exact ⟨ret_bool (by rw [HR.out, may_one]; simp), rfl⟩
    · have q0 : ((n : Int) == 0) = false := by simp; omega
      go_wp2
      go_ret
      exact ⟨ret_bool (by rw [HR.out, may_one, Bool.eq_iff_iff]; simp; omega), rfl⟩
  have q1 : ((s : Int) == 1) = false := by simp; omega
  by_cases h3 : s = 3
  · subst h3
    go_wp2
    go_ret
    exact ⟨ret_bool (by rw [HR.out, may_three, Bool.eq_iff_iff]; simp; omega), rfl⟩
  have q3 : ((s : Int) == 3) = false := by simp; omega
  have HV : Hid (R = if dir = 1 ∧ (s = 2 ∨ 11 ≤ s ∧ s ≤ 18) then true else decide (n = 0)) := hide (by rw [HR.out]; unfold Diag.may; rw [if_neg h1, if_neg h3])
  clear HR
  by_cases hd : dir = 1
  · subst hd
    by_cases h2 : s = 2
    · subst h2
      have hR : Hid (R = true) := hide (by rw [HV.out, if_pos (by omega)])
      clear HV
      go_wp2
      go_ret
      exact ⟨ret_bool hR.out.symm, rfl⟩
    have q2 : ((s : Int) == 2) = false := by simp; omega
    by_cases h11 : 11 ≤ s
    · by_cases h18 : s ≤ 18
      · have hR : Hid (R = true) := hide (by rw [HV.out, if_pos (by omega)])
        have g1 : (11 : Int) ≤ (s : Int) := by omega
        have g2 : (s : Int) ≤ 18 := by omega
        clear HV
        go_wp2
        go_ret
        exact ⟨ret_bool hR.out.symm, rfl⟩
      · have hR : Hid (R = decide (n = 0)) := hide (by rw [HV.out, if_neg (by omega)])
        have g1 : (11 : Int) ≤ (s : Int) := by omega
        have g2 : ¬ (s : Int) ≤ 18 := by omega
        clear HV
        go_wp2
        go_ret
        exact ⟨ret_bool (by rw [hR.out, Bool.eq_iff_iff]; simp), rfl⟩
    · have hR : Hid (R = decide (n = 0)) := hide (by rw [HV.out, if_neg (by omega)])
      have g1 : ¬ (11 : Int) ≤ (s : Int) := by omega
      clear HV
      go_wp2
      go_ret
      exact ⟨ret_bool (by rw [hR.out, Bool.eq_iff_iff]; simp), rfl⟩
  · have qd : (dir == 1) = false := by simpa using hd
    have hR : Hid (R = decide (n = 0)) := hide (by rw [HV.out, if_neg (fun h => hd h.1)])
    clear HV
    go_wp2
    go_ret
    exact ⟨ret_bool (by rw [hR.out, Bool.eq_iff_iff]; simp), rfl⟩
theorem rmay_z (dir : Int) (s : Nat) (hs : s < 65536) (v : UInt16) (w : World) (z : Int) (hz : z = (s : Int)) :
    Calls Try.prog 28 #[.int .i64 dir, .int .u16 z, wordV v] w fun e w' => e = .returned (.bool (Diag.may dir s v.toNat)) ∧ w' = w := by
  subst hz; exact rmay_any dir s hs v w

end Go.Proofs.Ytemomgcapjpaiaa
