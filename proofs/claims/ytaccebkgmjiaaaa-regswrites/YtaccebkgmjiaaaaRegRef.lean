/-
  The document's own answers for regs: span; where its Parse begins.
-/
import Derived.Test.YtaccebkgmjiaaaaRefRd
import Derived.Test.YtaccebkgmjiaaaaRefPut
import Derived.Test.YtaccebkgmjiaaaaMsgRow
import Derived.Test.YtaccebkgmjiaaaaRegParse
import Derived.BigRegion
import Derived.Deep.CutBlock
import Derived.Deep.DeepCutAuto
namespace Go.Proofs.Ytaccebkgmjiaaaa
open Go.RowKit
open Word Bits Cursor

/-- Where the document's Parse begins. -/
theorem rr_entry {w w1 : World} {a : Option Addr} {len cap : Nat} {xs : List UInt8} {c : UInt8} {x z : Obj} (hx : Bs w a len cap xs) (hlen : len ≤ 100000) (h1 : w1.heap[w.heap.size + 1 + 1]? = some (.cells (codeCells c) apiT (0, 0)))
    (b1 : ∀ B, B ≤ w.heap.size + 1 + 1 → Below B (((w.alloc x).alloc (refObj a len cap 0 false 0)).alloc z) w1) : RRd w w1 (w.heap.size + 3) (w.heap.size + 1 + 1) (w.heap.size + 1) a len cap xs (MsgM.of c) (St.new xs) w1 ∧ w1.heap[w.heap.size]? = some x := by
  have hb : Below (w.heap.size + 1 + 1) ((w.alloc x).alloc (refObj a len cap 0 false 0)) w1 := ((Below.refl _ _).alloc (by simp) _).trans (b1 _ (Nat.le_refl _))
  have hw : Below w.heap.size w w1 := (((Below.refl w.heap.size w).alloc (Nat.le_refl _) _).alloc (by simp) _).trans (hb.mono (by omega))
  refine ⟨RRd.made hx hlen (by omega) (by omega) (by omega) (by omega) (by omega) (lt_of_block h1) hw h1 (fun v => MsgAt.of v c) ((hb.block _ (by omega)).trans (heap_alloc2_new _ _ _)), ?_⟩
  rw [hb.block _ (by omega), Below.heap_alloc _ _ _ (by simp), heap_alloc_new]

section
variable {w0 wb : World} {hi gm gc : Nat} {a : Option Addr} {len cap : Nat} {all : List UInt8} {m : MsgM} {c : St} {w : World}

set_option maxRecDepth 20000 in
set_option maxHeartbeats 2000000 in
theorem span_any (h : RRd w0 wb hi gm gc a len cap all m c w) (x : UInt16) (most : Nat) :
    Calls Try.prog 28 #[ptrV gc, wordV x, .int .i64 (most : Int)] w fun e w' =>
      e = .returned (.int .i64 ((Regs.span most x c).1.toNat : Int)) ∧ RRd w0 wb hi gm gc a len cap all m (Regs.span most x c).2 w' := by
  have H := hide h
  clear h
  obtain ⟨R, hR⟩ : ∃ R, R = Regs.span most x c := ⟨_, rfl⟩
  rw [← hR]
  have HR := hide hR
  clear hR
  obtain ⟨ka, hka⟩ : ∃ n : Nat, n = x.toNat := ⟨_, rfl⟩
  have ba : ka < 65536 := by rw [hka]; exact word_lt _
  rw [show wordV x = .int .u16 (ka : Int) by rw [hka]]
  go_enter Try.func28, Try.ntmps28
  go_wp2_with fail
  refine (rr_word H.out).mono ?_
  rintro r w1 ⟨rfl, h1⟩
  have H1 := hide h1
  clear h1 H
  obtain ⟨kk, hkk⟩ : ∃ n : Nat, n = c.word.toNat := ⟨_, rfl⟩
  have bk : kk < 65536 := by rw [hkk]; exact word_lt _
  obtain ⟨ok, hok⟩ : ∃ b : Bool, b = (decide (1 ≤ kk) && decide (kk ≤ most)) := ⟨_, rfl⟩
  have HE : Hid (R = (c.word, (c.afterW.need ok 5).need (within ka (kk : Int)) 7)) := hide (by rw [HR.out, hok, hka, hkk]; rfl)
  have HV : Hid (R.1.toNat = kk) := hide (by rw [HE.out, hkk])
  rw [show wordV c.word = .int .u16 (kk : Int) by rw [hkk]]
  have HOK := hide hok
  have hwk : IntKind.i64.wrap (kk : Int) = (kk : Int) := by rw [IntKind.wrap_i64]; omega
  have hwf : (Lit.int .i64 (kk : Int)).wf = true := WalkArith.wf_i64 (by omega)
  clear hkk hka HR hok
  by_cases h1 : 0 < kk
  all_goals
    go_wp2_with fail
    refine (rr_need H1.out _ _).mono ?_
    rintro r w2 ⟨rfl, h2⟩
    have H2 : Hid (RRd w0 wb hi gm gc a len cap all m (c.afterW.need ok 5) w2) := hide (by
      rw [HOK.out]
      first
        | exact h2
        | (simpa [h1, show 1 ≤ kk ↔ 0 < kk from Iff.rfl] using h2)
        | (simpa [h1] using h2))
    clear h2 H1
    go_wp2_with fail
    refine (refWithin_any ka ba (kk : Int) hwf _).mono ?_
    rintro r w3 ⟨rfl, rfl⟩
    go_wp2_with fail
    refine (rr_need H2.out _ _).mono ?_
    rintro r w3 ⟨rfl, h3⟩
    go_wp2
    go_ret
    rw [HV.out]
    exact ⟨rfl, by rw [HE.out]; exact h3⟩
end

end Go.Proofs.Ytaccebkgmjiaaaa
