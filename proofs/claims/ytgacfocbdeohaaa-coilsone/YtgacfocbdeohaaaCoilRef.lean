/-
  The document's own answers for coils: span.
-/
import Derived.Test.YtgacfocbdeohaaaRefRd
import Derived.Test.YtgacfocbdeohaaaCoilMath
import Derived.Test.YtgacfocbdeohaaaRefPut
import Derived.Test.YtgacfocbdeohaaaRefBits
import Derived.BigRegion
import Derived.Deep.CutBlock
import Derived.Deep.DeepCutAuto
namespace Go.Proofs.Ytgacfocbdeohaaa
open Go.RowKit
open Word Bits Cursor

section
variable {w0 wb : World} {hi gm gc : Nat} {a : Option Addr} {len cap : Nat} {all : List UInt8} {m : MsgM} {c : St} {w : World}

set_option maxRecDepth 20000 in
set_option maxHeartbeats 2000000 in
theorem span_any (h : RRd w0 wb hi gm gc a len cap all m c w) (most : Nat) :
    Calls Try.prog 24 #[ptrV gc, ptrV gm, .int .i64 (most : Int)] w fun e w' =>
      e = .returned (.tuple #[]) ∧ RRd w0 wb hi gm gc a len cap all (Coils.readPlaces most (m, c)).1 (Coils.readPlaces most (m, c)).2 w' := by
  have H := hide h
  clear h
  obtain ⟨R, hR⟩ : ∃ R, R = Coils.readPlaces most (m, c) := ⟨_, rfl⟩
  rw [← hR]
  have HR := hide hR
  clear hR
  go_enter Try.func24, Try.ntmps24
  go_wp2_with fail
  refine (rr_word H.out).mono ?_
  rintro r w1 ⟨rfl, h1⟩
  have f1 := h1.mb.fr 2
  have k1 := h1.mb.c_addr
  have H2 := hide (h1.put_addr c.word)
  clear h1 H
  go_wp2_with fail
  generalize w1.setCell ⟨gm, 2, none⟩ (wordV c.word) = w2 at *
  clear f1 k1
  refine (rr_word H2.out).mono ?_
  rintro r w3 ⟨rfl, h3⟩
  have f3 := h3.mb.fr 3
  have k3 := h3.mb.c_count
  have H4 := hide (h3.put_count c.afterW.word)
  clear h3 H2
  go_upto_region 2 with fail
  generalize w3.setCell ⟨gm, 3, none⟩ (wordV c.afterW.word) = w4 at *
  clear f3 k3
  obtain ⟨ka, hka⟩ : ∃ n : Nat, n = c.word.toNat := ⟨_, rfl⟩
  obtain ⟨kk, hkk⟩ : ∃ n : Nat, n = c.afterW.word.toNat := ⟨_, rfl⟩
  have k5 : w4.cell? ⟨gm, 3, none⟩ = some (.int .u16 (kk : Int)) := by rw [hkk]; exact H4.out.mb.c_count
  have bk : kk < 65536 := by rw [hkk]; exact word_lt _
  have ba : ka < 65536 := by rw [hka]; exact word_lt _
  obtain ⟨ok, hok⟩ : ∃ b : Bool, b = (decide (1 ≤ kk) && decide (kk ≤ most)) := ⟨_, rfl⟩
  have HE : Hid (R = ((m.put_addr c.word).put_count c.afterW.word, (c.afterW.afterW.need ok 5).need (within ka (kk : Int)) 7)) := hide (by rw [hok, HR.out, hka, hkk]; rfl)
  have HKa := hide hka
  have HOK := hide hok
  clear hka hkk HR hok
  have hma : Hid (ka = ((m.put_addr c.word).put_count c.afterW.word).addr.toNat) := HKa
  generalize (m.put_addr c.word).put_count c.afterW.word = m4 at *
  generalize c.afterW.afterW = c4 at *
  generalize wordV c.word = x1 at *
  generalize wordV c.afterW.word = x2 at *
  have hwk : IntKind.i64.wrap (kk : Int) = (kk : Int) := by rw [IntKind.wrap_i64]; omega
  have hwf : (Lit.int .i64 (kk : Int)).wf = true := WalkArith.wf_i64 (by omega)
  clear HKa
  by_cases h1 : 0 < kk
  all_goals
    go_wp2_with fail
    refine (rr_need H4.out _ _).mono ?_
    rintro r w5 ⟨rfl, h5⟩
    have H5 : Hid (RRd w0 wb hi gm gc a len cap all m4 (c4.need ok 5) w5) := hide (by rw [HOK.out]; first | exact h5 | (simpa [h1, show 1 ≤ kk ↔ 0 < kk from Iff.rfl] using h5) | (simpa [h1] using h5) | skip)
    have k6 : w5.cell? ⟨gm, 2, none⟩ = some (.int .u16 (ka : Int)) := by rw [hma.out]; exact H5.out.mb.c_addr
    clear h5
    go_wp2_with fail
    refine (refWithin_any ka ba (kk : Int) hwf _).mono ?_
    rintro r w6 ⟨rfl, rfl⟩
    go_wp2_with fail
    refine (rr_need H5.out _ _).mono ?_
    rintro r w7 ⟨rfl, h7⟩
    go_wp2
    go_end0
    rw [HE.out]
    exact ⟨rfl, h7⟩
end

end Go.Proofs.Ytgacfocbdeohaaa
