/-
  Package regs: the contracts of the closures that read forms.
-/
import Derived.Test.YtaccebkgmjiaaaaCodeRd
import Derived.Test.YtaccebkgmjiaaaaRegPack
import Derived.Test.YtaccebkgmjiaaaaWordPut
import Derived.BigRegion
import Derived.Deep.RegionHeld3
import Derived.Deep.CutBlock
import Derived.Deep.DeepCutAuto
namespace Go.Proofs.Ytaccebkgmjiaaaa
open Go.RowKit
open Word Bits Cursor

abbrev CR := CRd 30
section
variable {w0 wb : World} {hi gm gc : Nat} {m : MsgM} {c : St} {w : World}

/-- What was made ahead of the message and the cursor. -/
structure Kept (wc wb : World) (gm gc : Nat) : Prop where
  below : Below wc.heap.size wc wb
  gm : wc.heap.size ≤ gm
  gc : wc.heap.size ≤ gc
theorem CRd.held {t : TypeId} (h : CRd t w0 wb hi gm gc m c w) {wc : World} (k : Kept wc wb gm gc) {g : Nat} {o : Obj} (hg : wc.heap[g]? = some o) : w.heap[g]? = some o := by
  have h1 := lt_of_block hg
  have h2 := k.gm
  have h3 := k.gc
  have h4 := h.mh
  exact (h.keep g (by omega) (by omega) (by omega)).trans ((k.below.block g h1).trans hg)

set_option maxRecDepth 20000 in
set_option maxHeartbeats 2000000 in
theorem readCount_any (h : CR w0 wb hi gm gc m c w) (a : UInt16) (most : Nat) (_hmost : most < 65536) :
    Calls Try.prog 63 #[ptrV gc, wordV a, .int .i64 (most : Int)] w fun r w' => r = .returned (wordV (Regs.span most a c).1) ∧ CR w0 wb hi gm gc m (Regs.span most a c).2 w' := by
  have H := hide h
  clear h
  obtain ⟨R, hR⟩ : ∃ R, R = Regs.span most a c := ⟨_, rfl⟩
  rw [← hR]
  have HR := hide hR
  clear hR
  obtain ⟨ka, hka⟩ : ∃ n : Nat, n = a.toNat := ⟨_, rfl⟩
  have ba : ka < 65536 := by rw [hka]; exact word_lt _
  rw [show wordV a = .int .u16 (ka : Int) by rw [hka]]
  go_enter Try.func63, Try.ntmps63
  go_wp2_with fail
  refine (cr_word H.out).mono ?_
  rintro r w1 ⟨rfl, h1⟩
  have H1 := hide h1
  clear h1 H
  obtain ⟨kk, hkk⟩ : ∃ n : Nat, n = c.word.toNat := ⟨_, rfl⟩
  have bk : kk < 65536 := by rw [hkk]; exact word_lt _
  obtain ⟨ok, hok⟩ : ∃ b : Bool, b = (decide (1 ≤ kk) && decide (kk ≤ most)) := ⟨_, rfl⟩
  have HE : Hid (R = (c.word, (c.afterW.need ok 5).need (within ka (kk : Int)) 7)) := hide (by rw [HR.out, hok, hka, hkk]; rfl)
  have HK : Hid ((wordV c.word : Value) = .int .u16 (kk : Int)) := hide (by rw [hkk])
  rw [HK.out]
  have HOK := hide hok
  have hwk : IntKind.i64.wrap (kk : Int) = (kk : Int) := by rw [IntKind.wrap_i64]; omega
  have hwf : (Lit.int .i64 (kk : Int)).wf = true := WalkArith.wf_i64 (by omega)
  clear hkk hka HR hok
  by_cases h1 : 1 ≤ kk
  all_goals
    go_wp2_with fail
    refine (cr_need H1.out _ _).mono ?_
    rintro r w2 ⟨rfl, h2, _⟩
    have h2' : CR w0 wb hi gm gc m (c.afterW.need ok 5) w2 := by rw [HOK.out]; first | (simpa [h1] using h2) | exact h2
    have H2 := hide h2'
    clear h2 h2' H1
    go_wp2_with fail
    refine (within_any ka ba (kk : Int) hwf _).mono ?_
    rintro r w3 ⟨rfl, rfl⟩
    go_wp2_with fail
    refine (cr_need H2.out _ _).mono ?_
    rintro r w3 ⟨rfl, h3, _⟩
    go_wp2
    go_ret
    rw [HE.out]
    exact ⟨by rw [HK.out]; rfl, h3⟩

theorem readWords_any (h : CR w0 wb hi gm gc m c w) (k : Nat) (hk : k < 65536) :
    Calls Try.prog 69 #[ptrV gc, .int .i64 (k : Int)] w fun r w' =>
      (∃ a' cap', r = .returned (.slice a' (Regs.sized k c).1.2.length cap') ∧ ∀ v, Off w0.heap.size hi w' v → Ws v a' (Regs.sized k c).1.2.length cap' (Regs.sized k c).1.2) ∧ CR w0 wb hi gm gc m (Regs.sized k c).2 w' := by
  have H := hide h
  clear h
  obtain ⟨R, hR⟩ : ∃ R, R = Regs.sized k c := ⟨_, rfl⟩
  rw [← hR]
  have HR := hide hR
  clear hR
  go_enter Try.func69, Try.ntmps69
  go_wp2_with fail
  refine (cr_byte H.out).mono ?_
  rintro r w1 ⟨rfl, h1⟩
  have H1 := hide h1
  clear h1 H
  obtain ⟨kk, hkk⟩ : ∃ n : Nat, n = c.byte.toNat := ⟨_, rfl⟩
  have bk : kk < 256 := by rw [hkk]; exact byte_lt _
  obtain ⟨ok, hok⟩ : ∃ b : Bool, b = decide (kk = 2 * k) := ⟨_, rfl⟩
  have HE : Hid (R = ((c.byte, takeW ((c.afterB.need ok 5).got (k : Int) 2)), (c.afterB.need ok 5).next (k : Int) 2)) := hide (by rw [HR.out, hok, hkk]; rfl)
  rw [show byteV c.byte = .int .u8 (kk : Int) by rw [hkk]]
  have HOK := hide hok
  have hwk : IntKind.i64.wrap (kk : Int) = (kk : Int) := by rw [IntKind.wrap_i64]; omega
  have hw2 : IntKind.i64.wrap (2 * (k : Int)) = 2 * (k : Int) := by rw [IntKind.wrap_i64]; omega
  clear hkk HR hok
  go_wp2_with fail
  refine (cr_need H1.out _ _).mono ?_
  rintro r w2 ⟨rfl, h2, _⟩
  have h2' : CR w0 wb hi gm gc m (c.afterB.need ok 5) w2 := by
    rw [HOK.out]
    have he : ((kk : Int) == 2 * (k : Int)) = decide (kk = 2 * k) := by rw [Bool.eq_iff_iff]; simp; omega
    first | exact h2 | (rw [← he]; exact h2)
  have H2 := hide h2'
  clear h2 h2' H1
  go_wp2_with fail
  refine (cr_words H2.out _).mono ?_
  rintro r w3 ⟨⟨a3, c3, rfl, hx3⟩, h3⟩
  go_wp2
  go_ret
  rw [HE.out]
  exact ⟨⟨a3, c3, rfl, hx3⟩, h3⟩

set_option maxRecDepth 20000 in
set_option maxHeartbeats 2000000 in
theorem placesRead_any (h : CR w0 wb hi gm gc m c w) (most : Nat) (hmost : most < 65536) {wc : World} (hk : Kept wc wb gm gc) (g : Nat) (hg : wc.heap[g]? = some (.cells #[.int .i64 (most : Int)] 3 (0, 0))) :
    Calls Try.prog 61 #[ptrV gc, ptrV gm, ptrV g] w fun r w' => r = .returned (.tuple #[]) ∧ CR w0 wb hi gm gc (Regs.putAsk m (Regs.rAsk most c).1) (Regs.rAsk most c).2 w' := by
  have H := hide h
  clear h
  have HG := hide hg
  clear hg
  obtain ⟨R, hR⟩ : ∃ R, R = (Regs.putAsk m (Regs.rAsk most c).1, (Regs.rAsk most c).2) := ⟨_, rfl⟩
  have HR : Hid (R = ((m.put_addr c.word).put_count (Regs.span most c.word c.afterW).1, (Regs.span most c.word c.afterW).2)) := hide hR
  have e1 : Regs.putAsk m (Regs.rAsk most c).1 = R.1 := by rw [hR]
  have e2 : (Regs.rAsk most c).2 = R.2 := by rw [hR]
  rw [e1, e2]
  clear e1 e2 hR
  go_enter Try.func61, Try.ntmps61
  go_wp2_with fail
  refine (cr_word H.out).mono ?_
  rintro r w1 ⟨rfl, h1⟩
  have f1 := h1.mb.fr 2
  have k1 := h1.mb.c_addr
  have H1 := hide (h1.put_addr c.word)
  clear h1 H
  go_upto_region 1 with fail
  generalize w1.setCell ⟨gm, 2, none⟩ (wordV c.word) = w2 at *
  clear f1 k1
  obtain ⟨S, hS⟩ : ∃ S, S = Regs.span most c.word c.afterW := ⟨_, rfl⟩
  have HE : Hid (R = ((m.put_addr c.word).put_count S.1, S.2)) := hide (by rw [HR.out, hS])
  have k2 : w2.cell? ⟨gm, 2, none⟩ = some (wordV c.word) := H1.out.mb.c_addr
  have k3 : w2.cell? ⟨g, 0, none⟩ = some (.int .i64 (most : Int)) := cell_of_row w2 g 0 _ _ _ (H1.out.held hk HG.out)
  have HC := hide (fun (wx : World) (hx : CR w0 wb hi gm gc (m.put_addr c.word) c.afterW wx) => readCount_any hx c.word most hmost)
  rw [← hS] at HC
  clear hS HR
  have hcd := H1.out.drew
  go_region_held3 (fun w' => w'.cell? ⟨gm, 2, none⟩ = some (wordV c.word) ∧ w'.cell? ⟨g, 0, none⟩ = some (.int .i64 (most : Int)))
    (first
      | go_keep
      | exact ⟨h3.mb.c_addr, cell_of_row _ g 0 _ _ _ (h3.held hk HG.out)⟩
      | exact ⟨(h3.put_count S.1).mb.c_addr, cell_of_row _ g 0 _ _ _ ((h3.put_count S.1).held hk HG.out)⟩)
    (first
      | (go_at_call 63; refine (HC.out _ hcd).mono ?_; rintro r w3 ⟨rfl, h3⟩; have f3 := h3.mb.fr 3; have k5 := h3.mb.c_count))
  go_end0
  rw [HE.out]
  exact ⟨rfl, h3.put_count S.1⟩

set_option maxRecDepth 20000 in
set_option maxHeartbeats 2000000 in
theorem oneRead_any (h : CR w0 wb hi gm gc m c w) :
    Calls Try.prog 66 #[ptrV gc, ptrV gm] w fun r w' => r = .returned (.tuple #[]) ∧ CR w0 wb hi gm gc (Regs.putOne m (Regs.rTwo c).1) (Regs.rTwo c).2 w' := by
  have H := hide h
  clear h
  go_enter Try.func66, Try.ntmps66
  go_wp2_with fail
  refine (cr_word H.out).mono ?_
  rintro r w1 ⟨rfl, h1⟩
  have f1 := h1.mb.fr 2
  have k1 := h1.mb.c_addr
  have H1 := hide (h1.put_addr c.word)
  clear h1 H
  go_wp2_with fail
  generalize w1.setCell ⟨gm, 2, none⟩ (wordV c.word) = w2 at *
  clear f1 k1
  refine (cr_word H1.out).mono ?_
  rintro r w3 ⟨rfl, h3⟩
  have f3 := h3.mb.fr 4
  have k3 := h3.mb.c_value
  have H3 := hide (h3.put_value c.afterW.word)
  clear h3 H1
  go_wp2
  go_end0
  exact ⟨rfl, H3.out⟩

set_option maxRecDepth 20000 in
set_option maxHeartbeats 2000000 in
theorem masksRead_any (h : CR w0 wb hi gm gc m c w) :
    Calls Try.prog 72 #[ptrV gc, ptrV gm] w fun r w' => r = .returned (.tuple #[]) ∧ CR w0 wb hi gm gc (Regs.putMask m (Regs.rThree c).1) (Regs.rThree c).2 w' := by
  have H := hide h
  clear h
  go_enter Try.func72, Try.ntmps72
  go_wp2_with fail
  refine (cr_word H.out).mono ?_
  rintro r w1 ⟨rfl, h1⟩
  have f1 := h1.mb.fr 2
  have k1 := h1.mb.c_addr
  have H1 := hide (h1.put_addr c.word)
  clear h1 H
  go_wp2_with fail
  generalize w1.setCell ⟨gm, 2, none⟩ (wordV c.word) = w2 at *
  clear f1 k1
  refine (cr_word H1.out).mono ?_
  rintro r w3 ⟨rfl, h3⟩
  have f3 := h3.mb.fr 5
  have k3 := h3.mb.c_and
  have H3 := hide (h3.put_and c.afterW.word)
  clear h3 H1
  go_wp2_with fail
  generalize w3.setCell ⟨gm, 5, none⟩ (wordV c.afterW.word) = w4 at *
  clear f3 k3
  refine (cr_word H3.out).mono ?_
  rintro r w5 ⟨rfl, h5⟩
  have f5 := h5.mb.fr 6
  have k5 := h5.mb.c_or
  have H5 := hide (h5.put_or c.afterW.afterW.word)
  clear h5 H3
  go_wp2
  go_end0
  exact ⟨rfl, H5.out⟩

theorem queueRead_any (h : CR w0 wb hi gm gc m c w) :
    Calls Try.prog 76 #[ptrV gc, ptrV gm] w fun r w' => r = .returned (.tuple #[]) ∧ CR w0 wb hi gm gc (m.put_addr (Regs.rWord c).1) (Regs.rWord c).2 w' := by
  have H := hide h
  clear h
  go_enter Try.func76, Try.ntmps76
  go_wp2_with fail
  refine (cr_word H.out).mono ?_
  rintro r w1 ⟨rfl, h1⟩
  have f1 := h1.mb.fr 2
  have k1 := h1.mb.c_addr
  have H1 := hide (h1.put_addr c.word)
  clear h1 H
  go_wp2
  go_end0
  exact ⟨rfl, H1.out⟩

set_option maxRecDepth 20000 in
set_option maxHeartbeats 2000000 in
theorem toldRead_any (h : CR w0 wb hi gm gc m c w) :
    Calls Try.prog 78 #[ptrV gc, ptrV gm] w fun r w' => r = .returned (.tuple #[]) ∧ CR w0 wb hi gm gc (Regs.putTold m (Regs.rTold c).1) (Regs.rTold c).2 w' := by
  have H := hide h
  clear h
  obtain ⟨R, hR⟩ : ∃ R, R = (Regs.putTold m (Regs.rTold c).1, (Regs.rTold c).2) := ⟨_, rfl⟩
  have e1 : Regs.putTold m (Regs.rTold c).1 = R.1 := by rw [hR]
  have e2 : (Regs.rTold c).2 = R.2 := by rw [hR]
  rw [e1, e2]
  have HR := hide hR
  clear e1 e2 hR
  go_enter Try.func78, Try.ntmps78
  go_wp2_with fail
  refine (cr_byte H.out).mono ?_
  rintro r w1 ⟨rfl, h1⟩
  have H1 := hide h1
  clear h1 H
  obtain ⟨kk, hkk⟩ : ∃ n : Nat, n = c.byte.toNat := ⟨_, rfl⟩
  have bk : kk < 256 := by rw [hkk]; exact byte_lt _
  obtain ⟨ok, hok⟩ : ∃ b : Bool, b = (decide (kk % 2 = 0) && decide (1 ≤ kk) && decide (kk ≤ 250)) := ⟨_, rfl⟩
  obtain ⟨hf, hhf⟩ : ∃ n : Nat, n = kk / 2 := ⟨_, rfl⟩
  have HE : Hid (R = (m.put_words (takeW ((c.afterB.need ok 5).got (hf : Int) 2)), (c.afterB.need ok 5).next (hf : Int) 2)) := hide (by rw [HR.out, hok, hhf, hkk]; rfl)
  rw [show byteV c.byte = .int .u8 (kk : Int) by rw [hkk]]
  have HOK := hide hok
  have hwk : IntKind.i64.wrap (kk : Int) = (kk : Int) := by rw [IntKind.wrap_i64]; omega
  have hq : (kk : Int) / 2 = (hf : Int) := by rw [hhf]; omega
  clear hkk HR hok hhf
  rcases Nat.mod_two_eq_zero_or_one kk with h0 | h0
  all_goals
    have hr0 : (kk : Int) % 2 = ((kk % 2 : Nat) : Int) := by omega
    by_cases h2 : 2 ≤ kk
    all_goals
      have h2i : (2 : Int) ≤ (kk : Int) ↔ 2 ≤ kk := by omega
      go_wp2_with fail
      refine (cr_need H1.out _ _).mono ?_
      rintro r w2 ⟨rfl, hh, _⟩
      have hc : CR w0 wb hi gm gc m (c.afterB.need ok 5) w2 := by
        have hv := HOK.out
        first
          | (rw [show ok = false by rw [hv]; simp; omega]; exact hh)
          | (rw [show ok = decide ((kk : Int) ≤ 250) by rw [hv, Bool.eq_iff_iff]; simp; omega]; exact hh)
      have H2 := hide hc
      clear hc hh H1 HOK hr0 h2i
      go_wp2_with fail
      refine (cr_words H2.out _).mono ?_
      rintro r w3 ⟨⟨a3, c3, rfl, hx3⟩, h3⟩
      have f3 := h3.mb.fr 12
      obtain ⟨a4, l4, c4, k3, _⟩ := h3.mb.c_words
      have H3 := hide (h3.put_words hx3)
      clear h3 H2 hx3
      go_wp2
      go_end0
      rw [HE.out]
      exact ⟨rfl, H3.out⟩

set_option maxRecDepth 20000 in
set_option maxHeartbeats 4000000 in
theorem queuedRead_any (h : CR w0 wb hi gm gc m c w) :
    Calls Try.prog 82 #[ptrV gc, ptrV gm] w fun r w' => r = .returned (.tuple #[]) ∧ CR w0 wb hi gm gc (Regs.putQueue m (Regs.rQueue c).1) (Regs.rQueue c).2 w' := by
  have H := hide h
  clear h
  obtain ⟨R, hR⟩ : ∃ R, R = (Regs.putQueue m (Regs.rQueue c).1, (Regs.rQueue c).2) := ⟨_, rfl⟩
  have e1 : Regs.putQueue m (Regs.rQueue c).1 = R.1 := by rw [hR]
  have e2 : (Regs.rQueue c).2 = R.2 := by rw [hR]
  rw [e1, e2]
  have HR := hide hR
  clear e1 e2 hR
  go_enter Try.func82, Try.ntmps82
  go_wp2_with fail
  refine (cr_word H.out).mono ?_
  rintro r w1 ⟨rfl, h1⟩
  have H1 := hide h1
  clear h1 H
  obtain ⟨kk, hkk⟩ : ∃ n : Nat, n = c.word.toNat := ⟨_, rfl⟩
  have bk : kk < 65536 := by rw [hkk]; exact word_lt _
  obtain ⟨ok, hok⟩ : ∃ b : Bool, b = (decide (kk % 2 = 0) && decide (2 ≤ kk) && decide (kk ≤ 64)) := ⟨_, rfl⟩
  have HE : Hid (R = (m.put_words (takeW (((c.afterW.need ok 5).afterW.need (decide (kk = 2 * (c.afterW.need ok 5).word.toNat + 2)) 5).got ((c.afterW.need ok 5).word.toNat : Int) 2)), ((c.afterW.need ok 5).afterW.need (decide (kk = 2 * (c.afterW.need ok 5).word.toNat + 2)) 5).next ((c.afterW.need ok 5).word.toNat : Int) 2)) := hide (by rw [HR.out, hok, hkk]; rfl)
  rw [show wordV c.word = .int .u16 (kk : Int) by rw [hkk]]
  have HOK := hide hok
  have hwk : IntKind.i64.wrap (kk : Int) = (kk : Int) := by rw [IntKind.wrap_i64]; omega
  clear hkk HR hok
  rcases Nat.mod_two_eq_zero_or_one kk with h0 | h0
  all_goals
    have hr0 : (kk : Int) % 2 = ((kk % 2 : Nat) : Int) := by omega
    by_cases h2 : 2 ≤ kk
    all_goals
      have h2i : (2 : Int) ≤ (kk : Int) ↔ 2 ≤ kk := by omega
      go_wp2_with fail
      refine (cr_need H1.out _ _).mono ?_
      rintro r w2 ⟨rfl, hh, _⟩
      have hc : CR w0 wb hi gm gc m (c.afterW.need ok 5) w2 := by
        have hv := HOK.out
        first
          | (rw [show ok = false by rw [hv]; simp; omega]; exact hh)
          | (rw [show ok = decide ((kk : Int) ≤ 64) by rw [hv, Bool.eq_iff_iff]; simp; omega]; exact hh)
      have H2 := hide hc
      clear hc hh H1 HOK hr0 h2i
      generalize c.afterW.need ok 5 = d at *
      go_wp2_with fail
      refine (cr_word H2.out).mono ?_
      rintro r w4 ⟨rfl, h4⟩
      have H4 := hide h4
      clear h4 H2
      obtain ⟨k, hk⟩ : ∃ n : Nat, n = d.word.toNat := ⟨_, rfl⟩
      have bk2 : k < 65536 := by rw [hk]; exact word_lt _
      rw [← hk] at HE
      rw [show wordV d.word = .int .u16 (k : Int) by rw [hk]]
      have hwk2 : IntKind.i64.wrap (k : Int) = (k : Int) := by rw [IntKind.wrap_i64]; omega
      have hwk3 : IntKind.i64.wrap (2 * (k : Int)) = 2 * (k : Int) := by rw [IntKind.wrap_i64]; omega
      have hwk4 : IntKind.i64.wrap (2 * (k : Int) + 2) = 2 * (k : Int) + 2 := by rw [IntKind.wrap_i64]; omega
      clear hk
      go_wp2_with fail
      refine (cr_need H4.out _ _).mono ?_
      rintro r w5 ⟨rfl, h5, _⟩
      have hc : CR w0 wb hi gm gc m (d.afterW.need (decide (kk = 2 * k + 2)) 5) w5 := by
        have he : (2 * (k : Int) + 2 == (kk : Int)) = decide (kk = 2 * k + 2) := by rw [Bool.eq_iff_iff]; simp; omega
        first | exact h5 | (rw [← he]; exact h5)
      have H5 := hide hc
      clear hc h5 H4
      go_wp2_with fail
      refine (cr_words H5.out _).mono ?_
      rintro r w3 ⟨⟨a3, c3, rfl, hx3⟩, h3⟩
      have f3 := h3.mb.fr 12
      obtain ⟨a4, l4, c4, k3, _⟩ := h3.mb.c_words
      have H3 := hide (h3.put_words hx3)
      clear h3 H5 hx3
      go_wp2
      go_end0
      rw [HE.out]
      exact ⟨rfl, H3.out⟩

abbrev clV (F : FuncId) (caps : Array Value) : Value := .func (.func F) #[] caps
/-- A captured form of places. -/
def AheadAt (w0 : World) (ga g : Nat) (most : Nat) : Prop :=
  w0.heap[ga]? = some (.cells #[clV 61 #[ptrV g], clV 64 #[]] 51 (0, 0)) ∧ w0.heap[g]? = some (.cells #[.int .i64 (most : Int)] 3 (0, 0))

set_option maxRecDepth 20000 in
set_option maxHeartbeats 4000000 in
theorem someRead_any (h : CR w0 wb hi gm gc m c w) {wc : World} (hk : Kept wc wb gm gc) (ga g : Nat) (hg : AheadAt wc ga g 123) :
    Calls Try.prog 68 #[ptrV gc, ptrV gm, ptrV ga] w fun r w' => r = .returned (.tuple #[]) ∧ CR w0 wb hi gm gc (Regs.putSome m (Regs.rSome c).1) (Regs.rSome c).2 w' := by
  have H := hide h
  clear h
  have HG := hide hg.2
  have k0 : w.cell? ⟨ga, 0, none⟩ = some (clV 61 #[ptrV g]) := cell_of_row w ga 0 _ _ _ (H.out.held hk hg.1)
  clear hg
  obtain ⟨A, hA⟩ : ∃ A, A = Regs.rAsk 123 c := ⟨_, rfl⟩
  obtain ⟨R, hR⟩ : ∃ R, R = (Regs.putSome m (Regs.rSome c).1, (Regs.rSome c).2) := ⟨_, rfl⟩
  have e1 : Regs.putSome m (Regs.rSome c).1 = R.1 := by rw [hR]
  have e2 : (Regs.rSome c).2 = R.2 := by rw [hR]
  rw [e1, e2]
  have HR : Hid (R = ((Regs.putAsk m A.1).put_words (Regs.sized A.1.2.toNat A.2).1.2, (Regs.sized A.1.2.toNat A.2).2)) := hide (by rw [hR, hA]; rfl)
  clear e1 e2 hR
  go_enter Try.func68, Try.ntmps68
  go_wp2_with fail
  refine (placesRead_any H.out 123 (by omega) hk g HG.out).mono ?_
  rw [← hA]
  clear hA
  rintro r w1 ⟨rfl, h1⟩
  have H1 := hide h1
  clear h1 H
  obtain ⟨kk, hkk⟩ : ∃ n : Nat, n = A.1.2.toNat := ⟨_, rfl⟩
  have bk : kk < 65536 := by rw [hkk]; exact word_lt _
  rw [← hkk] at HR
  have k1 : w1.cell? ⟨gm, 3, none⟩ = some (.int .u16 (kk : Int)) := by rw [hkk]; exact H1.out.mb.c_count
  have hwk : IntKind.i64.wrap (kk : Int) = (kk : Int) := by rw [IntKind.wrap_i64]; omega
  clear hkk
  go_wp2_with fail
  refine (readWords_any H1.out kk bk).mono ?_
  rintro r w3 ⟨⟨a3, c3, rfl, hx3⟩, h3⟩
  have f3 := h3.mb.fr 12
  obtain ⟨a4, l4, c4, k3, _⟩ := h3.mb.c_words
  have H3 := hide (h3.put_words hx3)
  clear h3 H1 hx3
  go_wp2
  go_end0
  rw [HR.out]
  exact ⟨rfl, H3.out⟩

set_option maxRecDepth 20000 in
set_option maxHeartbeats 4000000 in
theorem bothRead_any (h : CR w0 wb hi gm gc m c w) {wc : World} (hk : Kept wc wb gm gc) (ga g : Nat) (hg : AheadAt wc ga g 125) :
    Calls Try.prog 74 #[ptrV gc, ptrV gm, ptrV ga] w fun r w' => r = .returned (.tuple #[]) ∧ CR w0 wb hi gm gc (Regs.putBoth m (Regs.rBoth c).1) (Regs.rBoth c).2 w' := by
  have H := hide h
  clear h
  have HG := hide hg.2
  have k0 : w.cell? ⟨ga, 0, none⟩ = some (clV 61 #[ptrV g]) := cell_of_row w ga 0 _ _ _ (H.out.held hk hg.1)
  clear hg
  obtain ⟨A, hA⟩ : ∃ A, A = Regs.rAsk 125 c := ⟨_, rfl⟩
  obtain ⟨R, hR⟩ : ∃ R, R = (Regs.putBoth m (Regs.rBoth c).1, (Regs.rBoth c).2) := ⟨_, rfl⟩
  have e1 : Regs.putBoth m (Regs.rBoth c).1 = R.1 := by rw [hR]
  have e2 : (Regs.rBoth c).2 = R.2 := by rw [hR]
  rw [e1, e2]
  have HR : Hid (R = (((Regs.putAsk m A.1).put_addr2 A.2.word).put_words (Regs.sized (Regs.span 121 A.2.word A.2.afterW).1.toNat (Regs.span 121 A.2.word A.2.afterW).2).1.2, (Regs.sized (Regs.span 121 A.2.word A.2.afterW).1.toNat (Regs.span 121 A.2.word A.2.afterW).2).2)) := hide (by rw [hR, hA]; rfl)
  clear e1 e2 hR
  go_enter Try.func74, Try.ntmps74
  go_wp2_with fail
  refine (placesRead_any H.out 125 (by omega) hk g HG.out).mono ?_
  rw [← hA]
  clear hA
  rintro r w1 ⟨rfl, h1⟩
  have H1 := hide h1
  clear h1 H k0
  generalize Regs.putAsk m A.1 = m1 at *
  generalize A.2 = c1 at *
  go_wp2_with fail
  refine (cr_word H1.out).mono ?_
  rintro r w2 ⟨rfl, h2⟩
  have f2 := h2.mb.fr 7
  have k2 := h2.mb.c_addr2
  have H2 := hide (h2.put_addr2 c1.word)
  clear h2 H1
  go_upto_region 2 with fail
  generalize w2.setCell ⟨gm, 7, none⟩ (wordV c1.word) = w3 at *
  clear f2 k2
  have k3 : w3.cell? ⟨gm, 7, none⟩ = some (wordV c1.word) := H2.out.mb.c_addr2
  go_wp2_with fail
  refine (readCount_any H2.out c1.word 121 (by omega)).mono ?_
  rintro r w4 ⟨rfl, h4⟩
  generalize Regs.span 121 c1.word c1.afterW = S at *
  have H4 := hide h4
  clear h4 H2 k3
  obtain ⟨kk, hkk⟩ : ∃ n : Nat, n = S.1.toNat := ⟨_, rfl⟩
  have bk : kk < 65536 := by rw [hkk]; exact word_lt _
  rw [← hkk] at HR
  rw [show wordV S.1 = .int .u16 (kk : Int) by rw [hkk]]
  have hwk : IntKind.i64.wrap (kk : Int) = (kk : Int) := by rw [IntKind.wrap_i64]; omega
  clear hkk
  go_wp2_with fail
  refine (readWords_any H4.out kk bk).mono ?_
  rintro r w5 ⟨⟨a3, c3, rfl, hx3⟩, h3⟩
  have f3 := h3.mb.fr 12
  obtain ⟨a4, l4, c4, k3, _⟩ := h3.mb.c_words
  have H3 := hide (h3.put_words hx3)
  clear h3 H4 hx3
  go_wp2
  go_end0
  rw [HR.out]
  exact ⟨rfl, H3.out⟩

/-! the forms, as values -/
namespace Regs
def Frm.rd : Frm → FuncId
  | 0 => 61
  | 1 => 78
  | 2 => 66
  | 3 => 68
  | 4 => 61
  | 5 => 72
  | 6 => 74
  | 7 => 76
  | 8 => 82
def Frm.wr : Frm → FuncId
  | 0 => 64
  | 1 => 81
  | 2 => 67
  | 3 => 70
  | 4 => 64
  | 5 => 73
  | 6 => 75
  | 7 => 77
  | 8 => 83
/-- What a form's closures have captured. -/
def Frm.caps (w0 : World) : Frm → Array Value → Array Value → Prop
  | 0, r, s => ∃ g, r = #[ptrV g] ∧ s = #[] ∧ w0.heap[g]? = some (.cells #[.int .i64 ((125 : Nat) : Int)] 3 (0, 0))
  | 4, r, s => ∃ g, r = #[ptrV g] ∧ s = #[] ∧ w0.heap[g]? = some (.cells #[.int .i64 ((123 : Nat) : Int)] 3 (0, 0))
  | 3, r, s => ∃ ga g, r = #[ptrV ga] ∧ s = #[ptrV ga] ∧ AheadAt w0 ga g 123
  | 6, r, s => ∃ ga g, r = #[ptrV ga] ∧ s = #[] ∧ AheadAt w0 ga g 125
  | 1, r, s => r = #[] ∧ s = #[]
  | 2, r, s => r = #[] ∧ s = #[]
  | 5, r, s => r = #[] ∧ s = #[]
  | 7, r, s => r = #[] ∧ s = #[]
  | 8, r, s => r = #[] ∧ s = #[]
theorem Frm.caps_key {w0 w1 : World} (key : ∀ (g : Nat) (cs : Array Value) (t : TypeId), w0.heap[g]? = some (.cells cs t (0, 0)) → cs ≠ #[.nilFunc, .nilFunc] → w1.heap[g]? = some (.cells cs t (0, 0))) {f : Frm} {r s : Array Value} (h : f.caps w0 r s) : f.caps w1 r s := by
  rcases Frm.nine f with rfl | rfl | rfl | rfl | rfl | rfl | rfl | rfl | rfl
  · obtain ⟨g, h1, h2, h3⟩ := h; exact ⟨g, h1, h2, key _ _ _ h3 (by simp)⟩
  · exact h
  · exact h
  · obtain ⟨ga, g, h1, h2, h3, h4⟩ := h; exact ⟨ga, g, h1, h2, key _ _ _ h3 (by simp), key _ _ _ h4 (by simp)⟩
  · obtain ⟨g, h1, h2, h3⟩ := h; exact ⟨g, h1, h2, key _ _ _ h3 (by simp)⟩
  · exact h
  · obtain ⟨ga, g, h1, h2, h3, h4⟩ := h; exact ⟨ga, g, h1, h2, key _ _ _ h3 (by simp), key _ _ _ h4 (by simp)⟩
  · exact h
  · exact h
theorem Frm.caps_mono {w0 w1 : World} (hb : Below w0.heap.size w0 w1) {f : Frm} {r s : Array Value} (h : f.caps w0 r s) : f.caps w1 r s :=
  Frm.caps_key (fun _ _ _ hg _ => (hb.block _ (lt_of_block hg)).trans hg) h
theorem Frm.caps_set {w0 w1 : World} {r0 : Nat} {t : TypeId} (e0 : w0.heap[r0]? = some (.cells #[.nilFunc, .nilFunc] t (0, 0))) (hn : ∀ k, k ≠ r0 → w1.heap[k]? = w0.heap[k]?) {f : Frm} {r s : Array Value} (h : f.caps w0 r s) : f.caps w1 r s :=
  Frm.caps_key (fun g cs t hg hc => (hn g (fun h => hc (by
    subst h
    rw [hg] at e0
    injection e0 with e0
    injection e0)) ).trans hg) h
end Regs

/-- What a form's closure reads. -/
theorem formRead_any (f : Regs.Frm) {rc sc : Array Value} {wc : World} (hk : Kept wc wb gm gc) (hf : f.caps wc rc sc) (h : CR w0 wb hi gm gc m c w) :
    Calls Try.prog f.rd (#[ptrV gc, ptrV gm] ++ rc) w fun r w' => r = .returned (.tuple #[]) ∧ CR w0 wb hi gm gc (f.read (m, c)).1 (f.read (m, c)).2 w' := by
  rcases Regs.Frm.nine f with rfl | rfl | rfl | rfl | rfl | rfl | rfl | rfl | rfl
  · obtain ⟨g, rfl, _, h3⟩ := hf; exact placesRead_any h 125 (by omega) hk g h3
  · obtain ⟨rfl, _⟩ := hf; exact toldRead_any h
  · obtain ⟨rfl, _⟩ := hf; exact oneRead_any h
  · obtain ⟨ga, g, rfl, _, h3⟩ := hf; exact someRead_any h hk ga g h3
  · obtain ⟨g, rfl, _, h3⟩ := hf; exact placesRead_any h 123 (by omega) hk g h3
  · obtain ⟨rfl, _⟩ := hf; exact masksRead_any h
  · obtain ⟨ga, g, rfl, _, h3⟩ := hf; exact bothRead_any h hk ga g h3
  · obtain ⟨rfl, _⟩ := hf; exact queueRead_any h
  · obtain ⟨rfl, _⟩ := hf; exact queuedRead_any h
theorem rd_enter (f : Regs.Frm) (args : Array Value) (w : World) : (callFunc f.rd args).run Try.prog w = .ok (.enter f.rd args) w := by
  rcases Regs.Frm.nine f with rfl | rfl | rfl | rfl | rfl | rfl | rfl | rfl | rfl <;> kernel_rfl
theorem wr_enter (f : Regs.Frm) (args : Array Value) (w : World) : (callFunc f.wr args).run Try.prog w = .ok (.enter f.wr args) w := by
  rcases Regs.Frm.nine f with rfl | rfl | rfl | rfl | rfl | rfl | rfl | rfl | rfl <;> kernel_rfl
end

end Go.Proofs.Ytaccebkgmjiaaaa
