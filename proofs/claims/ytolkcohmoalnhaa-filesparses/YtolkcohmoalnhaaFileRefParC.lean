/-
  The document's own answers for files: Parse, over what its parts answer.
-/
import Derived.Test.YtolkcohmoalnhaaJoinC
import Derived.Test.YtolkcohmoalnhaaJoinE
import Derived.Test.YtolkcohmoalnhaaFileRefPartA
import Derived.Test.YtolkcohmoalnhaaFileRefPartB
import Derived.Test.YtolkcohmoalnhaaFileRefPartC
namespace Go.Proofs.Ytolkcohmoalnhaa
open Go.RowKit
open Word Bits Cursor

set_option maxRecDepth 20000 in
set_option maxHeartbeats 4000000 in
theorem rp_both0 (a : Option Addr) (len cap : Nat) (xs : List UInt8) (w : World) (hx : Bs w a len cap xs) (hlen : len ≤ 100000) :
    Calls Try.prog 13 #[.int .i64 0, byteV 21, .slice a len cap] w fun e w' =>
      (∃ v, e = .returned (.tuple #[v, .int .i64 (finish (Files.Frm.read 2 (MsgM.of 21, St.new xs))).2]) ∧ MsgAt w' v (finish (Files.Frm.read 2 (MsgM.of 21, St.new xs))).1) ∧ Below w.heap.size w w' := by
  have HX := hide hx
  have HLN := hide hx.hlen
  clear hx
  obtain ⟨R, hR⟩ : ∃ R, R = finish (Files.Frm.read 2 (MsgM.of 21, St.new xs)) := ⟨_, rfl⟩
  rw [← hR]
  have HR := hide hR
  clear hR
  have e0 := heap_alloc_new w (.cells zeroCells 30 (0, 0))
  have b0 := (Below.refl w.heap.size w).alloc (Nat.le_refl _) (.cells zeroCells 30 (0, 0))
  rw [show byteV 21 = .int .u8 (21 : Int) from rfl]
  go_enter Try.func13, Try.ntmps13
  cases xs with
  | nil =>
    obtain rfl : len = 0 := HLN.out.symm
    have hR : Hid (R = (MsgM.zero, 2)) := hide (by rw [HR.out, Files.doc_none])
    clear HR HLN
    go_wp2_with ((with_reducible (show wpList _ _ _ ({ dst := _, op := Op.store _ _ _, type := _, pos := _, after := _, guard := _ } :: _) _ _)); refine wpList_store_lies rfl 30 _ _ rfl w.heap.size zeroCells rfl rfl _ _ e0 (msg_size _ rfl) rfl zero_one ?_)
    intro w3 h3 b3 n3 z3
    go_wp2
    (try simp only [Exit.inBlock, Exit.then])
    rw [hR.out]
    exact bodyPost_ret (results_row_tmp Try.results13 _ _ w.heap.size _ _ _ _ rfl h3 Try.underlying30 rfl (msg_size _ rfl) _ rfl) rfl ⟨⟨_, rfl, MsgAt.zero _⟩, b0.trans (b3 _ (Nat.le_refl _))⟩
  | cons x r =>
    have hlr : len ≤ r.length + 1 ∧ r.length + 1 ≤ len := by have := HLN.out; simp at this; omega
    have hle := HX.out.hle
    have hmx := HX.out.hmax
    unfold maxLen at hmx
    obtain ⟨nx, hnx⟩ : ∃ n, n = x.toNat := ⟨_, rfl⟩
    have hn8 : nx < 256 := by rw [hnx]; exact byte_lt x
    obtain ⟨b, off, rfl, hlt, hc⟩ := HX.out.at (by omega)
    have hc0 : (w.alloc (.cells zeroCells 30 (0, 0))).cell? ⟨b, off, none⟩ = some (.int .u8 (nx : Int)) := ((((Below.refl w.heap.size w).alloc (Nat.le_refl _) _).cell (p := ⟨b, off, none⟩) hlt).trans (hc 0 (by simp))).trans (by rw [hnx]; rfl)
    have e5 : ((len : Int) == 0) = false := by simp; omega
    have d5 : decide ((len : Int) = 0) = false := by simp; omega
    have l5 : 0 < len := by omega
    clear hc hlt HLN
    by_cases hB : nx < 9
    · skip
      have hR : Hid (R = (MsgM.zero, 5)) := hide (by rw [HR.out, Files.doc_rule _ _ _ _ (by rw [← hnx]; unfold Files.ruleN; simp <;> omega)])
      clear HR hnx
      go_wp2_with ((with_reducible (show wpList _ _ _ ({ dst := _, op := Op.store _ _ _, type := _, pos := _, after := _, guard := _ } :: _) _ _)); refine wpList_store_lies rfl 30 _ _ rfl w.heap.size zeroCells rfl rfl _ _ e0 (msg_size _ rfl) rfl zero_one ?_)
      intro w3 h3 b3 n3 z3
      go_wp2
      (try simp only [Exit.inBlock, Exit.then])
      rw [hR.out]
      exact bodyPost_ret (results_row_tmp Try.results13 _ _ w.heap.size _ _ _ _ rfl h3 Try.underlying30 rfl (msg_size _ rfl) _ rfl) rfl ⟨⟨_, rfl, MsgAt.zero _⟩, b0.trans (b3 _ (Nat.le_refl _))⟩
    by_cases hG : nx ≤ 251
    · have d251 : decide ((nx : Int) ≤ 251) = true := by simp; omega
      have hq : Files.ruleN 2 x.toNat = true := by rw [← hnx]; unfold Files.ruleN; simp <;> omega
      by_cases hs : r.length < nx
      · have hR : Hid (R = (MsgM.zero, 2)) := hide (by rw [HR.out, Files.doc_short _ _ _ _ hq (by omega)])
        clear HR hnx hq
        go_wp2_with ((with_reducible (show wpList _ _ _ ({ dst := _, op := Op.store _ _ _, type := _, pos := _, after := _, guard := _ } :: _) _ _)); refine wpList_store_lies rfl 30 _ _ rfl w.heap.size zeroCells rfl rfl _ _ e0 (msg_size _ rfl) rfl zero_one ?_)
        intro w3 h3 b3 n3 z3
        go_wp2
        (try simp only [Exit.inBlock, Exit.then])
        rw [hR.out]
        exact bodyPost_ret (results_row_tmp Try.results13 _ _ w.heap.size _ _ _ _ rfl h3 Try.underlying30 rfl (msg_size _ rfl) _ rfl) rfl ⟨⟨_, rfl, MsgAt.zero _⟩, b0.trans (b3 _ (Nat.le_refl _))⟩
      have HD : Hid (Bs w (some ⟨b, off + 1, none⟩) nx (cap - 1) (r.take nx)) := hide ((HX.out.drop 1 (by omega)).take nx (by omega))
      have HF := hide (HR.out.trans (Files.doc_whole 2 21 x r hq (by omega)))
      rw [← hnx] at HF
      clear HR HX hnx hq
      go_wp2_with fail
      replace HD := hide (HD.out.mono b0)
      generalize w.alloc (.cells zeroCells 30 (0, 0)) = u0 at *
      have lu := lt_of_block e0
      refine (refParts_both0 _ nx (cap - 1) (r.take nx) u0 HD.out (by omega)).mono ?_
      rintro e w2 ⟨⟨ar, lr, cr, rfl, hrs⟩, b2⟩
      have HRS := hide hrs
      replace e0 := (b2.block _ (lt_of_block e0)).trans e0
      replace b0 := b0.trans (b2.mono b0.size)
      clear hrs b2 HD hc0
      generalize blockE (Files.part 2) Files.step (r.take nx) = E at *
      generalize (many (Files.part 2) Files.step (r.take nx).length 0 (St.new (r.take nx))).1 = l at *
      by_cases hE : E = 0
      rotate_left
      · have hR : Hid (R = (MsgM.zero, E)) := hide (by rw [HF.out, if_pos hE])
        have g1 : (E != 0) = true := by simpa using hE
        clear HF
        go_wp2_with ((with_reducible (show wpList _ _ _ ({ dst := _, op := Op.store _ _ _, type := _, pos := _, after := _, guard := _ } :: _) _ _)); refine wpList_store_lies rfl 30 _ _ rfl w.heap.size zeroCells rfl rfl _ _ e0 (msg_size _ rfl) rfl zero_one ?_)
        intro w3 h3 b3 n3 z3
        go_wp2
        (try simp only [Exit.inBlock, Exit.then])
        rw [hR.out]
        exact bodyPost_ret (results_row_tmp Try.results13 _ _ w.heap.size _ _ _ _ rfl h3 Try.underlying30 rfl (msg_size _ rfl) _ rfl) rfl ⟨⟨_, rfl, MsgAt.zero _⟩, b0.trans (b3 _ (Nat.le_refl _))⟩
      subst hE
      by_cases hm : nx < r.length
      · have hR : Hid (R = (MsgM.zero, 3)) := hide (by rw [HF.out, if_neg (by simp), if_pos hm])
        clear HF
        go_wp2_with ((with_reducible (show wpList _ _ _ ({ dst := _, op := Op.store _ _ _, type := _, pos := _, after := _, guard := _ } :: _) _ _)); refine wpList_store_lies rfl 30 _ _ rfl w.heap.size zeroCells rfl rfl _ _ e0 (msg_size _ rfl) rfl zero_one ?_)
        intro w3 h3 b3 n3 z3
        go_wp2
        (try simp only [Exit.inBlock, Exit.then])
        rw [hR.out]
        exact bodyPost_ret (results_row_tmp Try.results13 _ _ w.heap.size _ _ _ _ rfl h3 Try.underlying30 rfl (msg_size _ rfl) _ rfl) rfl ⟨⟨_, rfl, MsgAt.zero _⟩, b0.trans (b3 _ (Nat.le_refl _))⟩
      have hR : Hid (R = ((MsgM.of 21).put_recs l, 0)) := hide (by rw [HF.out, if_neg (by simp), if_neg hm])
      have HM := hide (HRS.out rfl)
      clear HF HRS
      go_wp2_with ((with_reducible (show wpList _ _ _ ({ dst := _, op := Op.store _ _ _, type := _, pos := _, after := _, guard := _ } :: _) _ _)); refine wpList_store_lies rfl 30 _ _ rfl w.heap.size (rCells (.int .u8 21) (.slice ar lr cr)) rfl rfl _ _ e0 (msg_size _ rfl) rfl (by simp [Value.oneCell']) ?_)
      intro w3 h3 b3 n3 z3
      go_wp2
      (try simp only [Exit.inBlock, Exit.then])
      rw [hR.out]
      exact bodyPost_ret (results_row_tmp Try.results13 _ _ w.heap.size _ _ _ _ rfl h3 Try.underlying30 rfl (msg_size _ rfl) _ rfl) rfl ⟨⟨_, rfl, r_at 21 (HM.out w3 ⟨Nat.le_of_eq z3.symm, fun k _ hk => n3 k (by omega)⟩)⟩, b0.trans (b3 _ (Nat.le_refl _))⟩
    by_cases hB : 251 < nx
    · have d251 : decide ((nx : Int) ≤ 251) = false := by simp; omega
      have hR : Hid (R = (MsgM.zero, 5)) := hide (by rw [HR.out, Files.doc_rule _ _ _ _ (by rw [← hnx]; unfold Files.ruleN; simp <;> omega)])
      clear HR hnx
      go_wp2_with ((with_reducible (show wpList _ _ _ ({ dst := _, op := Op.store _ _ _, type := _, pos := _, after := _, guard := _ } :: _) _ _)); refine wpList_store_lies rfl 30 _ _ rfl w.heap.size zeroCells rfl rfl _ _ e0 (msg_size _ rfl) rfl zero_one ?_)
      intro w3 h3 b3 n3 z3
      go_wp2
      (try simp only [Exit.inBlock, Exit.then])
      rw [hR.out]
      exact bodyPost_ret (results_row_tmp Try.results13 _ _ w.heap.size _ _ _ _ rfl h3 Try.underlying30 rfl (msg_size _ rfl) _ rfl) rfl ⟨⟨_, rfl, MsgAt.zero _⟩, b0.trans (b3 _ (Nat.le_refl _))⟩
    exfalso
    omega

end Go.Proofs.Ytolkcohmoalnhaa
