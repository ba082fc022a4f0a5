/-
  The chapter's examples of layer 11.
-/
import Derived.Test.YtolkcohmoalnhaaFilePut
import Derived.Lib.SlBytesConst
namespace Go.Proofs.Ytolkcohmoalnhaa
open Go.RowKit
open Word Bits Cursor

/-- A message's cells, of which the parts alone are told. -/
abbrev rCells (c rs : Value) : Array Value := #[c, .int .u8 0, .int .u16 0, .int .u16 0, .int .u16 0, .int .u16 0, .int .u16 0, .int .u16 0, .int .u16 0, .int .u16 0, .int .u16 0, .int .u16 0, .slice none 0 0, .slice none 0 0, .slice none 0 0, rs, .int .u8 0, .int .u8 0, .int .u8 0, .int .u8 0, .int .u8 0, .slice none 0 0]
def partsM (c : UInt8) (l : List RecM) : MsgM := (MsgM.of c).put_recs l
theorem r_at {w : World} (c : UInt8) {l : List RecM} {a : Option Addr} {len cap : Nat} (h : Rs w a len cap l) : MsgAt w (.agg (rCells (byteV c) (.slice a len cap))) (partsM c l) :=
  ⟨none, 0, 0, none, 0, 0, none, 0, 0, a, len, cap, none, 0, 0, rfl, Sl.nil _ _ (Nat.zero_le _), Sl.nil _ _ (Nat.zero_le _), Sl.nil _ _ (Nat.zero_le _), h, Obs.nil _ _ (Nat.zero_le _)⟩
theorem one_rs {w : World} {g : Nat} {x : RecM} {aw : Option Addr} {lw cw : Nat} {t : TypeId} (h : w.heap[g]? = some (.cells (partC x (.slice aw lw cw)) t (0, 0))) (hw : Ws w aw lw cw x.words) : Rs w (some ⟨g, 0, none⟩) 1 1 [x] :=
  ⟨rfl, Nat.le_refl _, by unfold maxLen; omega, fun i hi => by
    have h0 : i = 0 := by simp at hi; omega
    subst h0
    exact ⟨g, 0, aw, lw, cw, rfl, lt_of_block h, cell_of_row w g _ _ _ _ h, cell_of_row w g _ _ _ _ h, cell_of_row w g _ _ _ _ h, cell_of_row w g _ _ _ _ h, hw⟩⟩
theorem parts_small {c : UInt8} {l : List RecM} (h : l.length ≤ 100) (hw : ∀ r ∈ l, r.words.length ≤ 300) : (partsM c l).Small := ⟨Nat.zero_le _, Nat.zero_le _, Nat.zero_le _, h, Nat.zero_le _, hw, fun o ho => by cases ho⟩

theorem ex11a : (Files.parse 0 20 [7, 6, 0, 4, 0, 1, 0, 2]).2 = 0 := by decide +kernel
theorem ex11b : (Files.parse 0 20 [7, 6, 0, 4, 0, 1, 0, 2]).1.recs = [⟨4, 1, 2, []⟩] := by kernel_rfl
def two11 : MsgM := partsM 20 [⟨0, 0, 0, [7]⟩]
theorem ex11c : Files.write 1 two11 = some [4, 3, 6, 0, 7] := by decide +kernel

set_option maxRecDepth 20000 in
set_option maxHeartbeats 2000000 in
theorem awake_any (w : World) : Calls Try.prog 11 #[] w fun e w' => e = .returned (.bool true) ∧ Below w.heap.size w w' := by
  have hst := strOf_toList
  go_enter Try.func11, Try.ntmps11
  go_wp2_with fail
  refine (filesParse_any 0 20 _ _ _ [7, 6, 0, 4, 0, 1, 0, 2] _ (Sl.fresh w _ _ 5 _ 8 rfl (by unfold maxLen; omega) (by rfl)) (by decide)).mono ?_
  rintro e w1 ⟨⟨v1, rfl, hm1⟩, hb1⟩
  replace hb1 := below_next ((Below.refl w.heap.size w).alloc (Nat.le_refl _) _) hb1 (Nat.le_refl _)
  rw [ex11a]
  have x2 := ex11b
  generalize (Files.parse 0 20 [7, 6, 0, 4, 0, 1, 0, 2]).1 = m1 at *
  obtain ⟨cs1, rfl, hs1, ho1, _⟩ := hm1.agg
  have HM1 := hide hm1
  clear hm1
  go_wp2_with ((with_reducible (show wpList _ _ _ ({ dst := _, op := Op.store _ _ _, type := _, pos := _, after := _, guard := _ } :: _) _ _)); refine wpList_store_new rfl 30 _ _ rfl cs1 rfl rfl (msg_size cs1 hs1) hs1.symm ho1 ?_)
  intro w2 h2 b2
  have hmb2 : MB 30 w2 w1.heap.size m1 := ⟨cs1, h2, HM1.out.mono b2⟩
  replace hb1 := below_next hb1 b2 (Nat.le_refl _)
  clear h2 b2 HM1
  have hg1 := hmb2.lt
  generalize w1.heap.size = g1 at *
  obtain ⟨ar, lr, cr, kr, hrs⟩ := hmb2.c_recs
  rw [x2] at hrs
  have hlr : lr = 1 := hrs.hlen.symm
  subst hlr
  obtain ⟨b, off, aw, lw, cw, rfl, hbl, hc0, hc1, hc2, hc3, _⟩ := hrs.hcell 0 (by simp)
  clear hmb2 hrs
  have k0 : w2.cell? ⟨b, off, none⟩ = some (.int .u16 4) := (show _ = some (wordV 4) by simpa using hc0)
  have k1 : w2.cell? ⟨b, off + 1, none⟩ = some (.int .u16 1) := (show _ = some (wordV 1) by simpa using hc1)
  have k2 : w2.cell? ⟨b, off + 2, none⟩ = some (.int .u16 2) := (show _ = some (wordV 2) by simpa using hc2)
  clear hc0 hc1 hc2 hc3
  go_wp2_with fail
  have e7 := heap_alloc_new w2 (.cells #[.int .u16 7] 24 (0, 0))
  have w7 : Ws (w2.alloc (.cells #[.int .u16 7] 24 (0, 0))) (some ⟨w2.heap.size, 0, none⟩) 1 1 [7] := litW w2 [7] 1 rfl (by omega) [wordV 7] 24 rfl |>.sl
  have b7 := (Below.refl w2.heap.size w2).alloc (Nat.le_refl _) (.cells #[.int .u16 7] 24 (0, 0))
  have z7 : (w2.alloc (.cells #[.int .u16 7] 24 (0, 0))).heap.size = w2.heap.size + 1 := by simp
  generalize w2.alloc (.cells #[.int .u16 7] 24 (0, 0)) = w3 at *
  have b8 := (Below.refl w3.heap.size w3).alloc (Nat.le_refl _) (.cells #[.int .u16 0, .int .u16 0, .int .u16 0, .slice (some ⟨w2.heap.size, 0, none⟩) 1 1] 43 (0, 0))
  have e8 := heap_alloc_new w3 (.cells #[.int .u16 0, .int .u16 0, .int .u16 0, .slice (some ⟨w2.heap.size, 0, none⟩) 1 1] 43 (0, 0))
  rw [z7] at e8
  have w8 := w7.mono b8
  generalize w3.alloc (.cells #[.int .u16 0, .int .u16 0, .int .u16 0, .slice (some ⟨w2.heap.size, 0, none⟩) 1 1] 43 (0, 0)) = w4 at *
  have b24 : Below w2.heap.size w2 w4 := b7.trans (b8.mono b7.size)
  refine (filesWrite_any 1 _ two11 w4 (r_at 20 (one_rs (x := ⟨0, 0, 0, [7]⟩) e8 w8))).mono ?_
  rintro e w5 ⟨⟨a5, l5, c5, rfl, hx5⟩, hb5⟩
  rw [ex11c] at hx5 ⊢
  have b25 : Below w2.heap.size w2 w5 := b24.trans (hb5.mono b24.size)
  replace hb1 := hb1.trans (b25.mono hb1.size)
  replace kr := (b25.cell (p := ⟨g1, 15, none⟩) hg1).trans kr
  replace k0 := (b25.cell (p := ⟨b, off, none⟩) hbl).trans k0
  replace k1 := (b25.cell (p := ⟨b, off + 1, none⟩) hbl).trans k1
  replace k2 := (b25.cell (p := ⟨b, off + 2, none⟩) hbl).trans k2
  have hcv := Bs.conv (P := Try.prog) hx5 22 5 Try.underlying22 Try.underlying5 9 Try.underlying9
  have q0 : errW (some [4, 3, 6, 0, 7]) = 0 := rfl
  have q1 : outW (some [4, 3, 6, 0, 7]) = [4, 3, 6, 0, 7] := rfl
  rw [q1] at hcv
  rw [q0]
  clear hx5 hb5 e8 w8 w7 e7 b7 b8 b24 b25 q1 x2
  go_wp2
  go_ret
  exact ⟨rfl, hb1⟩

end Go.Proofs.Ytolkcohmoalnhaa
