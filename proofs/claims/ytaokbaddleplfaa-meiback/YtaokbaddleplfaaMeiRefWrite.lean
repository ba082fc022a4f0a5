/-
  The document's own answers for mei: Write.
-/
import Derived.Test.YtaokbaddleplfaaMeiRefBytes
import Derived.Test.YtaokbaddleplfaaMeiRefParse
import Derived.Test.YtaokbaddleplfaaRefSame
import Derived.Deep.CutBlock
import Derived.Deep.DeepCutAuto
namespace Go.Proofs.Ytaokbaddleplfaa
open Go.RowKit
open Word Bits Cursor

set_option maxRecDepth 20000 in
set_option maxHeartbeats 4000000 in
theorem refWrite_any (dir : Int) (v : Value) (m : MsgM) (w : World) (hm : MsgAt w v m) (hl : m.Small) :
    Calls Try.prog 17 #[.int .i64 dir, v] w fun e w' =>
      (∃ a l c, e = .returned (.tuple #[.slice a l c, .int .i64 (Mei.errW (Mei.write dir m))]) ∧ Bs w' a l c (Mei.outW (Mei.write dir m))) ∧ Below w.heap.size w w' := by
  obtain ⟨cs, rfl, hsz, hone, hc0⟩ := hm.agg
  have HM := hide hm
  have HC0 := hide hc0
  have hbw := (Below.refl w.heap.size w).alloc (Nat.le_refl _) (.cells cs apiT (0, 0))
  have e1 := heap_alloc_new w (.cells cs apiT (0, 0))
  obtain ⟨R, hR⟩ : ∃ R, R = Mei.write dir m := ⟨_, rfl⟩
  rw [← hR]
  rw [Mei.write_ref] at hR
  have HR := hide hR
  clear hR hm hc0 hone
  go_enter Try.func17, Try.ntmps17
  go_upto_region 1 with (refine wpList_boxC rfl 30 _ rfl cs rfl ?_)
  have HM1 := hide (HM.out.mono hbw)
  generalize w.alloc (.cells cs apiT (0, 0)) = w1 at *
  generalize hr : w.heap.size = r at *
  have hrl : r < w1.heap.size := lt_of_block e1
  go_wp2_with (refine wpList_load_row rfl 30 _ rfl r rfl 30 cs (0, 0) _ e1 Try.underlying30 rfl (msg_size cs hsz) ?_)
  refine (refBytesOf_any dir (.agg cs) m w1 HM1.out hl).mono ?_
  rintro e w2 ⟨⟨a2, l2, c2, rfl, hl2, hx2⟩, hb2⟩
  have HX2 := hide hx2
  replace HM1 := hide (HM1.out.mono hb2)
  replace e1 := (hb2.block r hrl).trans e1
  have HB := hide (hbw.trans (hb2.mono (Nat.le_of_lt hrl)))
  have hr2 : r < w2.heap.size := lt_of_block e1
  have hc2 : w2.cell? ⟨r, 0, none⟩ = some (byteV m.code) := (cell_of_row w2 r 0 _ _ _ e1).trans HC0.out
  clear hx2 hb2 hbw hl
  generalize Mei.refBytes dir m = B at *
  go_wp2_with fail
  refine (refParse_any dir m.code a2 l2 c2 B w2 HX2.out hl2).mono ?_
  rintro e w6 ⟨⟨v6, rfl, hm6⟩, hb6⟩
  obtain ⟨cs6, rfl, hs6, ho6, _⟩ := hm6.agg
  have hz6 := hb6.size
  have HX6 := hide (HX2.out.mono hb6)
  have HM6 := hide hm6
  have HM7 := hide (HM1.out.mono hb6)
  replace e1 := (hb6.block r hr2).trans e1
  replace HB := hide (HB.out.trans (hb6.mono (Nat.le_of_lt hr2)))
  clear HM1 HX2 hc2 hb6 hm6
  generalize Mei.parse dir m.code B = P at *
  obtain ⟨n, E⟩ := P
  go_wp2_with ((with_reducible (show wpList _ _ _ ({ dst := _, op := Op.store _ _ _, type := _, pos := _, after := _, guard := _ } :: _) _ _)); refine wpList_store_new rfl 30 _ _ rfl cs6 rfl rfl (msg_size cs6 hs6) hs6.symm ho6 ?_)
  intro w7 h7 b7
  replace HX6 := hide (HX6.out.mono b7)
  replace HM6 := hide (HM6.out.mono b7)
  replace HM7 := hide (HM7.out.mono b7)
  replace e1 := (b7.block r (by omega)).trans e1
  replace HB := hide (HB.out.trans (b7.mono (by omega)))
  have hz7 : r ≤ w7.heap.size := Nat.le_of_lt (lt_of_block e1)
  generalize w6.heap.size = g6 at *
  clear b7
  go_wp2_with ((with_reducible (show wpList _ _ _ ({ dst := _, op := Op.load _ _, type := _, pos := _, after := _, guard := _ } :: _) _ _)); first | (refine wpList_load_row rfl 30 _ rfl g6 rfl 30 cs6 (0, 0) _ h7 Try.underlying30 rfl (msg_size cs6 hs6) ?_) | (refine wpList_load_row rfl 30 _ rfl r rfl 30 cs (0, 0) _ e1 Try.underlying30 rfl (msg_size cs hsz) ?_))
  refine (refSame_any _ _ n m w7 HM6.out HM7.out).mono ?_
  rintro e w8 ⟨rfl, b8⟩
  have HX8 := hide (HX6.out.mono b8)
  have HB8 := hide (HB.out.trans (b8.mono hz7))
  generalize MsgM.same n m = q at *
  by_cases hE : E = 0
  · subst hE
    cases q
    · have hR : R = none := by rw [HR.out]; simp
      subst hR
      go_wp2
      go_ret2
      exact ⟨⟨_, _, _, rfl, Sl.nil _ _ (by unfold maxLen; omega)⟩, by rw [hr]; exact HB8.out⟩
    · have hR : R = Option.some B := by rw [HR.out]; simp
      subst hR
      go_wp2
      go_ret2
      exact ⟨⟨_, _, _, rfl, HX8.out⟩, by rw [hr]; exact HB8.out⟩
  · have hR : R = none := by rw [HR.out]; simp [hE]
    subst hR
    have hE' : (E == 0) = false := by simpa using hE
    clear HR
    go_wp2
    go_ret2
    exact ⟨⟨_, _, _, rfl, Sl.nil _ _ (by unfold maxLen; omega)⟩, by rw [hr]; exact HB8.out⟩

end Go.Proofs.Ytaokbaddleplfaa
