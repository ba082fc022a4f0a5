/-
  The document's own answers for regs: a message's bytes, all ways, and Write.
-/
import Derived.Test.YtaccebkgmjiaaaaRegPut
import Derived.Test.YtaccebkgmjiaaaaRegRefW1
import Derived.Test.YtaccebkgmjiaaaaRegRefW2
import Derived.Test.YtaccebkgmjiaaaaRegRefParse
import Derived.Test.YtaccebkgmjiaaaaRefSame
import Derived.Deep.CutBlock
import Derived.Deep.DeepCutAuto
namespace Go.Proofs.Ytaccebkgmjiaaaa
open Go.RowKit
open Word Bits Cursor

namespace Regs
def refBytes (dir : Int) (m : MsgM) : List UInt8 :=
  if dir = 1 ∧ (m.code = 3 ∨ m.code = 4 ∨ m.code = 23) then counted m.words
  else if m.code = 3 ∨ m.code = 4 ∨ m.code = 16 ∧ dir = 1 then putW [m.addr, m.count]
  else if m.code = 6 then putW [m.addr, m.value]
  else if m.code = 16 then putW [m.addr, m.count] ++ counted m.words
  else if m.code = 22 then putW [m.addr, m.and_, m.or_]
  else if m.code = 23 then putW [m.addr, m.count, m.addr2, UInt16.ofNat m.words.length] ++ counted m.words
  else if m.code = 24 ∧ dir = 0 then putW [m.addr]
  else if m.code = 24 then putW [UInt16.ofNat (2 * m.words.length + 2), UInt16.ofNat m.words.length] ++ putW m.words
  else counted m.words
theorem refBytes_form (dir : Int) (m : MsgM) (f : Frm) (h : formOf dir m.code = some f) : refBytes dir m = f.bytes m := by
  unfold refBytes
  generalize hc : m.code = c at *
  rcases form_dir dir c f h with rfl | rfl
  all_goals
    by_cases c3 : c = 3
    · subst c3; cases h; rfl
    by_cases c4 : c = 4
    · subst c4; cases h; rfl
    by_cases c6 : c = 6
    · subst c6; cases h; rfl
    by_cases c16 : c = 16
    · subst c16; cases h; rfl
    by_cases c22 : c = 22
    · subst c22; cases h; rfl
    by_cases c23 : c = 23
    · subst c23; cases h; rfl
    by_cases c24 : c = 24
    · subst c24; cases h; rfl
    unfold formOf at h
    simp [c3, c4, c6, c16, c22, c23, c24] at h
theorem write_ref (dir : Int) (m : MsgM) : write dir m = if (parse dir m.code (refBytes dir m)).2 = 0 ∧ MsgM.same (parse dir m.code (refBytes dir m)).1 m = true then some (refBytes dir m) else none :=
  Pack.write_ref (X := pack) refBytes refBytes_form dir m
end Regs

theorem refBytesOf_any (dir : Int) (v : Value) (m : MsgM) (w : World) (hm : MsgAt w v m) (hl : m.words.length ≤ 40000) :
    Calls Try.prog 33 #[.int .i64 dir, v] w fun e w' =>
      (∃ a l c, e = .returned (.slice a l c) ∧ l ≤ 100000 ∧ Bs w' a l c (Regs.refBytes dir m)) ∧ Below w.heap.size w w' := by
  by_cases h1 : dir = 1
  · subst h1
    by_cases n3 : m.code = 3
    · rw [(show Regs.refBytes 1 m = _ by unfold Regs.refBytes; rw [if_pos (by simp [*])])]
      exact rb_1_3 v m n3 w hm hl
    by_cases n4 : m.code = 4
    · rw [(show Regs.refBytes 1 m = _ by unfold Regs.refBytes; rw [if_pos (by simp [*])])]
      exact rb_1_4 v m n4 w hm hl
    by_cases n6 : m.code = 6
    · rw [(show Regs.refBytes 1 m = _ by unfold Regs.refBytes; rw [if_neg (by simp [*]), if_neg (by simp [*]), if_pos (by simp [*])])]
      exact rb_1_6 v m n6 w hm hl
    by_cases n16 : m.code = 16
    · rw [(show Regs.refBytes 1 m = _ by unfold Regs.refBytes; rw [if_neg (by simp [*]), if_pos (by simp [*])])]
      exact rb_1_16 v m n16 w hm hl
    by_cases n22 : m.code = 22
    · rw [(show Regs.refBytes 1 m = _ by unfold Regs.refBytes; rw [if_neg (by simp [*]), if_neg (by simp [*]), if_neg (by simp [*]), if_neg (by simp [*]), if_pos (by simp [*])])]
      exact rb_1_22 v m n22 w hm hl
    by_cases n23 : m.code = 23
    · rw [(show Regs.refBytes 1 m = _ by unfold Regs.refBytes; rw [if_pos (by simp [*])])]
      exact rb_1_23 v m n23 w hm hl
    by_cases n24 : m.code = 24
    · rw [(show Regs.refBytes 1 m = _ by unfold Regs.refBytes; rw [if_neg (by simp [*]), if_neg (by simp [*]), if_neg (by simp [*]), if_neg (by simp [*]), if_neg (by simp [*]), if_neg (by simp [*]), if_neg (by simp [*]), if_pos (by simp [*])])]
      exact rb_1_24 v m n24 w hm hl
    rw [(show Regs.refBytes 1 m = _ by unfold Regs.refBytes; rw [if_neg (by simp [*]), if_neg (by simp [*]), if_neg (by simp [*]), if_neg (by simp [*]), if_neg (by simp [*]), if_neg (by simp [*]), if_neg (by simp [*]), if_neg (by simp [*])])]
    exact rb_1_else v m n3 n4 n6 n16 n22 n23 n24 w hm hl
  have hd : (dir == 1) = false := by simpa using h1
  by_cases n3 : m.code = 3
  · rw [(show Regs.refBytes dir m = _ by unfold Regs.refBytes; rw [if_neg (by simp [*]), if_pos (by simp [*])])]
    exact rb_n_3 dir hd v m n3 w hm hl
  by_cases n4 : m.code = 4
  · rw [(show Regs.refBytes dir m = _ by unfold Regs.refBytes; rw [if_neg (by simp [*]), if_pos (by simp [*])])]
    exact rb_n_4 dir hd v m n4 w hm hl
  by_cases n6 : m.code = 6
  · rw [(show Regs.refBytes dir m = _ by unfold Regs.refBytes; rw [if_neg (by simp [*]), if_neg (by simp [*]), if_pos (by simp [*])])]
    exact rb_n_6 dir hd v m n6 w hm hl
  by_cases n16 : m.code = 16
  · rw [(show Regs.refBytes dir m = _ by unfold Regs.refBytes; rw [if_neg (by simp [*]), if_neg (by simp [*]), if_neg (by simp [*]), if_pos (by simp [*])])]
    exact rb_n_16 dir hd v m n16 w hm hl
  by_cases n22 : m.code = 22
  · rw [(show Regs.refBytes dir m = _ by unfold Regs.refBytes; rw [if_neg (by simp [*]), if_neg (by simp [*]), if_neg (by simp [*]), if_neg (by simp [*]), if_pos (by simp [*])])]
    exact rb_n_22 dir hd v m n22 w hm hl
  by_cases n23 : m.code = 23
  · rw [(show Regs.refBytes dir m = _ by unfold Regs.refBytes; rw [if_neg (by simp [*]), if_neg (by simp [*]), if_neg (by simp [*]), if_neg (by simp [*]), if_neg (by simp [*]), if_pos (by simp [*])])]
    exact rb_n_23 dir hd v m n23 w hm hl
  by_cases n24 : m.code = 24
  · by_cases h0 : dir = 0
    · subst h0
      rw [(show Regs.refBytes 0 m = _ by unfold Regs.refBytes; rw [if_neg (by simp [*]), if_neg (by simp [*]), if_neg (by simp [*]), if_neg (by simp [*]), if_neg (by simp [*]), if_neg (by simp [*]), if_pos (by simp [*])])]
      exact rb_0_24 v m n24 w hm hl
    have hd0 : (dir == 0) = false := by simpa using h0
    rw [(show Regs.refBytes dir m = _ by unfold Regs.refBytes; rw [if_neg (by simp [*]), if_neg (by simp [*]), if_neg (by simp [*]), if_neg (by simp [*]), if_neg (by simp [*]), if_neg (by simp [*]), if_neg (by simp [*]), if_pos (by simp [*])])]
    exact rb_n_24 dir hd hd0 v m n24 w hm hl
  rw [(show Regs.refBytes dir m = _ by unfold Regs.refBytes; rw [if_neg (by simp [*]), if_neg (by simp [*]), if_neg (by simp [*]), if_neg (by simp [*]), if_neg (by simp [*]), if_neg (by simp [*]), if_neg (by simp [*]), if_neg (by simp [*])])]
  exact rb_n_else dir hd v m n3 n4 n6 n16 n22 n23 n24 w hm hl

set_option maxRecDepth 20000 in
set_option maxHeartbeats 4000000 in
theorem refWrite_any (dir : Int) (v : Value) (m : MsgM) (w : World) (hm : MsgAt w v m) (hl : m.words.length ≤ 40000) :
    Calls Try.prog 17 #[.int .i64 dir, v] w fun e w' =>
      (∃ a l c, e = .returned (.tuple #[.slice a l c, .int .i64 (errW (Regs.write dir m))]) ∧ Bs w' a l c (outW (Regs.write dir m))) ∧ Below w.heap.size w w' := by
  obtain ⟨cs, rfl, hsz, hone, hc0⟩ := hm.agg
  have HM := hide hm
  have HC0 := hide hc0
  have hbw := (Below.refl w.heap.size w).alloc (Nat.le_refl _) (.cells cs apiT (0, 0))
  have e1 := heap_alloc_new w (.cells cs apiT (0, 0))
  obtain ⟨R, hR⟩ : ∃ R, R = Regs.write dir m := ⟨_, rfl⟩
  rw [← hR]
  rw [Regs.write_ref] at hR
  have HR := hide hR
  clear hR hm hc0 hone
  go_enter Try.func17, Try.ntmps17
  go_upto_region 1 with (refine wpList_boxC rfl 30 _ rfl cs rfl ?_)
  have HM1 := hide (HM.out.mono hbw)
  generalize w.alloc (.cells cs apiT (0, 0)) = w1 at *
  generalize hr : w.heap.size = r at *
  have hrl : r < w1.heap.size := lt_of_block e1
  go_wp2_with (refine wpList_load_row rfl 30 _ rfl r rfl 30 cs (0, 0) _ e1 Try.underlying30 rfl (msg_size cs hsz) ?_)
  refine (refBytesOf_any dir (.agg cs) m w1 HM1.out hl).mono ?_
  rintro e w2 ⟨⟨a2, l2, c2, rfl, hl2, hx2⟩, hb2⟩
  have HX2 := hide hx2
  replace HM1 := hide (HM1.out.mono hb2)
  replace e1 := (hb2.block r hrl).trans e1
  have HB := hide (hbw.trans (hb2.mono (Nat.le_of_lt hrl)))
  have hr2 : r < w2.heap.size := lt_of_block e1
  have hc2 : w2.cell? ⟨r, 0, none⟩ = some (byteV m.code) := (cell_of_row w2 r 0 _ _ _ e1).trans HC0.out
  clear hx2 hb2 hbw hl
  generalize Regs.refBytes dir m = B at *
  go_wp2_with fail
  refine (refParse_any dir m.code a2 l2 c2 B w2 HX2.out hl2).mono ?_
  rintro e w6 ⟨⟨v6, rfl, hm6⟩, hb6⟩
  obtain ⟨cs6, rfl, hs6, ho6, _⟩ := hm6.agg
  have hz6 := hb6.size
  have HX6 := hide (HX2.out.mono hb6)
  have HM6 := hide hm6
  have HM7 := hide (HM1.out.mono hb6)
  replace e1 := (hb6.block r hr2).trans e1
  replace HB := hide (HB.out.trans (hb6.mono (Nat.le_of_lt hr2)))
  clear HM1 HX2 hc2 hb6 hm6
  generalize Regs.parse dir m.code B = P at *
  obtain ⟨n, E⟩ := P
  go_wp2_with ((with_reducible (show wpList _ _ _ ({ dst := _, op := Op.store _ _ _, type := _, pos := _, after := _, guard := _ } :: _) _ _)); refine wpList_store_new rfl 30 _ _ rfl cs6 rfl rfl (msg_size cs6 hs6) hs6.symm ho6 ?_)
  intro w7 h7 b7
  replace HX6 := hide (HX6.out.mono b7)
  replace HM6 := hide (HM6.out.mono b7)
  replace HM7 := hide (HM7.out.mono b7)
  replace e1 := (b7.block r (by omega)).trans e1
  replace HB := hide (HB.out.trans (b7.mono (by omega)))
  have hz7 : r ≤ w7.heap.size := Nat.le_of_lt (lt_of_block e1)
  generalize w6.heap.size = g6 at *
  clear b7
  go_wp2_with ((with_reducible (show wpList _ _ _ ({ dst := _, op := Op.load _ _, type := _, pos := _, after := _, guard := _ } :: _) _ _)); first | (refine wpList_load_row rfl 30 _ rfl g6 rfl 30 cs6 (0, 0) _ h7 Try.underlying30 rfl (msg_size cs6 hs6) ?_) | (refine wpList_load_row rfl 30 _ rfl r rfl 30 cs (0, 0) _ e1 Try.underlying30 rfl (msg_size cs hsz) ?_))
  refine (refSame_any _ _ n m w7 HM6.out HM7.out).mono ?_
  rintro e w8 ⟨rfl, b8⟩
  have HX8 := hide (HX6.out.mono b8)
  have HB8 := hide (HB.out.trans (b8.mono hz7))
  generalize MsgM.same n m = q at *
  by_cases hE : E = 0
  · subst hE
    cases q
    · have hR : R = none := by rw [HR.out]; simp
      subst hR
      go_wp2
      go_ret2
      exact ⟨⟨_, _, _, rfl, Sl.nil _ _ (by unfold maxLen; omega)⟩, by rw [hr]; exact HB8.out⟩
    · have hR : R = Option.some B := by rw [HR.out]; simp
      subst hR
      go_wp2
      go_ret2
      exact ⟨⟨_, _, _, rfl, HX8.out⟩, by rw [hr]; exact HB8.out⟩
  · have hR : R = none := by rw [HR.out]; simp [hE]
    subst hR
    have hE' : (E == 0) = false := by simpa using hE
    clear HR
    go_wp2
    go_ret2
    exact ⟨⟨_, _, _, rfl, Sl.nil _ _ (by unfold maxLen; omega)⟩, by rw [hr]; exact HB8.out⟩

end Go.Proofs.Ytaccebkgmjiaaaa
