/-
  Package diag: the contract of Write.
-/
import Derived.Test.YtemomgcapjpaiaaDiagParse
import Derived.Test.YtemomgcapjpaiaaDiagWrite
import Derived.Test.YtemomgcapjpaiaaCodeSame
import Derived.Deep.CutBlock
import Derived.Deep.DeepCutAuto
namespace Go.Proofs.Ytemomgcapjpaiaa
open Go.RowKit
open Word Bits Cursor

namespace Diag
theorem write_none {dir : Int} {m : MsgM} (h : formOf dir m.code = none) : write dir m = none := by
  show pack.write dir m = none
  unfold PackW.write
  rw [show pack.formOf dir m.code = none from h]
theorem write_some {dir : Int} {m : MsgM} {f : Frm} (h : formOf dir m.code = some f) : write dir m = if (parse dir m.code (f.bytes m)).2 = 0 ∧ MsgM.same (parse dir m.code (f.bytes m)).1 m = true then some (f.bytes m) else none := by
  show pack.write dir m = _
  unfold PackW.write
  rw [show pack.formOf dir m.code = some f from h]
  rfl
end Diag

set_option maxRecDepth 20000 in
set_option maxHeartbeats 4000000 in
theorem diagWrite_any (dir : Int) (v : Value) (m : MsgM) (w : World) (hm : MsgAt w v m) (hsm : m.Small) :
    Calls Try.prog 16 #[.int .i64 dir, v] w fun e w' =>
      (∃ a l c, e = .returned (.tuple #[.slice a l c, .int .i64 (errO (Diag.write dir m))]) ∧ Bs w' a l c (outO (Diag.write dir m))) ∧ Below w.heap.size w w' := by
  obtain ⟨cs, rfl, hsz, hone, hc0⟩ := hm.agg
  have hMB := MB.made w cs hm 30
  have e1 := heap_alloc_new w (.cells cs 30 (0, 0))
  have b0 := (Below.refl w.heap.size w).alloc (Nat.le_refl _) (.cells cs 30 (0, 0))
  have HM := hide (hm.mono b0)
  have HC0 := hide hc0
  have k0 := hMB.c_code
  clear hm hc0 hMB
  obtain ⟨R, hR⟩ : ∃ R, R = Diag.write dir m := ⟨_, rfl⟩
  rw [← hR]
  have HR := hide hR
  clear hR
  go_enter Try.func16, Try.ntmps16
  go_upto_region 1 with (refine wpList_boxC rfl 30 _ rfl cs rfl ?_)
  generalize w.alloc (.cells cs 30 (0, 0)) = u at *
  have z0 := lt_of_block e1
  generalize hr : w.heap.size = r at *
  go_wp2_with fail
  refine (formOf_any dir m.code u).mono ?_
  rintro e w1 ⟨⟨fs, rfl, hs, ho, hv⟩, hb⟩
  have HV := hide hv
  replace e1 := (hb.block r z0).trans e1
  replace HM := hide (HM.out.mono hb)
  have z1 := lt_of_block e1
  replace b0 := b0.trans (hb.mono (Nat.le_of_lt z0))
  clear hb hv k0 z0
  generalize hE : Diag.errF dir m.code = E at *
  have HE := hide hE
  clear hE
  go_upto_region 2 with ((with_reducible (show wpList _ _ _ ({ dst := _, op := Op.store _ _ _, type := _, pos := _, after := _, guard := _ } :: _) _ _)); refine wpList_store_new rfl 51 _ _ rfl _ rfl rfl (formC_size _ hs) hs.symm ho ?_; intro w2 h2 b2)
  replace HM := hide (HM.out.mono b2)
  replace e1 := (b2.block r z1).trans e1
  replace b0 := b0.trans (b2.mono (Nat.le_of_lt z1))
  have z2 := lt_of_block e1
  have k0 : w2.cell? ⟨r, 0, none⟩ = some (byteV m.code) := (cell_of_row w2 r 0 _ _ _ e1).trans HC0.out
  cases hfo : Diag.formOf dir m.code with
  | none =>
    have hne := Diag.err_none hfo
    rw [HE.out] at hne
    have hq : (E != 0) = true := by simpa using hne
    have hR : Hid (R = none) := hide (by rw [HR.out, Diag.write_none hfo])
    clear HR HV HE hne hfo h2 b2 HM hs ho
    go_wp2
    go_ret2
    rw [hR.out]
    exact ⟨⟨_, _, _, rfl, Sl.nil _ _ (by unfold maxLen; omega)⟩, by rw [hr]; exact b0⟩
  | some f =>
    have hE0 : E = 0 := by rw [← HE.out]; exact Diag.err_some hfo
    subst hE0
    obtain ⟨rc, sc, hcs, hcap⟩ := HV.out f hfo
    injection hcs with hcs
    subst hcs
    have HC := hide (Diag.Frm.caps_mono b2 hcap)
    clear HV HE hs ho hcap
    have HRs : Hid (R = if (Diag.parse dir m.code (f.bytes m)).2 = 0 ∧ MsgM.same (Diag.parse dir m.code (f.bytes m)).1 m = true then Option.some (f.bytes m) else none) := hide (by rw [HR.out, Diag.write_some hfo])
    have k1 : w2.cell? ⟨w1.heap.size, 1, none⟩ = some (clV f.wr sc) := cell_of_row w2 _ 1 _ _ _ h2
    have HW := hide (fun v' (hv : MsgAt w2 v' m) => formWrite_any f v' m w2 hv hsm HC.out)
    have hcf := wr_enter f
    generalize f.wr = F at *
    generalize f.bytes m = B at *
    clear HR hfo HC b2 h2
    go_upto_region 4 with fail
    go_wp2_with ((with_reducible (show wpList _ _ _ ({ dst := _, op := Op.load _ _, type := _, pos := _, after := _, guard := _ } :: _) _ _)); refine wpList_load_row rfl 30 _ rfl r rfl 30 cs (0, 0) _ e1 Try.underlying30 rfl (msg_size cs hsz) ?_)
    refine (HW.out _ HM.out).mono ?_
    rintro e w5 ⟨⟨a5, l5, c5, rfl, hl5, hx5⟩, hb5⟩
    replace HM := hide (HM.out.mono hb5)
    replace e1 := (hb5.block r z2).trans e1
    have hz : r < w5.heap.size := lt_of_block e1
    have hc5 : w5.cell? ⟨r, 0, none⟩ = some (byteV m.code) := (cell_of_row w5 r 0 _ _ _ e1).trans HC0.out
    have HB := hide (b0.trans (hb5.mono (Nat.le_of_lt z2)))
    clear HW hcf k1 hb5 b0 k0
    have HX := hide hx5
    clear hx5
    go_wp2_with fail
    refine (diagParse_any dir m.code a5 l5 c5 B w5 HX.out hl5).mono ?_
    rintro e w6 ⟨⟨v6, rfl, hm6⟩, hb6⟩
    obtain ⟨cs6, rfl, hs6, ho6, _⟩ := hm6.agg
    have hz6 := hb6.size
    have HX6 := hide (HX.out.mono hb6)
    have HM6 := hide hm6
    have HM7 := hide (HM.out.mono hb6)
    replace e1 := (hb6.block r hz).trans e1
    replace HB := hide (HB.out.trans (hb6.mono (Nat.le_of_lt hz)))
    have HRp : Hid (∀ p, p = Diag.parse dir m.code B → R = if p.2 = 0 ∧ MsgM.same p.1 m = true then Option.some B else none) := hide (fun p hp => by rw [hp]; exact HRs.out)
    replace HRp := hide (HRp.out _ rfl)
    clear HRs HM HX hc5 hb6 hm6
    generalize Diag.parse dir m.code B = P at *
    obtain ⟨n, E⟩ := P
    go_wp2_with ((with_reducible (show wpList _ _ _ ({ dst := _, op := Op.store _ _ _, type := _, pos := _, after := _, guard := _ } :: _) _ _)); refine wpList_store_new rfl 30 _ _ rfl cs6 rfl rfl (msg_size cs6 hs6) hs6.symm ho6 ?_)
    intro w7 h7 b7
    replace HX6 := hide (HX6.out.mono b7)
    replace HM6 := hide (HM6.out.mono b7)
    replace HM7 := hide (HM7.out.mono b7)
    replace e1 := (b7.block r (by omega)).trans e1
    replace HB := hide (HB.out.trans (b7.mono (by omega)))
    have hz7 : r ≤ w7.heap.size := Nat.le_of_lt (lt_of_block e1)
    generalize w6.heap.size = g6 at *
    clear b7
    by_cases hE : E = 0
    · subst hE
      have HRq : Hid (R = if MsgM.same n m = true then Option.some B else none) := hide (by rw [HRp.out]; simp)
      clear HRp
      go_wp2_with ((with_reducible (show wpList _ _ _ ({ dst := _, op := Op.load _ _, type := _, pos := _, after := _, guard := _ } :: _) _ _)); first | (refine wpList_load_rowG (by rfl) 30 _ rfl g6 rfl cs6 (load_whole h7 hs6) ?_) | (refine wpList_load_rowG (by rfl) 30 _ rfl r rfl cs (load_whole e1 hsz) ?_))
      refine (codeSame_any _ _ n m w7 HM6.out HM7.out).mono ?_
      rintro e w8 ⟨rfl, b8⟩
      have HX8 := hide (HX6.out.mono b8)
      have HB8 := hide (HB.out.trans (b8.mono hz7))
      generalize MsgM.same n m = q at *
      cases q
      · have hR : R = none := HRq.out
        subst hR
        go_wp2
        go_ret2
        exact ⟨⟨_, _, _, rfl, Sl.nil _ _ (by unfold maxLen; omega)⟩, by rw [hr]; exact HB8.out⟩
      · have hR : R = Option.some B := HRq.out
        subst hR
        go_wp2
        go_ret2
        exact ⟨⟨_, _, _, rfl, HX8.out⟩, by rw [hr]; exact HB8.out⟩
    · have hR : R = none := by rw [HRp.out, if_neg (fun h => hE h.1)]
      subst hR
      have hE' : (E != 0) = true := by simpa using hE
      clear HRp
      go_wp2
      go_ret2
      exact ⟨⟨_, _, _, rfl, Sl.nil _ _ (by unfold maxLen; omega)⟩, by rw [hr]; exact HB.out⟩

end Go.Proofs.Ytemomgcapjpaiaa
