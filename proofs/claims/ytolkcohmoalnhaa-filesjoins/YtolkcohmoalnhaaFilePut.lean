/-
  Package files: the contract of Write.
-/
import Derived.Test.YtolkcohmoalnhaaFileParse
import Derived.Test.YtolkcohmoalnhaaFileWrite
import Derived.Test.YtolkcohmoalnhaaCodeSame
import Derived.Deep.CutBlock
import Derived.Deep.DeepCutAuto
namespace Go.Proofs.Ytolkcohmoalnhaa
open Go.RowKit
open Word Bits Cursor

set_option maxRecDepth 20000 in
set_option maxHeartbeats 4000000 in
theorem filesWrite_any (dir : Int) (v : Value) (m : MsgM) (w : World) (hm : MsgAt w v m) :
    Calls Try.prog 16 #[.int .i64 dir, v] w fun e w' =>
      (∃ a l c, e = .returned (.tuple #[.slice a l c, .int .i64 (errW (Files.write dir m))]) ∧ Bs w' a l c (outW (Files.write dir m))) ∧ Below w.heap.size w w' := by
  obtain ⟨cs, rfl, hsz, hone, hc0⟩ := hm.agg
  have hMB := MB.made w cs hm 30
  have e1 := heap_alloc_new w (.cells cs 30 (0, 0))
  have b0 := (Below.refl w.heap.size w).alloc (Nat.le_refl _) (.cells cs 30 (0, 0))
  have HM := hide (hm.mono b0)
  have HC0 := hide hc0
  have k0 := hMB.c_code
  clear hm hc0 hMB
  obtain ⟨R, hR⟩ : ∃ R, R = Files.write dir m := ⟨_, rfl⟩
  rw [← hR]
  have HR := hide hR
  clear hR
  go_enter Try.func16, Try.ntmps16
  go_upto_region 1 with (refine wpList_boxC rfl 30 _ rfl cs rfl ?_)
  generalize w.alloc (.cells cs 30 (0, 0)) = u at *
  have z0 := lt_of_block e1
  generalize hr : w.heap.size = r at *
  go_wp2_with fail
  refine (formOf_any dir m.code u).mono ?_
  rintro e w1 ⟨⟨fs, rfl, hs, ho, hv⟩, hb⟩
  have HV := hide hv
  replace e1 := (hb.block r z0).trans e1
  replace HM := hide (HM.out.mono hb)
  have z1 := lt_of_block e1
  replace b0 := b0.trans (hb.mono (Nat.le_of_lt z0))
  clear hb hv k0 z0
  generalize hE : Files.errF dir m.code = E at *
  have HE := hide hE
  clear hE
  go_upto_region 2 with ((with_reducible (show wpList _ _ _ ({ dst := _, op := Op.store _ _ _, type := _, pos := _, after := _, guard := _ } :: _) _ _)); refine wpList_store_new rfl 52 _ _ rfl _ rfl rfl (formC_size _ hs) hs.symm ho ?_; intro w2 h2 b2)
  replace HM := hide (HM.out.mono b2)
  replace e1 := (b2.block r z1).trans e1
  replace b0 := b0.trans (b2.mono (Nat.le_of_lt z1))
  have z2 := lt_of_block e1
  have k0 : w2.cell? ⟨r, 0, none⟩ = some (byteV m.code) := (cell_of_row w2 r 0 _ _ _ e1).trans HC0.out
  obtain ⟨ar, lr, cr, kr, hrs⟩ := (show MB 30 w2 r m from ⟨cs, e1, HM.out⟩).c_recs
  have HRS := hide hrs
  clear hrs
  cases hfo : Files.formOf dir m.code with
  | none =>
    have hne := Files.err_none hfo
    rw [HE.out] at hne
    have hq : (E != 0) = true := by simpa using hne
    have hR : Hid (R = none) := hide (by rw [HR.out, Files.write_none hfo])
    clear HR HV HE hne hfo h2 b2 HM HRS hs ho
    go_wp2
    go_ret2
    rw [hR.out]
    exact ⟨⟨_, _, _, rfl, Sl.nil _ _ (by unfold maxLen; omega)⟩, by rw [hr]; exact b0⟩
  | some f =>
    have hE0 : E = 0 := by rw [← HE.out]; exact Files.err_some hfo
    subst hE0
    have hfs := HV.out f hfo
    clear HV HE ho
    have hf2 : w2.heap[w1.heap.size]? = some (.cells (formC f) 52 (0, 0)) := by rw [← hfs]; exact h2
    obtain ⟨FC, hFC⟩ : ∃ FC, FC = formC f := ⟨_, rfl⟩
    have hFCs : FC.size = 3 := by rw [hFC]; rfl
    rw [← hFC] at hf2
    have HWB := hide (fun (w : World) (hx : Rs w ar lr cr m.recs) (h : Files.fit m.recs = true) => writeBlock_any f ar lr cr m.recs w hx h)
    rw [← hFC] at HWB
    have HLg := hide (Files.write_long (dir := dir) (m := m))
    have HRs : Hid (R = if (Files.parse dir m.code (f.bytesC m)).2 = 0 ∧ MsgM.same (Files.parse dir m.code (f.bytesC m)).1 m = true then Option.some (f.bytesC m) else none) := hide (by rw [HR.out, Files.write_some hfo])
    have HBY : Hid (f.bytesC m = [UInt8.ofNat (encMany (Files.encC f) m.recs).length] ++ encMany (Files.encC f) m.recs) := hide rfl
    rw [← HBY.out] at HWB
    generalize f.bytesC m = B at *
    clear hFC hfs hfo h2 b2 hs HBY
    go_wp2_with fail
    refine (mayFit_any ar lr cr m.recs w2 HRS.out).mono ?_
    rintro e w3 ⟨rfl, hb3⟩
    have HFT := hide (fun (h : Files.fit m.recs = false) => (show R = none by rw [HR.out]; exact HLg.out h))
    clear HLg HR
    generalize Files.fit m.recs = q at *
    cases q
    · have hR : Hid (R = none) := hide (HFT.out rfl)
      have HB3 := hide (b0.trans (hb3.mono (Nat.le_of_lt z2)))
      clear HFT HRs HWB HM HRS
      go_wp2
      go_ret2
      rw [hR.out]
      exact ⟨⟨_, _, _, rfl, Sl.nil _ _ (by unfold maxLen; omega)⟩, by rw [hr]; exact HB3.out⟩
    replace HM := hide (HM.out.mono hb3)
    replace HRS := hide (HRS.out.mono hb3)
    have kr3 : w3.cell? ⟨r, 15, none⟩ = some (.slice ar lr cr) := (hb3.cell (p := ⟨r, 15, none⟩) z2).trans kr
    have hf3 := (hb3.block _ (lt_of_block hf2)).trans hf2
    replace e1 := (hb3.block r z2).trans e1
    replace b0 := b0.trans (hb3.mono (Nat.le_of_lt z2))
    have z3 := lt_of_block e1
    clear HFT hb3 z2 k0 kr hf2
    go_upto_region 4 with fail
    go_wp2_with ((with_reducible (show wpList _ _ _ ({ dst := _, op := Op.load _ _, type := _, pos := _, after := _, guard := _ } :: _) _ _)); refine wpList_load_row rfl 52 _ rfl w1.heap.size rfl 52 FC (0, 0) _ hf3 Try.underlying52 rfl (formC_size FC hFCs) ?_)
    refine (HWB.out w3 HRS.out (by trivial)).mono ?_
    rintro e w5 ⟨⟨a5, l5, c5, rfl, hl5, hx5⟩, hb5⟩
    replace HM := hide (HM.out.mono hb5)
    replace e1 := (hb5.block r z3).trans e1
    have hz : r < w5.heap.size := lt_of_block e1
    have hc5 : w5.cell? ⟨r, 0, none⟩ = some (byteV m.code) := (cell_of_row w5 r 0 _ _ _ e1).trans HC0.out
    have HB := hide (b0.trans (hb5.mono (Nat.le_of_lt z3)))
    clear HWB HRS hb5 b0 kr3 hf3 z3
    have HX := hide hx5
    clear hx5
    go_wp2_with fail
    refine (filesParse_any dir m.code a5 l5 c5 B w5 HX.out hl5).mono ?_
    rintro e w6 ⟨⟨v6, rfl, hm6⟩, hb6⟩
    obtain ⟨cs6, rfl, hs6, ho6, _⟩ := hm6.agg
    have hz6 := hb6.size
    have HX6 := hide (HX.out.mono hb6)
    have HM6 := hide hm6
    have HM7 := hide (HM.out.mono hb6)
    replace e1 := (hb6.block r hz).trans e1
    replace HB := hide (HB.out.trans (hb6.mono (Nat.le_of_lt hz)))
    have HRp : Hid (∀ p, p = Files.parse dir m.code B → R = if p.2 = 0 ∧ MsgM.same p.1 m = true then Option.some B else none) := hide (fun p hp => by rw [hp]; exact HRs.out)
    replace HRp := hide (HRp.out _ rfl)
    clear HRs HM HX hc5 hb6 hm6
    generalize Files.parse dir m.code B = P at *
    obtain ⟨n, E⟩ := P
    go_wp2_with ((with_reducible (show wpList _ _ _ ({ dst := _, op := Op.store _ _ _, type := _, pos := _, after := _, guard := _ } :: _) _ _)); refine wpList_store_new rfl 30 _ _ rfl cs6 rfl rfl (msg_size cs6 hs6) hs6.symm ho6 ?_)
    intro w7 h7 b7
    replace HX6 := hide (HX6.out.mono b7)
    replace HM6 := hide (HM6.out.mono b7)
    replace HM7 := hide (HM7.out.mono b7)
    replace e1 := (b7.block r (by omega)).trans e1
    replace HB := hide (HB.out.trans (b7.mono (by omega)))
    have hz7 : r ≤ w7.heap.size := Nat.le_of_lt (lt_of_block e1)
    generalize w6.heap.size = g6 at *
    clear b7
    by_cases hE : E = 0
    · subst hE
      have HRq : Hid (R = if MsgM.same n m = true then Option.some B else none) := hide (by rw [HRp.out]; simp)
      clear HRp
      go_wp2_with ((with_reducible (show wpList _ _ _ ({ dst := _, op := Op.load _ _, type := _, pos := _, after := _, guard := _ } :: _) _ _)); first | (refine wpList_load_rowG (by rfl) 30 _ rfl g6 rfl cs6 (load_whole h7 hs6) ?_) | (refine wpList_load_rowG (by rfl) 30 _ rfl r rfl cs (load_whole e1 hsz) ?_))
      refine (codeSame_any _ _ n m w7 HM6.out HM7.out).mono ?_
      rintro e w8 ⟨rfl, b8⟩
      have HX8 := hide (HX6.out.mono b8)
      have HB8 := hide (HB.out.trans (b8.mono hz7))
      generalize MsgM.same n m = q at *
      cases q
      · have hR : R = none := HRq.out
        subst hR
        go_wp2
        go_ret2
        exact ⟨⟨_, _, _, rfl, Sl.nil _ _ (by unfold maxLen; omega)⟩, by rw [hr]; exact HB8.out⟩
      · have hR : R = Option.some B := HRq.out
        subst hR
        go_wp2
        go_ret2
        exact ⟨⟨_, _, _, rfl, HX8.out⟩, by rw [hr]; exact HB8.out⟩
    · have hR : R = none := by rw [HRp.out, if_neg (fun h => hE h.1)]
      subst hR
      have hE' : (E != 0) = true := by simpa using hE
      clear HRp
      go_wp2
      go_ret2
      exact ⟨⟨_, _, _, rfl, Sl.nil _ _ (by unfold maxLen; omega)⟩, by rw [hr]; exact HB.out⟩

end Go.Proofs.Ytolkcohmoalnhaa
