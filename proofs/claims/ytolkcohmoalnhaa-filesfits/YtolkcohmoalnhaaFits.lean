/-
  Proved: for every input the law FilesFits answers true, and each argument reads behind the call as it read before.
  Conditions: none (the statement Rows.FilesFitsSaid as it is given).
-/
import Derived.Test.YtolkcohmoalnhaaRows
import Derived.WalkKit
import Derived.ProofKit
import Derived.OpenShut
import Derived.ShutString
import Derived.ChangeOld
import Derived.Below
import Derived.Test.YtolkcohmoalnhaaFileAns
import Derived.Test.YtolkcohmoalnhaaSame
import Derived.Test.YtolkcohmoalnhaaFew
import Derived.Deep.RegionHeld3
namespace Go.Proofs.Ytolkcohmoalnhaa.filesFits
open Go.ChangeShapes Go.WideShapes Go.ChangeAt Go.RowKit
open Go.ChangeMaps (open_string shut_string)
set_option linter.unusedVariables false

theorem own : ownKnob Try.prog.godebug = none := by kernel_rfl
theorem laidOut : laidOutB Try.prog = true := by kernel_rfl

/-- WHAT THE WALK IS TOLD OF A SLICE OF INTEGERS THAT CAME IN: it is nil; or it leads to a row of 'cap' cells, the numbers 'zs' (the first 'len' are its elements, the rest its spare room), each fitting its kind. -/
def IsRow (k : IntKind) (w : World) (a : Option Addr) (len cap : Nat) (zs : List Int) : Prop :=
  (a = none ∧ len = 0 ∧ cap = 0 ∧ zs = []) ∨
  ∃ x, a = some x ∧ len ≤ cap ∧ cap ≤ maxLen ∧ zs.length = cap ∧ (∀ i, i < zs.length → w.cell? (x.add i) = some (.int k (zs.getD i 0))) ∧ ∀ n ∈ zs, (Lit.int k n).wf = true

/-! ### STEP 1: THE WALK: the Go text returns true, AND WRITES NOTHING THAT WAS THERE: 'Below w.heap.size w w'' (Derived/Below.lean: '.refl', '.alloc', '.drew', '.setCell' at a new block, '.trans'). Open each 'IsRow' by 'rcases' AHEAD of 'go_enter'; part every test ahead of the walk. -/
set_option maxRecDepth 20000 in
set_option maxHeartbeats 2000000 in
theorem walk (a0 : Option Addr) (len0 cap0 : Nat) (z0 : List RecM) (w : World) (w0 : Rs w a0 len0 cap0 z0) :
    Calls Try.prog 6 #[.slice a0 len0 cap0] w fun e w' => e = .returned (.bool true) ∧ Below w.heap.size w w' := by
  have hle := w0.hle
  have hmx := w0.hmax
  unfold maxLen at hmx
  have HLN := hide w0.hlen
  have HR := hide w0
  clear w0
  go_enter Try.func6, Try.ntmps6
  go_wp2_with fail
  refine (awake_any w).mono ?_
  rintro e u1 ⟨rfl, hb1⟩
  have cs0 : (rCells (byteV 20) (.slice a0 len0 cap0)).all (·.oneCell') = true := by simp [Value.oneCell']
  obtain ⟨cs, hcs⟩ : ∃ cs, cs = rCells (byteV 20) (.slice a0 len0 cap0) := ⟨_, rfl⟩
  have hsz : cs.size = 22 := by rw [hcs]; rfl
  rw [← hcs] at cs0
  have HCS := hide hcs
  clear hcs
  go_upto_region 3 with ((with_reducible (show wpList _ _ _ ({ dst := _, op := Op.store _ _ _, type := _, pos := _, after := _, guard := _ } :: _) _ _)); refine wpList_store_new rfl 30 _ _ rfl cs rfl (by rw [HCS.out]; rfl) (msg_size cs hsz) hsz.symm cs0 ?_; intro u2 h2 b2)
  have hb2 := hb1.trans (b2.mono hb1.size)
  have HM := hide (show MsgAt u2 (.agg cs) (partsM 20 z0) by rw [HCS.out]; exact r_at 20 (HR.out.mono hb2))
  have hz1 := lt_of_block h2
  clear hb1 b2
  go_wp2_with ((with_reducible (show wpList _ _ _ ({ dst := _, op := Op.load _ _, type := _, pos := _, after := _, guard := _ } :: _) _ _)); refine wpList_load_rowG (by rfl) 30 _ rfl u1.heap.size rfl cs (load_whole h2 hsz) ?_)
  refine (few_any _ _ u2 HM.out).mono ?_
  rintro e u3 ⟨rfl, b3⟩
  replace h2 := (b3.block _ hz1).trans h2
  replace HM := hide (HM.out.mono b3)
  have hb3 := hb2.trans (b3.mono hb2.size)
  have HF := hide (parts_few (c := 20) (l := z0))
  generalize (partsM 20 z0).few = q at *
  clear b3 hb2
  cases q
  · go_wp2
    go_ret
    exact ⟨rfl, hb3⟩
  obtain ⟨hl1, hl2⟩ := HF.out rfl
  have HL2 := hide hl2
  have hln : len0 ≤ 100 := by rw [← HLN.out]; exact hl1
  clear hl2 HF
  go_wp2_with ((with_reducible (show wpList _ _ _ ({ dst := _, op := Op.load _ _, type := _, pos := _, after := _, guard := _ } :: _) _ _)); refine wpList_load_rowG (by rfl) 30 _ rfl u1.heap.size rfl cs (load_whole h2 hsz) ?_)
  refine (Files.code_write 0 _ (partsM 20 z0) u3 HM.out (parts_small hl1 HL2.out)).mono ?_
  rintro e u4 ⟨⟨a4, l4, c4, rfl, hx4⟩, b4⟩
  have hz3 := lt_of_block h2
  replace h2 := (b4.block _ hz3).trans h2
  replace HM := hide (HM.out.mono b4)
  have hb4 := hb3.trans (b4.mono hb3.size)
  have HWF := hide (fun b => @Files.write_fits z0 b)
  clear b4 hb3 hx4 HM h2 cs0 hsz hl1 HL2 HCS
  generalize Files.write 0 (partsM 20 z0) = R at *
  have q0 : ∀ b, Files.errW (some b) = 0 := fun _ => rfl
  have q1 : Files.errW none = 1 := rfl
  cases R with
  | none =>
    rw [q1]
    go_wp2
    go_ret
    exact ⟨rfl, hb4⟩
  | some bs =>
  rw [q0]
  obtain ⟨hcn, bq, hwq, hbq⟩ := HWF.out bs rfl
  have HCN := hide hcn
  have HWQ := hide hwq
  clear HWF hcn hwq q1
  go_upto_region 10 with ((with_reducible (show wpList _ _ _ ({ dst := _, op := Op.store _ _ _, type := _, pos := _, after := _, guard := _ } :: _) _ _)); refine wpList_store_new rfl 30 _ _ rfl (codeCells 20) rfl rfl (msg_size _ rfl) rfl (code_one 20) ?_; intro u5 h5 b5)
  have hb5 := hb4.trans (b5.mono hb4.size)
  have hz5 := lt_of_block h5
  clear b5
  generalize hg8 : u4.heap.size = g8 at *
  have hg8w : w.heap.size ≤ g8 := by rw [← hg8]; exact hb4.size
  clear hg8
  go_wp2
  go_loopw [9] (fun i wr => ∃ (k : Nat) (a1 : Option Addr) (c1 : Nat), k ≤ len0 ∧ i = .int .i64 (k : Int) ∧ wr.heap[g8]? = some (.cells (rCells (byteV 20) (.slice a1 k c1)) 30 (0, 0)) ∧
    OwnR wr (g8 + 1) a1 k c1 ((z0.take k).map Files.ansP) ∧ Below w.heap.size w wr ∧ u5.heap.size ≤ wr.heap.size ∧ ∀ y, a1 = some y → y.block < wr.heap.size) (fun i _ => len0 - (intOf i).toNat)
  case atStart => exact ⟨0, none, 0, Nat.zero_le _, rfl, h5, OwnR.empty _ _ _, hb5, Nat.le_refl _, fun y e => by cases e⟩
  case round =>
    obtain ⟨k, a1, c1, hk, rfl, h6, ho, hbr, hzr, hax⟩ := hrel
    by_cases hlt : k < len0
    · have hk1 : k < z0.length := by rw [HLN.out]; exact hlt
      obtain ⟨b, off, aw, lw, cw, rfl, hbl, hc0, hc1, hc2, hc3, hw1⟩ := HR.out.hcell k hk1
      have hcc := HCN.out _ (List.getElem_mem hk1)
      have HT1 : Hid ((z0.take (k + 1)).map Files.ansP = (z0.take k).map Files.ansP ++ [⟨0, 0, 0, List.replicate z0[k].count.toNat 0⟩]) := hide (by
        rw [List.take_succ_eq_append_getElem hk1, List.map_append]; rfl)
      obtain ⟨kc, hkc⟩ : ∃ n : Nat, n = z0[k].count.toNat := ⟨_, rfl⟩
      have hc2' : w.cell? ⟨b, off + k * 4 + 2, none⟩ = some (.int .u16 (kc : Int)) := hc2.trans (by rw [hkc])
      rw [← hkc] at hcc HT1
      obtain ⟨hcc1, hcc2⟩ := hcc
      have HC := hide hc2'
      clear hw1 hc0 hc1 hc2 hc3 hkc hc2'
      have k2 : wr.cell? ⟨b, off + k * 4 + 2, none⟩ = some (.int .u16 (kc : Int)) := (hbr.cell (p := ⟨b, off + k * 4 + 2, none⟩) hbl).trans HC.out
      have g1 : ¬ (200 : Int) < (kc : Int) := by omega
      have g2 : decide ((200 : Int) < (kc : Int)) = false := by simp; omega
      go_upto_region 15 with fail
      have hblg : b < g8 := by omega
      have hg9 := lt_of_block h6
      have hzg : g8 + 1 ≤ wr.heap.size := hg9
      have hgle : g8 ≤ wr.heap.size := by omega
      have kd2 : ∀ x y, ((wr.drew.alloc x).alloc y).heap[g8]? = some (.cells (rCells (byteV 20) (.slice a1 k c1)) 30 (0, 0)) := fun x y => ((new_two wr x y).block _ hg9).trans h6
      have k15 : wr.cell? ⟨g8, 15, none⟩ = some (.slice a1 k c1) := cell_of_row wr g8 15 _ _ _ h6
      have hsrc : Src Try.prog 4 27 (.slice (some ⟨wr.heap.size + 1, 0, none⟩) 1 1) 1 (recCells ⟨0, 0, 0, List.replicate kc 0⟩ (.slice (some ⟨wr.heap.size, 0, none⟩) kc kc)) ((wr.drew.alloc (.cells (madeCells #[.int .u16 0] kc) 24 (0, 0))).alloc (.cells (partC ⟨0, 0, 0, List.replicate kc 0⟩ (.slice (some ⟨wr.heap.size, 0, none⟩) kc kc)) 43 (0, 0))) := by
        simpa using one_src (wr.drew.alloc (.cells (madeCells #[.int .u16 0] kc) 24 (0, 0))) ⟨0, 0, 0, List.replicate kc 0⟩ (some ⟨wr.heap.size, 0, none⟩) kc kc 43
      have HSRC := hide hsrc
      clear hsrc
      have hmk := make_words kc kc (Nat.le_refl _) (by omega)
      have hwk : IntKind.i64.wrap (kc : Int) = (kc : Int) := by rw [IntKind.wrap_i64]; omega
      have HO := hide ho
      obtain ⟨rl, hrl, hown, _⟩ := ho
      obtain ⟨iR, hiR, hzR, hsR, hyR⟩ := info_parts Try.infoR
      have hBy : (k + 1) * iR.bytes ≤ 140737488355328 := by rw [hyR]; omega
      have hBm : k + 1 ≤ maxLen := by unfold maxLen; omega
      clear hrl g1 g2
      refine wp_region_noPanic ?_
      refine wp_region_held_drew (S := fun w' => KeepS wr g8 w') (by kernel_rfl) (KeepS.start _ _) (fun hHeld => ?_)
      refine wpAnyH_take (i := 0) (oi := ⟨some 41, .fieldAddr 30 (.tmp 8) 15, _, _, _, none⟩) (v := ?_) rfl (by kernel_rfl) (by kernel_rfl) (by kernel_rfl) (fun _ _ _ h => h) (Or.inl ⟨by rfl, ?_⟩) hHeld ?_
      rotate_left
      · (intro wq hSw; go_simp; try with_reducible rfl)
      simp only [Act.put, List.setIfInBounds_toArray, List.set_cons_zero, List.set_cons_succ]
      refine wpAnyH_take (i := 2) (oi := ⟨some 43, .move (.tmp 0), _, _, _, none⟩) (v := ?_) rfl (by kernel_rfl) (by kernel_rfl) (by kernel_rfl) (fun _ _ _ h => h) (Or.inl ⟨by rfl, ?_⟩) hHeld ?_
      rotate_left
      · (intro wq hSw; go_simp; try with_reducible rfl)
      simp only [Act.put, List.setIfInBounds_toArray, List.set_cons_zero, List.set_cons_succ]
      refine wpAnyH_take (i := 3) (oi := ⟨some 44, .move (.tmp 9), _, _, _, none⟩) (v := ?_) rfl (by kernel_rfl) (by kernel_rfl) (by kernel_rfl) (fun _ _ _ h => h) (Or.inl ⟨by rfl, ?_⟩) hHeld ?_
      rotate_left
      · (intro wq hSw; go_simp; try with_reducible rfl)
      simp only [Act.put, List.setIfInBounds_toArray, List.set_cons_zero, List.set_cons_succ]
      refine wpAnyH_take (i := 4) (oi := ⟨some 45, .indexAddr 27 (.tmp 43) (.tmp 44), _, _, _, none⟩) (v := ?_) rfl (by kernel_rfl) (by kernel_rfl) (by kernel_rfl) (fun _ _ _ h => h) (Or.inl ⟨by rfl, ?_⟩) hHeld ?_
      rotate_left
      · (intro wq hSw; go_simp; try with_reducible rfl)
      simp only [Act.put, List.setIfInBounds_toArray, List.set_cons_zero, List.set_cons_succ]
      refine wpAnyH_take (i := 5) (oi := ⟨some 46, .fieldAddr 43 (.tmp 45) 2, _, _, _, none⟩) (v := ?_) rfl (by kernel_rfl) (by kernel_rfl) (by kernel_rfl) (fun _ _ _ h => h) (Or.inl ⟨by rfl, ?_⟩) hHeld ?_
      rotate_left
      · (intro wq hSw; go_simp; try with_reducible rfl)
      simp only [Act.put, List.setIfInBounds_toArray, List.set_cons_zero, List.set_cons_succ]
      refine wpAnyH_take (i := 6) (oi := ⟨some 47, .load 24 (.tmp 46), _, _, _, none⟩) (v := ?_) rfl (by kernel_rfl) (by kernel_rfl) (by kernel_rfl) (fun _ _ _ h => h) (Or.inl ⟨by rfl, ?_⟩) hHeld ?_
      rotate_left
      · (intro wq hSw; have hcv := (World.cell?_of_block (w := wr) (a := ⟨b, off + k * 4 + 2, none⟩) (hSw.block b hblg)).trans k2; go_simp; try with_reducible rfl)
      simp only [Act.put, List.setIfInBounds_toArray, List.set_cons_zero, List.set_cons_succ]
      refine wpAnyH_take (i := 7) (oi := ⟨some 48, .convert 24 3 (.tmp 47), _, _, _, none⟩) (v := ?_) rfl (by kernel_rfl) (by kernel_rfl) (by kernel_rfl) (fun _ _ _ h => h) (Or.inl ⟨by rfl, ?_⟩) hHeld ?_
      rotate_left
      · (intro wq hSw; go_simp; try with_reducible rfl)
      simp only [Act.put, List.setIfInBounds_toArray, List.set_cons_zero, List.set_cons_succ]
      refine wpAnyH_ready (rs := [1, 8]) (by kernel_rfl) (by simp) ?_
      refine AllReadyH.cons (o := ⟨some 42, .load 27 (.tmp 41), _, _, _, none⟩) rfl (fun K hK => ?_) ?_
      · go_simp
        refine hK.out _ _ ?_ (fun hHeld => ?_)
        · exact hHeld
        clear hK K
        try simp only [Act.put, List.setIfInBounds_toArray, List.set_cons_zero, List.set_cons_succ]
        refine wpAnyH_ready (rs := [8]) (by kernel_rfl) (by simp) ?_
        refine AllReadyH.cons (o := ⟨some 49, .makeSlice 25 (.tmp 48) (.tmp 48), _, _, _, none⟩) rfl (fun K hK => ?_) ?_
        · go_simp
          refine hK.out _ _ ?_ (fun hHeld => ?_)
          · exact hHeld.alloc hgle _
          clear hK K
          try simp only [Act.put, List.setIfInBounds_toArray, List.set_cons_zero, List.set_cons_succ]
          refine wpAnyH_take (i := 9) (oi := ⟨some 50, .build 43 #[(3, .tmp 49)], _, _, _, none⟩) (v := ?_) rfl (by kernel_rfl) (by kernel_rfl) (by kernel_rfl) (fun _ _ _ h => h) (Or.inl ⟨by rfl, ?_⟩) hHeld ?_
          rotate_left
          · (intro wq hSw; go_simp; try with_reducible rfl)
          simp only [Act.put, List.setIfInBounds_toArray, List.set_cons_zero, List.set_cons_succ]
          refine wpAnyH_ready (rs := [10]) (by kernel_rfl) (by simp) ?_
          refine AllReadyH.cons (o := ⟨some 51, .buildSlice 27 1 #[(0, .tmp 50)], _, _, _, none⟩) rfl (fun K hK => ?_) ?_
          · go_simp
            refine hK.out _ _ ?_ (fun hHeld => ?_)
            · exact hHeld.alloc hgle _
            clear hK K
            try simp only [Act.put, List.setIfInBounds_toArray, List.set_cons_zero, List.set_cons_succ]
            refine wpAnyH_ready (rs := [11]) (by kernel_rfl) (by simp) ?_
            refine AllReadyH.cons (o := ⟨some 52, .call ⟨.builtin .append, #[.tmp 42, .tmp 51], #[27, 27]⟩, _, _, _, none⟩) rfl (fun K hK => ?_) ?_
            · refine step_appC 4 (by rfl) _ _ 27 27 (by rfl) (g8 + 1) 43 iR (.agg zRec) Try.underlying27 hiR hzR hsR rfl a1 k c1 (recRow rl) (by rfl) (hown.mono (new_two wr _ _)) (.slice (some ⟨wr.heap.size + 1, 0, none⟩) 1 1) 1 (recCells ⟨0, 0, 0, List.replicate kc 0⟩ (.slice (some ⟨wr.heap.size, 0, none⟩) kc kc)) (by omega) (by omega) (by rfl) HSRC.out hBy hBm (Nat.le_trans hzg (new_two wr _ _).size) ?_
              intro a7 c7 w7 ho7 hb7 hk7 ha7 _
              have s7 := hHeld.below hb7
              have e7 := (hb7.block _ (Nat.lt_succ_self g8)).trans (kd2 _ _)
              refine hK.out _ _ ?_ (fun hHeld => ?_)
              · exact s7
              clear hK K
              try simp only [Act.put, List.setIfInBounds_toArray, List.set_cons_zero, List.set_cons_succ]
              refine wpAnyH_take (i := 12) (oi := ⟨some 53, .fieldAddr 30 (.tmp 8) 15, _, _, _, none⟩) (v := ?_) rfl (by kernel_rfl) (by kernel_rfl) (by kernel_rfl) (fun _ _ _ h => h) (Or.inl ⟨by rfl, ?_⟩) hHeld ?_
              rotate_left
              · (intro wq hSw; go_simp; try with_reducible rfl)
              simp only [Act.put, List.setIfInBounds_toArray, List.set_cons_zero, List.set_cons_succ]
              refine wpAnyH_ready (rs := [13]) (by kernel_rfl) (by simp) ?_
              refine AllReadyH.cons (o := ⟨none, .store 27 (.tmp 53) (.tmp 52), _, _, _, none⟩) rfl (fun K hK => ?_) ?_
              · have k7 := cell_of_row w7 g8 15 _ _ _ e7
                have f7 := fr_block e7 15
                go_simp
                have hlast := ans_round _ _ HO.out hax hzg (by omega) hown ho7 hk7 ha7 (.slice a7 (k + 1) c7)
                have e8 : (w7.setCell ⟨g8, 15, none⟩ (.slice a7 (k + 1) c7)).heap[g8]? = some (.cells (rCells (byteV 20) (.slice a7 (k + 1) c7)) 30 (0, 0)) := set_block e7 _
                refine hK.out _ _ ?_ (fun hHeld => ?_)
                · exact s7.set _ _
                clear hK K
                try simp only [Act.put]
                refine wpAnyH_done (by kernel_rfl) ?_ _
                refine NoPanic.normal ?_
                have hbe := hbr.trans (((((new_two wr _ _).mono hbr.size).trans (hb7.mono (by omega))).setCell (p := ⟨g8, 15, none⟩) hg8w (.slice a7 (k + 1) c7)))
                have hze := hHeld.size
                have HLA := hide hlast
                clear hlast hb7 hk7 ha7 ho7 hHeld s7 e7 HO hown HSRC
                go_wp2
                go_roundw
                case rel => exact ⟨k + 1, a7, c7, by omega, by go_num, e8, by rw [HT1.out]; exact HLA.out.1, hbe, by omega, HLA.out.2⟩
                case measure => simp [intOf]; omega
              exact AllReadyH.nil
            exact AllReadyH.nil
          exact AllReadyH.nil
        exact AllReadyH.nil
      refine AllReadyH.cons (o := ⟨some 49, .makeSlice 25 (.tmp 48) (.tmp 48), _, _, _, none⟩) rfl (fun K hK => ?_) ?_
      · go_simp
        refine hK.out _ _ ?_ (fun hHeld => ?_)
        · exact hHeld.alloc hgle _
        clear hK K
        try simp only [Act.put, List.setIfInBounds_toArray, List.set_cons_zero, List.set_cons_succ]
        refine wpAnyH_take (i := 9) (oi := ⟨some 50, .build 43 #[(3, .tmp 49)], _, _, _, none⟩) (v := ?_) rfl (by kernel_rfl) (by kernel_rfl) (by kernel_rfl) (fun _ _ _ h => h) (Or.inl ⟨by rfl, ?_⟩) hHeld ?_
        rotate_left
        · (intro wq hSw; go_simp; try with_reducible rfl)
        simp only [Act.put, List.setIfInBounds_toArray, List.set_cons_zero, List.set_cons_succ]
        refine wpAnyH_ready (rs := [1, 10]) (by kernel_rfl) (by simp) ?_
        refine AllReadyH.cons (o := ⟨some 42, .load 27 (.tmp 41), _, _, _, none⟩) rfl (fun K hK => ?_) ?_
        · go_simp
          refine hK.out _ _ ?_ (fun hHeld => ?_)
          · exact hHeld
          clear hK K
          try simp only [Act.put, List.setIfInBounds_toArray, List.set_cons_zero, List.set_cons_succ]
          refine wpAnyH_ready (rs := [10]) (by kernel_rfl) (by simp) ?_
          refine AllReadyH.cons (o := ⟨some 51, .buildSlice 27 1 #[(0, .tmp 50)], _, _, _, none⟩) rfl (fun K hK => ?_) ?_
          · go_simp
            refine hK.out _ _ ?_ (fun hHeld => ?_)
            · exact hHeld.alloc hgle _
            clear hK K
            try simp only [Act.put, List.setIfInBounds_toArray, List.set_cons_zero, List.set_cons_succ]
            refine wpAnyH_ready (rs := [11]) (by kernel_rfl) (by simp) ?_
            refine AllReadyH.cons (o := ⟨some 52, .call ⟨.builtin .append, #[.tmp 42, .tmp 51], #[27, 27]⟩, _, _, _, none⟩) rfl (fun K hK => ?_) ?_
            · refine step_appC 4 (by rfl) _ _ 27 27 (by rfl) (g8 + 1) 43 iR (.agg zRec) Try.underlying27 hiR hzR hsR rfl a1 k c1 (recRow rl) (by rfl) (hown.mono (new_two wr _ _)) (.slice (some ⟨wr.heap.size + 1, 0, none⟩) 1 1) 1 (recCells ⟨0, 0, 0, List.replicate kc 0⟩ (.slice (some ⟨wr.heap.size, 0, none⟩) kc kc)) (by omega) (by omega) (by rfl) HSRC.out hBy hBm (Nat.le_trans hzg (new_two wr _ _).size) ?_
              intro a7 c7 w7 ho7 hb7 hk7 ha7 _
              have s7 := hHeld.below hb7
              have e7 := (hb7.block _ (Nat.lt_succ_self g8)).trans (kd2 _ _)
              refine hK.out _ _ ?_ (fun hHeld => ?_)
              · exact s7
              clear hK K
              try simp only [Act.put, List.setIfInBounds_toArray, List.set_cons_zero, List.set_cons_succ]
              refine wpAnyH_take (i := 12) (oi := ⟨some 53, .fieldAddr 30 (.tmp 8) 15, _, _, _, none⟩) (v := ?_) rfl (by kernel_rfl) (by kernel_rfl) (by kernel_rfl) (fun _ _ _ h => h) (Or.inl ⟨by rfl, ?_⟩) hHeld ?_
              rotate_left
              · (intro wq hSw; go_simp; try with_reducible rfl)
              simp only [Act.put, List.setIfInBounds_toArray, List.set_cons_zero, List.set_cons_succ]
              refine wpAnyH_ready (rs := [13]) (by kernel_rfl) (by simp) ?_
              refine AllReadyH.cons (o := ⟨none, .store 27 (.tmp 53) (.tmp 52), _, _, _, none⟩) rfl (fun K hK => ?_) ?_
              · have k7 := cell_of_row w7 g8 15 _ _ _ e7
                have f7 := fr_block e7 15
                go_simp
                have hlast := ans_round _ _ HO.out hax hzg (by omega) hown ho7 hk7 ha7 (.slice a7 (k + 1) c7)
                have e8 : (w7.setCell ⟨g8, 15, none⟩ (.slice a7 (k + 1) c7)).heap[g8]? = some (.cells (rCells (byteV 20) (.slice a7 (k + 1) c7)) 30 (0, 0)) := set_block e7 _
                refine hK.out _ _ ?_ (fun hHeld => ?_)
                · exact s7.set _ _
                clear hK K
                try simp only [Act.put]
                refine wpAnyH_done (by kernel_rfl) ?_ _
                refine NoPanic.normal ?_
                have hbe := hbr.trans (((((new_two wr _ _).mono hbr.size).trans (hb7.mono (by omega))).setCell (p := ⟨g8, 15, none⟩) hg8w (.slice a7 (k + 1) c7)))
                have hze := hHeld.size
                have HLA := hide hlast
                clear hlast hb7 hk7 ha7 ho7 hHeld s7 e7 HO hown HSRC
                go_wp2
                go_roundw
                case rel => exact ⟨k + 1, a7, c7, by omega, by go_num, e8, by rw [HT1.out]; exact HLA.out.1, hbe, by omega, HLA.out.2⟩
                case measure => simp [intOf]; omega
              exact AllReadyH.nil
            exact AllReadyH.nil
          exact AllReadyH.nil
        refine AllReadyH.cons (o := ⟨some 51, .buildSlice 27 1 #[(0, .tmp 50)], _, _, _, none⟩) rfl (fun K hK => ?_) ?_
        · go_simp
          refine hK.out _ _ ?_ (fun hHeld => ?_)
          · exact hHeld.alloc hgle _
          clear hK K
          try simp only [Act.put, List.setIfInBounds_toArray, List.set_cons_zero, List.set_cons_succ]
          refine wpAnyH_ready (rs := [1]) (by kernel_rfl) (by simp) ?_
          refine AllReadyH.cons (o := ⟨some 42, .load 27 (.tmp 41), _, _, _, none⟩) rfl (fun K hK => ?_) ?_
          · go_simp
            refine hK.out _ _ ?_ (fun hHeld => ?_)
            · exact hHeld
            clear hK K
            try simp only [Act.put, List.setIfInBounds_toArray, List.set_cons_zero, List.set_cons_succ]
            refine wpAnyH_ready (rs := [11]) (by kernel_rfl) (by simp) ?_
            refine AllReadyH.cons (o := ⟨some 52, .call ⟨.builtin .append, #[.tmp 42, .tmp 51], #[27, 27]⟩, _, _, _, none⟩) rfl (fun K hK => ?_) ?_
            · refine step_appC 4 (by rfl) _ _ 27 27 (by rfl) (g8 + 1) 43 iR (.agg zRec) Try.underlying27 hiR hzR hsR rfl a1 k c1 (recRow rl) (by rfl) (hown.mono (new_two wr _ _)) (.slice (some ⟨wr.heap.size + 1, 0, none⟩) 1 1) 1 (recCells ⟨0, 0, 0, List.replicate kc 0⟩ (.slice (some ⟨wr.heap.size, 0, none⟩) kc kc)) (by omega) (by omega) (by rfl) HSRC.out hBy hBm (Nat.le_trans hzg (new_two wr _ _).size) ?_
              intro a7 c7 w7 ho7 hb7 hk7 ha7 _
              have s7 := hHeld.below hb7
              have e7 := (hb7.block _ (Nat.lt_succ_self g8)).trans (kd2 _ _)
              refine hK.out _ _ ?_ (fun hHeld => ?_)
              · exact s7
              clear hK K
              try simp only [Act.put, List.setIfInBounds_toArray, List.set_cons_zero, List.set_cons_succ]
              refine wpAnyH_take (i := 12) (oi := ⟨some 53, .fieldAddr 30 (.tmp 8) 15, _, _, _, none⟩) (v := ?_) rfl (by kernel_rfl) (by kernel_rfl) (by kernel_rfl) (fun _ _ _ h => h) (Or.inl ⟨by rfl, ?_⟩) hHeld ?_
              rotate_left
              · (intro wq hSw; go_simp; try with_reducible rfl)
              simp only [Act.put, List.setIfInBounds_toArray, List.set_cons_zero, List.set_cons_succ]
              refine wpAnyH_ready (rs := [13]) (by kernel_rfl) (by simp) ?_
              refine AllReadyH.cons (o := ⟨none, .store 27 (.tmp 53) (.tmp 52), _, _, _, none⟩) rfl (fun K hK => ?_) ?_
              · have k7 := cell_of_row w7 g8 15 _ _ _ e7
                have f7 := fr_block e7 15
                go_simp
                have hlast := ans_round _ _ HO.out hax hzg (by omega) hown ho7 hk7 ha7 (.slice a7 (k + 1) c7)
                have e8 : (w7.setCell ⟨g8, 15, none⟩ (.slice a7 (k + 1) c7)).heap[g8]? = some (.cells (rCells (byteV 20) (.slice a7 (k + 1) c7)) 30 (0, 0)) := set_block e7 _
                refine hK.out _ _ ?_ (fun hHeld => ?_)
                · exact s7.set _ _
                clear hK K
                try simp only [Act.put]
                refine wpAnyH_done (by kernel_rfl) ?_ _
                refine NoPanic.normal ?_
                have hbe := hbr.trans (((((new_two wr _ _).mono hbr.size).trans (hb7.mono (by omega))).setCell (p := ⟨g8, 15, none⟩) hg8w (.slice a7 (k + 1) c7)))
                have hze := hHeld.size
                have HLA := hide hlast
                clear hlast hb7 hk7 ha7 ho7 hHeld s7 e7 HO hown HSRC
                go_wp2
                go_roundw
                case rel => exact ⟨k + 1, a7, c7, by omega, by go_num, e8, by rw [HT1.out]; exact HLA.out.1, hbe, by omega, HLA.out.2⟩
                case measure => simp [intOf]; omega
              exact AllReadyH.nil
            exact AllReadyH.nil
          exact AllReadyH.nil
        exact AllReadyH.nil
      exact AllReadyH.nil
    · obtain rfl : k = len0 := by omega
      have hT : z0.take k = z0 := List.take_of_length_le (by rw [HLN.out]; exact Nat.le_refl _)
      rw [hT] at ho
      have HMW := hide (r_at 20 ho.rs)
      have hln2 : (z0.map Files.ansP).length ≤ 100 := by rw [List.length_map, HLN.out]; exact hln
      have hsm : (partsM 20 (z0.map Files.ansP)).Small := parts_small hln2 fun r hr => by
        obtain ⟨x, hx, rfl⟩ := List.mem_map.1 hr
        show (List.replicate x.count.toNat (0 : UInt16)).length ≤ 300
        rw [List.length_replicate]
        have := (HCN.out x hx).2
        omega
      have HSM := hide hsm
      clear ho hT hsm hln2 hax HCN HR
      obtain ⟨cs8, hcs8⟩ : ∃ cs, cs = rCells (byteV 20) (.slice a1 k c1) := ⟨_, rfl⟩
      have hsz8 : cs8.size = 22 := by rw [hcs8]; rfl
      rw [← hcs8] at h6 HMW
      clear hcs8
      go_wp2_with ((with_reducible (show wpList _ _ _ ({ dst := _, op := Op.load _ _, type := _, pos := _, after := _, guard := _ } :: _) _ _)); refine wpList_load_rowG (by rfl) 30 _ rfl g8 rfl cs8 (load_whole h6 hsz8) ?_)
      refine (Files.code_write 1 _ (partsM 20 (z0.map Files.ansP)) wr HMW.out HSM.out).mono ?_
      rintro e w9 ⟨⟨a9, l9, c9, rfl, hx9⟩, hb9⟩
      rw [HWQ.out] at hx9 ⊢
      rw [q0]
      have hl9 : l9 ≤ 246 := by rw [← hx9.hlen]; exact hbq
      have hl9i : (l9 : Int) ≤ 246 := by omega
      have hbe := hbr.trans (hb9.mono hbr.size)
      clear hx9 hb9 HMW HSM HWQ
      go_wp2
      go_ret
      exact ⟨by first | rfl | simp | (simp; omega), hbe⟩

/-! ### THE ROW's STEP: WRITTEN OUT: LEAVE IT -/
set_option maxRecDepth 100000 in
theorem lifted (os : Os) (started : os.Started) (H : Type) (enc : TypeId × Value → H) :
    ReturnsInHanded {} Try.checked os 6 .any (Rows.filesFitsSpec.pre6 enc Try.prog Try.f6 Rows.filesFitsRow.domain false) (Rows.filesFitsSpec.post enc Try.prog Try.f6 false true false false) := by
  refine returnsInHanded_of_change (C := Try.checked) own started (by kernel_rfl) Try.func6
    (ChangeSpec.witness6 (enc := enc) (C := Try.checked) false ⟨#[], #[.slice none 0 0], []⟩ 8 (by kernel_rfl) (by kernel_rfl) (by kernel_rfl) (by kernel_rfl)) ?_
  intro W base args ds gs before hval0 hW hcnd _
  have hval : ∀ (j : Nat) t v, Try.f6.params[j]? = some t → args[j]? = some v → Value.okWide Try.prog W .any base t v := hval0
  have hW' := hW
  obtain ⟨p, q, hA0, hV, rfl, hfz, hnd⟩ := hW
  have hA : DataW.TrodAll enc Try.prog W 0 (fun _ => true) true Try.f6.params.toList args.toList ds p := hA0
  rw [Try.params6] at hA hval
  obtain ⟨v0, vs0, d0, ds0, p0, q0, hargs, rfl, rfl, h0, r0⟩ := trodAll_cons hA
  obtain ⟨rfl, rfl, rfl⟩ := trodAll_nil r0
  obtain rfl : args = #[v0] := by cases args; simp_all
  obtain ⟨rfl, rfl⟩ := trodVars_none hV
  obtain ⟨a0, len0, cap0, rfl⟩ := okWide_slice Try.underlying27 (hval 0 27 v0 rfl rfl)
  have k0 := h0
  have lt0 : ∀ x ∈ p0, x.block < W.heap.size := by obtain ⟨m, hm⟩ := k0; exact DataW.trod_lt m _ _ _ hm
  obtain ⟨z0, w0⟩ : ∃ zs, Rs W a0 len0 cap0 zs := by
    obtain ⟨fuel, hf⟩ := h0
    exact Rs.ofTrod hf
  clear hA0 hval0
  refine (walk a0 len0 cap0 z0 W w0).mono fun e W' ⟨he, bel⟩ => ?_
  subst he
  exact ⟨_, rfl, _, _, _, [], _, [], hW', trodAll_mk1 (shut_bool Try.underlying4 _), (trodAll_cons_mk (Below.trod laidOut (by kernel_rfl) (of_decide_eq_true (by kernel_rfl)) k0 bel lt0) trodAll_mk0), rfl, bel.frame _, fun h => by cases h⟩

theorem over : Rows.filesFitsRow.holds Try.pinned (OpenSpec.ofChange Rows.filesFitsSpec) :=
  OpenClaim.holds_of_wide 6 Try.f6 rfl rfl rfl rfl rfl rfl rfl ⟨rfl, rfl, rfl, rfl, rfl⟩ rfl rfl rfl rfl rfl (by kernel_rfl) Try.func6 (by kernel_rfl)
    (of_decide_eq_true (by kernel_rfl)) (by unfold Func.isWrapper; first | (rw [if_pos (by decide +kernel)]; kernel_rfl) | (rw [if_neg (by decide +kernel)]; exact ⟨rfl, rfl⟩))
    (fun os started H enc _ => lifted os started H enc)

/-- ████ THE STATEMENT ████ -/
theorem proved : Rows.FilesFitsSaid := over
#print axioms proved
end Go.Proofs.Ytolkcohmoalnhaa.filesFits
