/-
  Package coils: the contract of Write.
-/
import Derived.Test.YtgacfocbdeohaaaCoilParse
import Derived.Test.YtgacfocbdeohaaaCodeSame
import Derived.Test.YtgacfocbdeohaaaStoreStep
import Derived.Deep.RegionHeld3
import Derived.Deep.CutBlock
import Derived.Deep.DeepCutAuto
namespace Go.Proofs.Ytgacfocbdeohaaa
open Go.RowKit
open Word Bits Cursor

def lookC (dir : Int) (c : UInt8) (g : Nat) : Array Value := match Coils.formOf dir c with | Option.some f => #[methV f.rd g, methV f.wr g] | none => #[.nilFunc, .nilFunc]
theorem look_size (dir : Int) (c : UInt8) (g : Nat) : (lookC dir c g).size = 2 := by unfold lookC; split <;> rfl
theorem look_one (dir : Int) (c : UInt8) (g : Nat) : (lookC dir c g).all (·.oneCell') = true := by unfold lookC; split <;> simp [Value.oneCell']
theorem formC_size (cs : Array Value) (h : cs.size = 2) : (Try.prog.info? 53).map (·.size) = some cs.size := by rw [h]; kernel_rfl

/-- A message's forms, and what is found there by a code. -/
theorem forms_look (g : Nat) (dir : Int) (c : UInt8) (w : World) :
    Calls Try.prog 20 #[ptrV g, .int .i64 dir] w fun e w' =>
      (∃ x, e = .returned (.map x) ∧ ∀ v, Below w'.heap.size w' v → (Instr.lookup 48 (.map x) (byteV c) true).run Try.prog v = .ok (.tuple #[.agg (lookC dir c g), .bool (Coils.formOf dir c).isSome]) v) ∧ Below w.heap.size w w' := by
  have key : ∀ (w' v : World) (b : Nat) (l : List (Nat × Value)), Tab w' b l → Below w'.heap.size w' v → tabAt l c.toNat = (Coils.formOf dir c).map (·.val g) → (Instr.lookup 48 (.map (some b)) (byteV c) true).run Try.prog v = .ok (.tuple #[.agg (lookC dir c g), .bool (Coils.formOf dir c).isSome]) v := by
    intro w' v b l hT hb hl
    have hlk := run_tab (hT.mono hb) 48 5 53 Try.underlying48 Try.underlying5 _ (form_zero v) c.toNat
    rw [hl] at hlk
    unfold lookC
    cases hf : Coils.formOf dir c with
    | none => rw [hf] at hlk; exact hlk
    | some f => rw [hf] at hlk; exact hlk
  refine (forms_any g dir w).mono ?_
  rintro e w' ⟨⟨hd, b, he, hT⟩ | ⟨hd, b, he, hT⟩ | ⟨hd0, hd1, he⟩, hb⟩
  · exact ⟨⟨_, he, fun v hv => key w' v b _ hT hv (by rw [hd]; exact Coils.tab_req _ _)⟩, hb⟩
  · exact ⟨⟨_, he, fun v hv => key w' v b _ hT hv (by rw [hd]; exact Coils.tab_res _ _)⟩, hb⟩
  · refine ⟨⟨_, he, fun v hv => ?_⟩, hb⟩
    have hlk := run_tab_nil (P := Try.prog) (w := v) 48 5 53 Try.underlying48 Try.underlying5 _ (form_zero v) c.toNat
    have hf : Coils.formOf dir c = none := by unfold Coils.formOf; rw [if_neg hd0, if_neg hd1]
    unfold lookC
    rw [hf]
    exact hlk

/-- What a form's write does. -/
theorem write_form (f : Coils.Frm) (gm : Nat) (m : MsgM) (w : World) (hm : CM w gm m) (h1 : m.bits.length ≤ 50000) (h2 : m.data.length ≤ 50000) :
    Calls Try.prog f.wr #[ptrV gm] w fun e w' => (∃ a l c, e = .returned (.slice a l c) ∧ l ≤ 100000 ∧ Bs w' a l c (f.bytes m)) ∧ Below w.heap.size w w' := by
  rcases Coils.Frm.five f with rfl | rfl | rfl | rfl | rfl
  · refine (writePlaces_any gm m w hm).mono ?_
    rintro e w' ⟨⟨a, c, he, ho⟩, hb⟩
    exact ⟨⟨a, _, c, he, by omega, ho.sl⟩, hb⟩
  · refine (writeData_any gm m w hm (by omega)).mono ?_
    rintro e w' ⟨⟨a, c, he, ho⟩, hb⟩
    exact ⟨⟨a, _, c, he, by omega, ho.sl⟩, hb⟩
  · refine (writeOne_any gm m w hm).mono ?_
    rintro e w' ⟨⟨a, c, he, ho⟩, hb⟩
    exact ⟨⟨a, _, c, he, by omega, ho.sl⟩, hb⟩
  · refine (writeSome_any gm m w hm (by omega)).mono ?_
    rintro e w' ⟨⟨a, c, he, ho⟩, hb⟩
    exact ⟨⟨a, _, c, he, by unfold many; omega, ho.sl⟩, hb⟩
  · refine (writePlaces_any gm m w hm).mono ?_
    rintro e w' ⟨⟨a, c, he, ho⟩, hb⟩
    exact ⟨⟨a, _, c, he, by omega, ho.sl⟩, hb⟩

theorem wr_enter (f : Coils.Frm) (args : Array Value) (w : World) : (callFunc f.wr args).run Try.prog w = .ok (.enter f.wr args) w := by
  rcases Coils.Frm.five f with rfl | rfl | rfl | rfl | rfl <;> kernel_rfl

theorem MsgAt.agg {w : World} {v : Value} {m : MsgM} (h : MsgAt w v m) : ∃ cs, v = .agg cs ∧ cs.size = 22 ∧ cs.all (·.oneCell') = true ∧ cs[0]? = some (byteV m.code) := by
  obtain ⟨aw, lw, cw, al, ll, cl, ad, ld, cd, ar, lr, cr, ao, lo, co, rfl, h0, h1, h2, h3, h4⟩ := h
  exact ⟨_, rfl, rfl, by simp [Value.oneCell'], rfl⟩

/-- A message is laid into a block of its own. -/
theorem wpList_boxC {ops : Array Oper} {rest : List Oper} {o : Oper} {a : Act} {w : World} {Q : Exit → Act → World → Prop} (hgd : o.guard = none) (ty : TypeId) (x : Operand) (ho : o.op = .box ty x) (cs : Array Value) (hx : a.eval x = .agg cs)
    (h : wpList Try.prog ops Q rest (a.put o.dst (.pointer (some ⟨w.heap.size, 0, none⟩))) (w.alloc (.cells cs ty))) : wpList Try.prog ops Q (o :: rest) a w := by
  refine wpList_plain hgd fun K hK => ?_
  unfold Oper.wp
  simp only [execOp, ho, hx, Sem.run_bind, Instr.box, newVar, newRow, run_newObj_alloc, Sem.run_pure, Result.andThen_ok, Value.cells]
  exact hK _ _ h

/-- A struct is loaded whole, at a step whose guard says yes. -/
theorem wpList_load_rowG {ops : Array Oper} {rest : List Oper} {o : Oper} {a : Act} {w : World} {Q : Exit → Act → World → Prop} (hw : Region.wanted o (yielded ops a.tmps) = true) (ty : TypeId) (x : Operand) (ho : o.op = .load ty x) (g : Nat) (hx : a.eval x = .pointer (some ⟨g, 0, none⟩)) (cs : Array Value)
    (hl : (loadVar ty ⟨g, 0, none⟩).run Try.prog w = .ok (.agg cs) w) (h : wpList Try.prog ops Q rest (a.put o.dst (.agg cs)) w) : wpList Try.prog ops Q (o :: rest) a w := by
  unfold wpList
  rw [if_pos hw]
  unfold Oper.wp
  rw [load_take ty x ho g hx cs hl, Oper.upon_value]
  exact .inl h

set_option maxRecDepth 20000 in
set_option maxHeartbeats 4000000 in
theorem coilsWrite_any (dir : Int) (v : Value) (m : MsgM) (w : World) (hm : MsgAt w v m) (hl1 : m.bits.length ≤ 50000) (hl2 : m.data.length ≤ 50000) :
    Calls Try.prog 17 #[.int .i64 dir, v] w fun e w' =>
      (∃ a l c, e = .returned (.tuple #[.slice a l c, .int .i64 (Coils.errW (Coils.write dir m))]) ∧ Bs w' a l c (Coils.outW (Coils.write dir m))) ∧ Below w.heap.size w w' := by
  obtain ⟨cs, rfl, hsz, hone, hc0⟩ := hm.agg
  have HM := hide hm
  have HC0 := hide hc0
  clear hm hc0
  obtain ⟨R, hR⟩ : ∃ R, R = Coils.write dir m := ⟨_, rfl⟩
  rw [← hR]
  have HR := hide hR
  clear hR
  go_enter Try.func17, Try.ntmps17
  go_upto_region 2 with (first | (refine wpList_boxC rfl 30 _ rfl cs rfl ?_) | (refine wpList_load_row rfl 30 _ rfl w.heap.size rfl 30 _ (0, 0) _ (heap_alloc_new _ _) Try.underlying30 rfl (by exact msg_size _ hsz) ?_) | (refine wpList_store_lies rfl 47 _ _ rfl (w.heap.size + 1) _ rfl rfl _ _ (heap_alloc2_new _ _ _) (by exact cmsg_size _ hsz) (by exact hsz.symm) hone ?_; intro w1 h1 b1 n1 z1))
  have e1 := (n1 w.heap.size (by omega)).trans ((Below.heap_alloc _ _ _ (by simp)).trans (heap_alloc_new _ _))
  have e3 := (((Below.refl w.heap.size w).alloc (Nat.le_refl _) _).alloc (by simp) _).trans (b1 w.heap.size (by omega))
  have hz : w.heap.size + 2 ≤ w1.heap.size := lt_of_block h1
  have E4 := hide h1
  clear h1 b1 n1 z1
  generalize hr : w.heap.size = r at *
  have hc1 : w1.cell? ⟨r, 0, none⟩ = some (byteV m.code) := (cell_of_row w1 r 0 _ _ _ e1).trans HC0.out
  have E1 := hide e1
  have E3 := hide e3
  clear e1 e3
  generalize hk : lookC dir m.code (r + 1) = FV at *
  have hk2 : FV.size = 2 := by rw [← hk]; exact look_size _ _ _
  have hk1 : FV.all (·.oneCell') = true := by rw [← hk]; exact look_one _ _ _
  have HK := hide hk
  clear hk
  generalize hok : (Coils.formOf dir m.code).isSome = ok at *
  have HOK := hide hok
  clear hok
  have hlook : ∀ w', Calls Try.prog 20 #[ptrV (r + 1), .int .i64 dir] w' fun e w2 => (∃ x, e = .returned (.map x) ∧ ∀ v, Below w2.heap.size w2 v → (Instr.lookup 48 (.map x) (byteV m.code) true).run Try.prog v = .ok (.tuple #[.agg FV, .bool ok]) v) ∧ Below w'.heap.size w' w2 := fun w' => by
    rw [← HK.out, ← HOK.out]
    exact forms_look (r + 1) dir m.code w'
  have HL := hide hlook
  clear hlook
  simp only [Act.put]
  go_cut [7, 8] (fun p o wx => ∃ gf, p = .pointer (some ⟨gf, 0, none⟩) ∧ o = .bool ok ∧ wx.heap[gf]? = some (.cells FV 53 (0, 0)) ∧ Below (r + 2) w1 wx)
  case first =>
    refine wp_region_noPanic ?_
    refine wp_region_held_drew (S := fun w' => Below (r + 2) w1 w') (by kernel_rfl) ((Below.refl (r + 2) w1).drew) (fun hHeld => ?_)
    refine wpAnyH_take (i := 0) (oi := ⟨some 14, .move (.tmp 0), _, _, _, none⟩) (v := ?_) rfl (by kernel_rfl) (by kernel_rfl) (by kernel_rfl) (fun _ _ _ h => h) (Or.inl ⟨by rfl, ?_⟩) hHeld ?_
    rotate_left
    · (intro wq hSw; go_simp; try with_reducible rfl)
    simp only [Act.put, List.setIfInBounds_toArray, List.set_cons_zero, List.set_cons_succ]
    refine wpAnyH_take (i := 2) (oi := ⟨some 16, .fieldAddr 30 (.tmp 3) 0, _, _, _, none⟩) (v := ?_) rfl (by kernel_rfl) (by kernel_rfl) (by kernel_rfl) (fun _ _ _ h => h) (Or.inl ⟨by rfl, ?_⟩) hHeld ?_
    rotate_left
    · (intro wq hSw; go_simp; try with_reducible rfl)
    simp only [Act.put, List.setIfInBounds_toArray, List.set_cons_zero, List.set_cons_succ]
    refine wpAnyH_take (i := 3) (oi := ⟨some 17, .load 5 (.tmp 16), _, _, _, none⟩) (v := ?_) rfl (by kernel_rfl) (by kernel_rfl) (by kernel_rfl) (fun _ _ _ h => h) (Or.inl ⟨by rfl, ?_⟩) hHeld ?_
    rotate_left
    · (intro wq hSw; have hcv := (hSw.cell (p := ⟨r, 0, none⟩) (by show r < r + 2; omega)).trans hc1; go_simp; try with_reducible rfl)
    simp only [Act.put, List.setIfInBounds_toArray, List.set_cons_zero, List.set_cons_succ]
    refine wpAnyH_ready (rs := [1, 8]) (by kernel_rfl) (by simp) ?_
    refine AllReadyH.cons (o := ⟨some 15, .call ⟨.value (.func 20), #[.tmp 6, .tmp 14], #[47, 3]⟩, _, _, _, none⟩) rfl (fun K hK => ?_) ?_
    · go_simp
      refine (HL.out _).mono ?_
      rintro e w5 ⟨⟨x, rfl, hlk⟩, hb5⟩
      have s5 : Below (r + 2) w1 w5 := below_next hHeld hb5 hz
      refine hK.out _ _ ?_ (fun hHeld => ?_)
      · exact s5
      clear hK K
      try simp only [Act.put, List.setIfInBounds_toArray, List.set_cons_zero, List.set_cons_succ]
      refine wpAnyH_ready (rs := [4, 8]) (by kernel_rfl) (by simp) ?_
      refine AllReadyH.cons (o := ⟨some 18, .lookup 48 (.tmp 15) (.tmp 17) true, _, _, _, none⟩) rfl (fun K hK => ?_) ?_
      · have hlk0 := hlk _ (Below.refl _ _)
        have hlk1 := fun o => hlk _ ((Below.refl w5.heap.size w5).alloc (Nat.le_refl _) o)
        go_simp
        refine hK.out _ _ ?_ (fun hHeld => ?_)
        · exact hHeld
        clear hK K
        try simp only [Act.put, List.setIfInBounds_toArray, List.set_cons_zero, List.set_cons_succ]
        refine wpAnyH_take (i := 5) (oi := ⟨some 13, .move (.tmp 18), _, _, _, none⟩) (v := ?_) rfl (by kernel_rfl) (by kernel_rfl) (by kernel_rfl) (fun _ _ _ h => h) (Or.inl ⟨by rfl, ?_⟩) hHeld ?_
        rotate_left
        · (intro wq hSw; go_simp; try with_reducible rfl)
        simp only [Act.put, List.setIfInBounds_toArray, List.set_cons_zero, List.set_cons_succ]
        refine wpAnyH_take (i := 6) (oi := ⟨some 19, .extract (.tmp 13) 0, _, _, _, none⟩) (v := ?_) rfl (by kernel_rfl) (by kernel_rfl) (by kernel_rfl) (fun _ _ _ h => h) (Or.inl ⟨by rfl, ?_⟩) hHeld ?_
        rotate_left
        · (intro wq hSw; go_simp; try with_reducible rfl)
        simp only [Act.put, List.setIfInBounds_toArray, List.set_cons_zero, List.set_cons_succ]
        refine wpAnyH_take (i := 7) (oi := ⟨some 20, .extract (.tmp 13) 1, _, _, _, none⟩) (v := ?_) rfl (by kernel_rfl) (by kernel_rfl) (by kernel_rfl) (fun _ _ _ h => h) (Or.inl ⟨by rfl, ?_⟩) hHeld ?_
        rotate_left
        · (intro wq hSw; go_simp; try with_reducible rfl)
        simp only [Act.put, List.setIfInBounds_toArray, List.set_cons_zero, List.set_cons_succ]
        refine wpAnyH_ready (rs := [8]) (by kernel_rfl) (by simp) ?_
        refine AllReadyH.cons (o := ⟨some 7, .alloc 53, _, _, _, none⟩) rfl (fun K hK => ?_) ?_
        · go_simp
          refine hK.out _ _ ?_ (fun hHeld => ?_)
          · exact hHeld.alloc (Nat.le_trans hz hHeld.size) _
          clear hK K
          try simp only [Act.put, List.setIfInBounds_toArray, List.set_cons_zero, List.set_cons_succ]
          refine wpAnyH_ready (rs := [9]) (by kernel_rfl) (by simp) ?_
          refine AllReadyH.cons (o := ⟨none, .store 53 (.tmp 7) (.tmp 19), _, _, _, none⟩) rfl (fun K hK => ?_) ?_
          · refine step_store (by rfl) _ _ _ (by rfl) _ FV (by rfl) (by rfl) _ _ (by first | exact heap_alloc_new _ _ | exact (hb5.block _ (by simp)).trans (heap_alloc_new _ _)) (formC_size FV hk2) (by rw [hk2]; rfl) hk1 ?_
            intro w6 h6 b6 n6 z6
            have s6 : Below (r + 2) w1 w6 := hHeld.trans (b6 (r + 2) (by first | exact Nat.le_trans hz s5.size | simpa using hz))
            refine hK.out _ _ ?_ (fun hHeld => ?_)
            · exact s6
            clear hK K
            try simp only [Act.put]
            refine wpAnyH_take (i := 10) (oi := ⟨some 8, .assign (.tmp 20), _, _, _, none⟩) (v := ?_) rfl (by kernel_rfl) (by kernel_rfl) (by kernel_rfl) (fun _ _ _ h => h) (Or.inl ⟨by rfl, ?_⟩) hHeld ?_
            rotate_left
            · (intro wq hSw; go_simp; try with_reducible rfl)
            simp only [Act.put, List.setIfInBounds_toArray, List.set_cons_zero, List.set_cons_succ]
            refine wpAnyH_done (by kernel_rfl) ?_ _
            refine NoPanic.normal ?_
            go_wp2
            go_meet
            case rel => exact ⟨_, rfl, rfl, h6, s6⟩
          exact AllReadyH.nil
        exact AllReadyH.nil
      refine AllReadyH.cons (o := ⟨some 7, .alloc 53, _, _, _, none⟩) rfl (fun K hK => ?_) ?_
      · go_simp
        refine hK.out _ _ ?_ (fun hHeld => ?_)
        · exact hHeld.alloc (Nat.le_trans hz hHeld.size) _
        clear hK K
        try simp only [Act.put, List.setIfInBounds_toArray, List.set_cons_zero, List.set_cons_succ]
        refine wpAnyH_ready (rs := [4]) (by kernel_rfl) (by simp) ?_
        refine AllReadyH.cons (o := ⟨some 18, .lookup 48 (.tmp 15) (.tmp 17) true, _, _, _, none⟩) rfl (fun K hK => ?_) ?_
        · have hlk0 := hlk _ (Below.refl _ _)
          have hlk1 := fun o => hlk _ ((Below.refl w5.heap.size w5).alloc (Nat.le_refl _) o)
          go_simp
          refine hK.out _ _ ?_ (fun hHeld => ?_)
          · exact hHeld
          clear hK K
          try simp only [Act.put, List.setIfInBounds_toArray, List.set_cons_zero, List.set_cons_succ]
          refine wpAnyH_take (i := 5) (oi := ⟨some 13, .move (.tmp 18), _, _, _, none⟩) (v := ?_) rfl (by kernel_rfl) (by kernel_rfl) (by kernel_rfl) (fun _ _ _ h => h) (Or.inl ⟨by rfl, ?_⟩) hHeld ?_
          rotate_left
          · (intro wq hSw; go_simp; try with_reducible rfl)
          simp only [Act.put, List.setIfInBounds_toArray, List.set_cons_zero, List.set_cons_succ]
          refine wpAnyH_take (i := 6) (oi := ⟨some 19, .extract (.tmp 13) 0, _, _, _, none⟩) (v := ?_) rfl (by kernel_rfl) (by kernel_rfl) (by kernel_rfl) (fun _ _ _ h => h) (Or.inl ⟨by rfl, ?_⟩) hHeld ?_
          rotate_left
          · (intro wq hSw; go_simp; try with_reducible rfl)
          simp only [Act.put, List.setIfInBounds_toArray, List.set_cons_zero, List.set_cons_succ]
          refine wpAnyH_take (i := 7) (oi := ⟨some 20, .extract (.tmp 13) 1, _, _, _, none⟩) (v := ?_) rfl (by kernel_rfl) (by kernel_rfl) (by kernel_rfl) (fun _ _ _ h => h) (Or.inl ⟨by rfl, ?_⟩) hHeld ?_
          rotate_left
          · (intro wq hSw; go_simp; try with_reducible rfl)
          simp only [Act.put, List.setIfInBounds_toArray, List.set_cons_zero, List.set_cons_succ]
          refine wpAnyH_ready (rs := [9]) (by kernel_rfl) (by simp) ?_
          refine AllReadyH.cons (o := ⟨none, .store 53 (.tmp 7) (.tmp 19), _, _, _, none⟩) rfl (fun K hK => ?_) ?_
          · refine step_store (by rfl) _ _ _ (by rfl) _ FV (by rfl) (by rfl) _ _ (by first | exact heap_alloc_new _ _ | exact (hb5.block _ (by simp)).trans (heap_alloc_new _ _)) (formC_size FV hk2) (by rw [hk2]; rfl) hk1 ?_
            intro w6 h6 b6 n6 z6
            have s6 : Below (r + 2) w1 w6 := hHeld.trans (b6 (r + 2) (by first | exact Nat.le_trans hz s5.size | simpa using hz))
            refine hK.out _ _ ?_ (fun hHeld => ?_)
            · exact s6
            clear hK K
            try simp only [Act.put]
            refine wpAnyH_take (i := 10) (oi := ⟨some 8, .assign (.tmp 20), _, _, _, none⟩) (v := ?_) rfl (by kernel_rfl) (by kernel_rfl) (by kernel_rfl) (fun _ _ _ h => h) (Or.inl ⟨by rfl, ?_⟩) hHeld ?_
            rotate_left
            · (intro wq hSw; go_simp; try with_reducible rfl)
            simp only [Act.put, List.setIfInBounds_toArray, List.set_cons_zero, List.set_cons_succ]
            refine wpAnyH_done (by kernel_rfl) ?_ _
            refine NoPanic.normal ?_
            go_wp2
            go_meet
            case rel => exact ⟨_, rfl, rfl, h6, s6⟩
          exact AllReadyH.nil
        exact AllReadyH.nil
      exact AllReadyH.nil
    refine AllReadyH.cons (o := ⟨some 7, .alloc 53, _, _, _, none⟩) rfl (fun K hK => ?_) ?_
    · go_simp
      refine hK.out _ _ ?_ (fun hHeld => ?_)
      · exact hHeld.alloc (Nat.le_trans hz hHeld.size) _
      clear hK K
      try simp only [Act.put, List.setIfInBounds_toArray, List.set_cons_zero, List.set_cons_succ]
      refine wpAnyH_ready (rs := [1]) (by kernel_rfl) (by simp) ?_
      refine AllReadyH.cons (o := ⟨some 15, .call ⟨.value (.func 20), #[.tmp 6, .tmp 14], #[47, 3]⟩, _, _, _, none⟩) rfl (fun K hK => ?_) ?_
      · go_simp
        refine (HL.out _).mono ?_
        rintro e w5 ⟨⟨x, rfl, hlk⟩, hb5⟩
        have s5 : Below (r + 2) w1 w5 := below_next hHeld hb5 hz
        refine hK.out _ _ ?_ (fun hHeld => ?_)
        · exact s5
        clear hK K
        try simp only [Act.put, List.setIfInBounds_toArray, List.set_cons_zero, List.set_cons_succ]
        refine wpAnyH_ready (rs := [4]) (by kernel_rfl) (by simp) ?_
        refine AllReadyH.cons (o := ⟨some 18, .lookup 48 (.tmp 15) (.tmp 17) true, _, _, _, none⟩) rfl (fun K hK => ?_) ?_
        · have hlk0 := hlk _ (Below.refl _ _)
          have hlk1 := fun o => hlk _ ((Below.refl w5.heap.size w5).alloc (Nat.le_refl _) o)
          go_simp
          refine hK.out _ _ ?_ (fun hHeld => ?_)
          · exact hHeld
          clear hK K
          try simp only [Act.put, List.setIfInBounds_toArray, List.set_cons_zero, List.set_cons_succ]
          refine wpAnyH_take (i := 5) (oi := ⟨some 13, .move (.tmp 18), _, _, _, none⟩) (v := ?_) rfl (by kernel_rfl) (by kernel_rfl) (by kernel_rfl) (fun _ _ _ h => h) (Or.inl ⟨by rfl, ?_⟩) hHeld ?_
          rotate_left
          · (intro wq hSw; go_simp; try with_reducible rfl)
          simp only [Act.put, List.setIfInBounds_toArray, List.set_cons_zero, List.set_cons_succ]
          refine wpAnyH_take (i := 6) (oi := ⟨some 19, .extract (.tmp 13) 0, _, _, _, none⟩) (v := ?_) rfl (by kernel_rfl) (by kernel_rfl) (by kernel_rfl) (fun _ _ _ h => h) (Or.inl ⟨by rfl, ?_⟩) hHeld ?_
          rotate_left
          · (intro wq hSw; go_simp; try with_reducible rfl)
          simp only [Act.put, List.setIfInBounds_toArray, List.set_cons_zero, List.set_cons_succ]
          refine wpAnyH_take (i := 7) (oi := ⟨some 20, .extract (.tmp 13) 1, _, _, _, none⟩) (v := ?_) rfl (by kernel_rfl) (by kernel_rfl) (by kernel_rfl) (fun _ _ _ h => h) (Or.inl ⟨by rfl, ?_⟩) hHeld ?_
          rotate_left
          · (intro wq hSw; go_simp; try with_reducible rfl)
          simp only [Act.put, List.setIfInBounds_toArray, List.set_cons_zero, List.set_cons_succ]
          refine wpAnyH_ready (rs := [9]) (by kernel_rfl) (by simp) ?_
          refine AllReadyH.cons (o := ⟨none, .store 53 (.tmp 7) (.tmp 19), _, _, _, none⟩) rfl (fun K hK => ?_) ?_
          · refine step_store (by rfl) _ _ _ (by rfl) _ FV (by rfl) (by rfl) _ _ (by first | exact heap_alloc_new _ _ | exact (hb5.block _ (by simp)).trans (heap_alloc_new _ _)) (formC_size FV hk2) (by rw [hk2]; rfl) hk1 ?_
            intro w6 h6 b6 n6 z6
            have s6 : Below (r + 2) w1 w6 := hHeld.trans (b6 (r + 2) (by first | exact Nat.le_trans hz s5.size | simpa using hz))
            refine hK.out _ _ ?_ (fun hHeld => ?_)
            · exact s6
            clear hK K
            try simp only [Act.put]
            refine wpAnyH_take (i := 10) (oi := ⟨some 8, .assign (.tmp 20), _, _, _, none⟩) (v := ?_) rfl (by kernel_rfl) (by kernel_rfl) (by kernel_rfl) (fun _ _ _ h => h) (Or.inl ⟨by rfl, ?_⟩) hHeld ?_
            rotate_left
            · (intro wq hSw; go_simp; try with_reducible rfl)
            simp only [Act.put, List.setIfInBounds_toArray, List.set_cons_zero, List.set_cons_succ]
            refine wpAnyH_done (by kernel_rfl) ?_ _
            refine NoPanic.normal ?_
            go_wp2
            go_meet
            case rel => exact ⟨_, rfl, rfl, h6, s6⟩
          exact AllReadyH.nil
        exact AllReadyH.nil
      exact AllReadyH.nil
    exact AllReadyH.nil
  case rest =>
    obtain ⟨gf, rfl, rfl, hgf, sB⟩ := hcut
    cases hfo : Coils.formOf dir m.code with
    | none =>
      have hok : ok = false := by rw [← HOK.out, hfo]; rfl
      subst hok
      have HRn : Hid (R = none) := hide (by rw [HR.out]; unfold Coils.write; rw [hfo])
      clear HL HR HK HOK hfo
      go_wp2
      go_ret2
      rw [HRn.out]
      exact ⟨⟨_, _, _, rfl, Sl.nil _ _ (by unfold maxLen; omega)⟩, by rw [hr]; exact E3.out.trans (sB.mono (by omega))⟩
    | some f =>
      have hok : ok = true := by rw [← HOK.out, hfo]; rfl
      subst hok
      have hFV : FV = #[methV f.rd (r + 1), methV f.wr (r + 1)] := by rw [← HK.out]; unfold lookC; rw [hfo]
      subst hFV
      have HRs : Hid (R = if (Coils.parse dir m.code (f.bytes m)).2 = 0 ∧ MsgM.same (Coils.parse dir m.code (f.bytes m)).1 m = true then Option.some (f.bytes m) else none) := hide (by rw [HR.out]; unfold Coils.write; rw [hfo])
      clear HL HR HK HOK hfo hk1 hk2
      have kf : wc.cell? ⟨gf, 1, none⟩ = some (methV f.wr (r + 1)) := cell_of_row wc gf 1 _ _ _ hgf
      have hm3 : MsgAt wc (.agg cs) m := HM.out.mono (by rw [hr]; exact E3.out.trans (sB.mono (by omega)))
      have e2 : CM wc (r + 1) m := ⟨cs, (sB.block (r + 1) (by omega)).trans E4.out, hm3⟩
      have hcf := wr_enter f
      have HW := hide (write_form f (r + 1) m wc e2 hl1 hl2)
      have e1 : wc.heap[r]? = some (.cells cs 30 (0, 0)) := (sB.block r (by omega)).trans E1.out
      have HM3 := hide hm3
      have HB := hide (E3.out.trans (sB.mono (by omega)))
      generalize f.wr = F at *
      generalize f.bytes m = B at *
      have hz0 : r ≤ wc.heap.size := Nat.le_of_lt (lt_of_block e1)
      clear e2 hm3 HM E1 E3 E4 sB hc1 hz hgf
      go_wp2_with fail
      refine HW.out.mono ?_
      rintro e w5 ⟨⟨a5, l5, c5, rfl, hl5, hx5⟩, hb5⟩
      replace HM3 := hide (HM3.out.mono hb5)
      replace e1 := (hb5.block r (lt_of_block e1)).trans e1
      have hz : r < w5.heap.size := lt_of_block e1
      have hc5 : w5.cell? ⟨r, 0, none⟩ = some (byteV m.code) := (cell_of_row w5 r 0 _ _ _ e1).trans HC0.out
      replace HB := hide (HB.out.trans (hb5.mono hz0))
      clear HW hcf kf hb5
      have HX := hide hx5
      clear hx5
      go_wp2_with fail
      refine (coilsParse_any dir m.code a5 l5 c5 B w5 HX.out hl5).mono ?_
      rintro e w6 ⟨⟨v6, rfl, hm6⟩, hb6⟩
      obtain ⟨cs6, rfl, hs6, ho6, _⟩ := hm6.agg
      have hz6 := hb6.size
      have HX6 := hide (HX.out.mono hb6)
      have HM6 := hide hm6
      have HM7 := hide (HM3.out.mono hb6)
      replace e1 := (hb6.block r hz).trans e1
      replace HB := hide (HB.out.trans (hb6.mono (Nat.le_of_lt hz)))
      have HRp : Hid (∀ p, p = Coils.parse dir m.code B → R = if p.2 = 0 ∧ MsgM.same p.1 m = true then Option.some B else none) := hide (fun p hp => by rw [hp]; exact HRs.out)
      replace HRp := hide (HRp.out _ rfl)
      clear HRs HM3 HX hc5 hb6 hm6
      generalize Coils.parse dir m.code B = P at *
      obtain ⟨n, E⟩ := P
      go_wp2_with (refine wpList_store_new rfl 30 _ _ rfl cs6 rfl rfl (msg_size cs6 hs6) hs6.symm ho6 ?_)
      intro w7 h7 b7
      replace HX6 := hide (HX6.out.mono b7)
      replace HM6 := hide (HM6.out.mono b7)
      replace HM7 := hide (HM7.out.mono b7)
      replace e1 := (b7.block r (by omega)).trans e1
      replace HB := hide (HB.out.trans (b7.mono (by omega)))
      have hz7 : r ≤ w7.heap.size := Nat.le_of_lt (lt_of_block e1)
      generalize w6.heap.size = g6 at *
      clear b7
      by_cases hE : E = 0
      · subst hE
        have HRq : Hid (R = if MsgM.same n m = true then Option.some B else none) := hide (by rw [HRp.out]; simp)
        clear HRp
        go_wp2_with (first | (refine wpList_load_rowG (by rfl) 30 _ rfl g6 rfl cs6 (load_whole h7 hs6) ?_) | (refine wpList_load_rowG (by rfl) 30 _ rfl r rfl cs (load_whole e1 hsz) ?_))
        refine (codeSame_any _ _ n m w7 HM6.out HM7.out).mono ?_
        rintro e w8 ⟨rfl, b8⟩
        have HX8 := hide (HX6.out.mono b8)
        have HB8 := hide (HB.out.trans (b8.mono hz7))
        generalize MsgM.same n m = q at *
        cases q
        · have hR : R = none := HRq.out
          subst hR
          go_wp2
          go_ret2
          exact ⟨⟨_, _, _, rfl, Sl.nil _ _ (by unfold maxLen; omega)⟩, by rw [hr]; exact HB8.out⟩
        · have hR : R = Option.some B := HRq.out
          subst hR
          go_wp2
          go_ret2
          exact ⟨⟨_, _, _, rfl, HX8.out⟩, by rw [hr]; exact HB8.out⟩
      · have hR : R = none := by rw [HRp.out, if_neg (fun h => hE h.1)]
        subst hR
        have hE' : (E == 0) = false := by simpa using hE
        clear HRp
        go_wp2
        go_ret2
        exact ⟨⟨_, _, _, rfl, Sl.nil _ _ (by unfold maxLen; omega)⟩, by rw [hr]; exact HB.out⟩

end Go.Proofs.Ytgacfocbdeohaaa
