/-
  Proved: for every input the law MeiCuts answers true, and each argument reads behind the call as it read before.
  Conditions: none (the statement Rows.MeiCutsSaid as it is given).
-/
import Derived.Test.YtaokbaddleplfaaRows
import Derived.Below
import Derived.Test.YtaokbaddleplfaaMeiFacts
import Derived.Test.YtaokbaddleplfaaSame
import Derived.Test.YtaokbaddleplfaaFew
import Derived.Test.YtaokbaddleplfaaJoinA
import Derived.Test.YtaokbaddleplfaaStoreStep
import Derived.Test.YtaokbaddleplfaaAppBut
import Derived.Test.YtaokbaddleplfaaMsgBox
import Derived.Carry
import Derived.WalkKit
import Derived.ProofKit
import Derived.OpenShut
import Derived.ShutString
namespace Go.Proofs.Ytaokbaddleplfaa.meiCuts
open Go.ChangeShapes Go.WideShapes Go.ChangeAt Go.RowKit
open Go.ChangeMaps (open_string shut_string)
set_option linter.unusedVariables false      -- a walk need not use every 'w<i>' (that an integer argument fits its kind)

theorem laidOut : laidOutB Try.prog = true := by kernel_rfl
/-- 'append(dst, src...)' of bytes, at a step; all blocks but one as they were. -/
theorem step_app_but {w : World} {ops : Array Oper} {o : Oper} {act : Act} {K : Act → World → Prop} {Q : Exit → Act → World → Prop} {E : Prop} (hw' : Region.wanted o (yielded ops act.tmps) = true) (s x : Operand)
    (ho : o.op = .call { callee := .builtin .append, args := #[s, x], argTypes := #[22, 22] }) (B : Nat) {a a2 : Option Addr} {len cap m c2 : Nat} {xs ys : List UInt8}
    (hs : act.eval s = .slice a len cap) (hd : Own byteV w B a len cap xs) (hx : act.eval x = .slice a2 m c2) (hsrc : Bs w a2 m c2 ys) (hsmall : len + m ≤ 1000000) (hB : B ≤ w.heap.size) (g : Nat) (hg : ∀ b off, a = some ⟨b, off, none⟩ → b = g)
    (h : ∀ a' cap' w', Own byteV w' B a' (len + m) cap' (xs ++ ys) → Below B w w' → But g w w' → K (act.put o.dst (.slice a' (len + m) cap')) w') : if Region.wanted o (yielded ops act.tmps) = true then Oper.wp Try.prog o act w K Q else E := by
  rw [if_pos hw']
  obtain ⟨i0, hi, hz0, hz1, hz2⟩ := info_parts Try.infoB
  obtain ⟨a', cap', w', hr, h2, h3, h4⟩ := run_append_but (P := Try.prog) w B 22 22 o.type 5 i0 (.int .u8 0) Try.underlying22 hi hz0 hz1 rfl a len cap xs hd _ m ys (hsrc.src (fun _ => rfl) Try.underlying22) (by rw [hz2]; omega) (by unfold maxLen; omega) hB g hg
  unfold Oper.wp execOp
  simp only [ho, resolve, invoke, builtin, Sem.run_bind, Sem.run_pure, Result.andThen_ok, List.map_toArray, List.map_cons, List.map_nil, hs, hx, hr]
  exact h a' cap' w' h2 h3 h4
theorem alloc_at {B : Nat} {a w : World} {o : Obj} (_h : Below B a (w.alloc o)) : (w.alloc o).heap[w.heap.size]? = some o := heap_alloc_new _ _
theorem alloc_at' {B : Nat} {a w : World} {o : Obj} (_h : Below B a (w.alloc o).drew) : (w.alloc o).drew.heap[w.heap.size]? = some o := heap_alloc_new _ _
theorem alloc_ne {B g : Nat} {a w : World} {o : Obj} (_h : Below B a (w.alloc o)) (hg : g < w.heap.size) : w.heap.size ≠ g := by omega
theorem alloc_keep {B g : Nat} {a w : World} {o x : Obj} (_h : Below B a (w.alloc o)) (hA : w.heap[g]? = some x) : (w.alloc o).heap[g]? = some x := (Below.heap_alloc _ _ _ (lt_of_block hA)).trans hA
theorem sl_alloc {B : Nat} {a w : World} {o : Obj} (_h : Below B a (w.alloc o)) {q : Option Addr} {l c : Nat} {xs : List UInt8} (hx : Bs w q l c xs) : Bs (w.alloc o) q l c xs := hx.alloc o
theorem own_alloc {B C : Nat} {a w : World} {o : Obj} (_h : Below B a (w.alloc o)) {q : Option Addr} {l c : Nat} {xs : List UInt8} (hx : Own byteV w C q l c xs) : Own byteV (w.alloc o) C q l c xs := hx.mono ((Below.refl _ _).alloc (Nat.le_refl _) _)
theorem lit_of {B : Nat} {a w : World} {t : TypeId} {u : Int} (_h : Below B a (w.alloc (.cells #[.int .u8 u] t))) (x : UInt8) (hu : u = x.toNat) : Bs (w.alloc (.cells #[.int .u8 u] t)) (some ⟨w.heap.size, 0, none⟩) 1 1 [x] :=
  Sl.fresh w [x] _ t _ 1 rfl (by unfold maxLen; omega) (by subst hu; rfl)
theorem lit_of' {B : Nat} {a w : World} {t : TypeId} {u : Int} (_h : Below B a (w.alloc (.cells #[.int .u8 u] t)).drew) (x : UInt8) (hu : u = x.toNat) : Bs (w.alloc (.cells #[.int .u8 u] t)).drew (some ⟨w.heap.size, 0, none⟩) 1 1 [x] :=
  (Sl.fresh w [x] _ t _ 1 rfl (by unfold maxLen; omega) (by subst hu; rfl)).drew
theorem own : ownKnob Try.prog.godebug = none := by kernel_rfl

/-! ### STEP 1: THE WALK: the Go text returns true. 'Grown w w'': the world has at most new blocks (Derived/RowKit3.lean). Part the cases AHEAD of 'go_enter' where a test parts the walk; take each callee by a contract of your own. -/
set_option maxRecDepth 20000 in
set_option maxHeartbeats 2000000 in
theorem walk (a0 : Bool) (a1 : Value) (m1 : MsgM) (a2 : Int) (a3 : Int) (w : World) (w1 : MsgAt w a1 m1) (w2 : (Lit.int .u16 a2).wf = true) (w3 : (Lit.int .u8 a3).wf = true) :
    Calls Try.prog 10 #[.bool a0, a1, .int .u16 a2, .int .u8 a3] w fun e w' => e = .returned (.bool true) ∧ Below w.heap.size w w' := by
  obtain ⟨cs, rfl, hsz, hone, hc0⟩ := w1.agg
  have HC0 := hide hc0
  have HM := hide w1
  have hb0 := (Below.refl w.heap.size w).alloc (Nat.le_refl _) (.cells cs 30 (0, 0))
  have e1 := heap_alloc_new w (.cells cs 30 (0, 0))
  replace HM := hide (HM.out.mono hb0)
  obtain ⟨cx, rfl⟩ := byte_arg w3
  obtain ⟨at2, rfl⟩ := word_arg w2
  have bat := word_lt at2
  clear w1 w2 w3 hc0
  go_enter Try.func10, Try.ntmps10
  go_upto_region 1 with (refine wpList_boxC rfl 30 _ rfl cs rfl ?_)
  generalize w.alloc (.cells cs 30 (0, 0)) = u0 at *
  generalize hr : w.heap.size = r at *
  have hz0 : r < u0.heap.size := lt_of_block e1
  go_wp2_with fail
  refine (awake_any u0).mono ?_
  rintro e u1 ⟨rfl, b1⟩
  replace e1 := (b1.block r hz0).trans e1
  replace HM := hide (HM.out.mono b1)
  have HB := hide (hb0.trans (b1.mono (Nat.le_of_lt hz0)))
  have hz1 : r < u1.heap.size := lt_of_block e1
  clear b1 hb0 hz0
  go_wp2_with ((with_reducible (show wpList _ _ _ ({ dst := _, op := Op.load _ _, type := _, pos := _, after := _, guard := _ } :: _) _ _)); refine wpList_load_rowG (by rfl) 30 _ rfl r rfl cs (load_whole e1 hsz) ?_)
  refine (few_any _ m1 u1 HM.out).mono ?_
  rintro e u2 ⟨rfl, b2⟩
  replace e1 := (b2.block r hz1).trans e1
  replace HM := hide (HM.out.mono b2)
  replace HB := hide (HB.out.trans (b2.mono (Nat.le_of_lt hz1)))
  have hz2 : r < u2.heap.size := lt_of_block e1
  have HS : Hid (m1.few = true → m1.Small) := hide MsgM.small_of
  clear b2 hz1
  generalize m1.few = q at *
  cases q
  · go_wp2
    go_ret
    exact ⟨rfl, by rw [hr]; exact HB.out⟩
  have hs := HS.out rfl
  clear HS
  obtain ⟨nm, hnm⟩ : ∃ n : Nat, n = m1.mei.toNat := ⟨_, rfl⟩
  have k16 : u2.cell? ⟨r, 16, none⟩ = some (.int .u8 (nm : Int)) := by
    have hmb : MB 30 u2 r m1 := ⟨cs, e1, HM.out⟩
    rw [hmb.c_mei, hnm]
  by_cases hn13 : nm = 13
  · subst hn13
    clear hnm
    go_wp2
    go_ret
    exact ⟨rfl, by rw [hr]; exact HB.out⟩
  have q13 : ((nm : Int) == 13) = false := by simp; omega
  have HN : Hid (m1.mei ≠ 13) := hide (fun e => hn13 (by rw [hnm, e]; rfl))
  clear hn13 hnm
  cases a0
  · go_wp2_with ((with_reducible (show wpList _ _ _ ({ dst := _, op := Op.load _ _, type := _, pos := _, after := _, guard := _ } :: _) _ _)); refine wpList_load_rowG (by rfl) 30 _ rfl r rfl cs (load_whole e1 hsz) ?_)
    refine (Mei.code_write 0 _ m1 _ HM.out hs).mono ?_
    rintro e u3 ⟨⟨a3, l3, c3, rfl, hx3⟩, b3⟩
    clear k16
    replace HB := hide (HB.out.trans (b3.mono (Nat.le_of_lt (lt_of_block e1))))
    replace e1 := (b3.block r (lt_of_block e1)).trans e1
    have HF : Hid (∀ b, Mei.write 0 m1 = some b → 0 < b.length ∧ b.length ≤ 90000 ∧ (∀ k, k < b.length → (Mei.parse 0 m1.code (b.take k)).2 = 2) ∧ (∀ x, (Mei.parse 0 m1.code (b ++ [x])).2 = 3)) := hide (fun b h => ⟨Mei.pos h, Mei.write_len h, Mei.cut HN.out h, Mei.more HN.out h⟩)
    have HX3 := hide hx3
    clear b3 hx3
    generalize Mei.write 0 m1 = R at *
    cases R with
    | none =>
      have q1 : Mei.errW none = 1 := rfl
      rw [q1]
      clear HF HX3 q1
      go_wp2
      go_ret
      exact ⟨rfl, by rw [hr]; exact HB.out⟩
    | some b =>
      obtain ⟨hp, hpl, hcut, hmore⟩ := HF.out b rfl
      have q1 : Mei.errW (some b) = 0 := rfl
      rw [q1]
      replace HX3 : Hid (Bs u3 a3 l3 c3 b) := HX3
      have hl3 : Hid (b.length = l3) := hide HX3.out.hlen
      rw [hl3.out] at hp hpl hcut
      obtain ⟨bb, ob, hbb, _, _⟩ := HX3.out.at hp
      subst hbb
      have hm3 := HX3.out.hle
      have hm4 := HX3.out.hmax
      unfold maxLen at hm4
      have k6 : u3.cell? ⟨r, 0, none⟩ = some (byteV m1.code) := (cell_of_row u3 r 0 _ _ _ e1).trans HC0.out
      have hzr : r < u3.heap.size := lt_of_block e1
      generalize hpp : at2.toNat = p at *
      obtain ⟨k, hk⟩ : ∃ k, k = p % l3 := ⟨_, rfl⟩
      have hkl : k < l3 := by rw [hk]; exact Nat.mod_lt _ hp
      have HXC := hide (HX3.out.take k (Nat.le_of_lt hkl))
      have HCut := hide (hcut k hkl)
      have HMore := hide (hmore cx)
      have i0 : ((l3 : Int) == 0) = false := by simp; omega
      have i8 : ¬ l3 = 0 := by omega
      have i9 : ¬ c3 = 0 := by omega
      have i1 : ¬ ((l3 : Int) = 0) := by omega
      have i2 : (p : Int) % (l3 : Int) = (k : Int) := by rw [hk]; rfl
      have i3 : (k : Int) ≤ (c3 : Int) := by omega
      have i4 : (0 : Int) ≤ (k : Int) := by omega
      have i5 : Int.tmod (p : Int) (l3 : Int) = (k : Int) := by rw [hk]; rfl
      have i6 : IntKind.i64.wrap (p : Int) = (p : Int) := by rw [IntKind.wrap_i64]; omega
      have i7 : IntKind.i64.wrap (k : Int) = (k : Int) := by rw [IntKind.wrap_i64]; omega
      clear hk HF q1 hpp hcut hmore hs HM e1
      go_upto_region 11 with fail
      go_cut [15] (fun s wx => s = .int .i64 2 ∧ Below u3.heap.size u3 wx)
      case first =>
        refine wp_region_noPanic ?_
        refine wp_region_held_drew (S := fun w' => Below u3.heap.size u3 w') (by kernel_rfl) ((Below.refl _ _).drew) (fun hHeld => ?_)
        refine wpAnyH_take (i := 0) (oi := ⟨some 49, .move (.tmp 11), _, _, _, none⟩) (v := ?_) rfl (by kernel_rfl) (by kernel_rfl) (by kernel_rfl) (fun _ _ _ h => h) (Or.inl ⟨by rfl, ?_⟩) hHeld ?_
        rotate_left
        · (intro wq hSw; go_simp; try with_reducible rfl)
        simp only [Act.put, List.setIfInBounds_toArray, List.set_cons_zero, List.set_cons_succ]
        refine wpAnyH_take (i := 1) (oi := ⟨some 50, .fieldAddr 30 (.tmp 5) 0, _, _, _, none⟩) (v := ?_) rfl (by kernel_rfl) (by kernel_rfl) (by kernel_rfl) (fun _ _ _ h => h) (Or.inl ⟨by rfl, ?_⟩) hHeld ?_
        rotate_left
        · (intro wq hSw; go_simp; try with_reducible rfl)
        simp only [Act.put, List.setIfInBounds_toArray, List.set_cons_zero, List.set_cons_succ]
        refine wpAnyH_take (i := 2) (oi := ⟨some 51, .load 5 (.tmp 50), _, _, _, none⟩) (v := ?_) rfl (by kernel_rfl) (by kernel_rfl) (by kernel_rfl) (fun _ _ _ h => h) (Or.inl ⟨by rfl, ?_⟩) hHeld ?_
        rotate_left
        · (intro wq hSw; have hcv := (hSw.cell (p := ⟨r, 0, none⟩) hzr).trans k6; go_simp; try with_reducible rfl)
        simp only [Act.put, List.setIfInBounds_toArray, List.set_cons_zero, List.set_cons_succ]
        refine wpAnyH_take (i := 3) (oi := ⟨some 52, .move (.tmp 12), _, _, _, none⟩) (v := ?_) rfl (by kernel_rfl) (by kernel_rfl) (by kernel_rfl) (fun _ _ _ h => h) (Or.inl ⟨by rfl, ?_⟩) hHeld ?_
        rotate_left
        · (intro wq hSw; go_simp; try with_reducible rfl)
        simp only [Act.put, List.setIfInBounds_toArray, List.set_cons_zero, List.set_cons_succ]
        refine wpAnyH_take (i := 4) (oi := ⟨some 53, .move (.tmp 2), _, _, _, none⟩) (v := ?_) rfl (by kernel_rfl) (by kernel_rfl) (by kernel_rfl) (fun _ _ _ h => h) (Or.inl ⟨by rfl, ?_⟩) hHeld ?_
        rotate_left
        · (intro wq hSw; go_simp; try with_reducible rfl)
        simp only [Act.put, List.setIfInBounds_toArray, List.set_cons_zero, List.set_cons_succ]
        refine wpAnyH_take (i := 5) (oi := ⟨some 54, .convert 24 3 (.tmp 53), _, _, _, none⟩) (v := ?_) rfl (by kernel_rfl) (by kernel_rfl) (by kernel_rfl) (fun _ _ _ h => h) (Or.inl ⟨by rfl, ?_⟩) hHeld ?_
        rotate_left
        · (intro wq hSw; go_simp; try with_reducible rfl)
        simp only [Act.put, List.setIfInBounds_toArray, List.set_cons_zero, List.set_cons_succ]
        refine wpAnyH_take (i := 6) (oi := ⟨some 55, .move (.tmp 12), _, _, _, none⟩) (v := ?_) rfl (by kernel_rfl) (by kernel_rfl) (by kernel_rfl) (fun _ _ _ h => h) (Or.inl ⟨by rfl, ?_⟩) hHeld ?_
        rotate_left
        · (intro wq hSw; go_simp; try with_reducible rfl)
        simp only [Act.put, List.setIfInBounds_toArray, List.set_cons_zero, List.set_cons_succ]
        refine wpAnyH_take (i := 7) (oi := ⟨some 56, .call ⟨.builtin .len, #[.tmp 55], #[22]⟩, _, _, _, none⟩) (v := ?_) rfl (by kernel_rfl) (by kernel_rfl) (by kernel_rfl) (fun _ _ _ h => h) (Or.inl ⟨by rfl, ?_⟩) hHeld ?_
        rotate_left
        · (intro wq hSw; go_simp; try with_reducible rfl)
        simp only [Act.put, List.setIfInBounds_toArray, List.set_cons_zero, List.set_cons_succ]
        refine wpAnyH_take (i := 8) (oi := ⟨some 57, .binOp .rem 3 (.tmp 54) (.tmp 56) 3, _, _, _, none⟩) (v := ?_) rfl (by kernel_rfl) (by kernel_rfl) (by kernel_rfl) (fun _ _ _ h => h) (Or.inl ⟨by rfl, ?_⟩) hHeld ?_
        rotate_left
        · (intro wq hSw; go_simp; try with_reducible rfl)
        simp only [Act.put, List.setIfInBounds_toArray, List.set_cons_zero, List.set_cons_succ]
        refine wpAnyH_take (i := 9) (oi := ⟨some 58, .slice 22 (.tmp 52) none (some (.tmp 57)) none, _, _, _, none⟩) (v := ?_) rfl (by kernel_rfl) (by kernel_rfl) (by kernel_rfl) (fun _ _ _ h => h) (Or.inl ⟨by rfl, ?_⟩) hHeld ?_
        rotate_left
        · (intro wq hSw; go_simp; try with_reducible rfl)
        simp only [Act.put, List.setIfInBounds_toArray, List.set_cons_zero, List.set_cons_succ]
        refine wpAnyH_ready (rs := [10, 14]) (by kernel_rfl) (by simp) ?_
        refine AllReadyH.cons (o := ⟨some 59, .call ⟨.value (.func 12), #[.tmp 49, .tmp 51, .tmp 58], #[3, 5, 22]⟩, _, _, _, none⟩) rfl (fun K hK => ?_) ?_
        · go_simp
          refine (Mei.code_parse _ m1.code _ k _ (b.take k) _ (HXC.out.mono hHeld) (by omega)).mono ?_
          rintro e u5 ⟨⟨v5, rfl, hm5⟩, hb5⟩
          obtain ⟨cs5, rfl, hs5, ho5, _⟩ := hm5.agg
          rw [HCut.out]
          have s5 : Below u3.heap.size u3 u5 := below_next hHeld hb5 (Nat.le_refl _)
          refine hK.out _ _ ?_ (fun hHeld => ?_)
          · exact s5
          clear hK K
          try simp only [Act.put, List.setIfInBounds_toArray, List.set_cons_zero, List.set_cons_succ]
          refine wpAnyH_take (i := 11) (oi := ⟨some 48, .move (.tmp 59), _, _, _, none⟩) (v := ?_) rfl (by kernel_rfl) (by kernel_rfl) (by kernel_rfl) (fun _ _ _ h => h) (Or.inl ⟨by rfl, ?_⟩) hHeld ?_
          rotate_left
          · (intro wq hSw; go_simp; try with_reducible rfl)
          simp only [Act.put, List.setIfInBounds_toArray, List.set_cons_zero, List.set_cons_succ]
          refine wpAnyH_take (i := 12) (oi := ⟨some 60, .extract (.tmp 48) 0, _, _, _, none⟩) (v := ?_) rfl (by kernel_rfl) (by kernel_rfl) (by kernel_rfl) (fun _ _ _ h => h) (Or.inl ⟨by rfl, ?_⟩) hHeld ?_
          rotate_left
          · (intro wq hSw; go_simp; try with_reducible rfl)
          simp only [Act.put, List.setIfInBounds_toArray, List.set_cons_zero, List.set_cons_succ]
          refine wpAnyH_take (i := 13) (oi := ⟨some 61, .extract (.tmp 48) 1, _, _, _, none⟩) (v := ?_) rfl (by kernel_rfl) (by kernel_rfl) (by kernel_rfl) (fun _ _ _ h => h) (Or.inl ⟨by rfl, ?_⟩) hHeld ?_
          rotate_left
          · (intro wq hSw; go_simp; try with_reducible rfl)
          simp only [Act.put, List.setIfInBounds_toArray, List.set_cons_zero, List.set_cons_succ]
          refine wpAnyH_ready (rs := [14]) (by kernel_rfl) (by simp) ?_
          refine AllReadyH.cons (o := ⟨some 14, .alloc 30, _, _, _, none⟩) rfl (fun K hK => ?_) ?_
          · go_simp
            refine hK.out _ _ ?_ (fun hHeld => ?_)
            · exact hHeld.alloc hHeld.size _
            clear hK K
            try simp only [Act.put, List.setIfInBounds_toArray, List.set_cons_zero, List.set_cons_succ]
            refine wpAnyH_ready (rs := [15]) (by kernel_rfl) (by simp) ?_
            refine AllReadyH.cons (o := ⟨none, .store 30 (.tmp 14) (.tmp 60), _, _, _, none⟩) rfl (fun K hK => ?_) ?_
            · refine step_store (by rfl) _ _ _ (by rfl) _ cs5 (by rfl) (by rfl) _ _ (by first | exact heap_alloc_new _ _ | exact (hb5.block _ (by simp)).trans (heap_alloc_new _ _)) (msg_size cs5 hs5) (by rw [hs5]; rfl) ho5 ?_
              intro u6 h6 b6 n6 z6
              have s6 : Below u3.heap.size u3 u6 := hHeld.trans (b6 _ (by first | exact s5.size | exact Nat.le_refl _ | (simp; done)))
              refine hK.out _ _ ?_ (fun hHeld => ?_)
              · exact s6
              clear hK K
              try simp only [Act.put]
              refine wpAnyH_take (i := 16) (oi := ⟨some 15, .assign (.tmp 61), _, _, _, none⟩) (v := ?_) rfl (by kernel_rfl) (by kernel_rfl) (by kernel_rfl) (fun _ _ _ h => h) (Or.inl ⟨by rfl, ?_⟩) hHeld ?_
              rotate_left
              · (intro wq hSw; go_simp; try with_reducible rfl)
              simp only [Act.put, List.setIfInBounds_toArray, List.set_cons_zero, List.set_cons_succ]
              refine wpAnyH_done (by kernel_rfl) ?_ _
              refine NoPanic.normal ?_
              go_wp2
              go_meet
              case rel => exact ⟨rfl, s6⟩
            exact AllReadyH.nil
          exact AllReadyH.nil
        refine AllReadyH.cons (o := ⟨some 14, .alloc 30, _, _, _, none⟩) rfl (fun K hK => ?_) ?_
        · go_simp
          refine hK.out _ _ ?_ (fun hHeld => ?_)
          · exact hHeld.alloc hHeld.size _
          clear hK K
          try simp only [Act.put, List.setIfInBounds_toArray, List.set_cons_zero, List.set_cons_succ]
          refine wpAnyH_ready (rs := [10]) (by kernel_rfl) (by simp) ?_
          refine AllReadyH.cons (o := ⟨some 59, .call ⟨.value (.func 12), #[.tmp 49, .tmp 51, .tmp 58], #[3, 5, 22]⟩, _, _, _, none⟩) rfl (fun K hK => ?_) ?_
          · go_simp
            refine (Mei.code_parse _ m1.code _ k _ (b.take k) _ (HXC.out.mono hHeld) (by omega)).mono ?_
            rintro e u5 ⟨⟨v5, rfl, hm5⟩, hb5⟩
            obtain ⟨cs5, rfl, hs5, ho5, _⟩ := hm5.agg
            rw [HCut.out]
            have s5 : Below u3.heap.size u3 u5 := below_next hHeld hb5 (Nat.le_refl _)
            refine hK.out _ _ ?_ (fun hHeld => ?_)
            · exact s5
            clear hK K
            try simp only [Act.put, List.setIfInBounds_toArray, List.set_cons_zero, List.set_cons_succ]
            refine wpAnyH_take (i := 11) (oi := ⟨some 48, .move (.tmp 59), _, _, _, none⟩) (v := ?_) rfl (by kernel_rfl) (by kernel_rfl) (by kernel_rfl) (fun _ _ _ h => h) (Or.inl ⟨by rfl, ?_⟩) hHeld ?_
            rotate_left
            · (intro wq hSw; go_simp; try with_reducible rfl)
            simp only [Act.put, List.setIfInBounds_toArray, List.set_cons_zero, List.set_cons_succ]
            refine wpAnyH_take (i := 12) (oi := ⟨some 60, .extract (.tmp 48) 0, _, _, _, none⟩) (v := ?_) rfl (by kernel_rfl) (by kernel_rfl) (by kernel_rfl) (fun _ _ _ h => h) (Or.inl ⟨by rfl, ?_⟩) hHeld ?_
            rotate_left
            · (intro wq hSw; go_simp; try with_reducible rfl)
            simp only [Act.put, List.setIfInBounds_toArray, List.set_cons_zero, List.set_cons_succ]
            refine wpAnyH_take (i := 13) (oi := ⟨some 61, .extract (.tmp 48) 1, _, _, _, none⟩) (v := ?_) rfl (by kernel_rfl) (by kernel_rfl) (by kernel_rfl) (fun _ _ _ h => h) (Or.inl ⟨by rfl, ?_⟩) hHeld ?_
            rotate_left
            · (intro wq hSw; go_simp; try with_reducible rfl)
            simp only [Act.put, List.setIfInBounds_toArray, List.set_cons_zero, List.set_cons_succ]
            refine wpAnyH_ready (rs := [15]) (by kernel_rfl) (by simp) ?_
            refine AllReadyH.cons (o := ⟨none, .store 30 (.tmp 14) (.tmp 60), _, _, _, none⟩) rfl (fun K hK => ?_) ?_
            · refine step_store (by rfl) _ _ _ (by rfl) _ cs5 (by rfl) (by rfl) _ _ (by first | exact heap_alloc_new _ _ | exact (hb5.block _ (by simp)).trans (heap_alloc_new _ _)) (msg_size cs5 hs5) (by rw [hs5]; rfl) ho5 ?_
              intro u6 h6 b6 n6 z6
              have s6 : Below u3.heap.size u3 u6 := hHeld.trans (b6 _ (by first | exact s5.size | exact Nat.le_refl _ | (simp; done)))
              refine hK.out _ _ ?_ (fun hHeld => ?_)
              · exact s6
              clear hK K
              try simp only [Act.put]
              refine wpAnyH_take (i := 16) (oi := ⟨some 15, .assign (.tmp 61), _, _, _, none⟩) (v := ?_) rfl (by kernel_rfl) (by kernel_rfl) (by kernel_rfl) (fun _ _ _ h => h) (Or.inl ⟨by rfl, ?_⟩) hHeld ?_
              rotate_left
              · (intro wq hSw; go_simp; try with_reducible rfl)
              simp only [Act.put, List.setIfInBounds_toArray, List.set_cons_zero, List.set_cons_succ]
              refine wpAnyH_done (by kernel_rfl) ?_ _
              refine NoPanic.normal ?_
              go_wp2
              go_meet
              case rel => exact ⟨rfl, s6⟩
            exact AllReadyH.nil
          exact AllReadyH.nil
        exact AllReadyH.nil
      case rest =>
        obtain ⟨rfl, hb7⟩ := hcut
        have HX7 := hide (HX3.out.mono hb7)
        have k7 : wc.cell? ⟨r, 0, none⟩ = some (byteV m1.code) := (hb7.cell (p := ⟨r, 0, none⟩) hzr).trans k6
        have HB7 := hide (HB.out.trans (hb7.mono (Nat.le_of_lt hzr)))
        have hzc : r < wc.heap.size := Nat.lt_of_lt_of_le hzr hb7.size
        clear HX3 HXC HCut HB hb7 k6 i0 i1 i2 i3 i4 i5 i6 i7 hzr
        go_upto_region 12 with fail
        go_cut [17] (fun s wx => s = .int .i64 3 ∧ Below wc.heap.size wc wx)
        case first =>
          refine wp_region_noPanic ?_
          refine wp_region_held_drew (S := fun w' => Below wc.heap.size wc w') (by kernel_rfl) ((Below.refl _ _).drew) (fun hHeld => ?_)
          refine wpAnyH_take (i := 0) (oi := ⟨some 63, .move (.tmp 11), _, _, _, none⟩) (v := ?_) rfl (by kernel_rfl) (by kernel_rfl) (by kernel_rfl) (fun _ _ _ h => h) (Or.inl ⟨by rfl, ?_⟩) hHeld ?_
          rotate_left
          · (intro wq hSw; go_simp; try with_reducible rfl)
          simp only [Act.put, List.setIfInBounds_toArray, List.set_cons_zero, List.set_cons_succ]
          refine wpAnyH_take (i := 1) (oi := ⟨some 64, .fieldAddr 30 (.tmp 5) 0, _, _, _, none⟩) (v := ?_) rfl (by kernel_rfl) (by kernel_rfl) (by kernel_rfl) (fun _ _ _ h => h) (Or.inl ⟨by rfl, ?_⟩) hHeld ?_
          rotate_left
          · (intro wq hSw; go_simp; try with_reducible rfl)
          simp only [Act.put, List.setIfInBounds_toArray, List.set_cons_zero, List.set_cons_succ]
          refine wpAnyH_take (i := 2) (oi := ⟨some 65, .load 5 (.tmp 64), _, _, _, none⟩) (v := ?_) rfl (by kernel_rfl) (by kernel_rfl) (by kernel_rfl) (fun _ _ _ h => h) (Or.inl ⟨by rfl, ?_⟩) hHeld ?_
          rotate_left
          · (intro wq hSw; have hcv := (hSw.cell (p := ⟨r, 0, none⟩) hzc).trans k7; go_simp; try with_reducible rfl)
          simp only [Act.put, List.setIfInBounds_toArray, List.set_cons_zero, List.set_cons_succ]
          refine wpAnyH_take (i := 4) (oi := ⟨some 67, .move (.tmp 12), _, _, _, none⟩) (v := ?_) rfl (by kernel_rfl) (by kernel_rfl) (by kernel_rfl) (fun _ _ _ h => h) (Or.inl ⟨by rfl, ?_⟩) hHeld ?_
          rotate_left
          · (intro wq hSw; go_simp; try with_reducible rfl)
          simp only [Act.put, List.setIfInBounds_toArray, List.set_cons_zero, List.set_cons_succ]
          refine wpAnyH_take (i := 6) (oi := ⟨some 69, .move (.tmp 3), _, _, _, none⟩) (v := ?_) rfl (by kernel_rfl) (by kernel_rfl) (by kernel_rfl) (fun _ _ _ h => h) (Or.inl ⟨by rfl, ?_⟩) hHeld ?_
          rotate_left
          · (intro wq hSw; go_simp; try with_reducible rfl)
          simp only [Act.put, List.setIfInBounds_toArray, List.set_cons_zero, List.set_cons_succ]
          refine wpAnyH_ready (rs := [3, 7, 13]) (by kernel_rfl) (by simp) ?_
          refine AllReadyH.cons (o := ⟨some 66, .buildSlice 22 0 #[], _, _, _, none⟩) rfl (fun K hK => ?_) ?_
          · go_simp
            refine hK.out _ _ ?_ (fun hHeld => ?_)
            · exact hHeld.alloc hHeld.size _
            clear hK K
            try simp only [Act.put, List.setIfInBounds_toArray, List.set_cons_zero, List.set_cons_succ]
            try replace hA := alloc_keep hHeld hA
            try replace hL := sl_alloc hHeld hL
            try replace ho5 := own_alloc hHeld ho5
            try replace ho8 := own_alloc hHeld ho8
            refine wpAnyH_ready (rs := [5, 7, 13]) (by kernel_rfl) (by simp) ?_
            refine AllReadyH.cons (o := ⟨some 68, .call ⟨.builtin .append, #[.tmp 66, .tmp 67], #[22, 22]⟩, _, _, _, none⟩) rfl (fun K hK => ?_) ?_
            · refine step_app0 (by rfl) _ _ (by rfl) _ (by rfl) (by rfl) (HX7.out.mono hHeld) (by omega) (Nat.le_refl _) ?_
              intro q5 d5 v5 ho5 k5
              obtain ⟨g5, o5, hq5, hB5, hlt5, _⟩ := ho5.room 0 (by have := ho5.sl.hle; omega)
              have HQ5 := hide hq5
              clear hq5
              have s5 : Below wc.heap.size wc v5 := hHeld.trans (k5.mono hHeld.size)
              have hW5 := hHeld.size
              try (have hAn := Nat.ne_of_lt (Nat.lt_of_lt_of_le (lt_of_block hA) hB5))
              try replace hA := (k5.block _ (lt_of_block hA)).trans hA
              try replace hL := hL.mono k5
              refine hK.out _ _ ?_ (fun hHeld => ?_)
              · exact s5
              clear hK K
              try simp only [Act.put, List.setIfInBounds_toArray, List.set_cons_zero, List.set_cons_succ]
              refine wpAnyH_ready (rs := [7, 13]) (by kernel_rfl) (by simp) ?_
              refine AllReadyH.cons (o := ⟨some 70, .buildSlice 22 1 #[(0, .tmp 69)], _, _, _, none⟩) rfl (fun K hK => ?_) ?_
              · go_simp
                refine hK.out _ _ ?_ (fun hHeld => ?_)
                · exact hHeld.alloc hHeld.size _
                clear hK K
                try simp only [Act.put, List.setIfInBounds_toArray, List.set_cons_zero, List.set_cons_succ]
                try replace hA := alloc_keep hHeld hA
                try replace hL := sl_alloc hHeld hL
                try replace ho5 := own_alloc hHeld ho5
                try replace ho8 := own_alloc hHeld ho8
                have hL := by first | exact lit_of hHeld cx rfl | exact lit_of' hHeld cx rfl
                try simp only [World.size_alloc] at hL
                refine wpAnyH_ready (rs := [8, 13]) (by kernel_rfl) (by simp) ?_
                refine AllReadyH.cons (o := ⟨some 71, .call ⟨.builtin .append, #[.tmp 68, .tmp 70], #[22, 22]⟩, _, _, _, none⟩) rfl (fun K hK => ?_) ?_
                · refine step_app_but (by rfl) _ _ (by rfl) _ (by rfl) ho5 (by rfl) hL (by omega) (by first | exact k5.size | exact Nat.le_trans k5.size (by simp <;> omega) | (have := k5.size; simp at this ⊢; omega)) g5 (fun b off h => by rw [HQ5.out] at h; cases h; rfl) ?_
                  intro q8 d8 v8 ho8 k8 u8
                  have s8 : Below wc.heap.size wc v8 := hHeld.trans (k8.mono hW5)
                  try replace hA := (u8.block _ (lt_of_block hA) hAn).trans hA
                  refine hK.out _ _ ?_ (fun hHeld => ?_)
                  · exact s8
                  clear hK K
                  try simp only [Act.put, List.setIfInBounds_toArray, List.set_cons_zero, List.set_cons_succ]
                  refine wpAnyH_ready (rs := [9, 13]) (by kernel_rfl) (by simp) ?_
                  refine AllReadyH.cons (o := ⟨some 72, .call ⟨.value (.func 12), #[.tmp 63, .tmp 65, .tmp 71], #[3, 5, 22]⟩, _, _, _, none⟩) rfl (fun K hK => ?_) ?_
                  · go_simp
                    refine (Mei.code_parse _ m1.code _ _ _ (b ++ [cx]) _ ho8.sl (by omega)).mono ?_
                    rintro e v9 ⟨⟨y9, rfl, hm9⟩, hb9⟩
                    obtain ⟨cs9, rfl, hs9, ho9, _⟩ := hm9.agg
                    rw [HMore.out]
                    have s9 : Below wc.heap.size wc v9 := below_next hHeld hb9 (Nat.le_refl _)
                    try replace hA := (hb9.block _ (lt_of_block hA)).trans hA
                    refine hK.out _ _ ?_ (fun hHeld => ?_)
                    · exact s9
                    clear hK K
                    try simp only [Act.put, List.setIfInBounds_toArray, List.set_cons_zero, List.set_cons_succ]
                    refine wpAnyH_take (i := 10) (oi := ⟨some 62, .move (.tmp 72), _, _, _, none⟩) (v := ?_) rfl (by kernel_rfl) (by kernel_rfl) (by kernel_rfl) (fun _ _ _ h => h) (Or.inl ⟨by rfl, ?_⟩) hHeld ?_
                    rotate_left
                    · (intro wq hSw; go_simp; try with_reducible rfl)
                    simp only [Act.put, List.setIfInBounds_toArray, List.set_cons_zero, List.set_cons_succ]
                    refine wpAnyH_take (i := 11) (oi := ⟨some 73, .extract (.tmp 62) 0, _, _, _, none⟩) (v := ?_) rfl (by kernel_rfl) (by kernel_rfl) (by kernel_rfl) (fun _ _ _ h => h) (Or.inl ⟨by rfl, ?_⟩) hHeld ?_
                    rotate_left
                    · (intro wq hSw; go_simp; try with_reducible rfl)
                    simp only [Act.put, List.setIfInBounds_toArray, List.set_cons_zero, List.set_cons_succ]
                    refine wpAnyH_take (i := 12) (oi := ⟨some 74, .extract (.tmp 62) 1, _, _, _, none⟩) (v := ?_) rfl (by kernel_rfl) (by kernel_rfl) (by kernel_rfl) (fun _ _ _ h => h) (Or.inl ⟨by rfl, ?_⟩) hHeld ?_
                    rotate_left
                    · (intro wq hSw; go_simp; try with_reducible rfl)
                    simp only [Act.put, List.setIfInBounds_toArray, List.set_cons_zero, List.set_cons_succ]
                    refine wpAnyH_ready (rs := [13]) (by kernel_rfl) (by simp) ?_
                    refine AllReadyH.cons (o := ⟨some 16, .alloc 30, _, _, _, none⟩) rfl (fun K hK => ?_) ?_
                    · have hAw := hHeld.size
                      go_simp
                      refine hK.out _ _ ?_ (fun hHeld => ?_)
                      · exact hHeld.alloc hHeld.size _
                      clear hK K
                      try simp only [Act.put, List.setIfInBounds_toArray, List.set_cons_zero, List.set_cons_succ]
                      try replace hA := alloc_keep hHeld hA
                      try replace hL := sl_alloc hHeld hL
                      try replace ho5 := own_alloc hHeld ho5
                      try replace ho8 := own_alloc hHeld ho8
                      have hA := by first | exact alloc_at hHeld | exact alloc_at' hHeld
                      try simp only [World.size_alloc] at hA
                      try simp only [World.size_alloc] at hAw
                      try (have hAn := alloc_ne hHeld (show g5 < _ by first | exact hlt5 | (simp; omega)))
                      try simp only [World.size_alloc] at hAn
                      refine wpAnyH_ready (rs := [14]) (by kernel_rfl) (by simp) ?_
                      refine AllReadyH.cons (o := ⟨none, .store 30 (.tmp 16) (.tmp 73), _, _, _, none⟩) rfl (fun K hK => ?_) ?_
                      · refine step_store (by rfl) _ _ _ (by rfl) _ cs9 (by rfl) (by rfl) _ _ hA (msg_size cs9 hs9) (by rw [hs9]; rfl) ho9 ?_
                        intro u6 h6 b6 n6 z6
                        have s6 : Below wc.heap.size wc u6 := hHeld.trans (b6 _ (by first | exact hAw | omega))
                        refine hK.out _ _ ?_ (fun hHeld => ?_)
                        · exact s6
                        clear hK K
                        try simp only [Act.put]
                        refine wpAnyH_take (i := 15) (oi := ⟨some 17, .assign (.tmp 74), _, _, _, none⟩) (v := ?_) rfl (by kernel_rfl) (by kernel_rfl) (by kernel_rfl) (fun _ _ _ h => h) (Or.inl ⟨by rfl, ?_⟩) hHeld ?_
                        rotate_left
                        · (intro wq hSw; go_simp; try with_reducible rfl)
                        simp only [Act.put, List.setIfInBounds_toArray, List.set_cons_zero, List.set_cons_succ]
                        refine wpAnyH_done (by kernel_rfl) ?_ _
                        refine NoPanic.normal ?_
                        go_wp2
                        go_meet
                        case rel => exact ⟨rfl, s6⟩
                      exact AllReadyH.nil
                    exact AllReadyH.nil
                  refine AllReadyH.cons (o := ⟨some 16, .alloc 30, _, _, _, none⟩) rfl (fun K hK => ?_) ?_
                  · have hAw := hHeld.size
                    go_simp
                    refine hK.out _ _ ?_ (fun hHeld => ?_)
                    · exact hHeld.alloc hHeld.size _
                    clear hK K
                    try simp only [Act.put, List.setIfInBounds_toArray, List.set_cons_zero, List.set_cons_succ]
                    try replace hA := alloc_keep hHeld hA
                    try replace hL := sl_alloc hHeld hL
                    try replace ho5 := own_alloc hHeld ho5
                    try replace ho8 := own_alloc hHeld ho8
                    have hA := by first | exact alloc_at hHeld | exact alloc_at' hHeld
                    try simp only [World.size_alloc] at hA
                    try simp only [World.size_alloc] at hAw
                    try (have hAn := alloc_ne hHeld (show g5 < _ by first | exact hlt5 | (simp; omega)))
                    try simp only [World.size_alloc] at hAn
                    refine wpAnyH_ready (rs := [9]) (by kernel_rfl) (by simp) ?_
                    refine AllReadyH.cons (o := ⟨some 72, .call ⟨.value (.func 12), #[.tmp 63, .tmp 65, .tmp 71], #[3, 5, 22]⟩, _, _, _, none⟩) rfl (fun K hK => ?_) ?_
                    · go_simp
                      refine (Mei.code_parse _ m1.code _ _ _ (b ++ [cx]) _ ho8.sl (by omega)).mono ?_
                      rintro e v9 ⟨⟨y9, rfl, hm9⟩, hb9⟩
                      obtain ⟨cs9, rfl, hs9, ho9, _⟩ := hm9.agg
                      rw [HMore.out]
                      have s9 : Below wc.heap.size wc v9 := below_next hHeld hb9 (Nat.le_refl _)
                      try replace hA := (hb9.block _ (lt_of_block hA)).trans hA
                      refine hK.out _ _ ?_ (fun hHeld => ?_)
                      · exact s9
                      clear hK K
                      try simp only [Act.put, List.setIfInBounds_toArray, List.set_cons_zero, List.set_cons_succ]
                      refine wpAnyH_take (i := 10) (oi := ⟨some 62, .move (.tmp 72), _, _, _, none⟩) (v := ?_) rfl (by kernel_rfl) (by kernel_rfl) (by kernel_rfl) (fun _ _ _ h => h) (Or.inl ⟨by rfl, ?_⟩) hHeld ?_
                      rotate_left
                      · (intro wq hSw; go_simp; try with_reducible rfl)
                      simp only [Act.put, List.setIfInBounds_toArray, List.set_cons_zero, List.set_cons_succ]
                      refine wpAnyH_take (i := 11) (oi := ⟨some 73, .extract (.tmp 62) 0, _, _, _, none⟩) (v := ?_) rfl (by kernel_rfl) (by kernel_rfl) (by kernel_rfl) (fun _ _ _ h => h) (Or.inl ⟨by rfl, ?_⟩) hHeld ?_
                      rotate_left
                      · (intro wq hSw; go_simp; try with_reducible rfl)
                      simp only [Act.put, List.setIfInBounds_toArray, List.set_cons_zero, List.set_cons_succ]
                      refine wpAnyH_take (i := 12) (oi := ⟨some 74, .extract (.tmp 62) 1, _, _, _, none⟩) (v := ?_) rfl (by kernel_rfl) (by kernel_rfl) (by kernel_rfl) (fun _ _ _ h => h) (Or.inl ⟨by rfl, ?_⟩) hHeld ?_
                      rotate_left
                      · (intro wq hSw; go_simp; try with_reducible rfl)
                      simp only [Act.put, List.setIfInBounds_toArray, List.set_cons_zero, List.set_cons_succ]
                      refine wpAnyH_ready (rs := [14]) (by kernel_rfl) (by simp) ?_
                      refine AllReadyH.cons (o := ⟨none, .store 30 (.tmp 16) (.tmp 73), _, _, _, none⟩) rfl (fun K hK => ?_) ?_
                      · refine step_store (by rfl) _ _ _ (by rfl) _ cs9 (by rfl) (by rfl) _ _ hA (msg_size cs9 hs9) (by rw [hs9]; rfl) ho9 ?_
                        intro u6 h6 b6 n6 z6
                        have s6 : Below wc.heap.size wc u6 := hHeld.trans (b6 _ (by first | exact hAw | omega))
                        refine hK.out _ _ ?_ (fun hHeld => ?_)
                        · exact s6
                        clear hK K
                        try simp only [Act.put]
                        refine wpAnyH_take (i := 15) (oi := ⟨some 17, .assign (.tmp 74), _, _, _, none⟩) (v := ?_) rfl (by kernel_rfl) (by kernel_rfl) (by kernel_rfl) (fun _ _ _ h => h) (Or.inl ⟨by rfl, ?_⟩) hHeld ?_
                        rotate_left
                        · (intro wq hSw; go_simp; try with_reducible rfl)
                        simp only [Act.put, List.setIfInBounds_toArray, List.set_cons_zero, List.set_cons_succ]
                        refine wpAnyH_done (by kernel_rfl) ?_ _
                        refine NoPanic.normal ?_
                        go_wp2
                        go_meet
                        case rel => exact ⟨rfl, s6⟩
                      exact AllReadyH.nil
                    exact AllReadyH.nil
                  exact AllReadyH.nil
                refine AllReadyH.cons (o := ⟨some 16, .alloc 30, _, _, _, none⟩) rfl (fun K hK => ?_) ?_
                · have hAw := hHeld.size
                  go_simp
                  refine hK.out _ _ ?_ (fun hHeld => ?_)
                  · exact hHeld.alloc hHeld.size _
                  clear hK K
                  try simp only [Act.put, List.setIfInBounds_toArray, List.set_cons_zero, List.set_cons_succ]
                  try replace hA := alloc_keep hHeld hA
                  try replace hL := sl_alloc hHeld hL
                  try replace ho5 := own_alloc hHeld ho5
                  try replace ho8 := own_alloc hHeld ho8
                  have hA := by first | exact alloc_at hHeld | exact alloc_at' hHeld
                  try simp only [World.size_alloc] at hA
                  try simp only [World.size_alloc] at hAw
                  try (have hAn := alloc_ne hHeld (show g5 < _ by first | exact hlt5 | (simp; omega)))
                  try simp only [World.size_alloc] at hAn
                  refine wpAnyH_ready (rs := [8]) (by kernel_rfl) (by simp) ?_
                  refine AllReadyH.cons (o := ⟨some 71, .call ⟨.builtin .append, #[.tmp 68, .tmp 70], #[22, 22]⟩, _, _, _, none⟩) rfl (fun K hK => ?_) ?_
                  · refine step_app_but (by rfl) _ _ (by rfl) _ (by rfl) ho5 (by rfl) hL (by omega) (by first | exact k5.size | exact Nat.le_trans k5.size (by simp <;> omega) | (have := k5.size; simp at this ⊢; omega)) g5 (fun b off h => by rw [HQ5.out] at h; cases h; rfl) ?_
                    intro q8 d8 v8 ho8 k8 u8
                    have s8 : Below wc.heap.size wc v8 := hHeld.trans (k8.mono hW5)
                    try replace hA := (u8.block _ (lt_of_block hA) hAn).trans hA
                    refine hK.out _ _ ?_ (fun hHeld => ?_)
                    · exact s8
                    clear hK K
                    try simp only [Act.put, List.setIfInBounds_toArray, List.set_cons_zero, List.set_cons_succ]
                    refine wpAnyH_ready (rs := [9]) (by kernel_rfl) (by simp) ?_
                    refine AllReadyH.cons (o := ⟨some 72, .call ⟨.value (.func 12), #[.tmp 63, .tmp 65, .tmp 71], #[3, 5, 22]⟩, _, _, _, none⟩) rfl (fun K hK => ?_) ?_
                    · go_simp
                      refine (Mei.code_parse _ m1.code _ _ _ (b ++ [cx]) _ ho8.sl (by omega)).mono ?_
                      rintro e v9 ⟨⟨y9, rfl, hm9⟩, hb9⟩
                      obtain ⟨cs9, rfl, hs9, ho9, _⟩ := hm9.agg
                      rw [HMore.out]
                      have s9 : Below wc.heap.size wc v9 := below_next hHeld hb9 (Nat.le_refl _)
                      try replace hA := (hb9.block _ (lt_of_block hA)).trans hA
                      refine hK.out _ _ ?_ (fun hHeld => ?_)
                      · exact s9
                      clear hK K
                      try simp only [Act.put, List.setIfInBounds_toArray, List.set_cons_zero, List.set_cons_succ]
                      refine wpAnyH_take (i := 10) (oi := ⟨some 62, .move (.tmp 72), _, _, _, none⟩) (v := ?_) rfl (by kernel_rfl) (by kernel_rfl) (by kernel_rfl) (fun _ _ _ h => h) (Or.inl ⟨by rfl, ?_⟩) hHeld ?_
                      rotate_left
                      · (intro wq hSw; go_simp; try with_reducible rfl)
                      simp only [Act.put, List.setIfInBounds_toArray, List.set_cons_zero, List.set_cons_succ]
                      refine wpAnyH_take (i := 11) (oi := ⟨some 73, .extract (.tmp 62) 0, _, _, _, none⟩) (v := ?_) rfl (by kernel_rfl) (by kernel_rfl) (by kernel_rfl) (fun _ _ _ h => h) (Or.inl ⟨by rfl, ?_⟩) hHeld ?_
                      rotate_left
                      · (intro wq hSw; go_simp; try with_reducible rfl)
                      simp only [Act.put, List.setIfInBounds_toArray, List.set_cons_zero, List.set_cons_succ]
                      refine wpAnyH_take (i := 12) (oi := ⟨some 74, .extract (.tmp 62) 1, _, _, _, none⟩) (v := ?_) rfl (by kernel_rfl) (by kernel_rfl) (by kernel_rfl) (fun _ _ _ h => h) (Or.inl ⟨by rfl, ?_⟩) hHeld ?_
                      rotate_left
                      · (intro wq hSw; go_simp; try with_reducible rfl)
                      simp only [Act.put, List.setIfInBounds_toArray, List.set_cons_zero, List.set_cons_succ]
                      refine wpAnyH_ready (rs := [14]) (by kernel_rfl) (by simp) ?_
                      refine AllReadyH.cons (o := ⟨none, .store 30 (.tmp 16) (.tmp 73), _, _, _, none⟩) rfl (fun K hK => ?_) ?_
                      · refine step_store (by rfl) _ _ _ (by rfl) _ cs9 (by rfl) (by rfl) _ _ hA (msg_size cs9 hs9) (by rw [hs9]; rfl) ho9 ?_
                        intro u6 h6 b6 n6 z6
                        have s6 : Below wc.heap.size wc u6 := hHeld.trans (b6 _ (by first | exact hAw | omega))
                        refine hK.out _ _ ?_ (fun hHeld => ?_)
                        · exact s6
                        clear hK K
                        try simp only [Act.put]
                        refine wpAnyH_take (i := 15) (oi := ⟨some 17, .assign (.tmp 74), _, _, _, none⟩) (v := ?_) rfl (by kernel_rfl) (by kernel_rfl) (by kernel_rfl) (fun _ _ _ h => h) (Or.inl ⟨by rfl, ?_⟩) hHeld ?_
                        rotate_left
                        · (intro wq hSw; go_simp; try with_reducible rfl)
                        simp only [Act.put, List.setIfInBounds_toArray, List.set_cons_zero, List.set_cons_succ]
                        refine wpAnyH_done (by kernel_rfl) ?_ _
                        refine NoPanic.normal ?_
                        go_wp2
                        go_meet
                        case rel => exact ⟨rfl, s6⟩
                      exact AllReadyH.nil
                    exact AllReadyH.nil
                  exact AllReadyH.nil
                exact AllReadyH.nil
              refine AllReadyH.cons (o := ⟨some 16, .alloc 30, _, _, _, none⟩) rfl (fun K hK => ?_) ?_
              · have hAw := hHeld.size
                go_simp
                refine hK.out _ _ ?_ (fun hHeld => ?_)
                · exact hHeld.alloc hHeld.size _
                clear hK K
                try simp only [Act.put, List.setIfInBounds_toArray, List.set_cons_zero, List.set_cons_succ]
                try replace hA := alloc_keep hHeld hA
                try replace hL := sl_alloc hHeld hL
                try replace ho5 := own_alloc hHeld ho5
                try replace ho8 := own_alloc hHeld ho8
                have hA := by first | exact alloc_at hHeld | exact alloc_at' hHeld
                try simp only [World.size_alloc] at hA
                try simp only [World.size_alloc] at hAw
                try (have hAn := alloc_ne hHeld (show g5 < _ by first | exact hlt5 | (simp; omega)))
                try simp only [World.size_alloc] at hAn
                refine wpAnyH_ready (rs := [7]) (by kernel_rfl) (by simp) ?_
                refine AllReadyH.cons (o := ⟨some 70, .buildSlice 22 1 #[(0, .tmp 69)], _, _, _, none⟩) rfl (fun K hK => ?_) ?_
                · go_simp
                  refine hK.out _ _ ?_ (fun hHeld => ?_)
                  · exact hHeld.alloc hHeld.size _
                  clear hK K
                  try simp only [Act.put, List.setIfInBounds_toArray, List.set_cons_zero, List.set_cons_succ]
                  try replace hA := alloc_keep hHeld hA
                  try replace hL := sl_alloc hHeld hL
                  try replace ho5 := own_alloc hHeld ho5
                  try replace ho8 := own_alloc hHeld ho8
                  have hL := by first | exact lit_of hHeld cx rfl | exact lit_of' hHeld cx rfl
                  try simp only [World.size_alloc] at hL
                  refine wpAnyH_ready (rs := [8]) (by kernel_rfl) (by simp) ?_
                  refine AllReadyH.cons (o := ⟨some 71, .call ⟨.builtin .append, #[.tmp 68, .tmp 70], #[22, 22]⟩, _, _, _, none⟩) rfl (fun K hK => ?_) ?_
                  · refine step_app_but (by rfl) _ _ (by rfl) _ (by rfl) ho5 (by rfl) hL (by omega) (by first | exact k5.size | exact Nat.le_trans k5.size (by simp <;> omega) | (have := k5.size; simp at this ⊢; omega)) g5 (fun b off h => by rw [HQ5.out] at h; cases h; rfl) ?_
                    intro q8 d8 v8 ho8 k8 u8
                    have s8 : Below wc.heap.size wc v8 := hHeld.trans (k8.mono hW5)
                    try replace hA := (u8.block _ (lt_of_block hA) hAn).trans hA
                    refine hK.out _ _ ?_ (fun hHeld => ?_)
                    · exact s8
                    clear hK K
                    try simp only [Act.put, List.setIfInBounds_toArray, List.set_cons_zero, List.set_cons_succ]
                    refine wpAnyH_ready (rs := [9]) (by kernel_rfl) (by simp) ?_
                    refine AllReadyH.cons (o := ⟨some 72, .call ⟨.value (.func 12), #[.tmp 63, .tmp 65, .tmp 71], #[3, 5, 22]⟩, _, _, _, none⟩) rfl (fun K hK => ?_) ?_
                    · go_simp
                      refine (Mei.code_parse _ m1.code _ _ _ (b ++ [cx]) _ ho8.sl (by omega)).mono ?_
                      rintro e v9 ⟨⟨y9, rfl, hm9⟩, hb9⟩
                      obtain ⟨cs9, rfl, hs9, ho9, _⟩ := hm9.agg
                      rw [HMore.out]
                      have s9 : Below wc.heap.size wc v9 := below_next hHeld hb9 (Nat.le_refl _)
                      try replace hA := (hb9.block _ (lt_of_block hA)).trans hA
                      refine hK.out _ _ ?_ (fun hHeld => ?_)
                      · exact s9
                      clear hK K
                      try simp only [Act.put, List.setIfInBounds_toArray, List.set_cons_zero, List.set_cons_succ]
                      refine wpAnyH_take (i := 10) (oi := ⟨some 62, .move (.tmp 72), _, _, _, none⟩) (v := ?_) rfl (by kernel_rfl) (by kernel_rfl) (by kernel_rfl) (fun _ _ _ h => h) (Or.inl ⟨by rfl, ?_⟩) hHeld ?_
                      rotate_left
                      · (intro wq hSw; go_simp; try with_reducible rfl)
                      simp only [Act.put, List.setIfInBounds_toArray, List.set_cons_zero, List.set_cons_succ]
                      refine wpAnyH_take (i := 11) (oi := ⟨some 73, .extract (.tmp 62) 0, _, _, _, none⟩) (v := ?_) rfl (by kernel_rfl) (by kernel_rfl) (by kernel_rfl) (fun _ _ _ h => h) (Or.inl ⟨by rfl, ?_⟩) hHeld ?_
                      rotate_left
                      · (intro wq hSw; go_simp; try with_reducible rfl)
                      simp only [Act.put, List.setIfInBounds_toArray, List.set_cons_zero, List.set_cons_succ]
                      refine wpAnyH_take (i := 12) (oi := ⟨some 74, .extract (.tmp 62) 1, _, _, _, none⟩) (v := ?_) rfl (by kernel_rfl) (by kernel_rfl) (by kernel_rfl) (fun _ _ _ h => h) (Or.inl ⟨by rfl, ?_⟩) hHeld ?_
                      rotate_left
                      · (intro wq hSw; go_simp; try with_reducible rfl)
                      simp only [Act.put, List.setIfInBounds_toArray, List.set_cons_zero, List.set_cons_succ]
                      refine wpAnyH_ready (rs := [14]) (by kernel_rfl) (by simp) ?_
                      refine AllReadyH.cons (o := ⟨none, .store 30 (.tmp 16) (.tmp 73), _, _, _, none⟩) rfl (fun K hK => ?_) ?_
                      · refine step_store (by rfl) _ _ _ (by rfl) _ cs9 (by rfl) (by rfl) _ _ hA (msg_size cs9 hs9) (by rw [hs9]; rfl) ho9 ?_
                        intro u6 h6 b6 n6 z6
                        have s6 : Below wc.heap.size wc u6 := hHeld.trans (b6 _ (by first | exact hAw | omega))
                        refine hK.out _ _ ?_ (fun hHeld => ?_)
                        · exact s6
                        clear hK K
                        try simp only [Act.put]
                        refine wpAnyH_take (i := 15) (oi := ⟨some 17, .assign (.tmp 74), _, _, _, none⟩) (v := ?_) rfl (by kernel_rfl) (by kernel_rfl) (by kernel_rfl) (fun _ _ _ h => h) (Or.inl ⟨by rfl, ?_⟩) hHeld ?_
                        rotate_left
                        · (intro wq hSw; go_simp; try with_reducible rfl)
                        simp only [Act.put, List.setIfInBounds_toArray, List.set_cons_zero, List.set_cons_succ]
                        refine wpAnyH_done (by kernel_rfl) ?_ _
                        refine NoPanic.normal ?_
                        go_wp2
                        go_meet
                        case rel => exact ⟨rfl, s6⟩
                      exact AllReadyH.nil
                    exact AllReadyH.nil
                  exact AllReadyH.nil
                exact AllReadyH.nil
              exact AllReadyH.nil
            refine AllReadyH.cons (o := ⟨some 70, .buildSlice 22 1 #[(0, .tmp 69)], _, _, _, none⟩) rfl (fun K hK => ?_) ?_
            · go_simp
              refine hK.out _ _ ?_ (fun hHeld => ?_)
              · exact hHeld.alloc hHeld.size _
              clear hK K
              try simp only [Act.put, List.setIfInBounds_toArray, List.set_cons_zero, List.set_cons_succ]
              try replace hA := alloc_keep hHeld hA
              try replace hL := sl_alloc hHeld hL
              try replace ho5 := own_alloc hHeld ho5
              try replace ho8 := own_alloc hHeld ho8
              have hL := by first | exact lit_of hHeld cx rfl | exact lit_of' hHeld cx rfl
              try simp only [World.size_alloc] at hL
              refine wpAnyH_ready (rs := [5, 13]) (by kernel_rfl) (by simp) ?_
              refine AllReadyH.cons (o := ⟨some 68, .call ⟨.builtin .append, #[.tmp 66, .tmp 67], #[22, 22]⟩, _, _, _, none⟩) rfl (fun K hK => ?_) ?_
              · refine step_app0 (by rfl) _ _ (by rfl) _ (by rfl) (by rfl) (HX7.out.mono hHeld) (by omega) (Nat.le_refl _) ?_
                intro q5 d5 v5 ho5 k5
                obtain ⟨g5, o5, hq5, hB5, hlt5, _⟩ := ho5.room 0 (by have := ho5.sl.hle; omega)
                have HQ5 := hide hq5
                clear hq5
                have s5 : Below wc.heap.size wc v5 := hHeld.trans (k5.mono hHeld.size)
                have hW5 := hHeld.size
                try (have hAn := Nat.ne_of_lt (Nat.lt_of_lt_of_le (lt_of_block hA) hB5))
                try replace hA := (k5.block _ (lt_of_block hA)).trans hA
                try replace hL := hL.mono k5
                refine hK.out _ _ ?_ (fun hHeld => ?_)
                · exact s5
                clear hK K
                try simp only [Act.put, List.setIfInBounds_toArray, List.set_cons_zero, List.set_cons_succ]
                refine wpAnyH_ready (rs := [8, 13]) (by kernel_rfl) (by simp) ?_
                refine AllReadyH.cons (o := ⟨some 71, .call ⟨.builtin .append, #[.tmp 68, .tmp 70], #[22, 22]⟩, _, _, _, none⟩) rfl (fun K hK => ?_) ?_
                · refine step_app_but (by rfl) _ _ (by rfl) _ (by rfl) ho5 (by rfl) hL (by omega) (by first | exact k5.size | exact Nat.le_trans k5.size (by simp <;> omega) | (have := k5.size; simp at this ⊢; omega)) g5 (fun b off h => by rw [HQ5.out] at h; cases h; rfl) ?_
                  intro q8 d8 v8 ho8 k8 u8
                  have s8 : Below wc.heap.size wc v8 := hHeld.trans (k8.mono hW5)
                  try replace hA := (u8.block _ (lt_of_block hA) hAn).trans hA
                  refine hK.out _ _ ?_ (fun hHeld => ?_)
                  · exact s8
                  clear hK K
                  try simp only [Act.put, List.setIfInBounds_toArray, List.set_cons_zero, List.set_cons_succ]
                  refine wpAnyH_ready (rs := [9, 13]) (by kernel_rfl) (by simp) ?_
                  refine AllReadyH.cons (o := ⟨some 72, .call ⟨.value (.func 12), #[.tmp 63, .tmp 65, .tmp 71], #[3, 5, 22]⟩, _, _, _, none⟩) rfl (fun K hK => ?_) ?_
                  · go_simp
                    refine (Mei.code_parse _ m1.code _ _ _ (b ++ [cx]) _ ho8.sl (by omega)).mono ?_
                    rintro e v9 ⟨⟨y9, rfl, hm9⟩, hb9⟩
                    obtain ⟨cs9, rfl, hs9, ho9, _⟩ := hm9.agg
                    rw [HMore.out]
                    have s9 : Below wc.heap.size wc v9 := below_next hHeld hb9 (Nat.le_refl _)
                    try replace hA := (hb9.block _ (lt_of_block hA)).trans hA
                    refine hK.out _ _ ?_ (fun hHeld => ?_)
                    · exact s9
                    clear hK K
                    try simp only [Act.put, List.setIfInBounds_toArray, List.set_cons_zero, List.set_cons_succ]
                    refine wpAnyH_take (i := 10) (oi := ⟨some 62, .move (.tmp 72), _, _, _, none⟩) (v := ?_) rfl (by kernel_rfl) (by kernel_rfl) (by kernel_rfl) (fun _ _ _ h => h) (Or.inl ⟨by rfl, ?_⟩) hHeld ?_
                    rotate_left
                    · (intro wq hSw; go_simp; try with_reducible rfl)
                    simp only [Act.put, List.setIfInBounds_toArray, List.set_cons_zero, List.set_cons_succ]
                    refine wpAnyH_take (i := 11) (oi := ⟨some 73, .extract (.tmp 62) 0, _, _, _, none⟩) (v := ?_) rfl (by kernel_rfl) (by kernel_rfl) (by kernel_rfl) (fun _ _ _ h => h) (Or.inl ⟨by rfl, ?_⟩) hHeld ?_
                    rotate_left
                    · (intro wq hSw; go_simp; try with_reducible rfl)
                    simp only [Act.put, List.setIfInBounds_toArray, List.set_cons_zero, List.set_cons_succ]
                    refine wpAnyH_take (i := 12) (oi := ⟨some 74, .extract (.tmp 62) 1, _, _, _, none⟩) (v := ?_) rfl (by kernel_rfl) (by kernel_rfl) (by kernel_rfl) (fun _ _ _ h => h) (Or.inl ⟨by rfl, ?_⟩) hHeld ?_
                    rotate_left
                    · (intro wq hSw; go_simp; try with_reducible rfl)
                    simp only [Act.put, List.setIfInBounds_toArray, List.set_cons_zero, List.set_cons_succ]
                    refine wpAnyH_ready (rs := [13]) (by kernel_rfl) (by simp) ?_
                    refine AllReadyH.cons (o := ⟨some 16, .alloc 30, _, _, _, none⟩) rfl (fun K hK => ?_) ?_
                    · have hAw := hHeld.size
                      go_simp
                      refine hK.out _ _ ?_ (fun hHeld => ?_)
                      · exact hHeld.alloc hHeld.size _
                      clear hK K
                      try simp only [Act.put, List.setIfInBounds_toArray, List.set_cons_zero, List.set_cons_succ]
                      try replace hA := alloc_keep hHeld hA
                      try replace hL := sl_alloc hHeld hL
                      try replace ho5 := own_alloc hHeld ho5
                      try replace ho8 := own_alloc hHeld ho8
                      have hA := by first | exact alloc_at hHeld | exact alloc_at' hHeld
                      try simp only [World.size_alloc] at hA
                      try simp only [World.size_alloc] at hAw
                      try (have hAn := alloc_ne hHeld (show g5 < _ by first | exact hlt5 | (simp; omega)))
                      try simp only [World.size_alloc] at hAn
                      refine wpAnyH_ready (rs := [14]) (by kernel_rfl) (by simp) ?_
                      refine AllReadyH.cons (o := ⟨none, .store 30 (.tmp 16) (.tmp 73), _, _, _, none⟩) rfl (fun K hK => ?_) ?_
                      · refine step_store (by rfl) _ _ _ (by rfl) _ cs9 (by rfl) (by rfl) _ _ hA (msg_size cs9 hs9) (by rw [hs9]; rfl) ho9 ?_
                        intro u6 h6 b6 n6 z6
                        have s6 : Below wc.heap.size wc u6 := hHeld.trans (b6 _ (by first | exact hAw | omega))
                        refine hK.out _ _ ?_ (fun hHeld => ?_)
                        · exact s6
                        clear hK K
                        try simp only [Act.put]
                        refine wpAnyH_take (i := 15) (oi := ⟨some 17, .assign (.tmp 74), _, _, _, none⟩) (v := ?_) rfl (by kernel_rfl) (by kernel_rfl) (by kernel_rfl) (fun _ _ _ h => h) (Or.inl ⟨by rfl, ?_⟩) hHeld ?_
                        rotate_left
                        · (intro wq hSw; go_simp; try with_reducible rfl)
                        simp only [Act.put, List.setIfInBounds_toArray, List.set_cons_zero, List.set_cons_succ]
                        refine wpAnyH_done (by kernel_rfl) ?_ _
                        refine NoPanic.normal ?_
                        go_wp2
                        go_meet
                        case rel => exact ⟨rfl, s6⟩
                      exact AllReadyH.nil
                    exact AllReadyH.nil
                  refine AllReadyH.cons (o := ⟨some 16, .alloc 30, _, _, _, none⟩) rfl (fun K hK => ?_) ?_
                  · have hAw := hHeld.size
                    go_simp
                    refine hK.out _ _ ?_ (fun hHeld => ?_)
                    · exact hHeld.alloc hHeld.size _
                    clear hK K
                    try simp only [Act.put, List.setIfInBounds_toArray, List.set_cons_zero, List.set_cons_succ]
                    try replace hA := alloc_keep hHeld hA
                    try replace hL := sl_alloc hHeld hL
                    try replace ho5 := own_alloc hHeld ho5
                    try replace ho8 := own_alloc hHeld ho8
                    have hA := by first | exact alloc_at hHeld | exact alloc_at' hHeld
                    try simp only [World.size_alloc] at hA
                    try simp only [World.size_alloc] at hAw
                    try (have hAn := alloc_ne hHeld (show g5 < _ by first | exact hlt5 | (simp; omega)))
                    try simp only [World.size_alloc] at hAn
                    refine wpAnyH_ready (rs := [9]) (by kernel_rfl) (by simp) ?_
                    refine AllReadyH.cons (o := ⟨some 72, .call ⟨.value (.func 12), #[.tmp 63, .tmp 65, .tmp 71], #[3, 5, 22]⟩, _, _, _, none⟩) rfl (fun K hK => ?_) ?_
                    · go_simp
                      refine (Mei.code_parse _ m1.code _ _ _ (b ++ [cx]) _ ho8.sl (by omega)).mono ?_
                      rintro e v9 ⟨⟨y9, rfl, hm9⟩, hb9⟩
                      obtain ⟨cs9, rfl, hs9, ho9, _⟩ := hm9.agg
                      rw [HMore.out]
                      have s9 : Below wc.heap.size wc v9 := below_next hHeld hb9 (Nat.le_refl _)
                      try replace hA := (hb9.block _ (lt_of_block hA)).trans hA
                      refine hK.out _ _ ?_ (fun hHeld => ?_)
                      · exact s9
                      clear hK K
                      try simp only [Act.put, List.setIfInBounds_toArray, List.set_cons_zero, List.set_cons_succ]
                      refine wpAnyH_take (i := 10) (oi := ⟨some 62, .move (.tmp 72), _, _, _, none⟩) (v := ?_) rfl (by kernel_rfl) (by kernel_rfl) (by kernel_rfl) (fun _ _ _ h => h) (Or.inl ⟨by rfl, ?_⟩) hHeld ?_
                      rotate_left
                      · (intro wq hSw; go_simp; try with_reducible rfl)
                      simp only [Act.put, List.setIfInBounds_toArray, List.set_cons_zero, List.set_cons_succ]
                      refine wpAnyH_take (i := 11) (oi := ⟨some 73, .extract (.tmp 62) 0, _, _, _, none⟩) (v := ?_) rfl (by kernel_rfl) (by kernel_rfl) (by kernel_rfl) (fun _ _ _ h => h) (Or.inl ⟨by rfl, ?_⟩) hHeld ?_
                      rotate_left
                      · (intro wq hSw; go_simp; try with_reducible rfl)
                      simp only [Act.put, List.setIfInBounds_toArray, List.set_cons_zero, List.set_cons_succ]
                      refine wpAnyH_take (i := 12) (oi := ⟨some 74, .extract (.tmp 62) 1, _, _, _, none⟩) (v := ?_) rfl (by kernel_rfl) (by kernel_rfl) (by kernel_rfl) (fun _ _ _ h => h) (Or.inl ⟨by rfl, ?_⟩) hHeld ?_
                      rotate_left
                      · (intro wq hSw; go_simp; try with_reducible rfl)
                      simp only [Act.put, List.setIfInBounds_toArray, List.set_cons_zero, List.set_cons_succ]
                      refine wpAnyH_ready (rs := [14]) (by kernel_rfl) (by simp) ?_
                      refine AllReadyH.cons (o := ⟨none, .store 30 (.tmp 16) (.tmp 73), _, _, _, none⟩) rfl (fun K hK => ?_) ?_
                      · refine step_store (by rfl) _ _ _ (by rfl) _ cs9 (by rfl) (by rfl) _ _ hA (msg_size cs9 hs9) (by rw [hs9]; rfl) ho9 ?_
                        intro u6 h6 b6 n6 z6
                        have s6 : Below wc.heap.size wc u6 := hHeld.trans (b6 _ (by first | exact hAw | omega))
                        refine hK.out _ _ ?_ (fun hHeld => ?_)
                        · exact s6
                        clear hK K
                        try simp only [Act.put]
                        refine wpAnyH_take (i := 15) (oi := ⟨some 17, .assign (.tmp 74), _, _, _, none⟩) (v := ?_) rfl (by kernel_rfl) (by kernel_rfl) (by kernel_rfl) (fun _ _ _ h => h) (Or.inl ⟨by rfl, ?_⟩) hHeld ?_
                        rotate_left
                        · (intro wq hSw; go_simp; try with_reducible rfl)
                        simp only [Act.put, List.setIfInBounds_toArray, List.set_cons_zero, List.set_cons_succ]
                        refine wpAnyH_done (by kernel_rfl) ?_ _
                        refine NoPanic.normal ?_
                        go_wp2
                        go_meet
                        case rel => exact ⟨rfl, s6⟩
                      exact AllReadyH.nil
                    exact AllReadyH.nil
                  exact AllReadyH.nil
                refine AllReadyH.cons (o := ⟨some 16, .alloc 30, _, _, _, none⟩) rfl (fun K hK => ?_) ?_
                · have hAw := hHeld.size
                  go_simp
                  refine hK.out _ _ ?_ (fun hHeld => ?_)
                  · exact hHeld.alloc hHeld.size _
                  clear hK K
                  try simp only [Act.put, List.setIfInBounds_toArray, List.set_cons_zero, List.set_cons_succ]
                  try replace hA := alloc_keep hHeld hA
                  try replace hL := sl_alloc hHeld hL
                  try replace ho5 := own_alloc hHeld ho5
                  try replace ho8 := own_alloc hHeld ho8
                  have hA := by first | exact alloc_at hHeld | exact alloc_at' hHeld
                  try simp only [World.size_alloc] at hA
                  try simp only [World.size_alloc] at hAw
                  try (have hAn := alloc_ne hHeld (show g5 < _ by first | exact hlt5 | (simp; omega)))
                  try simp only [World.size_alloc] at hAn
                  refine wpAnyH_ready (rs := [8]) (by kernel_rfl) (by simp) ?_
                  refine AllReadyH.cons (o := ⟨some 71, .call ⟨.builtin .append, #[.tmp 68, .tmp 70], #[22, 22]⟩, _, _, _, none⟩) rfl (fun K hK => ?_) ?_
                  · refine step_app_but (by rfl) _ _ (by rfl) _ (by rfl) ho5 (by rfl) hL (by omega) (by first | exact k5.size | exact Nat.le_trans k5.size (by simp <;> omega) | (have := k5.size; simp at this ⊢; omega)) g5 (fun b off h => by rw [HQ5.out] at h; cases h; rfl) ?_
                    intro q8 d8 v8 ho8 k8 u8
                    have s8 : Below wc.heap.size wc v8 := hHeld.trans (k8.mono hW5)
                    try replace hA := (u8.block _ (lt_of_block hA) hAn).trans hA
                    refine hK.out _ _ ?_ (fun hHeld => ?_)
                    · exact s8
                    clear hK K
                    try simp only [Act.put, List.setIfInBounds_toArray, List.set_cons_zero, List.set_cons_succ]
                    refine wpAnyH_ready (rs := [9]) (by kernel_rfl) (by simp) ?_
                    refine AllReadyH.cons (o := ⟨some 72, .call ⟨.value (.func 12), #[.tmp 63, .tmp 65, .tmp 71], #[3, 5, 22]⟩, _, _, _, none⟩) rfl (fun K hK => ?_) ?_
                    · go_simp
                      refine (Mei.code_parse _ m1.code _ _ _ (b ++ [cx]) _ ho8.sl (by omega)).mono ?_
                      rintro e v9 ⟨⟨y9, rfl, hm9⟩, hb9⟩
                      obtain ⟨cs9, rfl, hs9, ho9, _⟩ := hm9.agg
                      rw [HMore.out]
                      have s9 : Below wc.heap.size wc v9 := below_next hHeld hb9 (Nat.le_refl _)
                      try replace hA := (hb9.block _ (lt_of_block hA)).trans hA
                      refine hK.out _ _ ?_ (fun hHeld => ?_)
                      · exact s9
                      clear hK K
                      try simp only [Act.put, List.setIfInBounds_toArray, List.set_cons_zero, List.set_cons_succ]
                      refine wpAnyH_take (i := 10) (oi := ⟨some 62, .move (.tmp 72), _, _, _, none⟩) (v := ?_) rfl (by kernel_rfl) (by kernel_rfl) (by kernel_rfl) (fun _ _ _ h => h) (Or.inl ⟨by rfl, ?_⟩) hHeld ?_
                      rotate_left
                      · (intro wq hSw; go_simp; try with_reducible rfl)
                      simp only [Act.put, List.setIfInBounds_toArray, List.set_cons_zero, List.set_cons_succ]
                      refine wpAnyH_take (i := 11) (oi := ⟨some 73, .extract (.tmp 62) 0, _, _, _, none⟩) (v := ?_) rfl (by kernel_rfl) (by kernel_rfl) (by kernel_rfl) (fun _ _ _ h => h) (Or.inl ⟨by rfl, ?_⟩) hHeld ?_
                      rotate_left
                      · (intro wq hSw; go_simp; try with_reducible rfl)
                      simp only [Act.put, List.setIfInBounds_toArray, List.set_cons_zero, List.set_cons_succ]
                      refine wpAnyH_take (i := 12) (oi := ⟨some 74, .extract (.tmp 62) 1, _, _, _, none⟩) (v := ?_) rfl (by kernel_rfl) (by kernel_rfl) (by kernel_rfl) (fun _ _ _ h => h) (Or.inl ⟨by rfl, ?_⟩) hHeld ?_
                      rotate_left
                      · (intro wq hSw; go_simp; try with_reducible rfl)
                      simp only [Act.put, List.setIfInBounds_toArray, List.set_cons_zero, List.set_cons_succ]
                      refine wpAnyH_ready (rs := [14]) (by kernel_rfl) (by simp) ?_
                      refine AllReadyH.cons (o := ⟨none, .store 30 (.tmp 16) (.tmp 73), _, _, _, none⟩) rfl (fun K hK => ?_) ?_
                      · refine step_store (by rfl) _ _ _ (by rfl) _ cs9 (by rfl) (by rfl) _ _ hA (msg_size cs9 hs9) (by rw [hs9]; rfl) ho9 ?_
                        intro u6 h6 b6 n6 z6
                        have s6 : Below wc.heap.size wc u6 := hHeld.trans (b6 _ (by first | exact hAw | omega))
                        refine hK.out _ _ ?_ (fun hHeld => ?_)
                        · exact s6
                        clear hK K
                        try simp only [Act.put]
                        refine wpAnyH_take (i := 15) (oi := ⟨some 17, .assign (.tmp 74), _, _, _, none⟩) (v := ?_) rfl (by kernel_rfl) (by kernel_rfl) (by kernel_rfl) (fun _ _ _ h => h) (Or.inl ⟨by rfl, ?_⟩) hHeld ?_
                        rotate_left
                        · (intro wq hSw; go_simp; try with_reducible rfl)
                        simp only [Act.put, List.setIfInBounds_toArray, List.set_cons_zero, List.set_cons_succ]
                        refine wpAnyH_done (by kernel_rfl) ?_ _
                        refine NoPanic.normal ?_
                        go_wp2
                        go_meet
                        case rel => exact ⟨rfl, s6⟩
                      exact AllReadyH.nil
                    exact AllReadyH.nil
                  exact AllReadyH.nil
                exact AllReadyH.nil
              refine AllReadyH.cons (o := ⟨some 16, .alloc 30, _, _, _, none⟩) rfl (fun K hK => ?_) ?_
              · have hAw := hHeld.size
                go_simp
                refine hK.out _ _ ?_ (fun hHeld => ?_)
                · exact hHeld.alloc hHeld.size _
                clear hK K
                try simp only [Act.put, List.setIfInBounds_toArray, List.set_cons_zero, List.set_cons_succ]
                try replace hA := alloc_keep hHeld hA
                try replace hL := sl_alloc hHeld hL
                try replace ho5 := own_alloc hHeld ho5
                try replace ho8 := own_alloc hHeld ho8
                have hA := by first | exact alloc_at hHeld | exact alloc_at' hHeld
                try simp only [World.size_alloc] at hA
                try simp only [World.size_alloc] at hAw
                try (have hAn := alloc_ne hHeld (show g5 < _ by first | exact hlt5 | (simp; omega)))
                try simp only [World.size_alloc] at hAn
                refine wpAnyH_ready (rs := [5]) (by kernel_rfl) (by simp) ?_
                refine AllReadyH.cons (o := ⟨some 68, .call ⟨.builtin .append, #[.tmp 66, .tmp 67], #[22, 22]⟩, _, _, _, none⟩) rfl (fun K hK => ?_) ?_
                · refine step_app0 (by rfl) _ _ (by rfl) _ (by rfl) (by rfl) (HX7.out.mono hHeld) (by omega) (Nat.le_refl _) ?_
                  intro q5 d5 v5 ho5 k5
                  obtain ⟨g5, o5, hq5, hB5, hlt5, _⟩ := ho5.room 0 (by have := ho5.sl.hle; omega)
                  have HQ5 := hide hq5
                  clear hq5
                  have s5 : Below wc.heap.size wc v5 := hHeld.trans (k5.mono hHeld.size)
                  have hW5 := hHeld.size
                  try (have hAn := Nat.ne_of_lt (Nat.lt_of_lt_of_le (lt_of_block hA) hB5))
                  try replace hA := (k5.block _ (lt_of_block hA)).trans hA
                  try replace hL := hL.mono k5
                  refine hK.out _ _ ?_ (fun hHeld => ?_)
                  · exact s5
                  clear hK K
                  try simp only [Act.put, List.setIfInBounds_toArray, List.set_cons_zero, List.set_cons_succ]
                  refine wpAnyH_ready (rs := [8]) (by kernel_rfl) (by simp) ?_
                  refine AllReadyH.cons (o := ⟨some 71, .call ⟨.builtin .append, #[.tmp 68, .tmp 70], #[22, 22]⟩, _, _, _, none⟩) rfl (fun K hK => ?_) ?_
                  · refine step_app_but (by rfl) _ _ (by rfl) _ (by rfl) ho5 (by rfl) hL (by omega) (by first | exact k5.size | exact Nat.le_trans k5.size (by simp <;> omega) | (have := k5.size; simp at this ⊢; omega)) g5 (fun b off h => by rw [HQ5.out] at h; cases h; rfl) ?_
                    intro q8 d8 v8 ho8 k8 u8
                    have s8 : Below wc.heap.size wc v8 := hHeld.trans (k8.mono hW5)
                    try replace hA := (u8.block _ (lt_of_block hA) hAn).trans hA
                    refine hK.out _ _ ?_ (fun hHeld => ?_)
                    · exact s8
                    clear hK K
                    try simp only [Act.put, List.setIfInBounds_toArray, List.set_cons_zero, List.set_cons_succ]
                    refine wpAnyH_ready (rs := [9]) (by kernel_rfl) (by simp) ?_
                    refine AllReadyH.cons (o := ⟨some 72, .call ⟨.value (.func 12), #[.tmp 63, .tmp 65, .tmp 71], #[3, 5, 22]⟩, _, _, _, none⟩) rfl (fun K hK => ?_) ?_
                    · go_simp
                      refine (Mei.code_parse _ m1.code _ _ _ (b ++ [cx]) _ ho8.sl (by omega)).mono ?_
                      rintro e v9 ⟨⟨y9, rfl, hm9⟩, hb9⟩
                      obtain ⟨cs9, rfl, hs9, ho9, _⟩ := hm9.agg
                      rw [HMore.out]
                      have s9 : Below wc.heap.size wc v9 := below_next hHeld hb9 (Nat.le_refl _)
                      try replace hA := (hb9.block _ (lt_of_block hA)).trans hA
                      refine hK.out _ _ ?_ (fun hHeld => ?_)
                      · exact s9
                      clear hK K
                      try simp only [Act.put, List.setIfInBounds_toArray, List.set_cons_zero, List.set_cons_succ]
                      refine wpAnyH_take (i := 10) (oi := ⟨some 62, .move (.tmp 72), _, _, _, none⟩) (v := ?_) rfl (by kernel_rfl) (by kernel_rfl) (by kernel_rfl) (fun _ _ _ h => h) (Or.inl ⟨by rfl, ?_⟩) hHeld ?_
                      rotate_left
                      · (intro wq hSw; go_simp; try with_reducible rfl)
                      simp only [Act.put, List.setIfInBounds_toArray, List.set_cons_zero, List.set_cons_succ]
                      refine wpAnyH_take (i := 11) (oi := ⟨some 73, .extract (.tmp 62) 0, _, _, _, none⟩) (v := ?_) rfl (by kernel_rfl) (by kernel_rfl) (by kernel_rfl) (fun _ _ _ h => h) (Or.inl ⟨by rfl, ?_⟩) hHeld ?_
                      rotate_left
                      · (intro wq hSw; go_simp; try with_reducible rfl)
                      simp only [Act.put, List.setIfInBounds_toArray, List.set_cons_zero, List.set_cons_succ]
                      refine wpAnyH_take (i := 12) (oi := ⟨some 74, .extract (.tmp 62) 1, _, _, _, none⟩) (v := ?_) rfl (by kernel_rfl) (by kernel_rfl) (by kernel_rfl) (fun _ _ _ h => h) (Or.inl ⟨by rfl, ?_⟩) hHeld ?_
                      rotate_left
                      · (intro wq hSw; go_simp; try with_reducible rfl)
                      simp only [Act.put, List.setIfInBounds_toArray, List.set_cons_zero, List.set_cons_succ]
                      refine wpAnyH_ready (rs := [14]) (by kernel_rfl) (by simp) ?_
                      refine AllReadyH.cons (o := ⟨none, .store 30 (.tmp 16) (.tmp 73), _, _, _, none⟩) rfl (fun K hK => ?_) ?_
                      · refine step_store (by rfl) _ _ _ (by rfl) _ cs9 (by rfl) (by rfl) _ _ hA (msg_size cs9 hs9) (by rw [hs9]; rfl) ho9 ?_
                        intro u6 h6 b6 n6 z6
                        have s6 : Below wc.heap.size wc u6 := hHeld.trans (b6 _ (by first | exact hAw | omega))
                        refine hK.out _ _ ?_ (fun hHeld => ?_)
                        · exact s6
                        clear hK K
                        try simp only [Act.put]
                        refine wpAnyH_take (i := 15) (oi := ⟨some 17, .assign (.tmp 74), _, _, _, none⟩) (v := ?_) rfl (by kernel_rfl) (by kernel_rfl) (by kernel_rfl) (fun _ _ _ h => h) (Or.inl ⟨by rfl, ?_⟩) hHeld ?_
                        rotate_left
                        · (intro wq hSw; go_simp; try with_reducible rfl)
                        simp only [Act.put, List.setIfInBounds_toArray, List.set_cons_zero, List.set_cons_succ]
                        refine wpAnyH_done (by kernel_rfl) ?_ _
                        refine NoPanic.normal ?_
                        go_wp2
                        go_meet
                        case rel => exact ⟨rfl, s6⟩
                      exact AllReadyH.nil
                    exact AllReadyH.nil
                  exact AllReadyH.nil
                exact AllReadyH.nil
              exact AllReadyH.nil
            refine AllReadyH.cons (o := ⟨some 16, .alloc 30, _, _, _, none⟩) rfl (fun K hK => ?_) ?_
            · have hAw := hHeld.size
              go_simp
              refine hK.out _ _ ?_ (fun hHeld => ?_)
              · exact hHeld.alloc hHeld.size _
              clear hK K
              try simp only [Act.put, List.setIfInBounds_toArray, List.set_cons_zero, List.set_cons_succ]
              try replace hA := alloc_keep hHeld hA
              try replace hL := sl_alloc hHeld hL
              try replace ho5 := own_alloc hHeld ho5
              try replace ho8 := own_alloc hHeld ho8
              have hA := by first | exact alloc_at hHeld | exact alloc_at' hHeld
              try simp only [World.size_alloc] at hA
              try simp only [World.size_alloc] at hAw
              try (have hAn := alloc_ne hHeld (show g5 < _ by first | exact hlt5 | (simp; omega)))
              try simp only [World.size_alloc] at hAn
              refine wpAnyH_ready (rs := [5, 7]) (by kernel_rfl) (by simp) ?_
              refine AllReadyH.cons (o := ⟨some 68, .call ⟨.builtin .append, #[.tmp 66, .tmp 67], #[22, 22]⟩, _, _, _, none⟩) rfl (fun K hK => ?_) ?_
              · refine step_app0 (by rfl) _ _ (by rfl) _ (by rfl) (by rfl) (HX7.out.mono hHeld) (by omega) (Nat.le_refl _) ?_
                intro q5 d5 v5 ho5 k5
                obtain ⟨g5, o5, hq5, hB5, hlt5, _⟩ := ho5.room 0 (by have := ho5.sl.hle; omega)
                have HQ5 := hide hq5
                clear hq5
                have s5 : Below wc.heap.size wc v5 := hHeld.trans (k5.mono hHeld.size)
                have hW5 := hHeld.size
                try (have hAn := Nat.ne_of_lt (Nat.lt_of_lt_of_le (lt_of_block hA) hB5))
                try replace hA := (k5.block _ (lt_of_block hA)).trans hA
                try replace hL := hL.mono k5
                refine hK.out _ _ ?_ (fun hHeld => ?_)
                · exact s5
                clear hK K
                try simp only [Act.put, List.setIfInBounds_toArray, List.set_cons_zero, List.set_cons_succ]
                refine wpAnyH_ready (rs := [7]) (by kernel_rfl) (by simp) ?_
                refine AllReadyH.cons (o := ⟨some 70, .buildSlice 22 1 #[(0, .tmp 69)], _, _, _, none⟩) rfl (fun K hK => ?_) ?_
                · go_simp
                  refine hK.out _ _ ?_ (fun hHeld => ?_)
                  · exact hHeld.alloc hHeld.size _
                  clear hK K
                  try simp only [Act.put, List.setIfInBounds_toArray, List.set_cons_zero, List.set_cons_succ]
                  try replace hA := alloc_keep hHeld hA
                  try replace hL := sl_alloc hHeld hL
                  try replace ho5 := own_alloc hHeld ho5
                  try replace ho8 := own_alloc hHeld ho8
                  have hL := by first | exact lit_of hHeld cx rfl | exact lit_of' hHeld cx rfl
                  try simp only [World.size_alloc] at hL
                  refine wpAnyH_ready (rs := [8]) (by kernel_rfl) (by simp) ?_
                  refine AllReadyH.cons (o := ⟨some 71, .call ⟨.builtin .append, #[.tmp 68, .tmp 70], #[22, 22]⟩, _, _, _, none⟩) rfl (fun K hK => ?_) ?_
                  · refine step_app_but (by rfl) _ _ (by rfl) _ (by rfl) ho5 (by rfl) hL (by omega) (by first | exact k5.size | exact Nat.le_trans k5.size (by simp <;> omega) | (have := k5.size; simp at this ⊢; omega)) g5 (fun b off h => by rw [HQ5.out] at h; cases h; rfl) ?_
                    intro q8 d8 v8 ho8 k8 u8
                    have s8 : Below wc.heap.size wc v8 := hHeld.trans (k8.mono hW5)
                    try replace hA := (u8.block _ (lt_of_block hA) hAn).trans hA
                    refine hK.out _ _ ?_ (fun hHeld => ?_)
                    · exact s8
                    clear hK K
                    try simp only [Act.put, List.setIfInBounds_toArray, List.set_cons_zero, List.set_cons_succ]
                    refine wpAnyH_ready (rs := [9]) (by kernel_rfl) (by simp) ?_
                    refine AllReadyH.cons (o := ⟨some 72, .call ⟨.value (.func 12), #[.tmp 63, .tmp 65, .tmp 71], #[3, 5, 22]⟩, _, _, _, none⟩) rfl (fun K hK => ?_) ?_
                    · go_simp
                      refine (Mei.code_parse _ m1.code _ _ _ (b ++ [cx]) _ ho8.sl (by omega)).mono ?_
                      rintro e v9 ⟨⟨y9, rfl, hm9⟩, hb9⟩
                      obtain ⟨cs9, rfl, hs9, ho9, _⟩ := hm9.agg
                      rw [HMore.out]
                      have s9 : Below wc.heap.size wc v9 := below_next hHeld hb9 (Nat.le_refl _)
                      try replace hA := (hb9.block _ (lt_of_block hA)).trans hA
                      refine hK.out _ _ ?_ (fun hHeld => ?_)
                      · exact s9
                      clear hK K
                      try simp only [Act.put, List.setIfInBounds_toArray, List.set_cons_zero, List.set_cons_succ]
                      refine wpAnyH_take (i := 10) (oi := ⟨some 62, .move (.tmp 72), _, _, _, none⟩) (v := ?_) rfl (by kernel_rfl) (by kernel_rfl) (by kernel_rfl) (fun _ _ _ h => h) (Or.inl ⟨by rfl, ?_⟩) hHeld ?_
                      rotate_left
                      · (intro wq hSw; go_simp; try with_reducible rfl)
                      simp only [Act.put, List.setIfInBounds_toArray, List.set_cons_zero, List.set_cons_succ]
                      refine wpAnyH_take (i := 11) (oi := ⟨some 73, .extract (.tmp 62) 0, _, _, _, none⟩) (v := ?_) rfl (by kernel_rfl) (by kernel_rfl) (by kernel_rfl) (fun _ _ _ h => h) (Or.inl ⟨by rfl, ?_⟩) hHeld ?_
                      rotate_left
                      · (intro wq hSw; go_simp; try with_reducible rfl)
                      simp only [Act.put, List.setIfInBounds_toArray, List.set_cons_zero, List.set_cons_succ]
                      refine wpAnyH_take (i := 12) (oi := ⟨some 74, .extract (.tmp 62) 1, _, _, _, none⟩) (v := ?_) rfl (by kernel_rfl) (by kernel_rfl) (by kernel_rfl) (fun _ _ _ h => h) (Or.inl ⟨by rfl, ?_⟩) hHeld ?_
                      rotate_left
                      · (intro wq hSw; go_simp; try with_reducible rfl)
                      simp only [Act.put, List.setIfInBounds_toArray, List.set_cons_zero, List.set_cons_succ]
                      refine wpAnyH_ready (rs := [14]) (by kernel_rfl) (by simp) ?_
                      refine AllReadyH.cons (o := ⟨none, .store 30 (.tmp 16) (.tmp 73), _, _, _, none⟩) rfl (fun K hK => ?_) ?_
                      · refine step_store (by rfl) _ _ _ (by rfl) _ cs9 (by rfl) (by rfl) _ _ hA (msg_size cs9 hs9) (by rw [hs9]; rfl) ho9 ?_
                        intro u6 h6 b6 n6 z6
                        have s6 : Below wc.heap.size wc u6 := hHeld.trans (b6 _ (by first | exact hAw | omega))
                        refine hK.out _ _ ?_ (fun hHeld => ?_)
                        · exact s6
                        clear hK K
                        try simp only [Act.put]
                        refine wpAnyH_take (i := 15) (oi := ⟨some 17, .assign (.tmp 74), _, _, _, none⟩) (v := ?_) rfl (by kernel_rfl) (by kernel_rfl) (by kernel_rfl) (fun _ _ _ h => h) (Or.inl ⟨by rfl, ?_⟩) hHeld ?_
                        rotate_left
                        · (intro wq hSw; go_simp; try with_reducible rfl)
                        simp only [Act.put, List.setIfInBounds_toArray, List.set_cons_zero, List.set_cons_succ]
                        refine wpAnyH_done (by kernel_rfl) ?_ _
                        refine NoPanic.normal ?_
                        go_wp2
                        go_meet
                        case rel => exact ⟨rfl, s6⟩
                      exact AllReadyH.nil
                    exact AllReadyH.nil
                  exact AllReadyH.nil
                exact AllReadyH.nil
              refine AllReadyH.cons (o := ⟨some 70, .buildSlice 22 1 #[(0, .tmp 69)], _, _, _, none⟩) rfl (fun K hK => ?_) ?_
              · go_simp
                refine hK.out _ _ ?_ (fun hHeld => ?_)
                · exact hHeld.alloc hHeld.size _
                clear hK K
                try simp only [Act.put, List.setIfInBounds_toArray, List.set_cons_zero, List.set_cons_succ]
                try replace hA := alloc_keep hHeld hA
                try replace hL := sl_alloc hHeld hL
                try replace ho5 := own_alloc hHeld ho5
                try replace ho8 := own_alloc hHeld ho8
                have hL := by first | exact lit_of hHeld cx rfl | exact lit_of' hHeld cx rfl
                try simp only [World.size_alloc] at hL
                refine wpAnyH_ready (rs := [5]) (by kernel_rfl) (by simp) ?_
                refine AllReadyH.cons (o := ⟨some 68, .call ⟨.builtin .append, #[.tmp 66, .tmp 67], #[22, 22]⟩, _, _, _, none⟩) rfl (fun K hK => ?_) ?_
                · refine step_app0 (by rfl) _ _ (by rfl) _ (by rfl) (by rfl) (HX7.out.mono hHeld) (by omega) (Nat.le_refl _) ?_
                  intro q5 d5 v5 ho5 k5
                  obtain ⟨g5, o5, hq5, hB5, hlt5, _⟩ := ho5.room 0 (by have := ho5.sl.hle; omega)
                  have HQ5 := hide hq5
                  clear hq5
                  have s5 : Below wc.heap.size wc v5 := hHeld.trans (k5.mono hHeld.size)
                  have hW5 := hHeld.size
                  try (have hAn := Nat.ne_of_lt (Nat.lt_of_lt_of_le (lt_of_block hA) hB5))
                  try replace hA := (k5.block _ (lt_of_block hA)).trans hA
                  try replace hL := hL.mono k5
                  refine hK.out _ _ ?_ (fun hHeld => ?_)
                  · exact s5
                  clear hK K
                  try simp only [Act.put, List.setIfInBounds_toArray, List.set_cons_zero, List.set_cons_succ]
                  refine wpAnyH_ready (rs := [8]) (by kernel_rfl) (by simp) ?_
                  refine AllReadyH.cons (o := ⟨some 71, .call ⟨.builtin .append, #[.tmp 68, .tmp 70], #[22, 22]⟩, _, _, _, none⟩) rfl (fun K hK => ?_) ?_
                  · refine step_app_but (by rfl) _ _ (by rfl) _ (by rfl) ho5 (by rfl) hL (by omega) (by first | exact k5.size | exact Nat.le_trans k5.size (by simp <;> omega) | (have := k5.size; simp at this ⊢; omega)) g5 (fun b off h => by rw [HQ5.out] at h; cases h; rfl) ?_
                    intro q8 d8 v8 ho8 k8 u8
                    have s8 : Below wc.heap.size wc v8 := hHeld.trans (k8.mono hW5)
                    try replace hA := (u8.block _ (lt_of_block hA) hAn).trans hA
                    refine hK.out _ _ ?_ (fun hHeld => ?_)
                    · exact s8
                    clear hK K
                    try simp only [Act.put, List.setIfInBounds_toArray, List.set_cons_zero, List.set_cons_succ]
                    refine wpAnyH_ready (rs := [9]) (by kernel_rfl) (by simp) ?_
                    refine AllReadyH.cons (o := ⟨some 72, .call ⟨.value (.func 12), #[.tmp 63, .tmp 65, .tmp 71], #[3, 5, 22]⟩, _, _, _, none⟩) rfl (fun K hK => ?_) ?_
                    · go_simp
                      refine (Mei.code_parse _ m1.code _ _ _ (b ++ [cx]) _ ho8.sl (by omega)).mono ?_
                      rintro e v9 ⟨⟨y9, rfl, hm9⟩, hb9⟩
                      obtain ⟨cs9, rfl, hs9, ho9, _⟩ := hm9.agg
                      rw [HMore.out]
                      have s9 : Below wc.heap.size wc v9 := below_next hHeld hb9 (Nat.le_refl _)
                      try replace hA := (hb9.block _ (lt_of_block hA)).trans hA
                      refine hK.out _ _ ?_ (fun hHeld => ?_)
                      · exact s9
                      clear hK K
                      try simp only [Act.put, List.setIfInBounds_toArray, List.set_cons_zero, List.set_cons_succ]
                      refine wpAnyH_take (i := 10) (oi := ⟨some 62, .move (.tmp 72), _, _, _, none⟩) (v := ?_) rfl (by kernel_rfl) (by kernel_rfl) (by kernel_rfl) (fun _ _ _ h => h) (Or.inl ⟨by rfl, ?_⟩) hHeld ?_
                      rotate_left
                      · (intro wq hSw; go_simp; try with_reducible rfl)
                      simp only [Act.put, List.setIfInBounds_toArray, List.set_cons_zero, List.set_cons_succ]
                      refine wpAnyH_take (i := 11) (oi := ⟨some 73, .extract (.tmp 62) 0, _, _, _, none⟩) (v := ?_) rfl (by kernel_rfl) (by kernel_rfl) (by kernel_rfl) (fun _ _ _ h => h) (Or.inl ⟨by rfl, ?_⟩) hHeld ?_
                      rotate_left
                      · (intro wq hSw; go_simp; try with_reducible rfl)
                      simp only [Act.put, List.setIfInBounds_toArray, List.set_cons_zero, List.set_cons_succ]
                      refine wpAnyH_take (i := 12) (oi := ⟨some 74, .extract (.tmp 62) 1, _, _, _, none⟩) (v := ?_) rfl (by kernel_rfl) (by kernel_rfl) (by kernel_rfl) (fun _ _ _ h => h) (Or.inl ⟨by rfl, ?_⟩) hHeld ?_
                      rotate_left
                      · (intro wq hSw; go_simp; try with_reducible rfl)
                      simp only [Act.put, List.setIfInBounds_toArray, List.set_cons_zero, List.set_cons_succ]
                      refine wpAnyH_ready (rs := [14]) (by kernel_rfl) (by simp) ?_
                      refine AllReadyH.cons (o := ⟨none, .store 30 (.tmp 16) (.tmp 73), _, _, _, none⟩) rfl (fun K hK => ?_) ?_
                      · refine step_store (by rfl) _ _ _ (by rfl) _ cs9 (by rfl) (by rfl) _ _ hA (msg_size cs9 hs9) (by rw [hs9]; rfl) ho9 ?_
                        intro u6 h6 b6 n6 z6
                        have s6 : Below wc.heap.size wc u6 := hHeld.trans (b6 _ (by first | exact hAw | omega))
                        refine hK.out _ _ ?_ (fun hHeld => ?_)
                        · exact s6
                        clear hK K
                        try simp only [Act.put]
                        refine wpAnyH_take (i := 15) (oi := ⟨some 17, .assign (.tmp 74), _, _, _, none⟩) (v := ?_) rfl (by kernel_rfl) (by kernel_rfl) (by kernel_rfl) (fun _ _ _ h => h) (Or.inl ⟨by rfl, ?_⟩) hHeld ?_
                        rotate_left
                        · (intro wq hSw; go_simp; try with_reducible rfl)
                        simp only [Act.put, List.setIfInBounds_toArray, List.set_cons_zero, List.set_cons_succ]
                        refine wpAnyH_done (by kernel_rfl) ?_ _
                        refine NoPanic.normal ?_
                        go_wp2
                        go_meet
                        case rel => exact ⟨rfl, s6⟩
                      exact AllReadyH.nil
                    exact AllReadyH.nil
                  exact AllReadyH.nil
                exact AllReadyH.nil
              exact AllReadyH.nil
            exact AllReadyH.nil
          refine AllReadyH.cons (o := ⟨some 70, .buildSlice 22 1 #[(0, .tmp 69)], _, _, _, none⟩) rfl (fun K hK => ?_) ?_
          · go_simp
            refine hK.out _ _ ?_ (fun hHeld => ?_)
            · exact hHeld.alloc hHeld.size _
            clear hK K
            try simp only [Act.put, List.setIfInBounds_toArray, List.set_cons_zero, List.set_cons_succ]
            try replace hA := alloc_keep hHeld hA
            try replace hL := sl_alloc hHeld hL
            try replace ho5 := own_alloc hHeld ho5
            try replace ho8 := own_alloc hHeld ho8
            have hL := by first | exact lit_of hHeld cx rfl | exact lit_of' hHeld cx rfl
            try simp only [World.size_alloc] at hL
            refine wpAnyH_ready (rs := [3, 13]) (by kernel_rfl) (by simp) ?_
            refine AllReadyH.cons (o := ⟨some 66, .buildSlice 22 0 #[], _, _, _, none⟩) rfl (fun K hK => ?_) ?_
            · go_simp
              refine hK.out _ _ ?_ (fun hHeld => ?_)
              · exact hHeld.alloc hHeld.size _
              clear hK K
              try simp only [Act.put, List.setIfInBounds_toArray, List.set_cons_zero, List.set_cons_succ]
              try replace hA := alloc_keep hHeld hA
              try replace hL := sl_alloc hHeld hL
              try replace ho5 := own_alloc hHeld ho5
              try replace ho8 := own_alloc hHeld ho8
              refine wpAnyH_ready (rs := [5, 13]) (by kernel_rfl) (by simp) ?_
              refine AllReadyH.cons (o := ⟨some 68, .call ⟨.builtin .append, #[.tmp 66, .tmp 67], #[22, 22]⟩, _, _, _, none⟩) rfl (fun K hK => ?_) ?_
              · refine step_app0 (by rfl) _ _ (by rfl) _ (by rfl) (by rfl) (HX7.out.mono hHeld) (by omega) (Nat.le_refl _) ?_
                intro q5 d5 v5 ho5 k5
                obtain ⟨g5, o5, hq5, hB5, hlt5, _⟩ := ho5.room 0 (by have := ho5.sl.hle; omega)
                have HQ5 := hide hq5
                clear hq5
                have s5 : Below wc.heap.size wc v5 := hHeld.trans (k5.mono hHeld.size)
                have hW5 := hHeld.size
                try (have hAn := Nat.ne_of_lt (Nat.lt_of_lt_of_le (lt_of_block hA) hB5))
                try replace hA := (k5.block _ (lt_of_block hA)).trans hA
                try replace hL := hL.mono k5
                refine hK.out _ _ ?_ (fun hHeld => ?_)
                · exact s5
                clear hK K
                try simp only [Act.put, List.setIfInBounds_toArray, List.set_cons_zero, List.set_cons_succ]
                refine wpAnyH_ready (rs := [8, 13]) (by kernel_rfl) (by simp) ?_
                refine AllReadyH.cons (o := ⟨some 71, .call ⟨.builtin .append, #[.tmp 68, .tmp 70], #[22, 22]⟩, _, _, _, none⟩) rfl (fun K hK => ?_) ?_
                · refine step_app_but (by rfl) _ _ (by rfl) _ (by rfl) ho5 (by rfl) hL (by omega) (by first | exact k5.size | exact Nat.le_trans k5.size (by simp <;> omega) | (have := k5.size; simp at this ⊢; omega)) g5 (fun b off h => by rw [HQ5.out] at h; cases h; rfl) ?_
                  intro q8 d8 v8 ho8 k8 u8
                  have s8 : Below wc.heap.size wc v8 := hHeld.trans (k8.mono hW5)
                  try replace hA := (u8.block _ (lt_of_block hA) hAn).trans hA
                  refine hK.out _ _ ?_ (fun hHeld => ?_)
                  · exact s8
                  clear hK K
                  try simp only [Act.put, List.setIfInBounds_toArray, List.set_cons_zero, List.set_cons_succ]
                  refine wpAnyH_ready (rs := [9, 13]) (by kernel_rfl) (by simp) ?_
                  refine AllReadyH.cons (o := ⟨some 72, .call ⟨.value (.func 12), #[.tmp 63, .tmp 65, .tmp 71], #[3, 5, 22]⟩, _, _, _, none⟩) rfl (fun K hK => ?_) ?_
                  · go_simp
                    refine (Mei.code_parse _ m1.code _ _ _ (b ++ [cx]) _ ho8.sl (by omega)).mono ?_
                    rintro e v9 ⟨⟨y9, rfl, hm9⟩, hb9⟩
                    obtain ⟨cs9, rfl, hs9, ho9, _⟩ := hm9.agg
                    rw [HMore.out]
                    have s9 : Below wc.heap.size wc v9 := below_next hHeld hb9 (Nat.le_refl _)
                    try replace hA := (hb9.block _ (lt_of_block hA)).trans hA
                    refine hK.out _ _ ?_ (fun hHeld => ?_)
                    · exact s9
                    clear hK K
                    try simp only [Act.put, List.setIfInBounds_toArray, List.set_cons_zero, List.set_cons_succ]
                    refine wpAnyH_take (i := 10) (oi := ⟨some 62, .move (.tmp 72), _, _, _, none⟩) (v := ?_) rfl (by kernel_rfl) (by kernel_rfl) (by kernel_rfl) (fun _ _ _ h => h) (Or.inl ⟨by rfl, ?_⟩) hHeld ?_
                    rotate_left
                    · (intro wq hSw; go_simp; try with_reducible rfl)
                    simp only [Act.put, List.setIfInBounds_toArray, List.set_cons_zero, List.set_cons_succ]
                    refine wpAnyH_take (i := 11) (oi := ⟨some 73, .extract (.tmp 62) 0, _, _, _, none⟩) (v := ?_) rfl (by kernel_rfl) (by kernel_rfl) (by kernel_rfl) (fun _ _ _ h => h) (Or.inl ⟨by rfl, ?_⟩) hHeld ?_
                    rotate_left
                    · (intro wq hSw; go_simp; try with_reducible rfl)
                    simp only [Act.put, List.setIfInBounds_toArray, List.set_cons_zero, List.set_cons_succ]
                    refine wpAnyH_take (i := 12) (oi := ⟨some 74, .extract (.tmp 62) 1, _, _, _, none⟩) (v := ?_) rfl (by kernel_rfl) (by kernel_rfl) (by kernel_rfl) (fun _ _ _ h => h) (Or.inl ⟨by rfl, ?_⟩) hHeld ?_
                    rotate_left
                    · (intro wq hSw; go_simp; try with_reducible rfl)
                    simp only [Act.put, List.setIfInBounds_toArray, List.set_cons_zero, List.set_cons_succ]
                    refine wpAnyH_ready (rs := [13]) (by kernel_rfl) (by simp) ?_
                    refine AllReadyH.cons (o := ⟨some 16, .alloc 30, _, _, _, none⟩) rfl (fun K hK => ?_) ?_
                    · have hAw := hHeld.size
                      go_simp
                      refine hK.out _ _ ?_ (fun hHeld => ?_)
                      · exact hHeld.alloc hHeld.size _
                      clear hK K
                      try simp only [Act.put, List.setIfInBounds_toArray, List.set_cons_zero, List.set_cons_succ]
                      try replace hA := alloc_keep hHeld hA
                      try replace hL := sl_alloc hHeld hL
                      try replace ho5 := own_alloc hHeld ho5
                      try replace ho8 := own_alloc hHeld ho8
                      have hA := by first | exact alloc_at hHeld | exact alloc_at' hHeld
                      try simp only [World.size_alloc] at hA
                      try simp only [World.size_alloc] at hAw
                      try (have hAn := alloc_ne hHeld (show g5 < _ by first | exact hlt5 | (simp; omega)))
                      try simp only [World.size_alloc] at hAn
                      refine wpAnyH_ready (rs := [14]) (by kernel_rfl) (by simp) ?_
                      refine AllReadyH.cons (o := ⟨none, .store 30 (.tmp 16) (.tmp 73), _, _, _, none⟩) rfl (fun K hK => ?_) ?_
                      · refine step_store (by rfl) _ _ _ (by rfl) _ cs9 (by rfl) (by rfl) _ _ hA (msg_size cs9 hs9) (by rw [hs9]; rfl) ho9 ?_
                        intro u6 h6 b6 n6 z6
                        have s6 : Below wc.heap.size wc u6 := hHeld.trans (b6 _ (by first | exact hAw | omega))
                        refine hK.out _ _ ?_ (fun hHeld => ?_)
                        · exact s6
                        clear hK K
                        try simp only [Act.put]
                        refine wpAnyH_take (i := 15) (oi := ⟨some 17, .assign (.tmp 74), _, _, _, none⟩) (v := ?_) rfl (by kernel_rfl) (by kernel_rfl) (by kernel_rfl) (fun _ _ _ h => h) (Or.inl ⟨by rfl, ?_⟩) hHeld ?_
                        rotate_left
                        · (intro wq hSw; go_simp; try with_reducible rfl)
                        simp only [Act.put, List.setIfInBounds_toArray, List.set_cons_zero, List.set_cons_succ]
                        refine wpAnyH_done (by kernel_rfl) ?_ _
                        refine NoPanic.normal ?_
                        go_wp2
                        go_meet
                        case rel => exact ⟨rfl, s6⟩
                      exact AllReadyH.nil
                    exact AllReadyH.nil
                  refine AllReadyH.cons (o := ⟨some 16, .alloc 30, _, _, _, none⟩) rfl (fun K hK => ?_) ?_
                  · have hAw := hHeld.size
                    go_simp
                    refine hK.out _ _ ?_ (fun hHeld => ?_)
                    · exact hHeld.alloc hHeld.size _
                    clear hK K
                    try simp only [Act.put, List.setIfInBounds_toArray, List.set_cons_zero, List.set_cons_succ]
                    try replace hA := alloc_keep hHeld hA
                    try replace hL := sl_alloc hHeld hL
                    try replace ho5 := own_alloc hHeld ho5
                    try replace ho8 := own_alloc hHeld ho8
                    have hA := by first | exact alloc_at hHeld | exact alloc_at' hHeld
                    try simp only [World.size_alloc] at hA
                    try simp only [World.size_alloc] at hAw
                    try (have hAn := alloc_ne hHeld (show g5 < _ by first | exact hlt5 | (simp; omega)))
                    try simp only [World.size_alloc] at hAn
                    refine wpAnyH_ready (rs := [9]) (by kernel_rfl) (by simp) ?_
                    refine AllReadyH.cons (o := ⟨some 72, .call ⟨.value (.func 12), #[.tmp 63, .tmp 65, .tmp 71], #[3, 5, 22]⟩, _, _, _, none⟩) rfl (fun K hK => ?_) ?_
                    · go_simp
                      refine (Mei.code_parse _ m1.code _ _ _ (b ++ [cx]) _ ho8.sl (by omega)).mono ?_
                      rintro e v9 ⟨⟨y9, rfl, hm9⟩, hb9⟩
                      obtain ⟨cs9, rfl, hs9, ho9, _⟩ := hm9.agg
                      rw [HMore.out]
                      have s9 : Below wc.heap.size wc v9 := below_next hHeld hb9 (Nat.le_refl _)
                      try replace hA := (hb9.block _ (lt_of_block hA)).trans hA
                      refine hK.out _ _ ?_ (fun hHeld => ?_)
                      · exact s9
                      clear hK K
                      try simp only [Act.put, List.setIfInBounds_toArray, List.set_cons_zero, List.set_cons_succ]
                      refine wpAnyH_take (i := 10) (oi := ⟨some 62, .move (.tmp 72), _, _, _, none⟩) (v := ?_) rfl (by kernel_rfl) (by kernel_rfl) (by kernel_rfl) (fun _ _ _ h => h) (Or.inl ⟨by rfl, ?_⟩) hHeld ?_
                      rotate_left
                      · (intro wq hSw; go_simp; try with_reducible rfl)
                      simp only [Act.put, List.setIfInBounds_toArray, List.set_cons_zero, List.set_cons_succ]
                      refine wpAnyH_take (i := 11) (oi := ⟨some 73, .extract (.tmp 62) 0, _, _, _, none⟩) (v := ?_) rfl (by kernel_rfl) (by kernel_rfl) (by kernel_rfl) (fun _ _ _ h => h) (Or.inl ⟨by rfl, ?_⟩) hHeld ?_
                      rotate_left
                      · (intro wq hSw; go_simp; try with_reducible rfl)
                      simp only [Act.put, List.setIfInBounds_toArray, List.set_cons_zero, List.set_cons_succ]
                      refine wpAnyH_take (i := 12) (oi := ⟨some 74, .extract (.tmp 62) 1, _, _, _, none⟩) (v := ?_) rfl (by kernel_rfl) (by kernel_rfl) (by kernel_rfl) (fun _ _ _ h => h) (Or.inl ⟨by rfl, ?_⟩) hHeld ?_
                      rotate_left
                      · (intro wq hSw; go_simp; try with_reducible rfl)
                      simp only [Act.put, List.setIfInBounds_toArray, List.set_cons_zero, List.set_cons_succ]
                      refine wpAnyH_ready (rs := [14]) (by kernel_rfl) (by simp) ?_
                      refine AllReadyH.cons (o := ⟨none, .store 30 (.tmp 16) (.tmp 73), _, _, _, none⟩) rfl (fun K hK => ?_) ?_
                      · refine step_store (by rfl) _ _ _ (by rfl) _ cs9 (by rfl) (by rfl) _ _ hA (msg_size cs9 hs9) (by rw [hs9]; rfl) ho9 ?_
                        intro u6 h6 b6 n6 z6
                        have s6 : Below wc.heap.size wc u6 := hHeld.trans (b6 _ (by first | exact hAw | omega))
                        refine hK.out _ _ ?_ (fun hHeld => ?_)
                        · exact s6
                        clear hK K
                        try simp only [Act.put]
                        refine wpAnyH_take (i := 15) (oi := ⟨some 17, .assign (.tmp 74), _, _, _, none⟩) (v := ?_) rfl (by kernel_rfl) (by kernel_rfl) (by kernel_rfl) (fun _ _ _ h => h) (Or.inl ⟨by rfl, ?_⟩) hHeld ?_
                        rotate_left
                        · (intro wq hSw; go_simp; try with_reducible rfl)
                        simp only [Act.put, List.setIfInBounds_toArray, List.set_cons_zero, List.set_cons_succ]
                        refine wpAnyH_done (by kernel_rfl) ?_ _
                        refine NoPanic.normal ?_
                        go_wp2
                        go_meet
                        case rel => exact ⟨rfl, s6⟩
                      exact AllReadyH.nil
                    exact AllReadyH.nil
                  exact AllReadyH.nil
                refine AllReadyH.cons (o := ⟨some 16, .alloc 30, _, _, _, none⟩) rfl (fun K hK => ?_) ?_
                · have hAw := hHeld.size
                  go_simp
                  refine hK.out _ _ ?_ (fun hHeld => ?_)
                  · exact hHeld.alloc hHeld.size _
                  clear hK K
                  try simp only [Act.put, List.setIfInBounds_toArray, List.set_cons_zero, List.set_cons_succ]
                  try replace hA := alloc_keep hHeld hA
                  try replace hL := sl_alloc hHeld hL
                  try replace ho5 := own_alloc hHeld ho5
                  try replace ho8 := own_alloc hHeld ho8
                  have hA := by first | exact alloc_at hHeld | exact alloc_at' hHeld
                  try simp only [World.size_alloc] at hA
                  try simp only [World.size_alloc] at hAw
                  try (have hAn := alloc_ne hHeld (show g5 < _ by first | exact hlt5 | (simp; omega)))
                  try simp only [World.size_alloc] at hAn
                  refine wpAnyH_ready (rs := [8]) (by kernel_rfl) (by simp) ?_
                  refine AllReadyH.cons (o := ⟨some 71, .call ⟨.builtin .append, #[.tmp 68, .tmp 70], #[22, 22]⟩, _, _, _, none⟩) rfl (fun K hK => ?_) ?_
                  · refine step_app_but (by rfl) _ _ (by rfl) _ (by rfl) ho5 (by rfl) hL (by omega) (by first | exact k5.size | exact Nat.le_trans k5.size (by simp <;> omega) | (have := k5.size; simp at this ⊢; omega)) g5 (fun b off h => by rw [HQ5.out] at h; cases h; rfl) ?_
                    intro q8 d8 v8 ho8 k8 u8
                    have s8 : Below wc.heap.size wc v8 := hHeld.trans (k8.mono hW5)
                    try replace hA := (u8.block _ (lt_of_block hA) hAn).trans hA
                    refine hK.out _ _ ?_ (fun hHeld => ?_)
                    · exact s8
                    clear hK K
                    try simp only [Act.put, List.setIfInBounds_toArray, List.set_cons_zero, List.set_cons_succ]
                    refine wpAnyH_ready (rs := [9]) (by kernel_rfl) (by simp) ?_
                    refine AllReadyH.cons (o := ⟨some 72, .call ⟨.value (.func 12), #[.tmp 63, .tmp 65, .tmp 71], #[3, 5, 22]⟩, _, _, _, none⟩) rfl (fun K hK => ?_) ?_
                    · go_simp
                      refine (Mei.code_parse _ m1.code _ _ _ (b ++ [cx]) _ ho8.sl (by omega)).mono ?_
                      rintro e v9 ⟨⟨y9, rfl, hm9⟩, hb9⟩
                      obtain ⟨cs9, rfl, hs9, ho9, _⟩ := hm9.agg
                      rw [HMore.out]
                      have s9 : Below wc.heap.size wc v9 := below_next hHeld hb9 (Nat.le_refl _)
                      try replace hA := (hb9.block _ (lt_of_block hA)).trans hA
                      refine hK.out _ _ ?_ (fun hHeld => ?_)
                      · exact s9
                      clear hK K
                      try simp only [Act.put, List.setIfInBounds_toArray, List.set_cons_zero, List.set_cons_succ]
                      refine wpAnyH_take (i := 10) (oi := ⟨some 62, .move (.tmp 72), _, _, _, none⟩) (v := ?_) rfl (by kernel_rfl) (by kernel_rfl) (by kernel_rfl) (fun _ _ _ h => h) (Or.inl ⟨by rfl, ?_⟩) hHeld ?_
                      rotate_left
                      · (intro wq hSw; go_simp; try with_reducible rfl)
                      simp only [Act.put, List.setIfInBounds_toArray, List.set_cons_zero, List.set_cons_succ]
                      refine wpAnyH_take (i := 11) (oi := ⟨some 73, .extract (.tmp 62) 0, _, _, _, none⟩) (v := ?_) rfl (by kernel_rfl) (by kernel_rfl) (by kernel_rfl) (fun _ _ _ h => h) (Or.inl ⟨by rfl, ?_⟩) hHeld ?_
                      rotate_left
                      · (intro wq hSw; go_simp; try with_reducible rfl)
                      simp only [Act.put, List.setIfInBounds_toArray, List.set_cons_zero, List.set_cons_succ]
                      refine wpAnyH_take (i := 12) (oi := ⟨some 74, .extract (.tmp 62) 1, _, _, _, none⟩) (v := ?_) rfl (by kernel_rfl) (by kernel_rfl) (by kernel_rfl) (fun _ _ _ h => h) (Or.inl ⟨by rfl, ?_⟩) hHeld ?_
                      rotate_left
                      · (intro wq hSw; go_simp; try with_reducible rfl)
                      simp only [Act.put, List.setIfInBounds_toArray, List.set_cons_zero, List.set_cons_succ]
                      refine wpAnyH_ready (rs := [14]) (by kernel_rfl) (by simp) ?_
                      refine AllReadyH.cons (o := ⟨none, .store 30 (.tmp 16) (.tmp 73), _, _, _, none⟩) rfl (fun K hK => ?_) ?_
                      · refine step_store (by rfl) _ _ _ (by rfl) _ cs9 (by rfl) (by rfl) _ _ hA (msg_size cs9 hs9) (by rw [hs9]; rfl) ho9 ?_
                        intro u6 h6 b6 n6 z6
                        have s6 : Below wc.heap.size wc u6 := hHeld.trans (b6 _ (by first | exact hAw | omega))
                        refine hK.out _ _ ?_ (fun hHeld => ?_)
                        · exact s6
                        clear hK K
                        try simp only [Act.put]
                        refine wpAnyH_take (i := 15) (oi := ⟨some 17, .assign (.tmp 74), _, _, _, none⟩) (v := ?_) rfl (by kernel_rfl) (by kernel_rfl) (by kernel_rfl) (fun _ _ _ h => h) (Or.inl ⟨by rfl, ?_⟩) hHeld ?_
                        rotate_left
                        · (intro wq hSw; go_simp; try with_reducible rfl)
                        simp only [Act.put, List.setIfInBounds_toArray, List.set_cons_zero, List.set_cons_succ]
                        refine wpAnyH_done (by kernel_rfl) ?_ _
                        refine NoPanic.normal ?_
                        go_wp2
                        go_meet
                        case rel => exact ⟨rfl, s6⟩
                      exact AllReadyH.nil
                    exact AllReadyH.nil
                  exact AllReadyH.nil
                exact AllReadyH.nil
              refine AllReadyH.cons (o := ⟨some 16, .alloc 30, _, _, _, none⟩) rfl (fun K hK => ?_) ?_
              · have hAw := hHeld.size
                go_simp
                refine hK.out _ _ ?_ (fun hHeld => ?_)
                · exact hHeld.alloc hHeld.size _
                clear hK K
                try simp only [Act.put, List.setIfInBounds_toArray, List.set_cons_zero, List.set_cons_succ]
                try replace hA := alloc_keep hHeld hA
                try replace hL := sl_alloc hHeld hL
                try replace ho5 := own_alloc hHeld ho5
                try replace ho8 := own_alloc hHeld ho8
                have hA := by first | exact alloc_at hHeld | exact alloc_at' hHeld
                try simp only [World.size_alloc] at hA
                try simp only [World.size_alloc] at hAw
                try (have hAn := alloc_ne hHeld (show g5 < _ by first | exact hlt5 | (simp; omega)))
                try simp only [World.size_alloc] at hAn
                refine wpAnyH_ready (rs := [5]) (by kernel_rfl) (by simp) ?_
                refine AllReadyH.cons (o := ⟨some 68, .call ⟨.builtin .append, #[.tmp 66, .tmp 67], #[22, 22]⟩, _, _, _, none⟩) rfl (fun K hK => ?_) ?_
                · refine step_app0 (by rfl) _ _ (by rfl) _ (by rfl) (by rfl) (HX7.out.mono hHeld) (by omega) (Nat.le_refl _) ?_
                  intro q5 d5 v5 ho5 k5
                  obtain ⟨g5, o5, hq5, hB5, hlt5, _⟩ := ho5.room 0 (by have := ho5.sl.hle; omega)
                  have HQ5 := hide hq5
                  clear hq5
                  have s5 : Below wc.heap.size wc v5 := hHeld.trans (k5.mono hHeld.size)
                  have hW5 := hHeld.size
                  try (have hAn := Nat.ne_of_lt (Nat.lt_of_lt_of_le (lt_of_block hA) hB5))
                  try replace hA := (k5.block _ (lt_of_block hA)).trans hA
                  try replace hL := hL.mono k5
                  refine hK.out _ _ ?_ (fun hHeld => ?_)
                  · exact s5
                  clear hK K
                  try simp only [Act.put, List.setIfInBounds_toArray, List.set_cons_zero, List.set_cons_succ]
                  refine wpAnyH_ready (rs := [8]) (by kernel_rfl) (by simp) ?_
                  refine AllReadyH.cons (o := ⟨some 71, .call ⟨.builtin .append, #[.tmp 68, .tmp 70], #[22, 22]⟩, _, _, _, none⟩) rfl (fun K hK => ?_) ?_
                  · refine step_app_but (by rfl) _ _ (by rfl) _ (by rfl) ho5 (by rfl) hL (by omega) (by first | exact k5.size | exact Nat.le_trans k5.size (by simp <;> omega) | (have := k5.size; simp at this ⊢; omega)) g5 (fun b off h => by rw [HQ5.out] at h; cases h; rfl) ?_
                    intro q8 d8 v8 ho8 k8 u8
                    have s8 : Below wc.heap.size wc v8 := hHeld.trans (k8.mono hW5)
                    try replace hA := (u8.block _ (lt_of_block hA) hAn).trans hA
                    refine hK.out _ _ ?_ (fun hHeld => ?_)
                    · exact s8
                    clear hK K
                    try simp only [Act.put, List.setIfInBounds_toArray, List.set_cons_zero, List.set_cons_succ]
                    refine wpAnyH_ready (rs := [9]) (by kernel_rfl) (by simp) ?_
                    refine AllReadyH.cons (o := ⟨some 72, .call ⟨.value (.func 12), #[.tmp 63, .tmp 65, .tmp 71], #[3, 5, 22]⟩, _, _, _, none⟩) rfl (fun K hK => ?_) ?_
                    · go_simp
                      refine (Mei.code_parse _ m1.code _ _ _ (b ++ [cx]) _ ho8.sl (by omega)).mono ?_
                      rintro e v9 ⟨⟨y9, rfl, hm9⟩, hb9⟩
                      obtain ⟨cs9, rfl, hs9, ho9, _⟩ := hm9.agg
                      rw [HMore.out]
                      have s9 : Below wc.heap.size wc v9 := below_next hHeld hb9 (Nat.le_refl _)
                      try replace hA := (hb9.block _ (lt_of_block hA)).trans hA
                      refine hK.out _ _ ?_ (fun hHeld => ?_)
                      · exact s9
                      clear hK K
                      try simp only [Act.put, List.setIfInBounds_toArray, List.set_cons_zero, List.set_cons_succ]
                      refine wpAnyH_take (i := 10) (oi := ⟨some 62, .move (.tmp 72), _, _, _, none⟩) (v := ?_) rfl (by kernel_rfl) (by kernel_rfl) (by kernel_rfl) (fun _ _ _ h => h) (Or.inl ⟨by rfl, ?_⟩) hHeld ?_
                      rotate_left
                      · (intro wq hSw; go_simp; try with_reducible rfl)
                      simp only [Act.put, List.setIfInBounds_toArray, List.set_cons_zero, List.set_cons_succ]
                      refine wpAnyH_take (i := 11) (oi := ⟨some 73, .extract (.tmp 62) 0, _, _, _, none⟩) (v := ?_) rfl (by kernel_rfl) (by kernel_rfl) (by kernel_rfl) (fun _ _ _ h => h) (Or.inl ⟨by rfl, ?_⟩) hHeld ?_
                      rotate_left
                      · (intro wq hSw; go_simp; try with_reducible rfl)
                      simp only [Act.put, List.setIfInBounds_toArray, List.set_cons_zero, List.set_cons_succ]
                      refine wpAnyH_take (i := 12) (oi := ⟨some 74, .extract (.tmp 62) 1, _, _, _, none⟩) (v := ?_) rfl (by kernel_rfl) (by kernel_rfl) (by kernel_rfl) (fun _ _ _ h => h) (Or.inl ⟨by rfl, ?_⟩) hHeld ?_
                      rotate_left
                      · (intro wq hSw; go_simp; try with_reducible rfl)
                      simp only [Act.put, List.setIfInBounds_toArray, List.set_cons_zero, List.set_cons_succ]
                      refine wpAnyH_ready (rs := [14]) (by kernel_rfl) (by simp) ?_
                      refine AllReadyH.cons (o := ⟨none, .store 30 (.tmp 16) (.tmp 73), _, _, _, none⟩) rfl (fun K hK => ?_) ?_
                      · refine step_store (by rfl) _ _ _ (by rfl) _ cs9 (by rfl) (by rfl) _ _ hA (msg_size cs9 hs9) (by rw [hs9]; rfl) ho9 ?_
                        intro u6 h6 b6 n6 z6
                        have s6 : Below wc.heap.size wc u6 := hHeld.trans (b6 _ (by first | exact hAw | omega))
                        refine hK.out _ _ ?_ (fun hHeld => ?_)
                        · exact s6
                        clear hK K
                        try simp only [Act.put]
                        refine wpAnyH_take (i := 15) (oi := ⟨some 17, .assign (.tmp 74), _, _, _, none⟩) (v := ?_) rfl (by kernel_rfl) (by kernel_rfl) (by kernel_rfl) (fun _ _ _ h => h) (Or.inl ⟨by rfl, ?_⟩) hHeld ?_
                        rotate_left
                        · (intro wq hSw; go_simp; try with_reducible rfl)
                        simp only [Act.put, List.setIfInBounds_toArray, List.set_cons_zero, List.set_cons_succ]
                        refine wpAnyH_done (by kernel_rfl) ?_ _
                        refine NoPanic.normal ?_
                        go_wp2
                        go_meet
                        case rel => exact ⟨rfl, s6⟩
                      exact AllReadyH.nil
                    exact AllReadyH.nil
                  exact AllReadyH.nil
                exact AllReadyH.nil
              exact AllReadyH.nil
            refine AllReadyH.cons (o := ⟨some 16, .alloc 30, _, _, _, none⟩) rfl (fun K hK => ?_) ?_
            · have hAw := hHeld.size
              go_simp
              refine hK.out _ _ ?_ (fun hHeld => ?_)
              · exact hHeld.alloc hHeld.size _
              clear hK K
              try simp only [Act.put, List.setIfInBounds_toArray, List.set_cons_zero, List.set_cons_succ]
              try replace hA := alloc_keep hHeld hA
              try replace hL := sl_alloc hHeld hL
              try replace ho5 := own_alloc hHeld ho5
              try replace ho8 := own_alloc hHeld ho8
              have hA := by first | exact alloc_at hHeld | exact alloc_at' hHeld
              try simp only [World.size_alloc] at hA
              try simp only [World.size_alloc] at hAw
              try (have hAn := alloc_ne hHeld (show g5 < _ by first | exact hlt5 | (simp; omega)))
              try simp only [World.size_alloc] at hAn
              refine wpAnyH_ready (rs := [3]) (by kernel_rfl) (by simp) ?_
              refine AllReadyH.cons (o := ⟨some 66, .buildSlice 22 0 #[], _, _, _, none⟩) rfl (fun K hK => ?_) ?_
              · go_simp
                refine hK.out _ _ ?_ (fun hHeld => ?_)
                · exact hHeld.alloc hHeld.size _
                clear hK K
                try simp only [Act.put, List.setIfInBounds_toArray, List.set_cons_zero, List.set_cons_succ]
                try replace hA := alloc_keep hHeld hA
                try replace hL := sl_alloc hHeld hL
                try replace ho5 := own_alloc hHeld ho5
                try replace ho8 := own_alloc hHeld ho8
                refine wpAnyH_ready (rs := [5]) (by kernel_rfl) (by simp) ?_
                refine AllReadyH.cons (o := ⟨some 68, .call ⟨.builtin .append, #[.tmp 66, .tmp 67], #[22, 22]⟩, _, _, _, none⟩) rfl (fun K hK => ?_) ?_
                · refine step_app0 (by rfl) _ _ (by rfl) _ (by rfl) (by rfl) (HX7.out.mono hHeld) (by omega) (Nat.le_refl _) ?_
                  intro q5 d5 v5 ho5 k5
                  obtain ⟨g5, o5, hq5, hB5, hlt5, _⟩ := ho5.room 0 (by have := ho5.sl.hle; omega)
                  have HQ5 := hide hq5
                  clear hq5
                  have s5 : Below wc.heap.size wc v5 := hHeld.trans (k5.mono hHeld.size)
                  have hW5 := hHeld.size
                  try (have hAn := Nat.ne_of_lt (Nat.lt_of_lt_of_le (lt_of_block hA) hB5))
                  try replace hA := (k5.block _ (lt_of_block hA)).trans hA
                  try replace hL := hL.mono k5
                  refine hK.out _ _ ?_ (fun hHeld => ?_)
                  · exact s5
                  clear hK K
                  try simp only [Act.put, List.setIfInBounds_toArray, List.set_cons_zero, List.set_cons_succ]
                  refine wpAnyH_ready (rs := [8]) (by kernel_rfl) (by simp) ?_
                  refine AllReadyH.cons (o := ⟨some 71, .call ⟨.builtin .append, #[.tmp 68, .tmp 70], #[22, 22]⟩, _, _, _, none⟩) rfl (fun K hK => ?_) ?_
                  · refine step_app_but (by rfl) _ _ (by rfl) _ (by rfl) ho5 (by rfl) hL (by omega) (by first | exact k5.size | exact Nat.le_trans k5.size (by simp <;> omega) | (have := k5.size; simp at this ⊢; omega)) g5 (fun b off h => by rw [HQ5.out] at h; cases h; rfl) ?_
                    intro q8 d8 v8 ho8 k8 u8
                    have s8 : Below wc.heap.size wc v8 := hHeld.trans (k8.mono hW5)
                    try replace hA := (u8.block _ (lt_of_block hA) hAn).trans hA
                    refine hK.out _ _ ?_ (fun hHeld => ?_)
                    · exact s8
                    clear hK K
                    try simp only [Act.put, List.setIfInBounds_toArray, List.set_cons_zero, List.set_cons_succ]
                    refine wpAnyH_ready (rs := [9]) (by kernel_rfl) (by simp) ?_
                    refine AllReadyH.cons (o := ⟨some 72, .call ⟨.value (.func 12), #[.tmp 63, .tmp 65, .tmp 71], #[3, 5, 22]⟩, _, _, _, none⟩) rfl (fun K hK => ?_) ?_
                    · go_simp
                      refine (Mei.code_parse _ m1.code _ _ _ (b ++ [cx]) _ ho8.sl (by omega)).mono ?_
                      rintro e v9 ⟨⟨y9, rfl, hm9⟩, hb9⟩
                      obtain ⟨cs9, rfl, hs9, ho9, _⟩ := hm9.agg
                      rw [HMore.out]
                      have s9 : Below wc.heap.size wc v9 := below_next hHeld hb9 (Nat.le_refl _)
                      try replace hA := (hb9.block _ (lt_of_block hA)).trans hA
                      refine hK.out _ _ ?_ (fun hHeld => ?_)
                      · exact s9
                      clear hK K
                      try simp only [Act.put, List.setIfInBounds_toArray, List.set_cons_zero, List.set_cons_succ]
                      refine wpAnyH_take (i := 10) (oi := ⟨some 62, .move (.tmp 72), _, _, _, none⟩) (v := ?_) rfl (by kernel_rfl) (by kernel_rfl) (by kernel_rfl) (fun _ _ _ h => h) (Or.inl ⟨by rfl, ?_⟩) hHeld ?_
                      rotate_left
                      · (intro wq hSw; go_simp; try with_reducible rfl)
                      simp only [Act.put, List.setIfInBounds_toArray, List.set_cons_zero, List.set_cons_succ]
                      refine wpAnyH_take (i := 11) (oi := ⟨some 73, .extract (.tmp 62) 0, _, _, _, none⟩) (v := ?_) rfl (by kernel_rfl) (by kernel_rfl) (by kernel_rfl) (fun _ _ _ h => h) (Or.inl ⟨by rfl, ?_⟩) hHeld ?_
                      rotate_left
                      · (intro wq hSw; go_simp; try with_reducible rfl)
                      simp only [Act.put, List.setIfInBounds_toArray, List.set_cons_zero, List.set_cons_succ]
                      refine wpAnyH_take (i := 12) (oi := ⟨some 74, .extract (.tmp 62) 1, _, _, _, none⟩) (v := ?_) rfl (by kernel_rfl) (by kernel_rfl) (by kernel_rfl) (fun _ _ _ h => h) (Or.inl ⟨by rfl, ?_⟩) hHeld ?_
                      rotate_left
                      · (intro wq hSw; go_simp; try with_reducible rfl)
                      simp only [Act.put, List.setIfInBounds_toArray, List.set_cons_zero, List.set_cons_succ]
                      refine wpAnyH_ready (rs := [14]) (by kernel_rfl) (by simp) ?_
                      refine AllReadyH.cons (o := ⟨none, .store 30 (.tmp 16) (.tmp 73), _, _, _, none⟩) rfl (fun K hK => ?_) ?_
                      · refine step_store (by rfl) _ _ _ (by rfl) _ cs9 (by rfl) (by rfl) _ _ hA (msg_size cs9 hs9) (by rw [hs9]; rfl) ho9 ?_
                        intro u6 h6 b6 n6 z6
                        have s6 : Below wc.heap.size wc u6 := hHeld.trans (b6 _ (by first | exact hAw | omega))
                        refine hK.out _ _ ?_ (fun hHeld => ?_)
                        · exact s6
                        clear hK K
                        try simp only [Act.put]
                        refine wpAnyH_take (i := 15) (oi := ⟨some 17, .assign (.tmp 74), _, _, _, none⟩) (v := ?_) rfl (by kernel_rfl) (by kernel_rfl) (by kernel_rfl) (fun _ _ _ h => h) (Or.inl ⟨by rfl, ?_⟩) hHeld ?_
                        rotate_left
                        · (intro wq hSw; go_simp; try with_reducible rfl)
                        simp only [Act.put, List.setIfInBounds_toArray, List.set_cons_zero, List.set_cons_succ]
                        refine wpAnyH_done (by kernel_rfl) ?_ _
                        refine NoPanic.normal ?_
                        go_wp2
                        go_meet
                        case rel => exact ⟨rfl, s6⟩
                      exact AllReadyH.nil
                    exact AllReadyH.nil
                  exact AllReadyH.nil
                exact AllReadyH.nil
              exact AllReadyH.nil
            exact AllReadyH.nil
          refine AllReadyH.cons (o := ⟨some 16, .alloc 30, _, _, _, none⟩) rfl (fun K hK => ?_) ?_
          · have hAw := hHeld.size
            go_simp
            refine hK.out _ _ ?_ (fun hHeld => ?_)
            · exact hHeld.alloc hHeld.size _
            clear hK K
            try simp only [Act.put, List.setIfInBounds_toArray, List.set_cons_zero, List.set_cons_succ]
            try replace hA := alloc_keep hHeld hA
            try replace hL := sl_alloc hHeld hL
            try replace ho5 := own_alloc hHeld ho5
            try replace ho8 := own_alloc hHeld ho8
            have hA := by first | exact alloc_at hHeld | exact alloc_at' hHeld
            try simp only [World.size_alloc] at hA
            try simp only [World.size_alloc] at hAw
            try (have hAn := alloc_ne hHeld (show g5 < _ by first | exact hlt5 | (simp; omega)))
            try simp only [World.size_alloc] at hAn
            refine wpAnyH_ready (rs := [3, 7]) (by kernel_rfl) (by simp) ?_
            refine AllReadyH.cons (o := ⟨some 66, .buildSlice 22 0 #[], _, _, _, none⟩) rfl (fun K hK => ?_) ?_
            · go_simp
              refine hK.out _ _ ?_ (fun hHeld => ?_)
              · exact hHeld.alloc hHeld.size _
              clear hK K
              try simp only [Act.put, List.setIfInBounds_toArray, List.set_cons_zero, List.set_cons_succ]
              try replace hA := alloc_keep hHeld hA
              try replace hL := sl_alloc hHeld hL
              try replace ho5 := own_alloc hHeld ho5
              try replace ho8 := own_alloc hHeld ho8
              refine wpAnyH_ready (rs := [5, 7]) (by kernel_rfl) (by simp) ?_
              refine AllReadyH.cons (o := ⟨some 68, .call ⟨.builtin .append, #[.tmp 66, .tmp 67], #[22, 22]⟩, _, _, _, none⟩) rfl (fun K hK => ?_) ?_
              · refine step_app0 (by rfl) _ _ (by rfl) _ (by rfl) (by rfl) (HX7.out.mono hHeld) (by omega) (Nat.le_refl _) ?_
                intro q5 d5 v5 ho5 k5
                obtain ⟨g5, o5, hq5, hB5, hlt5, _⟩ := ho5.room 0 (by have := ho5.sl.hle; omega)
                have HQ5 := hide hq5
                clear hq5
                have s5 : Below wc.heap.size wc v5 := hHeld.trans (k5.mono hHeld.size)
                have hW5 := hHeld.size
                try (have hAn := Nat.ne_of_lt (Nat.lt_of_lt_of_le (lt_of_block hA) hB5))
                try replace hA := (k5.block _ (lt_of_block hA)).trans hA
                try replace hL := hL.mono k5
                refine hK.out _ _ ?_ (fun hHeld => ?_)
                · exact s5
                clear hK K
                try simp only [Act.put, List.setIfInBounds_toArray, List.set_cons_zero, List.set_cons_succ]
                refine wpAnyH_ready (rs := [7]) (by kernel_rfl) (by simp) ?_
                refine AllReadyH.cons (o := ⟨some 70, .buildSlice 22 1 #[(0, .tmp 69)], _, _, _, none⟩) rfl (fun K hK => ?_) ?_
                · go_simp
                  refine hK.out _ _ ?_ (fun hHeld => ?_)
                  · exact hHeld.alloc hHeld.size _
                  clear hK K
                  try simp only [Act.put, List.setIfInBounds_toArray, List.set_cons_zero, List.set_cons_succ]
                  try replace hA := alloc_keep hHeld hA
                  try replace hL := sl_alloc hHeld hL
                  try replace ho5 := own_alloc hHeld ho5
                  try replace ho8 := own_alloc hHeld ho8
                  have hL := by first | exact lit_of hHeld cx rfl | exact lit_of' hHeld cx rfl
                  try simp only [World.size_alloc] at hL
                  refine wpAnyH_ready (rs := [8]) (by kernel_rfl) (by simp) ?_
                  refine AllReadyH.cons (o := ⟨some 71, .call ⟨.builtin .append, #[.tmp 68, .tmp 70], #[22, 22]⟩, _, _, _, none⟩) rfl (fun K hK => ?_) ?_
                  · refine step_app_but (by rfl) _ _ (by rfl) _ (by rfl) ho5 (by rfl) hL (by omega) (by first | exact k5.size | exact Nat.le_trans k5.size (by simp <;> omega) | (have := k5.size; simp at this ⊢; omega)) g5 (fun b off h => by rw [HQ5.out] at h; cases h; rfl) ?_
                    intro q8 d8 v8 ho8 k8 u8
                    have s8 : Below wc.heap.size wc v8 := hHeld.trans (k8.mono hW5)
                    try replace hA := (u8.block _ (lt_of_block hA) hAn).trans hA
                    refine hK.out _ _ ?_ (fun hHeld => ?_)
                    · exact s8
                    clear hK K
                    try simp only [Act.put, List.setIfInBounds_toArray, List.set_cons_zero, List.set_cons_succ]
                    refine wpAnyH_ready (rs := [9]) (by kernel_rfl) (by simp) ?_
                    refine AllReadyH.cons (o := ⟨some 72, .call ⟨.value (.func 12), #[.tmp 63, .tmp 65, .tmp 71], #[3, 5, 22]⟩, _, _, _, none⟩) rfl (fun K hK => ?_) ?_
                    · go_simp
                      refine (Mei.code_parse _ m1.code _ _ _ (b ++ [cx]) _ ho8.sl (by omega)).mono ?_
                      rintro e v9 ⟨⟨y9, rfl, hm9⟩, hb9⟩
                      obtain ⟨cs9, rfl, hs9, ho9, _⟩ := hm9.agg
                      rw [HMore.out]
                      have s9 : Below wc.heap.size wc v9 := below_next hHeld hb9 (Nat.le_refl _)
                      try replace hA := (hb9.block _ (lt_of_block hA)).trans hA
                      refine hK.out _ _ ?_ (fun hHeld => ?_)
                      · exact s9
                      clear hK K
                      try simp only [Act.put, List.setIfInBounds_toArray, List.set_cons_zero, List.set_cons_succ]
                      refine wpAnyH_take (i := 10) (oi := ⟨some 62, .move (.tmp 72), _, _, _, none⟩) (v := ?_) rfl (by kernel_rfl) (by kernel_rfl) (by kernel_rfl) (fun _ _ _ h => h) (Or.inl ⟨by rfl, ?_⟩) hHeld ?_
                      rotate_left
                      · (intro wq hSw; go_simp; try with_reducible rfl)
                      simp only [Act.put, List.setIfInBounds_toArray, List.set_cons_zero, List.set_cons_succ]
                      refine wpAnyH_take (i := 11) (oi := ⟨some 73, .extract (.tmp 62) 0, _, _, _, none⟩) (v := ?_) rfl (by kernel_rfl) (by kernel_rfl) (by kernel_rfl) (fun _ _ _ h => h) (Or.inl ⟨by rfl, ?_⟩) hHeld ?_
                      rotate_left
                      · (intro wq hSw; go_simp; try with_reducible rfl)
                      simp only [Act.put, List.setIfInBounds_toArray, List.set_cons_zero, List.set_cons_succ]
                      refine wpAnyH_take (i := 12) (oi := ⟨some 74, .extract (.tmp 62) 1, _, _, _, none⟩) (v := ?_) rfl (by kernel_rfl) (by kernel_rfl) (by kernel_rfl) (fun _ _ _ h => h) (Or.inl ⟨by rfl, ?_⟩) hHeld ?_
                      rotate_left
                      · (intro wq hSw; go_simp; try with_reducible rfl)
                      simp only [Act.put, List.setIfInBounds_toArray, List.set_cons_zero, List.set_cons_succ]
                      refine wpAnyH_ready (rs := [14]) (by kernel_rfl) (by simp) ?_
                      refine AllReadyH.cons (o := ⟨none, .store 30 (.tmp 16) (.tmp 73), _, _, _, none⟩) rfl (fun K hK => ?_) ?_
                      · refine step_store (by rfl) _ _ _ (by rfl) _ cs9 (by rfl) (by rfl) _ _ hA (msg_size cs9 hs9) (by rw [hs9]; rfl) ho9 ?_
                        intro u6 h6 b6 n6 z6
                        have s6 : Below wc.heap.size wc u6 := hHeld.trans (b6 _ (by first | exact hAw | omega))
                        refine hK.out _ _ ?_ (fun hHeld => ?_)
                        · exact s6
                        clear hK K
                        try simp only [Act.put]
                        refine wpAnyH_take (i := 15) (oi := ⟨some 17, .assign (.tmp 74), _, _, _, none⟩) (v := ?_) rfl (by kernel_rfl) (by kernel_rfl) (by kernel_rfl) (fun _ _ _ h => h) (Or.inl ⟨by rfl, ?_⟩) hHeld ?_
                        rotate_left
                        · (intro wq hSw; go_simp; try with_reducible rfl)
                        simp only [Act.put, List.setIfInBounds_toArray, List.set_cons_zero, List.set_cons_succ]
                        refine wpAnyH_done (by kernel_rfl) ?_ _
                        refine NoPanic.normal ?_
                        go_wp2
                        go_meet
                        case rel => exact ⟨rfl, s6⟩
                      exact AllReadyH.nil
                    exact AllReadyH.nil
                  exact AllReadyH.nil
                exact AllReadyH.nil
              refine AllReadyH.cons (o := ⟨some 70, .buildSlice 22 1 #[(0, .tmp 69)], _, _, _, none⟩) rfl (fun K hK => ?_) ?_
              · go_simp
                refine hK.out _ _ ?_ (fun hHeld => ?_)
                · exact hHeld.alloc hHeld.size _
                clear hK K
                try simp only [Act.put, List.setIfInBounds_toArray, List.set_cons_zero, List.set_cons_succ]
                try replace hA := alloc_keep hHeld hA
                try replace hL := sl_alloc hHeld hL
                try replace ho5 := own_alloc hHeld ho5
                try replace ho8 := own_alloc hHeld ho8
                have hL := by first | exact lit_of hHeld cx rfl | exact lit_of' hHeld cx rfl
                try simp only [World.size_alloc] at hL
                refine wpAnyH_ready (rs := [5]) (by kernel_rfl) (by simp) ?_
                refine AllReadyH.cons (o := ⟨some 68, .call ⟨.builtin .append, #[.tmp 66, .tmp 67], #[22, 22]⟩, _, _, _, none⟩) rfl (fun K hK => ?_) ?_
                · refine step_app0 (by rfl) _ _ (by rfl) _ (by rfl) (by rfl) (HX7.out.mono hHeld) (by omega) (Nat.le_refl _) ?_
                  intro q5 d5 v5 ho5 k5
                  obtain ⟨g5, o5, hq5, hB5, hlt5, _⟩ := ho5.room 0 (by have := ho5.sl.hle; omega)
                  have HQ5 := hide hq5
                  clear hq5
                  have s5 : Below wc.heap.size wc v5 := hHeld.trans (k5.mono hHeld.size)
                  have hW5 := hHeld.size
                  try (have hAn := Nat.ne_of_lt (Nat.lt_of_lt_of_le (lt_of_block hA) hB5))
                  try replace hA := (k5.block _ (lt_of_block hA)).trans hA
                  try replace hL := hL.mono k5
                  refine hK.out _ _ ?_ (fun hHeld => ?_)
                  · exact s5
                  clear hK K
                  try simp only [Act.put, List.setIfInBounds_toArray, List.set_cons_zero, List.set_cons_succ]
                  refine wpAnyH_ready (rs := [8]) (by kernel_rfl) (by simp) ?_
                  refine AllReadyH.cons (o := ⟨some 71, .call ⟨.builtin .append, #[.tmp 68, .tmp 70], #[22, 22]⟩, _, _, _, none⟩) rfl (fun K hK => ?_) ?_
                  · refine step_app_but (by rfl) _ _ (by rfl) _ (by rfl) ho5 (by rfl) hL (by omega) (by first | exact k5.size | exact Nat.le_trans k5.size (by simp <;> omega) | (have := k5.size; simp at this ⊢; omega)) g5 (fun b off h => by rw [HQ5.out] at h; cases h; rfl) ?_
                    intro q8 d8 v8 ho8 k8 u8
                    have s8 : Below wc.heap.size wc v8 := hHeld.trans (k8.mono hW5)
                    try replace hA := (u8.block _ (lt_of_block hA) hAn).trans hA
                    refine hK.out _ _ ?_ (fun hHeld => ?_)
                    · exact s8
                    clear hK K
                    try simp only [Act.put, List.setIfInBounds_toArray, List.set_cons_zero, List.set_cons_succ]
                    refine wpAnyH_ready (rs := [9]) (by kernel_rfl) (by simp) ?_
                    refine AllReadyH.cons (o := ⟨some 72, .call ⟨.value (.func 12), #[.tmp 63, .tmp 65, .tmp 71], #[3, 5, 22]⟩, _, _, _, none⟩) rfl (fun K hK => ?_) ?_
                    · go_simp
                      refine (Mei.code_parse _ m1.code _ _ _ (b ++ [cx]) _ ho8.sl (by omega)).mono ?_
                      rintro e v9 ⟨⟨y9, rfl, hm9⟩, hb9⟩
                      obtain ⟨cs9, rfl, hs9, ho9, _⟩ := hm9.agg
                      rw [HMore.out]
                      have s9 : Below wc.heap.size wc v9 := below_next hHeld hb9 (Nat.le_refl _)
                      try replace hA := (hb9.block _ (lt_of_block hA)).trans hA
                      refine hK.out _ _ ?_ (fun hHeld => ?_)
                      · exact s9
                      clear hK K
                      try simp only [Act.put, List.setIfInBounds_toArray, List.set_cons_zero, List.set_cons_succ]
                      refine wpAnyH_take (i := 10) (oi := ⟨some 62, .move (.tmp 72), _, _, _, none⟩) (v := ?_) rfl (by kernel_rfl) (by kernel_rfl) (by kernel_rfl) (fun _ _ _ h => h) (Or.inl ⟨by rfl, ?_⟩) hHeld ?_
                      rotate_left
                      · (intro wq hSw; go_simp; try with_reducible rfl)
                      simp only [Act.put, List.setIfInBounds_toArray, List.set_cons_zero, List.set_cons_succ]
                      refine wpAnyH_take (i := 11) (oi := ⟨some 73, .extract (.tmp 62) 0, _, _, _, none⟩) (v := ?_) rfl (by kernel_rfl) (by kernel_rfl) (by kernel_rfl) (fun _ _ _ h => h) (Or.inl ⟨by rfl, ?_⟩) hHeld ?_
                      rotate_left
                      · (intro wq hSw; go_simp; try with_reducible rfl)
                      simp only [Act.put, List.setIfInBounds_toArray, List.set_cons_zero, List.set_cons_succ]
                      refine wpAnyH_take (i := 12) (oi := ⟨some 74, .extract (.tmp 62) 1, _, _, _, none⟩) (v := ?_) rfl (by kernel_rfl) (by kernel_rfl) (by kernel_rfl) (fun _ _ _ h => h) (Or.inl ⟨by rfl, ?_⟩) hHeld ?_
                      rotate_left
                      · (intro wq hSw; go_simp; try with_reducible rfl)
                      simp only [Act.put, List.setIfInBounds_toArray, List.set_cons_zero, List.set_cons_succ]
                      refine wpAnyH_ready (rs := [14]) (by kernel_rfl) (by simp) ?_
                      refine AllReadyH.cons (o := ⟨none, .store 30 (.tmp 16) (.tmp 73), _, _, _, none⟩) rfl (fun K hK => ?_) ?_
                      · refine step_store (by rfl) _ _ _ (by rfl) _ cs9 (by rfl) (by rfl) _ _ hA (msg_size cs9 hs9) (by rw [hs9]; rfl) ho9 ?_
                        intro u6 h6 b6 n6 z6
                        have s6 : Below wc.heap.size wc u6 := hHeld.trans (b6 _ (by first | exact hAw | omega))
                        refine hK.out _ _ ?_ (fun hHeld => ?_)
                        · exact s6
                        clear hK K
                        try simp only [Act.put]
                        refine wpAnyH_take (i := 15) (oi := ⟨some 17, .assign (.tmp 74), _, _, _, none⟩) (v := ?_) rfl (by kernel_rfl) (by kernel_rfl) (by kernel_rfl) (fun _ _ _ h => h) (Or.inl ⟨by rfl, ?_⟩) hHeld ?_
                        rotate_left
                        · (intro wq hSw; go_simp; try with_reducible rfl)
                        simp only [Act.put, List.setIfInBounds_toArray, List.set_cons_zero, List.set_cons_succ]
                        refine wpAnyH_done (by kernel_rfl) ?_ _
                        refine NoPanic.normal ?_
                        go_wp2
                        go_meet
                        case rel => exact ⟨rfl, s6⟩
                      exact AllReadyH.nil
                    exact AllReadyH.nil
                  exact AllReadyH.nil
                exact AllReadyH.nil
              exact AllReadyH.nil
            refine AllReadyH.cons (o := ⟨some 70, .buildSlice 22 1 #[(0, .tmp 69)], _, _, _, none⟩) rfl (fun K hK => ?_) ?_
            · go_simp
              refine hK.out _ _ ?_ (fun hHeld => ?_)
              · exact hHeld.alloc hHeld.size _
              clear hK K
              try simp only [Act.put, List.setIfInBounds_toArray, List.set_cons_zero, List.set_cons_succ]
              try replace hA := alloc_keep hHeld hA
              try replace hL := sl_alloc hHeld hL
              try replace ho5 := own_alloc hHeld ho5
              try replace ho8 := own_alloc hHeld ho8
              have hL := by first | exact lit_of hHeld cx rfl | exact lit_of' hHeld cx rfl
              try simp only [World.size_alloc] at hL
              refine wpAnyH_ready (rs := [3]) (by kernel_rfl) (by simp) ?_
              refine AllReadyH.cons (o := ⟨some 66, .buildSlice 22 0 #[], _, _, _, none⟩) rfl (fun K hK => ?_) ?_
              · go_simp
                refine hK.out _ _ ?_ (fun hHeld => ?_)
                · exact hHeld.alloc hHeld.size _
                clear hK K
                try simp only [Act.put, List.setIfInBounds_toArray, List.set_cons_zero, List.set_cons_succ]
                try replace hA := alloc_keep hHeld hA
                try replace hL := sl_alloc hHeld hL
                try replace ho5 := own_alloc hHeld ho5
                try replace ho8 := own_alloc hHeld ho8
                refine wpAnyH_ready (rs := [5]) (by kernel_rfl) (by simp) ?_
                refine AllReadyH.cons (o := ⟨some 68, .call ⟨.builtin .append, #[.tmp 66, .tmp 67], #[22, 22]⟩, _, _, _, none⟩) rfl (fun K hK => ?_) ?_
                · refine step_app0 (by rfl) _ _ (by rfl) _ (by rfl) (by rfl) (HX7.out.mono hHeld) (by omega) (Nat.le_refl _) ?_
                  intro q5 d5 v5 ho5 k5
                  obtain ⟨g5, o5, hq5, hB5, hlt5, _⟩ := ho5.room 0 (by have := ho5.sl.hle; omega)
                  have HQ5 := hide hq5
                  clear hq5
                  have s5 : Below wc.heap.size wc v5 := hHeld.trans (k5.mono hHeld.size)
                  have hW5 := hHeld.size
                  try (have hAn := Nat.ne_of_lt (Nat.lt_of_lt_of_le (lt_of_block hA) hB5))
                  try replace hA := (k5.block _ (lt_of_block hA)).trans hA
                  try replace hL := hL.mono k5
                  refine hK.out _ _ ?_ (fun hHeld => ?_)
                  · exact s5
                  clear hK K
                  try simp only [Act.put, List.setIfInBounds_toArray, List.set_cons_zero, List.set_cons_succ]
                  refine wpAnyH_ready (rs := [8]) (by kernel_rfl) (by simp) ?_
                  refine AllReadyH.cons (o := ⟨some 71, .call ⟨.builtin .append, #[.tmp 68, .tmp 70], #[22, 22]⟩, _, _, _, none⟩) rfl (fun K hK => ?_) ?_
                  · refine step_app_but (by rfl) _ _ (by rfl) _ (by rfl) ho5 (by rfl) hL (by omega) (by first | exact k5.size | exact Nat.le_trans k5.size (by simp <;> omega) | (have := k5.size; simp at this ⊢; omega)) g5 (fun b off h => by rw [HQ5.out] at h; cases h; rfl) ?_
                    intro q8 d8 v8 ho8 k8 u8
                    have s8 : Below wc.heap.size wc v8 := hHeld.trans (k8.mono hW5)
                    try replace hA := (u8.block _ (lt_of_block hA) hAn).trans hA
                    refine hK.out _ _ ?_ (fun hHeld => ?_)
                    · exact s8
                    clear hK K
                    try simp only [Act.put, List.setIfInBounds_toArray, List.set_cons_zero, List.set_cons_succ]
                    refine wpAnyH_ready (rs := [9]) (by kernel_rfl) (by simp) ?_
                    refine AllReadyH.cons (o := ⟨some 72, .call ⟨.value (.func 12), #[.tmp 63, .tmp 65, .tmp 71], #[3, 5, 22]⟩, _, _, _, none⟩) rfl (fun K hK => ?_) ?_
                    · go_simp
                      refine (Mei.code_parse _ m1.code _ _ _ (b ++ [cx]) _ ho8.sl (by omega)).mono ?_
                      rintro e v9 ⟨⟨y9, rfl, hm9⟩, hb9⟩
                      obtain ⟨cs9, rfl, hs9, ho9, _⟩ := hm9.agg
                      rw [HMore.out]
                      have s9 : Below wc.heap.size wc v9 := below_next hHeld hb9 (Nat.le_refl _)
                      try replace hA := (hb9.block _ (lt_of_block hA)).trans hA
                      refine hK.out _ _ ?_ (fun hHeld => ?_)
                      · exact s9
                      clear hK K
                      try simp only [Act.put, List.setIfInBounds_toArray, List.set_cons_zero, List.set_cons_succ]
                      refine wpAnyH_take (i := 10) (oi := ⟨some 62, .move (.tmp 72), _, _, _, none⟩) (v := ?_) rfl (by kernel_rfl) (by kernel_rfl) (by kernel_rfl) (fun _ _ _ h => h) (Or.inl ⟨by rfl, ?_⟩) hHeld ?_
                      rotate_left
                      · (intro wq hSw; go_simp; try with_reducible rfl)
                      simp only [Act.put, List.setIfInBounds_toArray, List.set_cons_zero, List.set_cons_succ]
                      refine wpAnyH_take (i := 11) (oi := ⟨some 73, .extract (.tmp 62) 0, _, _, _, none⟩) (v := ?_) rfl (by kernel_rfl) (by kernel_rfl) (by kernel_rfl) (fun _ _ _ h => h) (Or.inl ⟨by rfl, ?_⟩) hHeld ?_
                      rotate_left
                      · (intro wq hSw; go_simp; try with_reducible rfl)
                      simp only [Act.put, List.setIfInBounds_toArray, List.set_cons_zero, List.set_cons_succ]
                      refine wpAnyH_take (i := 12) (oi := ⟨some 74, .extract (.tmp 62) 1, _, _, _, none⟩) (v := ?_) rfl (by kernel_rfl) (by kernel_rfl) (by kernel_rfl) (fun _ _ _ h => h) (Or.inl ⟨by rfl, ?_⟩) hHeld ?_
                      rotate_left
                      · (intro wq hSw; go_simp; try with_reducible rfl)
                      simp only [Act.put, List.setIfInBounds_toArray, List.set_cons_zero, List.set_cons_succ]
                      refine wpAnyH_ready (rs := [14]) (by kernel_rfl) (by simp) ?_
                      refine AllReadyH.cons (o := ⟨none, .store 30 (.tmp 16) (.tmp 73), _, _, _, none⟩) rfl (fun K hK => ?_) ?_
                      · refine step_store (by rfl) _ _ _ (by rfl) _ cs9 (by rfl) (by rfl) _ _ hA (msg_size cs9 hs9) (by rw [hs9]; rfl) ho9 ?_
                        intro u6 h6 b6 n6 z6
                        have s6 : Below wc.heap.size wc u6 := hHeld.trans (b6 _ (by first | exact hAw | omega))
                        refine hK.out _ _ ?_ (fun hHeld => ?_)
                        · exact s6
                        clear hK K
                        try simp only [Act.put]
                        refine wpAnyH_take (i := 15) (oi := ⟨some 17, .assign (.tmp 74), _, _, _, none⟩) (v := ?_) rfl (by kernel_rfl) (by kernel_rfl) (by kernel_rfl) (fun _ _ _ h => h) (Or.inl ⟨by rfl, ?_⟩) hHeld ?_
                        rotate_left
                        · (intro wq hSw; go_simp; try with_reducible rfl)
                        simp only [Act.put, List.setIfInBounds_toArray, List.set_cons_zero, List.set_cons_succ]
                        refine wpAnyH_done (by kernel_rfl) ?_ _
                        refine NoPanic.normal ?_
                        go_wp2
                        go_meet
                        case rel => exact ⟨rfl, s6⟩
                      exact AllReadyH.nil
                    exact AllReadyH.nil
                  exact AllReadyH.nil
                exact AllReadyH.nil
              exact AllReadyH.nil
            exact AllReadyH.nil
          exact AllReadyH.nil
        case rest =>
          obtain ⟨rfl, hb8⟩ := hcut
          have HB8 := hide (HB7.out.trans (hb8.mono (Nat.le_of_lt hzc)))
          go_wp2
          go_ret
          exact ⟨rfl, by rw [hr]; exact HB8.out⟩
  · go_wp2_with ((with_reducible (show wpList _ _ _ ({ dst := _, op := Op.load _ _, type := _, pos := _, after := _, guard := _ } :: _) _ _)); refine wpList_load_rowG (by rfl) 30 _ rfl r rfl cs (load_whole e1 hsz) ?_)
    refine (Mei.code_write 1 _ m1 _ HM.out hs).mono ?_
    rintro e u3 ⟨⟨a3, l3, c3, rfl, hx3⟩, b3⟩
    clear k16
    replace HB := hide (HB.out.trans (b3.mono (Nat.le_of_lt (lt_of_block e1))))
    replace e1 := (b3.block r (lt_of_block e1)).trans e1
    have HF : Hid (∀ b, Mei.write 1 m1 = some b → 0 < b.length ∧ b.length ≤ 90000 ∧ (∀ k, k < b.length → (Mei.parse 1 m1.code (b.take k)).2 = 2) ∧ (∀ x, (Mei.parse 1 m1.code (b ++ [x])).2 = 3)) := hide (fun b h => ⟨Mei.pos h, Mei.write_len h, Mei.cut HN.out h, Mei.more HN.out h⟩)
    have HX3 := hide hx3
    clear b3 hx3
    generalize Mei.write 1 m1 = R at *
    cases R with
    | none =>
      have q1 : Mei.errW none = 1 := rfl
      rw [q1]
      clear HF HX3 q1
      go_wp2
      go_ret
      exact ⟨rfl, by rw [hr]; exact HB.out⟩
    | some b =>
      obtain ⟨hp, hpl, hcut, hmore⟩ := HF.out b rfl
      have q1 : Mei.errW (some b) = 0 := rfl
      rw [q1]
      replace HX3 : Hid (Bs u3 a3 l3 c3 b) := HX3
      have hl3 : Hid (b.length = l3) := hide HX3.out.hlen
      rw [hl3.out] at hp hpl hcut
      obtain ⟨bb, ob, hbb, _, _⟩ := HX3.out.at hp
      subst hbb
      have hm3 := HX3.out.hle
      have hm4 := HX3.out.hmax
      unfold maxLen at hm4
      have k6 : u3.cell? ⟨r, 0, none⟩ = some (byteV m1.code) := (cell_of_row u3 r 0 _ _ _ e1).trans HC0.out
      have hzr : r < u3.heap.size := lt_of_block e1
      generalize hpp : at2.toNat = p at *
      obtain ⟨k, hk⟩ : ∃ k, k = p % l3 := ⟨_, rfl⟩
      have hkl : k < l3 := by rw [hk]; exact Nat.mod_lt _ hp
      have HXC := hide (HX3.out.take k (Nat.le_of_lt hkl))
      have HCut := hide (hcut k hkl)
      have HMore := hide (hmore cx)
      have i0 : ((l3 : Int) == 0) = false := by simp; omega
      have i8 : ¬ l3 = 0 := by omega
      have i9 : ¬ c3 = 0 := by omega
      have i1 : ¬ ((l3 : Int) = 0) := by omega
      have i2 : (p : Int) % (l3 : Int) = (k : Int) := by rw [hk]; rfl
      have i3 : (k : Int) ≤ (c3 : Int) := by omega
      have i4 : (0 : Int) ≤ (k : Int) := by omega
      have i5 : Int.tmod (p : Int) (l3 : Int) = (k : Int) := by rw [hk]; rfl
      have i6 : IntKind.i64.wrap (p : Int) = (p : Int) := by rw [IntKind.wrap_i64]; omega
      have i7 : IntKind.i64.wrap (k : Int) = (k : Int) := by rw [IntKind.wrap_i64]; omega
      clear hk HF q1 hpp hcut hmore hs HM e1
      go_upto_region 11 with fail
      go_cut [15] (fun s wx => s = .int .i64 2 ∧ Below u3.heap.size u3 wx)
      case first =>
        refine wp_region_noPanic ?_
        refine wp_region_held_drew (S := fun w' => Below u3.heap.size u3 w') (by kernel_rfl) ((Below.refl _ _).drew) (fun hHeld => ?_)
        refine wpAnyH_take (i := 0) (oi := ⟨some 49, .move (.tmp 11), _, _, _, none⟩) (v := ?_) rfl (by kernel_rfl) (by kernel_rfl) (by kernel_rfl) (fun _ _ _ h => h) (Or.inl ⟨by rfl, ?_⟩) hHeld ?_
        rotate_left
        · (intro wq hSw; go_simp; try with_reducible rfl)
        simp only [Act.put, List.setIfInBounds_toArray, List.set_cons_zero, List.set_cons_succ]
        refine wpAnyH_take (i := 1) (oi := ⟨some 50, .fieldAddr 30 (.tmp 5) 0, _, _, _, none⟩) (v := ?_) rfl (by kernel_rfl) (by kernel_rfl) (by kernel_rfl) (fun _ _ _ h => h) (Or.inl ⟨by rfl, ?_⟩) hHeld ?_
        rotate_left
        · (intro wq hSw; go_simp; try with_reducible rfl)
        simp only [Act.put, List.setIfInBounds_toArray, List.set_cons_zero, List.set_cons_succ]
        refine wpAnyH_take (i := 2) (oi := ⟨some 51, .load 5 (.tmp 50), _, _, _, none⟩) (v := ?_) rfl (by kernel_rfl) (by kernel_rfl) (by kernel_rfl) (fun _ _ _ h => h) (Or.inl ⟨by rfl, ?_⟩) hHeld ?_
        rotate_left
        · (intro wq hSw; have hcv := (hSw.cell (p := ⟨r, 0, none⟩) hzr).trans k6; go_simp; try with_reducible rfl)
        simp only [Act.put, List.setIfInBounds_toArray, List.set_cons_zero, List.set_cons_succ]
        refine wpAnyH_take (i := 3) (oi := ⟨some 52, .move (.tmp 12), _, _, _, none⟩) (v := ?_) rfl (by kernel_rfl) (by kernel_rfl) (by kernel_rfl) (fun _ _ _ h => h) (Or.inl ⟨by rfl, ?_⟩) hHeld ?_
        rotate_left
        · (intro wq hSw; go_simp; try with_reducible rfl)
        simp only [Act.put, List.setIfInBounds_toArray, List.set_cons_zero, List.set_cons_succ]
        refine wpAnyH_take (i := 4) (oi := ⟨some 53, .move (.tmp 2), _, _, _, none⟩) (v := ?_) rfl (by kernel_rfl) (by kernel_rfl) (by kernel_rfl) (fun _ _ _ h => h) (Or.inl ⟨by rfl, ?_⟩) hHeld ?_
        rotate_left
        · (intro wq hSw; go_simp; try with_reducible rfl)
        simp only [Act.put, List.setIfInBounds_toArray, List.set_cons_zero, List.set_cons_succ]
        refine wpAnyH_take (i := 5) (oi := ⟨some 54, .convert 24 3 (.tmp 53), _, _, _, none⟩) (v := ?_) rfl (by kernel_rfl) (by kernel_rfl) (by kernel_rfl) (fun _ _ _ h => h) (Or.inl ⟨by rfl, ?_⟩) hHeld ?_
        rotate_left
        · (intro wq hSw; go_simp; try with_reducible rfl)
        simp only [Act.put, List.setIfInBounds_toArray, List.set_cons_zero, List.set_cons_succ]
        refine wpAnyH_take (i := 6) (oi := ⟨some 55, .move (.tmp 12), _, _, _, none⟩) (v := ?_) rfl (by kernel_rfl) (by kernel_rfl) (by kernel_rfl) (fun _ _ _ h => h) (Or.inl ⟨by rfl, ?_⟩) hHeld ?_
        rotate_left
        · (intro wq hSw; go_simp; try with_reducible rfl)
        simp only [Act.put, List.setIfInBounds_toArray, List.set_cons_zero, List.set_cons_succ]
        refine wpAnyH_take (i := 7) (oi := ⟨some 56, .call ⟨.builtin .len, #[.tmp 55], #[22]⟩, _, _, _, none⟩) (v := ?_) rfl (by kernel_rfl) (by kernel_rfl) (by kernel_rfl) (fun _ _ _ h => h) (Or.inl ⟨by rfl, ?_⟩) hHeld ?_
        rotate_left
        · (intro wq hSw; go_simp; try with_reducible rfl)
        simp only [Act.put, List.setIfInBounds_toArray, List.set_cons_zero, List.set_cons_succ]
        refine wpAnyH_take (i := 8) (oi := ⟨some 57, .binOp .rem 3 (.tmp 54) (.tmp 56) 3, _, _, _, none⟩) (v := ?_) rfl (by kernel_rfl) (by kernel_rfl) (by kernel_rfl) (fun _ _ _ h => h) (Or.inl ⟨by rfl, ?_⟩) hHeld ?_
        rotate_left
        · (intro wq hSw; go_simp; try with_reducible rfl)
        simp only [Act.put, List.setIfInBounds_toArray, List.set_cons_zero, List.set_cons_succ]
        refine wpAnyH_take (i := 9) (oi := ⟨some 58, .slice 22 (.tmp 52) none (some (.tmp 57)) none, _, _, _, none⟩) (v := ?_) rfl (by kernel_rfl) (by kernel_rfl) (by kernel_rfl) (fun _ _ _ h => h) (Or.inl ⟨by rfl, ?_⟩) hHeld ?_
        rotate_left
        · (intro wq hSw; go_simp; try with_reducible rfl)
        simp only [Act.put, List.setIfInBounds_toArray, List.set_cons_zero, List.set_cons_succ]
        refine wpAnyH_ready (rs := [10, 14]) (by kernel_rfl) (by simp) ?_
        refine AllReadyH.cons (o := ⟨some 59, .call ⟨.value (.func 12), #[.tmp 49, .tmp 51, .tmp 58], #[3, 5, 22]⟩, _, _, _, none⟩) rfl (fun K hK => ?_) ?_
        · go_simp
          refine (Mei.code_parse _ m1.code _ k _ (b.take k) _ (HXC.out.mono hHeld) (by omega)).mono ?_
          rintro e u5 ⟨⟨v5, rfl, hm5⟩, hb5⟩
          obtain ⟨cs5, rfl, hs5, ho5, _⟩ := hm5.agg
          rw [HCut.out]
          have s5 : Below u3.heap.size u3 u5 := below_next hHeld hb5 (Nat.le_refl _)
          refine hK.out _ _ ?_ (fun hHeld => ?_)
          · exact s5
          clear hK K
          try simp only [Act.put, List.setIfInBounds_toArray, List.set_cons_zero, List.set_cons_succ]
          refine wpAnyH_take (i := 11) (oi := ⟨some 48, .move (.tmp 59), _, _, _, none⟩) (v := ?_) rfl (by kernel_rfl) (by kernel_rfl) (by kernel_rfl) (fun _ _ _ h => h) (Or.inl ⟨by rfl, ?_⟩) hHeld ?_
          rotate_left
          · (intro wq hSw; go_simp; try with_reducible rfl)
          simp only [Act.put, List.setIfInBounds_toArray, List.set_cons_zero, List.set_cons_succ]
          refine wpAnyH_take (i := 12) (oi := ⟨some 60, .extract (.tmp 48) 0, _, _, _, none⟩) (v := ?_) rfl (by kernel_rfl) (by kernel_rfl) (by kernel_rfl) (fun _ _ _ h => h) (Or.inl ⟨by rfl, ?_⟩) hHeld ?_
          rotate_left
          · (intro wq hSw; go_simp; try with_reducible rfl)
          simp only [Act.put, List.setIfInBounds_toArray, List.set_cons_zero, List.set_cons_succ]
          refine wpAnyH_take (i := 13) (oi := ⟨some 61, .extract (.tmp 48) 1, _, _, _, none⟩) (v := ?_) rfl (by kernel_rfl) (by kernel_rfl) (by kernel_rfl) (fun _ _ _ h => h) (Or.inl ⟨by rfl, ?_⟩) hHeld ?_
          rotate_left
          · (intro wq hSw; go_simp; try with_reducible rfl)
          simp only [Act.put, List.setIfInBounds_toArray, List.set_cons_zero, List.set_cons_succ]
          refine wpAnyH_ready (rs := [14]) (by kernel_rfl) (by simp) ?_
          refine AllReadyH.cons (o := ⟨some 14, .alloc 30, _, _, _, none⟩) rfl (fun K hK => ?_) ?_
          · go_simp
            refine hK.out _ _ ?_ (fun hHeld => ?_)
            · exact hHeld.alloc hHeld.size _
            clear hK K
            try simp only [Act.put, List.setIfInBounds_toArray, List.set_cons_zero, List.set_cons_succ]
            refine wpAnyH_ready (rs := [15]) (by kernel_rfl) (by simp) ?_
            refine AllReadyH.cons (o := ⟨none, .store 30 (.tmp 14) (.tmp 60), _, _, _, none⟩) rfl (fun K hK => ?_) ?_
            · refine step_store (by rfl) _ _ _ (by rfl) _ cs5 (by rfl) (by rfl) _ _ (by first | exact heap_alloc_new _ _ | exact (hb5.block _ (by simp)).trans (heap_alloc_new _ _)) (msg_size cs5 hs5) (by rw [hs5]; rfl) ho5 ?_
              intro u6 h6 b6 n6 z6
              have s6 : Below u3.heap.size u3 u6 := hHeld.trans (b6 _ (by first | exact s5.size | exact Nat.le_refl _ | (simp; done)))
              refine hK.out _ _ ?_ (fun hHeld => ?_)
              · exact s6
              clear hK K
              try simp only [Act.put]
              refine wpAnyH_take (i := 16) (oi := ⟨some 15, .assign (.tmp 61), _, _, _, none⟩) (v := ?_) rfl (by kernel_rfl) (by kernel_rfl) (by kernel_rfl) (fun _ _ _ h => h) (Or.inl ⟨by rfl, ?_⟩) hHeld ?_
              rotate_left
              · (intro wq hSw; go_simp; try with_reducible rfl)
              simp only [Act.put, List.setIfInBounds_toArray, List.set_cons_zero, List.set_cons_succ]
              refine wpAnyH_done (by kernel_rfl) ?_ _
              refine NoPanic.normal ?_
              go_wp2
              go_meet
              case rel => exact ⟨rfl, s6⟩
            exact AllReadyH.nil
          exact AllReadyH.nil
        refine AllReadyH.cons (o := ⟨some 14, .alloc 30, _, _, _, none⟩) rfl (fun K hK => ?_) ?_
        · go_simp
          refine hK.out _ _ ?_ (fun hHeld => ?_)
          · exact hHeld.alloc hHeld.size _
          clear hK K
          try simp only [Act.put, List.setIfInBounds_toArray, List.set_cons_zero, List.set_cons_succ]
          refine wpAnyH_ready (rs := [10]) (by kernel_rfl) (by simp) ?_
          refine AllReadyH.cons (o := ⟨some 59, .call ⟨.value (.func 12), #[.tmp 49, .tmp 51, .tmp 58], #[3, 5, 22]⟩, _, _, _, none⟩) rfl (fun K hK => ?_) ?_
          · go_simp
            refine (Mei.code_parse _ m1.code _ k _ (b.take k) _ (HXC.out.mono hHeld) (by omega)).mono ?_
            rintro e u5 ⟨⟨v5, rfl, hm5⟩, hb5⟩
            obtain ⟨cs5, rfl, hs5, ho5, _⟩ := hm5.agg
            rw [HCut.out]
            have s5 : Below u3.heap.size u3 u5 := below_next hHeld hb5 (Nat.le_refl _)
            refine hK.out _ _ ?_ (fun hHeld => ?_)
            · exact s5
            clear hK K
            try simp only [Act.put, List.setIfInBounds_toArray, List.set_cons_zero, List.set_cons_succ]
            refine wpAnyH_take (i := 11) (oi := ⟨some 48, .move (.tmp 59), _, _, _, none⟩) (v := ?_) rfl (by kernel_rfl) (by kernel_rfl) (by kernel_rfl) (fun _ _ _ h => h) (Or.inl ⟨by rfl, ?_⟩) hHeld ?_
            rotate_left
            · (intro wq hSw; go_simp; try with_reducible rfl)
            simp only [Act.put, List.setIfInBounds_toArray, List.set_cons_zero, List.set_cons_succ]
            refine wpAnyH_take (i := 12) (oi := ⟨some 60, .extract (.tmp 48) 0, _, _, _, none⟩) (v := ?_) rfl (by kernel_rfl) (by kernel_rfl) (by kernel_rfl) (fun _ _ _ h => h) (Or.inl ⟨by rfl, ?_⟩) hHeld ?_
            rotate_left
            · (intro wq hSw; go_simp; try with_reducible rfl)
            simp only [Act.put, List.setIfInBounds_toArray, List.set_cons_zero, List.set_cons_succ]
            refine wpAnyH_take (i := 13) (oi := ⟨some 61, .extract (.tmp 48) 1, _, _, _, none⟩) (v := ?_) rfl (by kernel_rfl) (by kernel_rfl) (by kernel_rfl) (fun _ _ _ h => h) (Or.inl ⟨by rfl, ?_⟩) hHeld ?_
            rotate_left
            · (intro wq hSw; go_simp; try with_reducible rfl)
            simp only [Act.put, List.setIfInBounds_toArray, List.set_cons_zero, List.set_cons_succ]
            refine wpAnyH_ready (rs := [15]) (by kernel_rfl) (by simp) ?_
            refine AllReadyH.cons (o := ⟨none, .store 30 (.tmp 14) (.tmp 60), _, _, _, none⟩) rfl (fun K hK => ?_) ?_
            · refine step_store (by rfl) _ _ _ (by rfl) _ cs5 (by rfl) (by rfl) _ _ (by first | exact heap_alloc_new _ _ | exact (hb5.block _ (by simp)).trans (heap_alloc_new _ _)) (msg_size cs5 hs5) (by rw [hs5]; rfl) ho5 ?_
              intro u6 h6 b6 n6 z6
              have s6 : Below u3.heap.size u3 u6 := hHeld.trans (b6 _ (by first | exact s5.size | exact Nat.le_refl _ | (simp; done)))
              refine hK.out _ _ ?_ (fun hHeld => ?_)
              · exact s6
              clear hK K
              try simp only [Act.put]
              refine wpAnyH_take (i := 16) (oi := ⟨some 15, .assign (.tmp 61), _, _, _, none⟩) (v := ?_) rfl (by kernel_rfl) (by kernel_rfl) (by kernel_rfl) (fun _ _ _ h => h) (Or.inl ⟨by rfl, ?_⟩) hHeld ?_
              rotate_left
              · (intro wq hSw; go_simp; try with_reducible rfl)
              simp only [Act.put, List.setIfInBounds_toArray, List.set_cons_zero, List.set_cons_succ]
              refine wpAnyH_done (by kernel_rfl) ?_ _
              refine NoPanic.normal ?_
              go_wp2
              go_meet
              case rel => exact ⟨rfl, s6⟩
            exact AllReadyH.nil
          exact AllReadyH.nil
        exact AllReadyH.nil
      case rest =>
        obtain ⟨rfl, hb7⟩ := hcut
        have HX7 := hide (HX3.out.mono hb7)
        have k7 : wc.cell? ⟨r, 0, none⟩ = some (byteV m1.code) := (hb7.cell (p := ⟨r, 0, none⟩) hzr).trans k6
        have HB7 := hide (HB.out.trans (hb7.mono (Nat.le_of_lt hzr)))
        have hzc : r < wc.heap.size := Nat.lt_of_lt_of_le hzr hb7.size
        clear HX3 HXC HCut HB hb7 k6 i0 i1 i2 i3 i4 i5 i6 i7 hzr
        go_upto_region 12 with fail
        go_cut [17] (fun s wx => s = .int .i64 3 ∧ Below wc.heap.size wc wx)
        case first =>
          refine wp_region_noPanic ?_
          refine wp_region_held_drew (S := fun w' => Below wc.heap.size wc w') (by kernel_rfl) ((Below.refl _ _).drew) (fun hHeld => ?_)
          refine wpAnyH_take (i := 0) (oi := ⟨some 63, .move (.tmp 11), _, _, _, none⟩) (v := ?_) rfl (by kernel_rfl) (by kernel_rfl) (by kernel_rfl) (fun _ _ _ h => h) (Or.inl ⟨by rfl, ?_⟩) hHeld ?_
          rotate_left
          · (intro wq hSw; go_simp; try with_reducible rfl)
          simp only [Act.put, List.setIfInBounds_toArray, List.set_cons_zero, List.set_cons_succ]
          refine wpAnyH_take (i := 1) (oi := ⟨some 64, .fieldAddr 30 (.tmp 5) 0, _, _, _, none⟩) (v := ?_) rfl (by kernel_rfl) (by kernel_rfl) (by kernel_rfl) (fun _ _ _ h => h) (Or.inl ⟨by rfl, ?_⟩) hHeld ?_
          rotate_left
          · (intro wq hSw; go_simp; try with_reducible rfl)
          simp only [Act.put, List.setIfInBounds_toArray, List.set_cons_zero, List.set_cons_succ]
          refine wpAnyH_take (i := 2) (oi := ⟨some 65, .load 5 (.tmp 64), _, _, _, none⟩) (v := ?_) rfl (by kernel_rfl) (by kernel_rfl) (by kernel_rfl) (fun _ _ _ h => h) (Or.inl ⟨by rfl, ?_⟩) hHeld ?_
          rotate_left
          · (intro wq hSw; have hcv := (hSw.cell (p := ⟨r, 0, none⟩) hzc).trans k7; go_simp; try with_reducible rfl)
          simp only [Act.put, List.setIfInBounds_toArray, List.set_cons_zero, List.set_cons_succ]
          refine wpAnyH_take (i := 4) (oi := ⟨some 67, .move (.tmp 12), _, _, _, none⟩) (v := ?_) rfl (by kernel_rfl) (by kernel_rfl) (by kernel_rfl) (fun _ _ _ h => h) (Or.inl ⟨by rfl, ?_⟩) hHeld ?_
          rotate_left
          · (intro wq hSw; go_simp; try with_reducible rfl)
          simp only [Act.put, List.setIfInBounds_toArray, List.set_cons_zero, List.set_cons_succ]
          refine wpAnyH_take (i := 6) (oi := ⟨some 69, .move (.tmp 3), _, _, _, none⟩) (v := ?_) rfl (by kernel_rfl) (by kernel_rfl) (by kernel_rfl) (fun _ _ _ h => h) (Or.inl ⟨by rfl, ?_⟩) hHeld ?_
          rotate_left
          · (intro wq hSw; go_simp; try with_reducible rfl)
          simp only [Act.put, List.setIfInBounds_toArray, List.set_cons_zero, List.set_cons_succ]
          refine wpAnyH_ready (rs := [3, 7, 13]) (by kernel_rfl) (by simp) ?_
          refine AllReadyH.cons (o := ⟨some 66, .buildSlice 22 0 #[], _, _, _, none⟩) rfl (fun K hK => ?_) ?_
          · go_simp
            refine hK.out _ _ ?_ (fun hHeld => ?_)
            · exact hHeld.alloc hHeld.size _
            clear hK K
            try simp only [Act.put, List.setIfInBounds_toArray, List.set_cons_zero, List.set_cons_succ]
            try replace hA := alloc_keep hHeld hA
            try replace hL := sl_alloc hHeld hL
            try replace ho5 := own_alloc hHeld ho5
            try replace ho8 := own_alloc hHeld ho8
            refine wpAnyH_ready (rs := [5, 7, 13]) (by kernel_rfl) (by simp) ?_
            refine AllReadyH.cons (o := ⟨some 68, .call ⟨.builtin .append, #[.tmp 66, .tmp 67], #[22, 22]⟩, _, _, _, none⟩) rfl (fun K hK => ?_) ?_
            · refine step_app0 (by rfl) _ _ (by rfl) _ (by rfl) (by rfl) (HX7.out.mono hHeld) (by omega) (Nat.le_refl _) ?_
              intro q5 d5 v5 ho5 k5
              obtain ⟨g5, o5, hq5, hB5, hlt5, _⟩ := ho5.room 0 (by have := ho5.sl.hle; omega)
              have HQ5 := hide hq5
              clear hq5
              have s5 : Below wc.heap.size wc v5 := hHeld.trans (k5.mono hHeld.size)
              have hW5 := hHeld.size
              try (have hAn := Nat.ne_of_lt (Nat.lt_of_lt_of_le (lt_of_block hA) hB5))
              try replace hA := (k5.block _ (lt_of_block hA)).trans hA
              try replace hL := hL.mono k5
              refine hK.out _ _ ?_ (fun hHeld => ?_)
              · exact s5
              clear hK K
              try simp only [Act.put, List.setIfInBounds_toArray, List.set_cons_zero, List.set_cons_succ]
              refine wpAnyH_ready (rs := [7, 13]) (by kernel_rfl) (by simp) ?_
              refine AllReadyH.cons (o := ⟨some 70, .buildSlice 22 1 #[(0, .tmp 69)], _, _, _, none⟩) rfl (fun K hK => ?_) ?_
              · go_simp
                refine hK.out _ _ ?_ (fun hHeld => ?_)
                · exact hHeld.alloc hHeld.size _
                clear hK K
                try simp only [Act.put, List.setIfInBounds_toArray, List.set_cons_zero, List.set_cons_succ]
                try replace hA := alloc_keep hHeld hA
                try replace hL := sl_alloc hHeld hL
                try replace ho5 := own_alloc hHeld ho5
                try replace ho8 := own_alloc hHeld ho8
                have hL := by first | exact lit_of hHeld cx rfl | exact lit_of' hHeld cx rfl
                try simp only [World.size_alloc] at hL
                refine wpAnyH_ready (rs := [8, 13]) (by kernel_rfl) (by simp) ?_
                refine AllReadyH.cons (o := ⟨some 71, .call ⟨.builtin .append, #[.tmp 68, .tmp 70], #[22, 22]⟩, _, _, _, none⟩) rfl (fun K hK => ?_) ?_
                · refine step_app_but (by rfl) _ _ (by rfl) _ (by rfl) ho5 (by rfl) hL (by omega) (by first | exact k5.size | exact Nat.le_trans k5.size (by simp <;> omega) | (have := k5.size; simp at this ⊢; omega)) g5 (fun b off h => by rw [HQ5.out] at h; cases h; rfl) ?_
                  intro q8 d8 v8 ho8 k8 u8
                  have s8 : Below wc.heap.size wc v8 := hHeld.trans (k8.mono hW5)
                  try replace hA := (u8.block _ (lt_of_block hA) hAn).trans hA
                  refine hK.out _ _ ?_ (fun hHeld => ?_)
                  · exact s8
                  clear hK K
                  try simp only [Act.put, List.setIfInBounds_toArray, List.set_cons_zero, List.set_cons_succ]
                  refine wpAnyH_ready (rs := [9, 13]) (by kernel_rfl) (by simp) ?_
                  refine AllReadyH.cons (o := ⟨some 72, .call ⟨.value (.func 12), #[.tmp 63, .tmp 65, .tmp 71], #[3, 5, 22]⟩, _, _, _, none⟩) rfl (fun K hK => ?_) ?_
                  · go_simp
                    refine (Mei.code_parse _ m1.code _ _ _ (b ++ [cx]) _ ho8.sl (by omega)).mono ?_
                    rintro e v9 ⟨⟨y9, rfl, hm9⟩, hb9⟩
                    obtain ⟨cs9, rfl, hs9, ho9, _⟩ := hm9.agg
                    rw [HMore.out]
                    have s9 : Below wc.heap.size wc v9 := below_next hHeld hb9 (Nat.le_refl _)
                    try replace hA := (hb9.block _ (lt_of_block hA)).trans hA
                    refine hK.out _ _ ?_ (fun hHeld => ?_)
                    · exact s9
                    clear hK K
                    try simp only [Act.put, List.setIfInBounds_toArray, List.set_cons_zero, List.set_cons_succ]
                    refine wpAnyH_take (i := 10) (oi := ⟨some 62, .move (.tmp 72), _, _, _, none⟩) (v := ?_) rfl (by kernel_rfl) (by kernel_rfl) (by kernel_rfl) (fun _ _ _ h => h) (Or.inl ⟨by rfl, ?_⟩) hHeld ?_
                    rotate_left
                    · (intro wq hSw; go_simp; try with_reducible rfl)
                    simp only [Act.put, List.setIfInBounds_toArray, List.set_cons_zero, List.set_cons_succ]
                    refine wpAnyH_take (i := 11) (oi := ⟨some 73, .extract (.tmp 62) 0, _, _, _, none⟩) (v := ?_) rfl (by kernel_rfl) (by kernel_rfl) (by kernel_rfl) (fun _ _ _ h => h) (Or.inl ⟨by rfl, ?_⟩) hHeld ?_
                    rotate_left
                    · (intro wq hSw; go_simp; try with_reducible rfl)
                    simp only [Act.put, List.setIfInBounds_toArray, List.set_cons_zero, List.set_cons_succ]
                    refine wpAnyH_take (i := 12) (oi := ⟨some 74, .extract (.tmp 62) 1, _, _, _, none⟩) (v := ?_) rfl (by kernel_rfl) (by kernel_rfl) (by kernel_rfl) (fun _ _ _ h => h) (Or.inl ⟨by rfl, ?_⟩) hHeld ?_
                    rotate_left
                    · (intro wq hSw; go_simp; try with_reducible rfl)
                    simp only [Act.put, List.setIfInBounds_toArray, List.set_cons_zero, List.set_cons_succ]
                    refine wpAnyH_ready (rs := [13]) (by kernel_rfl) (by simp) ?_
                    refine AllReadyH.cons (o := ⟨some 16, .alloc 30, _, _, _, none⟩) rfl (fun K hK => ?_) ?_
                    · have hAw := hHeld.size
                      go_simp
                      refine hK.out _ _ ?_ (fun hHeld => ?_)
                      · exact hHeld.alloc hHeld.size _
                      clear hK K
                      try simp only [Act.put, List.setIfInBounds_toArray, List.set_cons_zero, List.set_cons_succ]
                      try replace hA := alloc_keep hHeld hA
                      try replace hL := sl_alloc hHeld hL
                      try replace ho5 := own_alloc hHeld ho5
                      try replace ho8 := own_alloc hHeld ho8
                      have hA := by first | exact alloc_at hHeld | exact alloc_at' hHeld
                      try simp only [World.size_alloc] at hA
                      try simp only [World.size_alloc] at hAw
                      try (have hAn := alloc_ne hHeld (show g5 < _ by first | exact hlt5 | (simp; omega)))
                      try simp only [World.size_alloc] at hAn
                      refine wpAnyH_ready (rs := [14]) (by kernel_rfl) (by simp) ?_
                      refine AllReadyH.cons (o := ⟨none, .store 30 (.tmp 16) (.tmp 73), _, _, _, none⟩) rfl (fun K hK => ?_) ?_
                      · refine step_store (by rfl) _ _ _ (by rfl) _ cs9 (by rfl) (by rfl) _ _ hA (msg_size cs9 hs9) (by rw [hs9]; rfl) ho9 ?_
                        intro u6 h6 b6 n6 z6
                        have s6 : Below wc.heap.size wc u6 := hHeld.trans (b6 _ (by first | exact hAw | omega))
                        refine hK.out _ _ ?_ (fun hHeld => ?_)
                        · exact s6
                        clear hK K
                        try simp only [Act.put]
                        refine wpAnyH_take (i := 15) (oi := ⟨some 17, .assign (.tmp 74), _, _, _, none⟩) (v := ?_) rfl (by kernel_rfl) (by kernel_rfl) (by kernel_rfl) (fun _ _ _ h => h) (Or.inl ⟨by rfl, ?_⟩) hHeld ?_
                        rotate_left
                        · (intro wq hSw; go_simp; try with_reducible rfl)
                        simp only [Act.put, List.setIfInBounds_toArray, List.set_cons_zero, List.set_cons_succ]
                        refine wpAnyH_done (by kernel_rfl) ?_ _
                        refine NoPanic.normal ?_
                        go_wp2
                        go_meet
                        case rel => exact ⟨rfl, s6⟩
                      exact AllReadyH.nil
                    exact AllReadyH.nil
                  refine AllReadyH.cons (o := ⟨some 16, .alloc 30, _, _, _, none⟩) rfl (fun K hK => ?_) ?_
                  · have hAw := hHeld.size
                    go_simp
                    refine hK.out _ _ ?_ (fun hHeld => ?_)
                    · exact hHeld.alloc hHeld.size _
                    clear hK K
                    try simp only [Act.put, List.setIfInBounds_toArray, List.set_cons_zero, List.set_cons_succ]
                    try replace hA := alloc_keep hHeld hA
                    try replace hL := sl_alloc hHeld hL
                    try replace ho5 := own_alloc hHeld ho5
                    try replace ho8 := own_alloc hHeld ho8
                    have hA := by first | exact alloc_at hHeld | exact alloc_at' hHeld
                    try simp only [World.size_alloc] at hA
                    try simp only [World.size_alloc] at hAw
                    try (have hAn := alloc_ne hHeld (show g5 < _ by first | exact hlt5 | (simp; omega)))
                    try simp only [World.size_alloc] at hAn
                    refine wpAnyH_ready (rs := [9]) (by kernel_rfl) (by simp) ?_
                    refine AllReadyH.cons (o := ⟨some 72, .call ⟨.value (.func 12), #[.tmp 63, .tmp 65, .tmp 71], #[3, 5, 22]⟩, _, _, _, none⟩) rfl (fun K hK => ?_) ?_
                    · go_simp
                      refine (Mei.code_parse _ m1.code _ _ _ (b ++ [cx]) _ ho8.sl (by omega)).mono ?_
                      rintro e v9 ⟨⟨y9, rfl, hm9⟩, hb9⟩
                      obtain ⟨cs9, rfl, hs9, ho9, _⟩ := hm9.agg
                      rw [HMore.out]
                      have s9 : Below wc.heap.size wc v9 := below_next hHeld hb9 (Nat.le_refl _)
                      try replace hA := (hb9.block _ (lt_of_block hA)).trans hA
                      refine hK.out _ _ ?_ (fun hHeld => ?_)
                      · exact s9
                      clear hK K
                      try simp only [Act.put, List.setIfInBounds_toArray, List.set_cons_zero, List.set_cons_succ]
                      refine wpAnyH_take (i := 10) (oi := ⟨some 62, .move (.tmp 72), _, _, _, none⟩) (v := ?_) rfl (by kernel_rfl) (by kernel_rfl) (by kernel_rfl) (fun _ _ _ h => h) (Or.inl ⟨by rfl, ?_⟩) hHeld ?_
                      rotate_left
                      · (intro wq hSw; go_simp; try with_reducible rfl)
                      simp only [Act.put, List.setIfInBounds_toArray, List.set_cons_zero, List.set_cons_succ]
                      refine wpAnyH_take (i := 11) (oi := ⟨some 73, .extract (.tmp 62) 0, _, _, _, none⟩) (v := ?_) rfl (by kernel_rfl) (by kernel_rfl) (by kernel_rfl) (fun _ _ _ h => h) (Or.inl ⟨by rfl, ?_⟩) hHeld ?_
                      rotate_left
                      · (intro wq hSw; go_simp; try with_reducible rfl)
                      simp only [Act.put, List.setIfInBounds_toArray, List.set_cons_zero, List.set_cons_succ]
                      refine wpAnyH_take (i := 12) (oi := ⟨some 74, .extract (.tmp 62) 1, _, _, _, none⟩) (v := ?_) rfl (by kernel_rfl) (by kernel_rfl) (by kernel_rfl) (fun _ _ _ h => h) (Or.inl ⟨by rfl, ?_⟩) hHeld ?_
                      rotate_left
                      · (intro wq hSw; go_simp; try with_reducible rfl)
                      simp only [Act.put, List.setIfInBounds_toArray, List.set_cons_zero, List.set_cons_succ]
                      refine wpAnyH_ready (rs := [14]) (by kernel_rfl) (by simp) ?_
                      refine AllReadyH.cons (o := ⟨none, .store 30 (.tmp 16) (.tmp 73), _, _, _, none⟩) rfl (fun K hK => ?_) ?_
                      · refine step_store (by rfl) _ _ _ (by rfl) _ cs9 (by rfl) (by rfl) _ _ hA (msg_size cs9 hs9) (by rw [hs9]; rfl) ho9 ?_
                        intro u6 h6 b6 n6 z6
                        have s6 : Below wc.heap.size wc u6 := hHeld.trans (b6 _ (by first | exact hAw | omega))
                        refine hK.out _ _ ?_ (fun hHeld => ?_)
                        · exact s6
                        clear hK K
                        try simp only [Act.put]
                        refine wpAnyH_take (i := 15) (oi := ⟨some 17, .assign (.tmp 74), _, _, _, none⟩) (v := ?_) rfl (by kernel_rfl) (by kernel_rfl) (by kernel_rfl) (fun _ _ _ h => h) (Or.inl ⟨by rfl, ?_⟩) hHeld ?_
                        rotate_left
                        · (intro wq hSw; go_simp; try with_reducible rfl)
                        simp only [Act.put, List.setIfInBounds_toArray, List.set_cons_zero, List.set_cons_succ]
                        refine wpAnyH_done (by kernel_rfl) ?_ _
                        refine NoPanic.normal ?_
                        go_wp2
                        go_meet
                        case rel => exact ⟨rfl, s6⟩
                      exact AllReadyH.nil
                    exact AllReadyH.nil
                  exact AllReadyH.nil
                refine AllReadyH.cons (o := ⟨some 16, .alloc 30, _, _, _, none⟩) rfl (fun K hK => ?_) ?_
                · have hAw := hHeld.size
                  go_simp
                  refine hK.out _ _ ?_ (fun hHeld => ?_)
                  · exact hHeld.alloc hHeld.size _
                  clear hK K
                  try simp only [Act.put, List.setIfInBounds_toArray, List.set_cons_zero, List.set_cons_succ]
                  try replace hA := alloc_keep hHeld hA
                  try replace hL := sl_alloc hHeld hL
                  try replace ho5 := own_alloc hHeld ho5
                  try replace ho8 := own_alloc hHeld ho8
                  have hA := by first | exact alloc_at hHeld | exact alloc_at' hHeld
                  try simp only [World.size_alloc] at hA
                  try simp only [World.size_alloc] at hAw
                  try (have hAn := alloc_ne hHeld (show g5 < _ by first | exact hlt5 | (simp; omega)))
                  try simp only [World.size_alloc] at hAn
                  refine wpAnyH_ready (rs := [8]) (by kernel_rfl) (by simp) ?_
                  refine AllReadyH.cons (o := ⟨some 71, .call ⟨.builtin .append, #[.tmp 68, .tmp 70], #[22, 22]⟩, _, _, _, none⟩) rfl (fun K hK => ?_) ?_
                  · refine step_app_but (by rfl) _ _ (by rfl) _ (by rfl) ho5 (by rfl) hL (by omega) (by first | exact k5.size | exact Nat.le_trans k5.size (by simp <;> omega) | (have := k5.size; simp at this ⊢; omega)) g5 (fun b off h => by rw [HQ5.out] at h; cases h; rfl) ?_
                    intro q8 d8 v8 ho8 k8 u8
                    have s8 : Below wc.heap.size wc v8 := hHeld.trans (k8.mono hW5)
                    try replace hA := (u8.block _ (lt_of_block hA) hAn).trans hA
                    refine hK.out _ _ ?_ (fun hHeld => ?_)
                    · exact s8
                    clear hK K
                    try simp only [Act.put, List.setIfInBounds_toArray, List.set_cons_zero, List.set_cons_succ]
                    refine wpAnyH_ready (rs := [9]) (by kernel_rfl) (by simp) ?_
                    refine AllReadyH.cons (o := ⟨some 72, .call ⟨.value (.func 12), #[.tmp 63, .tmp 65, .tmp 71], #[3, 5, 22]⟩, _, _, _, none⟩) rfl (fun K hK => ?_) ?_
                    · go_simp
                      refine (Mei.code_parse _ m1.code _ _ _ (b ++ [cx]) _ ho8.sl (by omega)).mono ?_
                      rintro e v9 ⟨⟨y9, rfl, hm9⟩, hb9⟩
                      obtain ⟨cs9, rfl, hs9, ho9, _⟩ := hm9.agg
                      rw [HMore.out]
                      have s9 : Below wc.heap.size wc v9 := below_next hHeld hb9 (Nat.le_refl _)
                      try replace hA := (hb9.block _ (lt_of_block hA)).trans hA
                      refine hK.out _ _ ?_ (fun hHeld => ?_)
                      · exact s9
                      clear hK K
                      try simp only [Act.put, List.setIfInBounds_toArray, List.set_cons_zero, List.set_cons_succ]
                      refine wpAnyH_take (i := 10) (oi := ⟨some 62, .move (.tmp 72), _, _, _, none⟩) (v := ?_) rfl (by kernel_rfl) (by kernel_rfl) (by kernel_rfl) (fun _ _ _ h => h) (Or.inl ⟨by rfl, ?_⟩) hHeld ?_
                      rotate_left
                      · (intro wq hSw; go_simp; try with_reducible rfl)
                      simp only [Act.put, List.setIfInBounds_toArray, List.set_cons_zero, List.set_cons_succ]
                      refine wpAnyH_take (i := 11) (oi := ⟨some 73, .extract (.tmp 62) 0, _, _, _, none⟩) (v := ?_) rfl (by kernel_rfl) (by kernel_rfl) (by kernel_rfl) (fun _ _ _ h => h) (Or.inl ⟨by rfl, ?_⟩) hHeld ?_
                      rotate_left
                      · (intro wq hSw; go_simp; try with_reducible rfl)
                      simp only [Act.put, List.setIfInBounds_toArray, List.set_cons_zero, List.set_cons_succ]
                      refine wpAnyH_take (i := 12) (oi := ⟨some 74, .extract (.tmp 62) 1, _, _, _, none⟩) (v := ?_) rfl (by kernel_rfl) (by kernel_rfl) (by kernel_rfl) (fun _ _ _ h => h) (Or.inl ⟨by rfl, ?_⟩) hHeld ?_
                      rotate_left
                      · (intro wq hSw; go_simp; try with_reducible rfl)
                      simp only [Act.put, List.setIfInBounds_toArray, List.set_cons_zero, List.set_cons_succ]
                      refine wpAnyH_ready (rs := [14]) (by kernel_rfl) (by simp) ?_
                      refine AllReadyH.cons (o := ⟨none, .store 30 (.tmp 16) (.tmp 73), _, _, _, none⟩) rfl (fun K hK => ?_) ?_
                      · refine step_store (by rfl) _ _ _ (by rfl) _ cs9 (by rfl) (by rfl) _ _ hA (msg_size cs9 hs9) (by rw [hs9]; rfl) ho9 ?_
                        intro u6 h6 b6 n6 z6
                        have s6 : Below wc.heap.size wc u6 := hHeld.trans (b6 _ (by first | exact hAw | omega))
                        refine hK.out _ _ ?_ (fun hHeld => ?_)
                        · exact s6
                        clear hK K
                        try simp only [Act.put]
                        refine wpAnyH_take (i := 15) (oi := ⟨some 17, .assign (.tmp 74), _, _, _, none⟩) (v := ?_) rfl (by kernel_rfl) (by kernel_rfl) (by kernel_rfl) (fun _ _ _ h => h) (Or.inl ⟨by rfl, ?_⟩) hHeld ?_
                        rotate_left
                        · (intro wq hSw; go_simp; try with_reducible rfl)
                        simp only [Act.put, List.setIfInBounds_toArray, List.set_cons_zero, List.set_cons_succ]
                        refine wpAnyH_done (by kernel_rfl) ?_ _
                        refine NoPanic.normal ?_
                        go_wp2
                        go_meet
                        case rel => exact ⟨rfl, s6⟩
                      exact AllReadyH.nil
                    exact AllReadyH.nil
                  exact AllReadyH.nil
                exact AllReadyH.nil
              refine AllReadyH.cons (o := ⟨some 16, .alloc 30, _, _, _, none⟩) rfl (fun K hK => ?_) ?_
              · have hAw := hHeld.size
                go_simp
                refine hK.out _ _ ?_ (fun hHeld => ?_)
                · exact hHeld.alloc hHeld.size _
                clear hK K
                try simp only [Act.put, List.setIfInBounds_toArray, List.set_cons_zero, List.set_cons_succ]
                try replace hA := alloc_keep hHeld hA
                try replace hL := sl_alloc hHeld hL
                try replace ho5 := own_alloc hHeld ho5
                try replace ho8 := own_alloc hHeld ho8
                have hA := by first | exact alloc_at hHeld | exact alloc_at' hHeld
                try simp only [World.size_alloc] at hA
                try simp only [World.size_alloc] at hAw
                try (have hAn := alloc_ne hHeld (show g5 < _ by first | exact hlt5 | (simp; omega)))
                try simp only [World.size_alloc] at hAn
                refine wpAnyH_ready (rs := [7]) (by kernel_rfl) (by simp) ?_
                refine AllReadyH.cons (o := ⟨some 70, .buildSlice 22 1 #[(0, .tmp 69)], _, _, _, none⟩) rfl (fun K hK => ?_) ?_
                · go_simp
                  refine hK.out _ _ ?_ (fun hHeld => ?_)
                  · exact hHeld.alloc hHeld.size _
                  clear hK K
                  try simp only [Act.put, List.setIfInBounds_toArray, List.set_cons_zero, List.set_cons_succ]
                  try replace hA := alloc_keep hHeld hA
                  try replace hL := sl_alloc hHeld hL
                  try replace ho5 := own_alloc hHeld ho5
                  try replace ho8 := own_alloc hHeld ho8
                  have hL := by first | exact lit_of hHeld cx rfl | exact lit_of' hHeld cx rfl
                  try simp only [World.size_alloc] at hL
                  refine wpAnyH_ready (rs := [8]) (by kernel_rfl) (by simp) ?_
                  refine AllReadyH.cons (o := ⟨some 71, .call ⟨.builtin .append, #[.tmp 68, .tmp 70], #[22, 22]⟩, _, _, _, none⟩) rfl (fun K hK => ?_) ?_
                  · refine step_app_but (by rfl) _ _ (by rfl) _ (by rfl) ho5 (by rfl) hL (by omega) (by first | exact k5.size | exact Nat.le_trans k5.size (by simp <;> omega) | (have := k5.size; simp at this ⊢; omega)) g5 (fun b off h => by rw [HQ5.out] at h; cases h; rfl) ?_
                    intro q8 d8 v8 ho8 k8 u8
                    have s8 : Below wc.heap.size wc v8 := hHeld.trans (k8.mono hW5)
                    try replace hA := (u8.block _ (lt_of_block hA) hAn).trans hA
                    refine hK.out _ _ ?_ (fun hHeld => ?_)
                    · exact s8
                    clear hK K
                    try simp only [Act.put, List.setIfInBounds_toArray, List.set_cons_zero, List.set_cons_succ]
                    refine wpAnyH_ready (rs := [9]) (by kernel_rfl) (by simp) ?_
                    refine AllReadyH.cons (o := ⟨some 72, .call ⟨.value (.func 12), #[.tmp 63, .tmp 65, .tmp 71], #[3, 5, 22]⟩, _, _, _, none⟩) rfl (fun K hK => ?_) ?_
                    · go_simp
                      refine (Mei.code_parse _ m1.code _ _ _ (b ++ [cx]) _ ho8.sl (by omega)).mono ?_
                      rintro e v9 ⟨⟨y9, rfl, hm9⟩, hb9⟩
                      obtain ⟨cs9, rfl, hs9, ho9, _⟩ := hm9.agg
                      rw [HMore.out]
                      have s9 : Below wc.heap.size wc v9 := below_next hHeld hb9 (Nat.le_refl _)
                      try replace hA := (hb9.block _ (lt_of_block hA)).trans hA
                      refine hK.out _ _ ?_ (fun hHeld => ?_)
                      · exact s9
                      clear hK K
                      try simp only [Act.put, List.setIfInBounds_toArray, List.set_cons_zero, List.set_cons_succ]
                      refine wpAnyH_take (i := 10) (oi := ⟨some 62, .move (.tmp 72), _, _, _, none⟩) (v := ?_) rfl (by kernel_rfl) (by kernel_rfl) (by kernel_rfl) (fun _ _ _ h => h) (Or.inl ⟨by rfl, ?_⟩) hHeld ?_
                      rotate_left
                      · (intro wq hSw; go_simp; try with_reducible rfl)
                      simp only [Act.put, List.setIfInBounds_toArray, List.set_cons_zero, List.set_cons_succ]
                      refine wpAnyH_take (i := 11) (oi := ⟨some 73, .extract (.tmp 62) 0, _, _, _, none⟩) (v := ?_) rfl (by kernel_rfl) (by kernel_rfl) (by kernel_rfl) (fun _ _ _ h => h) (Or.inl ⟨by rfl, ?_⟩) hHeld ?_
                      rotate_left
                      · (intro wq hSw; go_simp; try with_reducible rfl)
                      simp only [Act.put, List.setIfInBounds_toArray, List.set_cons_zero, List.set_cons_succ]
                      refine wpAnyH_take (i := 12) (oi := ⟨some 74, .extract (.tmp 62) 1, _, _, _, none⟩) (v := ?_) rfl (by kernel_rfl) (by kernel_rfl) (by kernel_rfl) (fun _ _ _ h => h) (Or.inl ⟨by rfl, ?_⟩) hHeld ?_
                      rotate_left
                      · (intro wq hSw; go_simp; try with_reducible rfl)
                      simp only [Act.put, List.setIfInBounds_toArray, List.set_cons_zero, List.set_cons_succ]
                      refine wpAnyH_ready (rs := [14]) (by kernel_rfl) (by simp) ?_
                      refine AllReadyH.cons (o := ⟨none, .store 30 (.tmp 16) (.tmp 73), _, _, _, none⟩) rfl (fun K hK => ?_) ?_
                      · refine step_store (by rfl) _ _ _ (by rfl) _ cs9 (by rfl) (by rfl) _ _ hA (msg_size cs9 hs9) (by rw [hs9]; rfl) ho9 ?_
                        intro u6 h6 b6 n6 z6
                        have s6 : Below wc.heap.size wc u6 := hHeld.trans (b6 _ (by first | exact hAw | omega))
                        refine hK.out _ _ ?_ (fun hHeld => ?_)
                        · exact s6
                        clear hK K
                        try simp only [Act.put]
                        refine wpAnyH_take (i := 15) (oi := ⟨some 17, .assign (.tmp 74), _, _, _, none⟩) (v := ?_) rfl (by kernel_rfl) (by kernel_rfl) (by kernel_rfl) (fun _ _ _ h => h) (Or.inl ⟨by rfl, ?_⟩) hHeld ?_
                        rotate_left
                        · (intro wq hSw; go_simp; try with_reducible rfl)
                        simp only [Act.put, List.setIfInBounds_toArray, List.set_cons_zero, List.set_cons_succ]
                        refine wpAnyH_done (by kernel_rfl) ?_ _
                        refine NoPanic.normal ?_
                        go_wp2
                        go_meet
                        case rel => exact ⟨rfl, s6⟩
                      exact AllReadyH.nil
                    exact AllReadyH.nil
                  exact AllReadyH.nil
                exact AllReadyH.nil
              exact AllReadyH.nil
            refine AllReadyH.cons (o := ⟨some 70, .buildSlice 22 1 #[(0, .tmp 69)], _, _, _, none⟩) rfl (fun K hK => ?_) ?_
            · go_simp
              refine hK.out _ _ ?_ (fun hHeld => ?_)
              · exact hHeld.alloc hHeld.size _
              clear hK K
              try simp only [Act.put, List.setIfInBounds_toArray, List.set_cons_zero, List.set_cons_succ]
              try replace hA := alloc_keep hHeld hA
              try replace hL := sl_alloc hHeld hL
              try replace ho5 := own_alloc hHeld ho5
              try replace ho8 := own_alloc hHeld ho8
              have hL := by first | exact lit_of hHeld cx rfl | exact lit_of' hHeld cx rfl
              try simp only [World.size_alloc] at hL
              refine wpAnyH_ready (rs := [5, 13]) (by kernel_rfl) (by simp) ?_
              refine AllReadyH.cons (o := ⟨some 68, .call ⟨.builtin .append, #[.tmp 66, .tmp 67], #[22, 22]⟩, _, _, _, none⟩) rfl (fun K hK => ?_) ?_
              · refine step_app0 (by rfl) _ _ (by rfl) _ (by rfl) (by rfl) (HX7.out.mono hHeld) (by omega) (Nat.le_refl _) ?_
                intro q5 d5 v5 ho5 k5
                obtain ⟨g5, o5, hq5, hB5, hlt5, _⟩ := ho5.room 0 (by have := ho5.sl.hle; omega)
                have HQ5 := hide hq5
                clear hq5
                have s5 : Below wc.heap.size wc v5 := hHeld.trans (k5.mono hHeld.size)
                have hW5 := hHeld.size
                try (have hAn := Nat.ne_of_lt (Nat.lt_of_lt_of_le (lt_of_block hA) hB5))
                try replace hA := (k5.block _ (lt_of_block hA)).trans hA
                try replace hL := hL.mono k5
                refine hK.out _ _ ?_ (fun hHeld => ?_)
                · exact s5
                clear hK K
                try simp only [Act.put, List.setIfInBounds_toArray, List.set_cons_zero, List.set_cons_succ]
                refine wpAnyH_ready (rs := [8, 13]) (by kernel_rfl) (by simp) ?_
                refine AllReadyH.cons (o := ⟨some 71, .call ⟨.builtin .append, #[.tmp 68, .tmp 70], #[22, 22]⟩, _, _, _, none⟩) rfl (fun K hK => ?_) ?_
                · refine step_app_but (by rfl) _ _ (by rfl) _ (by rfl) ho5 (by rfl) hL (by omega) (by first | exact k5.size | exact Nat.le_trans k5.size (by simp <;> omega) | (have := k5.size; simp at this ⊢; omega)) g5 (fun b off h => by rw [HQ5.out] at h; cases h; rfl) ?_
                  intro q8 d8 v8 ho8 k8 u8
                  have s8 : Below wc.heap.size wc v8 := hHeld.trans (k8.mono hW5)
                  try replace hA := (u8.block _ (lt_of_block hA) hAn).trans hA
                  refine hK.out _ _ ?_ (fun hHeld => ?_)
                  · exact s8
                  clear hK K
                  try simp only [Act.put, List.setIfInBounds_toArray, List.set_cons_zero, List.set_cons_succ]
                  refine wpAnyH_ready (rs := [9, 13]) (by kernel_rfl) (by simp) ?_
                  refine AllReadyH.cons (o := ⟨some 72, .call ⟨.value (.func 12), #[.tmp 63, .tmp 65, .tmp 71], #[3, 5, 22]⟩, _, _, _, none⟩) rfl (fun K hK => ?_) ?_
                  · go_simp
                    refine (Mei.code_parse _ m1.code _ _ _ (b ++ [cx]) _ ho8.sl (by omega)).mono ?_
                    rintro e v9 ⟨⟨y9, rfl, hm9⟩, hb9⟩
                    obtain ⟨cs9, rfl, hs9, ho9, _⟩ := hm9.agg
                    rw [HMore.out]
                    have s9 : Below wc.heap.size wc v9 := below_next hHeld hb9 (Nat.le_refl _)
                    try replace hA := (hb9.block _ (lt_of_block hA)).trans hA
                    refine hK.out _ _ ?_ (fun hHeld => ?_)
                    · exact s9
                    clear hK K
                    try simp only [Act.put, List.setIfInBounds_toArray, List.set_cons_zero, List.set_cons_succ]
                    refine wpAnyH_take (i := 10) (oi := ⟨some 62, .move (.tmp 72), _, _, _, none⟩) (v := ?_) rfl (by kernel_rfl) (by kernel_rfl) (by kernel_rfl) (fun _ _ _ h => h) (Or.inl ⟨by rfl, ?_⟩) hHeld ?_
                    rotate_left
                    · (intro wq hSw; go_simp; try with_reducible rfl)
                    simp only [Act.put, List.setIfInBounds_toArray, List.set_cons_zero, List.set_cons_succ]
                    refine wpAnyH_take (i := 11) (oi := ⟨some 73, .extract (.tmp 62) 0, _, _, _, none⟩) (v := ?_) rfl (by kernel_rfl) (by kernel_rfl) (by kernel_rfl) (fun _ _ _ h => h) (Or.inl ⟨by rfl, ?_⟩) hHeld ?_
                    rotate_left
                    · (intro wq hSw; go_simp; try with_reducible rfl)
                    simp only [Act.put, List.setIfInBounds_toArray, List.set_cons_zero, List.set_cons_succ]
                    refine wpAnyH_take (i := 12) (oi := ⟨some 74, .extract (.tmp 62) 1, _, _, _, none⟩) (v := ?_) rfl (by kernel_rfl) (by kernel_rfl) (by kernel_rfl) (fun _ _ _ h => h) (Or.inl ⟨by rfl, ?_⟩) hHeld ?_
                    rotate_left
                    · (intro wq hSw; go_simp; try with_reducible rfl)
                    simp only [Act.put, List.setIfInBounds_toArray, List.set_cons_zero, List.set_cons_succ]
                    refine wpAnyH_ready (rs := [13]) (by kernel_rfl) (by simp) ?_
                    refine AllReadyH.cons (o := ⟨some 16, .alloc 30, _, _, _, none⟩) rfl (fun K hK => ?_) ?_
                    · have hAw := hHeld.size
                      go_simp
                      refine hK.out _ _ ?_ (fun hHeld => ?_)
                      · exact hHeld.alloc hHeld.size _
                      clear hK K
                      try simp only [Act.put, List.setIfInBounds_toArray, List.set_cons_zero, List.set_cons_succ]
                      try replace hA := alloc_keep hHeld hA
                      try replace hL := sl_alloc hHeld hL
                      try replace ho5 := own_alloc hHeld ho5
                      try replace ho8 := own_alloc hHeld ho8
                      have hA := by first | exact alloc_at hHeld | exact alloc_at' hHeld
                      try simp only [World.size_alloc] at hA
                      try simp only [World.size_alloc] at hAw
                      try (have hAn := alloc_ne hHeld (show g5 < _ by first | exact hlt5 | (simp; omega)))
                      try simp only [World.size_alloc] at hAn
                      refine wpAnyH_ready (rs := [14]) (by kernel_rfl) (by simp) ?_
                      refine AllReadyH.cons (o := ⟨none, .store 30 (.tmp 16) (.tmp 73), _, _, _, none⟩) rfl (fun K hK => ?_) ?_
                      · refine step_store (by rfl) _ _ _ (by rfl) _ cs9 (by rfl) (by rfl) _ _ hA (msg_size cs9 hs9) (by rw [hs9]; rfl) ho9 ?_
                        intro u6 h6 b6 n6 z6
                        have s6 : Below wc.heap.size wc u6 := hHeld.trans (b6 _ (by first | exact hAw | omega))
                        refine hK.out _ _ ?_ (fun hHeld => ?_)
                        · exact s6
                        clear hK K
                        try simp only [Act.put]
                        refine wpAnyH_take (i := 15) (oi := ⟨some 17, .assign (.tmp 74), _, _, _, none⟩) (v := ?_) rfl (by kernel_rfl) (by kernel_rfl) (by kernel_rfl) (fun _ _ _ h => h) (Or.inl ⟨by rfl, ?_⟩) hHeld ?_
                        rotate_left
                        · (intro wq hSw; go_simp; try with_reducible rfl)
                        simp only [Act.put, List.setIfInBounds_toArray, List.set_cons_zero, List.set_cons_succ]
                        refine wpAnyH_done (by kernel_rfl) ?_ _
                        refine NoPanic.normal ?_
                        go_wp2
                        go_meet
                        case rel => exact ⟨rfl, s6⟩
                      exact AllReadyH.nil
                    exact AllReadyH.nil
                  refine AllReadyH.cons (o := ⟨some 16, .alloc 30, _, _, _, none⟩) rfl (fun K hK => ?_) ?_
                  · have hAw := hHeld.size
                    go_simp
                    refine hK.out _ _ ?_ (fun hHeld => ?_)
                    · exact hHeld.alloc hHeld.size _
                    clear hK K
                    try simp only [Act.put, List.setIfInBounds_toArray, List.set_cons_zero, List.set_cons_succ]
                    try replace hA := alloc_keep hHeld hA
                    try replace hL := sl_alloc hHeld hL
                    try replace ho5 := own_alloc hHeld ho5
                    try replace ho8 := own_alloc hHeld ho8
                    have hA := by first | exact alloc_at hHeld | exact alloc_at' hHeld
                    try simp only [World.size_alloc] at hA
                    try simp only [World.size_alloc] at hAw
                    try (have hAn := alloc_ne hHeld (show g5 < _ by first | exact hlt5 | (simp; omega)))
                    try simp only [World.size_alloc] at hAn
                    refine wpAnyH_ready (rs := [9]) (by kernel_rfl) (by simp) ?_
                    refine AllReadyH.cons (o := ⟨some 72, .call ⟨.value (.func 12), #[.tmp 63, .tmp 65, .tmp 71], #[3, 5, 22]⟩, _, _, _, none⟩) rfl (fun K hK => ?_) ?_
                    · go_simp
                      refine (Mei.code_parse _ m1.code _ _ _ (b ++ [cx]) _ ho8.sl (by omega)).mono ?_
                      rintro e v9 ⟨⟨y9, rfl, hm9⟩, hb9⟩
                      obtain ⟨cs9, rfl, hs9, ho9, _⟩ := hm9.agg
                      rw [HMore.out]
                      have s9 : Below wc.heap.size wc v9 := below_next hHeld hb9 (Nat.le_refl _)
                      try replace hA := (hb9.block _ (lt_of_block hA)).trans hA
                      refine hK.out _ _ ?_ (fun hHeld => ?_)
                      · exact s9
                      clear hK K
                      try simp only [Act.put, List.setIfInBounds_toArray, List.set_cons_zero, List.set_cons_succ]
                      refine wpAnyH_take (i := 10) (oi := ⟨some 62, .move (.tmp 72), _, _, _, none⟩) (v := ?_) rfl (by kernel_rfl) (by kernel_rfl) (by kernel_rfl) (fun _ _ _ h => h) (Or.inl ⟨by rfl, ?_⟩) hHeld ?_
                      rotate_left
                      · (intro wq hSw; go_simp; try with_reducible rfl)
                      simp only [Act.put, List.setIfInBounds_toArray, List.set_cons_zero, List.set_cons_succ]
                      refine wpAnyH_take (i := 11) (oi := ⟨some 73, .extract (.tmp 62) 0, _, _, _, none⟩) (v := ?_) rfl (by kernel_rfl) (by kernel_rfl) (by kernel_rfl) (fun _ _ _ h => h) (Or.inl ⟨by rfl, ?_⟩) hHeld ?_
                      rotate_left
                      · (intro wq hSw; go_simp; try with_reducible rfl)
                      simp only [Act.put, List.setIfInBounds_toArray, List.set_cons_zero, List.set_cons_succ]
                      refine wpAnyH_take (i := 12) (oi := ⟨some 74, .extract (.tmp 62) 1, _, _, _, none⟩) (v := ?_) rfl (by kernel_rfl) (by kernel_rfl) (by kernel_rfl) (fun _ _ _ h => h) (Or.inl ⟨by rfl, ?_⟩) hHeld ?_
                      rotate_left
                      · (intro wq hSw; go_simp; try with_reducible rfl)
                      simp only [Act.put, List.setIfInBounds_toArray, List.set_cons_zero, List.set_cons_succ]
                      refine wpAnyH_ready (rs := [14]) (by kernel_rfl) (by simp) ?_
                      refine AllReadyH.cons (o := ⟨none, .store 30 (.tmp 16) (.tmp 73), _, _, _, none⟩) rfl (fun K hK => ?_) ?_
                      · refine step_store (by rfl) _ _ _ (by rfl) _ cs9 (by rfl) (by rfl) _ _ hA (msg_size cs9 hs9) (by rw [hs9]; rfl) ho9 ?_
                        intro u6 h6 b6 n6 z6
                        have s6 : Below wc.heap.size wc u6 := hHeld.trans (b6 _ (by first | exact hAw | omega))
                        refine hK.out _ _ ?_ (fun hHeld => ?_)
                        · exact s6
                        clear hK K
                        try simp only [Act.put]
                        refine wpAnyH_take (i := 15) (oi := ⟨some 17, .assign (.tmp 74), _, _, _, none⟩) (v := ?_) rfl (by kernel_rfl) (by kernel_rfl) (by kernel_rfl) (fun _ _ _ h => h) (Or.inl ⟨by rfl, ?_⟩) hHeld ?_
                        rotate_left
                        · (intro wq hSw; go_simp; try with_reducible rfl)
                        simp only [Act.put, List.setIfInBounds_toArray, List.set_cons_zero, List.set_cons_succ]
                        refine wpAnyH_done (by kernel_rfl) ?_ _
                        refine NoPanic.normal ?_
                        go_wp2
                        go_meet
                        case rel => exact ⟨rfl, s6⟩
                      exact AllReadyH.nil
                    exact AllReadyH.nil
                  exact AllReadyH.nil
                refine AllReadyH.cons (o := ⟨some 16, .alloc 30, _, _, _, none⟩) rfl (fun K hK => ?_) ?_
                · have hAw := hHeld.size
                  go_simp
                  refine hK.out _ _ ?_ (fun hHeld => ?_)
                  · exact hHeld.alloc hHeld.size _
                  clear hK K
                  try simp only [Act.put, List.setIfInBounds_toArray, List.set_cons_zero, List.set_cons_succ]
                  try replace hA := alloc_keep hHeld hA
                  try replace hL := sl_alloc hHeld hL
                  try replace ho5 := own_alloc hHeld ho5
                  try replace ho8 := own_alloc hHeld ho8
                  have hA := by first | exact alloc_at hHeld | exact alloc_at' hHeld
                  try simp only [World.size_alloc] at hA
                  try simp only [World.size_alloc] at hAw
                  try (have hAn := alloc_ne hHeld (show g5 < _ by first | exact hlt5 | (simp; omega)))
                  try simp only [World.size_alloc] at hAn
                  refine wpAnyH_ready (rs := [8]) (by kernel_rfl) (by simp) ?_
                  refine AllReadyH.cons (o := ⟨some 71, .call ⟨.builtin .append, #[.tmp 68, .tmp 70], #[22, 22]⟩, _, _, _, none⟩) rfl (fun K hK => ?_) ?_
                  · refine step_app_but (by rfl) _ _ (by rfl) _ (by rfl) ho5 (by rfl) hL (by omega) (by first | exact k5.size | exact Nat.le_trans k5.size (by simp <;> omega) | (have := k5.size; simp at this ⊢; omega)) g5 (fun b off h => by rw [HQ5.out] at h; cases h; rfl) ?_
                    intro q8 d8 v8 ho8 k8 u8
                    have s8 : Below wc.heap.size wc v8 := hHeld.trans (k8.mono hW5)
                    try replace hA := (u8.block _ (lt_of_block hA) hAn).trans hA
                    refine hK.out _ _ ?_ (fun hHeld => ?_)
                    · exact s8
                    clear hK K
                    try simp only [Act.put, List.setIfInBounds_toArray, List.set_cons_zero, List.set_cons_succ]
                    refine wpAnyH_ready (rs := [9]) (by kernel_rfl) (by simp) ?_
                    refine AllReadyH.cons (o := ⟨some 72, .call ⟨.value (.func 12), #[.tmp 63, .tmp 65, .tmp 71], #[3, 5, 22]⟩, _, _, _, none⟩) rfl (fun K hK => ?_) ?_
                    · go_simp
                      refine (Mei.code_parse _ m1.code _ _ _ (b ++ [cx]) _ ho8.sl (by omega)).mono ?_
                      rintro e v9 ⟨⟨y9, rfl, hm9⟩, hb9⟩
                      obtain ⟨cs9, rfl, hs9, ho9, _⟩ := hm9.agg
                      rw [HMore.out]
                      have s9 : Below wc.heap.size wc v9 := below_next hHeld hb9 (Nat.le_refl _)
                      try replace hA := (hb9.block _ (lt_of_block hA)).trans hA
                      refine hK.out _ _ ?_ (fun hHeld => ?_)
                      · exact s9
                      clear hK K
                      try simp only [Act.put, List.setIfInBounds_toArray, List.set_cons_zero, List.set_cons_succ]
                      refine wpAnyH_take (i := 10) (oi := ⟨some 62, .move (.tmp 72), _, _, _, none⟩) (v := ?_) rfl (by kernel_rfl) (by kernel_rfl) (by kernel_rfl) (fun _ _ _ h => h) (Or.inl ⟨by rfl, ?_⟩) hHeld ?_
                      rotate_left
                      · (intro wq hSw; go_simp; try with_reducible rfl)
                      simp only [Act.put, List.setIfInBounds_toArray, List.set_cons_zero, List.set_cons_succ]
                      refine wpAnyH_take (i := 11) (oi := ⟨some 73, .extract (.tmp 62) 0, _, _, _, none⟩) (v := ?_) rfl (by kernel_rfl) (by kernel_rfl) (by kernel_rfl) (fun _ _ _ h => h) (Or.inl ⟨by rfl, ?_⟩) hHeld ?_
                      rotate_left
                      · (intro wq hSw; go_simp; try with_reducible rfl)
                      simp only [Act.put, List.setIfInBounds_toArray, List.set_cons_zero, List.set_cons_succ]
                      refine wpAnyH_take (i := 12) (oi := ⟨some 74, .extract (.tmp 62) 1, _, _, _, none⟩) (v := ?_) rfl (by kernel_rfl) (by kernel_rfl) (by kernel_rfl) (fun _ _ _ h => h) (Or.inl ⟨by rfl, ?_⟩) hHeld ?_
                      rotate_left
                      · (intro wq hSw; go_simp; try with_reducible rfl)
                      simp only [Act.put, List.setIfInBounds_toArray, List.set_cons_zero, List.set_cons_succ]
                      refine wpAnyH_ready (rs := [14]) (by kernel_rfl) (by simp) ?_
                      refine AllReadyH.cons (o := ⟨none, .store 30 (.tmp 16) (.tmp 73), _, _, _, none⟩) rfl (fun K hK => ?_) ?_
                      · refine step_store (by rfl) _ _ _ (by rfl) _ cs9 (by rfl) (by rfl) _ _ hA (msg_size cs9 hs9) (by rw [hs9]; rfl) ho9 ?_
                        intro u6 h6 b6 n6 z6
                        have s6 : Below wc.heap.size wc u6 := hHeld.trans (b6 _ (by first | exact hAw | omega))
                        refine hK.out _ _ ?_ (fun hHeld => ?_)
                        · exact s6
                        clear hK K
                        try simp only [Act.put]
                        refine wpAnyH_take (i := 15) (oi := ⟨some 17, .assign (.tmp 74), _, _, _, none⟩) (v := ?_) rfl (by kernel_rfl) (by kernel_rfl) (by kernel_rfl) (fun _ _ _ h => h) (Or.inl ⟨by rfl, ?_⟩) hHeld ?_
                        rotate_left
                        · (intro wq hSw; go_simp; try with_reducible rfl)
                        simp only [Act.put, List.setIfInBounds_toArray, List.set_cons_zero, List.set_cons_succ]
                        refine wpAnyH_done (by kernel_rfl) ?_ _
                        refine NoPanic.normal ?_
                        go_wp2
                        go_meet
                        case rel => exact ⟨rfl, s6⟩
                      exact AllReadyH.nil
                    exact AllReadyH.nil
                  exact AllReadyH.nil
                exact AllReadyH.nil
              refine AllReadyH.cons (o := ⟨some 16, .alloc 30, _, _, _, none⟩) rfl (fun K hK => ?_) ?_
              · have hAw := hHeld.size
                go_simp
                refine hK.out _ _ ?_ (fun hHeld => ?_)
                · exact hHeld.alloc hHeld.size _
                clear hK K
                try simp only [Act.put, List.setIfInBounds_toArray, List.set_cons_zero, List.set_cons_succ]
                try replace hA := alloc_keep hHeld hA
                try replace hL := sl_alloc hHeld hL
                try replace ho5 := own_alloc hHeld ho5
                try replace ho8 := own_alloc hHeld ho8
                have hA := by first | exact alloc_at hHeld | exact alloc_at' hHeld
                try simp only [World.size_alloc] at hA
                try simp only [World.size_alloc] at hAw
                try (have hAn := alloc_ne hHeld (show g5 < _ by first | exact hlt5 | (simp; omega)))
                try simp only [World.size_alloc] at hAn
                refine wpAnyH_ready (rs := [5]) (by kernel_rfl) (by simp) ?_
                refine AllReadyH.cons (o := ⟨some 68, .call ⟨.builtin .append, #[.tmp 66, .tmp 67], #[22, 22]⟩, _, _, _, none⟩) rfl (fun K hK => ?_) ?_
                · refine step_app0 (by rfl) _ _ (by rfl) _ (by rfl) (by rfl) (HX7.out.mono hHeld) (by omega) (Nat.le_refl _) ?_
                  intro q5 d5 v5 ho5 k5
                  obtain ⟨g5, o5, hq5, hB5, hlt5, _⟩ := ho5.room 0 (by have := ho5.sl.hle; omega)
                  have HQ5 := hide hq5
                  clear hq5
                  have s5 : Below wc.heap.size wc v5 := hHeld.trans (k5.mono hHeld.size)
                  have hW5 := hHeld.size
                  try (have hAn := Nat.ne_of_lt (Nat.lt_of_lt_of_le (lt_of_block hA) hB5))
                  try replace hA := (k5.block _ (lt_of_block hA)).trans hA
                  try replace hL := hL.mono k5
                  refine hK.out _ _ ?_ (fun hHeld => ?_)
                  · exact s5
                  clear hK K
                  try simp only [Act.put, List.setIfInBounds_toArray, List.set_cons_zero, List.set_cons_succ]
                  refine wpAnyH_ready (rs := [8]) (by kernel_rfl) (by simp) ?_
                  refine AllReadyH.cons (o := ⟨some 71, .call ⟨.builtin .append, #[.tmp 68, .tmp 70], #[22, 22]⟩, _, _, _, none⟩) rfl (fun K hK => ?_) ?_
                  · refine step_app_but (by rfl) _ _ (by rfl) _ (by rfl) ho5 (by rfl) hL (by omega) (by first | exact k5.size | exact Nat.le_trans k5.size (by simp <;> omega) | (have := k5.size; simp at this ⊢; omega)) g5 (fun b off h => by rw [HQ5.out] at h; cases h; rfl) ?_
                    intro q8 d8 v8 ho8 k8 u8
                    have s8 : Below wc.heap.size wc v8 := hHeld.trans (k8.mono hW5)
                    try replace hA := (u8.block _ (lt_of_block hA) hAn).trans hA
                    refine hK.out _ _ ?_ (fun hHeld => ?_)
                    · exact s8
                    clear hK K
                    try simp only [Act.put, List.setIfInBounds_toArray, List.set_cons_zero, List.set_cons_succ]
                    refine wpAnyH_ready (rs := [9]) (by kernel_rfl) (by simp) ?_
                    refine AllReadyH.cons (o := ⟨some 72, .call ⟨.value (.func 12), #[.tmp 63, .tmp 65, .tmp 71], #[3, 5, 22]⟩, _, _, _, none⟩) rfl (fun K hK => ?_) ?_
                    · go_simp
                      refine (Mei.code_parse _ m1.code _ _ _ (b ++ [cx]) _ ho8.sl (by omega)).mono ?_
                      rintro e v9 ⟨⟨y9, rfl, hm9⟩, hb9⟩
                      obtain ⟨cs9, rfl, hs9, ho9, _⟩ := hm9.agg
                      rw [HMore.out]
                      have s9 : Below wc.heap.size wc v9 := below_next hHeld hb9 (Nat.le_refl _)
                      try replace hA := (hb9.block _ (lt_of_block hA)).trans hA
                      refine hK.out _ _ ?_ (fun hHeld => ?_)
                      · exact s9
                      clear hK K
                      try simp only [Act.put, List.setIfInBounds_toArray, List.set_cons_zero, List.set_cons_succ]
                      refine wpAnyH_take (i := 10) (oi := ⟨some 62, .move (.tmp 72), _, _, _, none⟩) (v := ?_) rfl (by kernel_rfl) (by kernel_rfl) (by kernel_rfl) (fun _ _ _ h => h) (Or.inl ⟨by rfl, ?_⟩) hHeld ?_
                      rotate_left
                      · (intro wq hSw; go_simp; try with_reducible rfl)
                      simp only [Act.put, List.setIfInBounds_toArray, List.set_cons_zero, List.set_cons_succ]
                      refine wpAnyH_take (i := 11) (oi := ⟨some 73, .extract (.tmp 62) 0, _, _, _, none⟩) (v := ?_) rfl (by kernel_rfl) (by kernel_rfl) (by kernel_rfl) (fun _ _ _ h => h) (Or.inl ⟨by rfl, ?_⟩) hHeld ?_
                      rotate_left
                      · (intro wq hSw; go_simp; try with_reducible rfl)
                      simp only [Act.put, List.setIfInBounds_toArray, List.set_cons_zero, List.set_cons_succ]
                      refine wpAnyH_take (i := 12) (oi := ⟨some 74, .extract (.tmp 62) 1, _, _, _, none⟩) (v := ?_) rfl (by kernel_rfl) (by kernel_rfl) (by kernel_rfl) (fun _ _ _ h => h) (Or.inl ⟨by rfl, ?_⟩) hHeld ?_
                      rotate_left
                      · (intro wq hSw; go_simp; try with_reducible rfl)
                      simp only [Act.put, List.setIfInBounds_toArray, List.set_cons_zero, List.set_cons_succ]
                      refine wpAnyH_ready (rs := [14]) (by kernel_rfl) (by simp) ?_
                      refine AllReadyH.cons (o := ⟨none, .store 30 (.tmp 16) (.tmp 73), _, _, _, none⟩) rfl (fun K hK => ?_) ?_
                      · refine step_store (by rfl) _ _ _ (by rfl) _ cs9 (by rfl) (by rfl) _ _ hA (msg_size cs9 hs9) (by rw [hs9]; rfl) ho9 ?_
                        intro u6 h6 b6 n6 z6
                        have s6 : Below wc.heap.size wc u6 := hHeld.trans (b6 _ (by first | exact hAw | omega))
                        refine hK.out _ _ ?_ (fun hHeld => ?_)
                        · exact s6
                        clear hK K
                        try simp only [Act.put]
                        refine wpAnyH_take (i := 15) (oi := ⟨some 17, .assign (.tmp 74), _, _, _, none⟩) (v := ?_) rfl (by kernel_rfl) (by kernel_rfl) (by kernel_rfl) (fun _ _ _ h => h) (Or.inl ⟨by rfl, ?_⟩) hHeld ?_
                        rotate_left
                        · (intro wq hSw; go_simp; try with_reducible rfl)
                        simp only [Act.put, List.setIfInBounds_toArray, List.set_cons_zero, List.set_cons_succ]
                        refine wpAnyH_done (by kernel_rfl) ?_ _
                        refine NoPanic.normal ?_
                        go_wp2
                        go_meet
                        case rel => exact ⟨rfl, s6⟩
                      exact AllReadyH.nil
                    exact AllReadyH.nil
                  exact AllReadyH.nil
                exact AllReadyH.nil
              exact AllReadyH.nil
            refine AllReadyH.cons (o := ⟨some 16, .alloc 30, _, _, _, none⟩) rfl (fun K hK => ?_) ?_
            · have hAw := hHeld.size
              go_simp
              refine hK.out _ _ ?_ (fun hHeld => ?_)
              · exact hHeld.alloc hHeld.size _
              clear hK K
              try simp only [Act.put, List.setIfInBounds_toArray, List.set_cons_zero, List.set_cons_succ]
              try replace hA := alloc_keep hHeld hA
              try replace hL := sl_alloc hHeld hL
              try replace ho5 := own_alloc hHeld ho5
              try replace ho8 := own_alloc hHeld ho8
              have hA := by first | exact alloc_at hHeld | exact alloc_at' hHeld
              try simp only [World.size_alloc] at hA
              try simp only [World.size_alloc] at hAw
              try (have hAn := alloc_ne hHeld (show g5 < _ by first | exact hlt5 | (simp; omega)))
              try simp only [World.size_alloc] at hAn
              refine wpAnyH_ready (rs := [5, 7]) (by kernel_rfl) (by simp) ?_
              refine AllReadyH.cons (o := ⟨some 68, .call ⟨.builtin .append, #[.tmp 66, .tmp 67], #[22, 22]⟩, _, _, _, none⟩) rfl (fun K hK => ?_) ?_
              · refine step_app0 (by rfl) _ _ (by rfl) _ (by rfl) (by rfl) (HX7.out.mono hHeld) (by omega) (Nat.le_refl _) ?_
                intro q5 d5 v5 ho5 k5
                obtain ⟨g5, o5, hq5, hB5, hlt5, _⟩ := ho5.room 0 (by have := ho5.sl.hle; omega)
                have HQ5 := hide hq5
                clear hq5
                have s5 : Below wc.heap.size wc v5 := hHeld.trans (k5.mono hHeld.size)
                have hW5 := hHeld.size
                try (have hAn := Nat.ne_of_lt (Nat.lt_of_lt_of_le (lt_of_block hA) hB5))
                try replace hA := (k5.block _ (lt_of_block hA)).trans hA
                try replace hL := hL.mono k5
                refine hK.out _ _ ?_ (fun hHeld => ?_)
                · exact s5
                clear hK K
                try simp only [Act.put, List.setIfInBounds_toArray, List.set_cons_zero, List.set_cons_succ]
                refine wpAnyH_ready (rs := [7]) (by kernel_rfl) (by simp) ?_
                refine AllReadyH.cons (o := ⟨some 70, .buildSlice 22 1 #[(0, .tmp 69)], _, _, _, none⟩) rfl (fun K hK => ?_) ?_
                · go_simp
                  refine hK.out _ _ ?_ (fun hHeld => ?_)
                  · exact hHeld.alloc hHeld.size _
                  clear hK K
                  try simp only [Act.put, List.setIfInBounds_toArray, List.set_cons_zero, List.set_cons_succ]
                  try replace hA := alloc_keep hHeld hA
                  try replace hL := sl_alloc hHeld hL
                  try replace ho5 := own_alloc hHeld ho5
                  try replace ho8 := own_alloc hHeld ho8
                  have hL := by first | exact lit_of hHeld cx rfl | exact lit_of' hHeld cx rfl
                  try simp only [World.size_alloc] at hL
                  refine wpAnyH_ready (rs := [8]) (by kernel_rfl) (by simp) ?_
                  refine AllReadyH.cons (o := ⟨some 71, .call ⟨.builtin .append, #[.tmp 68, .tmp 70], #[22, 22]⟩, _, _, _, none⟩) rfl (fun K hK => ?_) ?_
                  · refine step_app_but (by rfl) _ _ (by rfl) _ (by rfl) ho5 (by rfl) hL (by omega) (by first | exact k5.size | exact Nat.le_trans k5.size (by simp <;> omega) | (have := k5.size; simp at this ⊢; omega)) g5 (fun b off h => by rw [HQ5.out] at h; cases h; rfl) ?_
                    intro q8 d8 v8 ho8 k8 u8
                    have s8 : Below wc.heap.size wc v8 := hHeld.trans (k8.mono hW5)
                    try replace hA := (u8.block _ (lt_of_block hA) hAn).trans hA
                    refine hK.out _ _ ?_ (fun hHeld => ?_)
                    · exact s8
                    clear hK K
                    try simp only [Act.put, List.setIfInBounds_toArray, List.set_cons_zero, List.set_cons_succ]
                    refine wpAnyH_ready (rs := [9]) (by kernel_rfl) (by simp) ?_
                    refine AllReadyH.cons (o := ⟨some 72, .call ⟨.value (.func 12), #[.tmp 63, .tmp 65, .tmp 71], #[3, 5, 22]⟩, _, _, _, none⟩) rfl (fun K hK => ?_) ?_
                    · go_simp
                      refine (Mei.code_parse _ m1.code _ _ _ (b ++ [cx]) _ ho8.sl (by omega)).mono ?_
                      rintro e v9 ⟨⟨y9, rfl, hm9⟩, hb9⟩
                      obtain ⟨cs9, rfl, hs9, ho9, _⟩ := hm9.agg
                      rw [HMore.out]
                      have s9 : Below wc.heap.size wc v9 := below_next hHeld hb9 (Nat.le_refl _)
                      try replace hA := (hb9.block _ (lt_of_block hA)).trans hA
                      refine hK.out _ _ ?_ (fun hHeld => ?_)
                      · exact s9
                      clear hK K
                      try simp only [Act.put, List.setIfInBounds_toArray, List.set_cons_zero, List.set_cons_succ]
                      refine wpAnyH_take (i := 10) (oi := ⟨some 62, .move (.tmp 72), _, _, _, none⟩) (v := ?_) rfl (by kernel_rfl) (by kernel_rfl) (by kernel_rfl) (fun _ _ _ h => h) (Or.inl ⟨by rfl, ?_⟩) hHeld ?_
                      rotate_left
                      · (intro wq hSw; go_simp; try with_reducible rfl)
                      simp only [Act.put, List.setIfInBounds_toArray, List.set_cons_zero, List.set_cons_succ]
                      refine wpAnyH_take (i := 11) (oi := ⟨some 73, .extract (.tmp 62) 0, _, _, _, none⟩) (v := ?_) rfl (by kernel_rfl) (by kernel_rfl) (by kernel_rfl) (fun _ _ _ h => h) (Or.inl ⟨by rfl, ?_⟩) hHeld ?_
                      rotate_left
                      · (intro wq hSw; go_simp; try with_reducible rfl)
                      simp only [Act.put, List.setIfInBounds_toArray, List.set_cons_zero, List.set_cons_succ]
                      refine wpAnyH_take (i := 12) (oi := ⟨some 74, .extract (.tmp 62) 1, _, _, _, none⟩) (v := ?_) rfl (by kernel_rfl) (by kernel_rfl) (by kernel_rfl) (fun _ _ _ h => h) (Or.inl ⟨by rfl, ?_⟩) hHeld ?_
                      rotate_left
                      · (intro wq hSw; go_simp; try with_reducible rfl)
                      simp only [Act.put, List.setIfInBounds_toArray, List.set_cons_zero, List.set_cons_succ]
                      refine wpAnyH_ready (rs := [14]) (by kernel_rfl) (by simp) ?_
                      refine AllReadyH.cons (o := ⟨none, .store 30 (.tmp 16) (.tmp 73), _, _, _, none⟩) rfl (fun K hK => ?_) ?_
                      · refine step_store (by rfl) _ _ _ (by rfl) _ cs9 (by rfl) (by rfl) _ _ hA (msg_size cs9 hs9) (by rw [hs9]; rfl) ho9 ?_
                        intro u6 h6 b6 n6 z6
                        have s6 : Below wc.heap.size wc u6 := hHeld.trans (b6 _ (by first | exact hAw | omega))
                        refine hK.out _ _ ?_ (fun hHeld => ?_)
                        · exact s6
                        clear hK K
                        try simp only [Act.put]
                        refine wpAnyH_take (i := 15) (oi := ⟨some 17, .assign (.tmp 74), _, _, _, none⟩) (v := ?_) rfl (by kernel_rfl) (by kernel_rfl) (by kernel_rfl) (fun _ _ _ h => h) (Or.inl ⟨by rfl, ?_⟩) hHeld ?_
                        rotate_left
                        · (intro wq hSw; go_simp; try with_reducible rfl)
                        simp only [Act.put, List.setIfInBounds_toArray, List.set_cons_zero, List.set_cons_succ]
                        refine wpAnyH_done (by kernel_rfl) ?_ _
                        refine NoPanic.normal ?_
                        go_wp2
                        go_meet
                        case rel => exact ⟨rfl, s6⟩
                      exact AllReadyH.nil
                    exact AllReadyH.nil
                  exact AllReadyH.nil
                exact AllReadyH.nil
              refine AllReadyH.cons (o := ⟨some 70, .buildSlice 22 1 #[(0, .tmp 69)], _, _, _, none⟩) rfl (fun K hK => ?_) ?_
              · go_simp
                refine hK.out _ _ ?_ (fun hHeld => ?_)
                · exact hHeld.alloc hHeld.size _
                clear hK K
                try simp only [Act.put, List.setIfInBounds_toArray, List.set_cons_zero, List.set_cons_succ]
                try replace hA := alloc_keep hHeld hA
                try replace hL := sl_alloc hHeld hL
                try replace ho5 := own_alloc hHeld ho5
                try replace ho8 := own_alloc hHeld ho8
                have hL := by first | exact lit_of hHeld cx rfl | exact lit_of' hHeld cx rfl
                try simp only [World.size_alloc] at hL
                refine wpAnyH_ready (rs := [5]) (by kernel_rfl) (by simp) ?_
                refine AllReadyH.cons (o := ⟨some 68, .call ⟨.builtin .append, #[.tmp 66, .tmp 67], #[22, 22]⟩, _, _, _, none⟩) rfl (fun K hK => ?_) ?_
                · refine step_app0 (by rfl) _ _ (by rfl) _ (by rfl) (by rfl) (HX7.out.mono hHeld) (by omega) (Nat.le_refl _) ?_
                  intro q5 d5 v5 ho5 k5
                  obtain ⟨g5, o5, hq5, hB5, hlt5, _⟩ := ho5.room 0 (by have := ho5.sl.hle; omega)
                  have HQ5 := hide hq5
                  clear hq5
                  have s5 : Below wc.heap.size wc v5 := hHeld.trans (k5.mono hHeld.size)
                  have hW5 := hHeld.size
                  try (have hAn := Nat.ne_of_lt (Nat.lt_of_lt_of_le (lt_of_block hA) hB5))
                  try replace hA := (k5.block _ (lt_of_block hA)).trans hA
                  try replace hL := hL.mono k5
                  refine hK.out _ _ ?_ (fun hHeld => ?_)
                  · exact s5
                  clear hK K
                  try simp only [Act.put, List.setIfInBounds_toArray, List.set_cons_zero, List.set_cons_succ]
                  refine wpAnyH_ready (rs := [8]) (by kernel_rfl) (by simp) ?_
                  refine AllReadyH.cons (o := ⟨some 71, .call ⟨.builtin .append, #[.tmp 68, .tmp 70], #[22, 22]⟩, _, _, _, none⟩) rfl (fun K hK => ?_) ?_
                  · refine step_app_but (by rfl) _ _ (by rfl) _ (by rfl) ho5 (by rfl) hL (by omega) (by first | exact k5.size | exact Nat.le_trans k5.size (by simp <;> omega) | (have := k5.size; simp at this ⊢; omega)) g5 (fun b off h => by rw [HQ5.out] at h; cases h; rfl) ?_
                    intro q8 d8 v8 ho8 k8 u8
                    have s8 : Below wc.heap.size wc v8 := hHeld.trans (k8.mono hW5)
                    try replace hA := (u8.block _ (lt_of_block hA) hAn).trans hA
                    refine hK.out _ _ ?_ (fun hHeld => ?_)
                    · exact s8
                    clear hK K
                    try simp only [Act.put, List.setIfInBounds_toArray, List.set_cons_zero, List.set_cons_succ]
                    refine wpAnyH_ready (rs := [9]) (by kernel_rfl) (by simp) ?_
                    refine AllReadyH.cons (o := ⟨some 72, .call ⟨.value (.func 12), #[.tmp 63, .tmp 65, .tmp 71], #[3, 5, 22]⟩, _, _, _, none⟩) rfl (fun K hK => ?_) ?_
                    · go_simp
                      refine (Mei.code_parse _ m1.code _ _ _ (b ++ [cx]) _ ho8.sl (by omega)).mono ?_
                      rintro e v9 ⟨⟨y9, rfl, hm9⟩, hb9⟩
                      obtain ⟨cs9, rfl, hs9, ho9, _⟩ := hm9.agg
                      rw [HMore.out]
                      have s9 : Below wc.heap.size wc v9 := below_next hHeld hb9 (Nat.le_refl _)
                      try replace hA := (hb9.block _ (lt_of_block hA)).trans hA
                      refine hK.out _ _ ?_ (fun hHeld => ?_)
                      · exact s9
                      clear hK K
                      try simp only [Act.put, List.setIfInBounds_toArray, List.set_cons_zero, List.set_cons_succ]
                      refine wpAnyH_take (i := 10) (oi := ⟨some 62, .move (.tmp 72), _, _, _, none⟩) (v := ?_) rfl (by kernel_rfl) (by kernel_rfl) (by kernel_rfl) (fun _ _ _ h => h) (Or.inl ⟨by rfl, ?_⟩) hHeld ?_
                      rotate_left
                      · (intro wq hSw; go_simp; try with_reducible rfl)
                      simp only [Act.put, List.setIfInBounds_toArray, List.set_cons_zero, List.set_cons_succ]
                      refine wpAnyH_take (i := 11) (oi := ⟨some 73, .extract (.tmp 62) 0, _, _, _, none⟩) (v := ?_) rfl (by kernel_rfl) (by kernel_rfl) (by kernel_rfl) (fun _ _ _ h => h) (Or.inl ⟨by rfl, ?_⟩) hHeld ?_
                      rotate_left
                      · (intro wq hSw; go_simp; try with_reducible rfl)
                      simp only [Act.put, List.setIfInBounds_toArray, List.set_cons_zero, List.set_cons_succ]
                      refine wpAnyH_take (i := 12) (oi := ⟨some 74, .extract (.tmp 62) 1, _, _, _, none⟩) (v := ?_) rfl (by kernel_rfl) (by kernel_rfl) (by kernel_rfl) (fun _ _ _ h => h) (Or.inl ⟨by rfl, ?_⟩) hHeld ?_
                      rotate_left
                      · (intro wq hSw; go_simp; try with_reducible rfl)
                      simp only [Act.put, List.setIfInBounds_toArray, List.set_cons_zero, List.set_cons_succ]
                      refine wpAnyH_ready (rs := [14]) (by kernel_rfl) (by simp) ?_
                      refine AllReadyH.cons (o := ⟨none, .store 30 (.tmp 16) (.tmp 73), _, _, _, none⟩) rfl (fun K hK => ?_) ?_
                      · refine step_store (by rfl) _ _ _ (by rfl) _ cs9 (by rfl) (by rfl) _ _ hA (msg_size cs9 hs9) (by rw [hs9]; rfl) ho9 ?_
                        intro u6 h6 b6 n6 z6
                        have s6 : Below wc.heap.size wc u6 := hHeld.trans (b6 _ (by first | exact hAw | omega))
                        refine hK.out _ _ ?_ (fun hHeld => ?_)
                        · exact s6
                        clear hK K
                        try simp only [Act.put]
                        refine wpAnyH_take (i := 15) (oi := ⟨some 17, .assign (.tmp 74), _, _, _, none⟩) (v := ?_) rfl (by kernel_rfl) (by kernel_rfl) (by kernel_rfl) (fun _ _ _ h => h) (Or.inl ⟨by rfl, ?_⟩) hHeld ?_
                        rotate_left
                        · (intro wq hSw; go_simp; try with_reducible rfl)
                        simp only [Act.put, List.setIfInBounds_toArray, List.set_cons_zero, List.set_cons_succ]
                        refine wpAnyH_done (by kernel_rfl) ?_ _
                        refine NoPanic.normal ?_
                        go_wp2
                        go_meet
                        case rel => exact ⟨rfl, s6⟩
                      exact AllReadyH.nil
                    exact AllReadyH.nil
                  exact AllReadyH.nil
                exact AllReadyH.nil
              exact AllReadyH.nil
            exact AllReadyH.nil
          refine AllReadyH.cons (o := ⟨some 70, .buildSlice 22 1 #[(0, .tmp 69)], _, _, _, none⟩) rfl (fun K hK => ?_) ?_
          · go_simp
            refine hK.out _ _ ?_ (fun hHeld => ?_)
            · exact hHeld.alloc hHeld.size _
            clear hK K
            try simp only [Act.put, List.setIfInBounds_toArray, List.set_cons_zero, List.set_cons_succ]
            try replace hA := alloc_keep hHeld hA
            try replace hL := sl_alloc hHeld hL
            try replace ho5 := own_alloc hHeld ho5
            try replace ho8 := own_alloc hHeld ho8
            have hL := by first | exact lit_of hHeld cx rfl | exact lit_of' hHeld cx rfl
            try simp only [World.size_alloc] at hL
            refine wpAnyH_ready (rs := [3, 13]) (by kernel_rfl) (by simp) ?_
            refine AllReadyH.cons (o := ⟨some 66, .buildSlice 22 0 #[], _, _, _, none⟩) rfl (fun K hK => ?_) ?_
            · go_simp
              refine hK.out _ _ ?_ (fun hHeld => ?_)
              · exact hHeld.alloc hHeld.size _
              clear hK K
              try simp only [Act.put, List.setIfInBounds_toArray, List.set_cons_zero, List.set_cons_succ]
              try replace hA := alloc_keep hHeld hA
              try replace hL := sl_alloc hHeld hL
              try replace ho5 := own_alloc hHeld ho5
              try replace ho8 := own_alloc hHeld ho8
              refine wpAnyH_ready (rs := [5, 13]) (by kernel_rfl) (by simp) ?_
              refine AllReadyH.cons (o := ⟨some 68, .call ⟨.builtin .append, #[.tmp 66, .tmp 67], #[22, 22]⟩, _, _, _, none⟩) rfl (fun K hK => ?_) ?_
              · refine step_app0 (by rfl) _ _ (by rfl) _ (by rfl) (by rfl) (HX7.out.mono hHeld) (by omega) (Nat.le_refl _) ?_
                intro q5 d5 v5 ho5 k5
                obtain ⟨g5, o5, hq5, hB5, hlt5, _⟩ := ho5.room 0 (by have := ho5.sl.hle; omega)
                have HQ5 := hide hq5
                clear hq5
                have s5 : Below wc.heap.size wc v5 := hHeld.trans (k5.mono hHeld.size)
                have hW5 := hHeld.size
                try (have hAn := Nat.ne_of_lt (Nat.lt_of_lt_of_le (lt_of_block hA) hB5))
                try replace hA := (k5.block _ (lt_of_block hA)).trans hA
                try replace hL := hL.mono k5
                refine hK.out _ _ ?_ (fun hHeld => ?_)
                · exact s5
                clear hK K
                try simp only [Act.put, List.setIfInBounds_toArray, List.set_cons_zero, List.set_cons_succ]
                refine wpAnyH_ready (rs := [8, 13]) (by kernel_rfl) (by simp) ?_
                refine AllReadyH.cons (o := ⟨some 71, .call ⟨.builtin .append, #[.tmp 68, .tmp 70], #[22, 22]⟩, _, _, _, none⟩) rfl (fun K hK => ?_) ?_
                · refine step_app_but (by rfl) _ _ (by rfl) _ (by rfl) ho5 (by rfl) hL (by omega) (by first | exact k5.size | exact Nat.le_trans k5.size (by simp <;> omega) | (have := k5.size; simp at this ⊢; omega)) g5 (fun b off h => by rw [HQ5.out] at h; cases h; rfl) ?_
                  intro q8 d8 v8 ho8 k8 u8
                  have s8 : Below wc.heap.size wc v8 := hHeld.trans (k8.mono hW5)
                  try replace hA := (u8.block _ (lt_of_block hA) hAn).trans hA
                  refine hK.out _ _ ?_ (fun hHeld => ?_)
                  · exact s8
                  clear hK K
                  try simp only [Act.put, List.setIfInBounds_toArray, List.set_cons_zero, List.set_cons_succ]
                  refine wpAnyH_ready (rs := [9, 13]) (by kernel_rfl) (by simp) ?_
                  refine AllReadyH.cons (o := ⟨some 72, .call ⟨.value (.func 12), #[.tmp 63, .tmp 65, .tmp 71], #[3, 5, 22]⟩, _, _, _, none⟩) rfl (fun K hK => ?_) ?_
                  · go_simp
                    refine (Mei.code_parse _ m1.code _ _ _ (b ++ [cx]) _ ho8.sl (by omega)).mono ?_
                    rintro e v9 ⟨⟨y9, rfl, hm9⟩, hb9⟩
                    obtain ⟨cs9, rfl, hs9, ho9, _⟩ := hm9.agg
                    rw [HMore.out]
                    have s9 : Below wc.heap.size wc v9 := below_next hHeld hb9 (Nat.le_refl _)
                    try replace hA := (hb9.block _ (lt_of_block hA)).trans hA
                    refine hK.out _ _ ?_ (fun hHeld => ?_)
                    · exact s9
                    clear hK K
                    try simp only [Act.put, List.setIfInBounds_toArray, List.set_cons_zero, List.set_cons_succ]
                    refine wpAnyH_take (i := 10) (oi := ⟨some 62, .move (.tmp 72), _, _, _, none⟩) (v := ?_) rfl (by kernel_rfl) (by kernel_rfl) (by kernel_rfl) (fun _ _ _ h => h) (Or.inl ⟨by rfl, ?_⟩) hHeld ?_
                    rotate_left
                    · (intro wq hSw; go_simp; try with_reducible rfl)
                    simp only [Act.put, List.setIfInBounds_toArray, List.set_cons_zero, List.set_cons_succ]
                    refine wpAnyH_take (i := 11) (oi := ⟨some 73, .extract (.tmp 62) 0, _, _, _, none⟩) (v := ?_) rfl (by kernel_rfl) (by kernel_rfl) (by kernel_rfl) (fun _ _ _ h => h) (Or.inl ⟨by rfl, ?_⟩) hHeld ?_
                    rotate_left
                    · (intro wq hSw; go_simp; try with_reducible rfl)
                    simp only [Act.put, List.setIfInBounds_toArray, List.set_cons_zero, List.set_cons_succ]
                    refine wpAnyH_take (i := 12) (oi := ⟨some 74, .extract (.tmp 62) 1, _, _, _, none⟩) (v := ?_) rfl (by kernel_rfl) (by kernel_rfl) (by kernel_rfl) (fun _ _ _ h => h) (Or.inl ⟨by rfl, ?_⟩) hHeld ?_
                    rotate_left
                    · (intro wq hSw; go_simp; try with_reducible rfl)
                    simp only [Act.put, List.setIfInBounds_toArray, List.set_cons_zero, List.set_cons_succ]
                    refine wpAnyH_ready (rs := [13]) (by kernel_rfl) (by simp) ?_
                    refine AllReadyH.cons (o := ⟨some 16, .alloc 30, _, _, _, none⟩) rfl (fun K hK => ?_) ?_
                    · have hAw := hHeld.size
                      go_simp
                      refine hK.out _ _ ?_ (fun hHeld => ?_)
                      · exact hHeld.alloc hHeld.size _
                      clear hK K
                      try simp only [Act.put, List.setIfInBounds_toArray, List.set_cons_zero, List.set_cons_succ]
                      try replace hA := alloc_keep hHeld hA
                      try replace hL := sl_alloc hHeld hL
                      try replace ho5 := own_alloc hHeld ho5
                      try replace ho8 := own_alloc hHeld ho8
                      have hA := by first | exact alloc_at hHeld | exact alloc_at' hHeld
                      try simp only [World.size_alloc] at hA
                      try simp only [World.size_alloc] at hAw
                      try (have hAn := alloc_ne hHeld (show g5 < _ by first | exact hlt5 | (simp; omega)))
                      try simp only [World.size_alloc] at hAn
                      refine wpAnyH_ready (rs := [14]) (by kernel_rfl) (by simp) ?_
                      refine AllReadyH.cons (o := ⟨none, .store 30 (.tmp 16) (.tmp 73), _, _, _, none⟩) rfl (fun K hK => ?_) ?_
                      · refine step_store (by rfl) _ _ _ (by rfl) _ cs9 (by rfl) (by rfl) _ _ hA (msg_size cs9 hs9) (by rw [hs9]; rfl) ho9 ?_
                        intro u6 h6 b6 n6 z6
                        have s6 : Below wc.heap.size wc u6 := hHeld.trans (b6 _ (by first | exact hAw | omega))
                        refine hK.out _ _ ?_ (fun hHeld => ?_)
                        · exact s6
                        clear hK K
                        try simp only [Act.put]
                        refine wpAnyH_take (i := 15) (oi := ⟨some 17, .assign (.tmp 74), _, _, _, none⟩) (v := ?_) rfl (by kernel_rfl) (by kernel_rfl) (by kernel_rfl) (fun _ _ _ h => h) (Or.inl ⟨by rfl, ?_⟩) hHeld ?_
                        rotate_left
                        · (intro wq hSw; go_simp; try with_reducible rfl)
                        simp only [Act.put, List.setIfInBounds_toArray, List.set_cons_zero, List.set_cons_succ]
                        refine wpAnyH_done (by kernel_rfl) ?_ _
                        refine NoPanic.normal ?_
                        go_wp2
                        go_meet
                        case rel => exact ⟨rfl, s6⟩
                      exact AllReadyH.nil
                    exact AllReadyH.nil
                  refine AllReadyH.cons (o := ⟨some 16, .alloc 30, _, _, _, none⟩) rfl (fun K hK => ?_) ?_
                  · have hAw := hHeld.size
                    go_simp
                    refine hK.out _ _ ?_ (fun hHeld => ?_)
                    · exact hHeld.alloc hHeld.size _
                    clear hK K
                    try simp only [Act.put, List.setIfInBounds_toArray, List.set_cons_zero, List.set_cons_succ]
                    try replace hA := alloc_keep hHeld hA
                    try replace hL := sl_alloc hHeld hL
                    try replace ho5 := own_alloc hHeld ho5
                    try replace ho8 := own_alloc hHeld ho8
                    have hA := by first | exact alloc_at hHeld | exact alloc_at' hHeld
                    try simp only [World.size_alloc] at hA
                    try simp only [World.size_alloc] at hAw
                    try (have hAn := alloc_ne hHeld (show g5 < _ by first | exact hlt5 | (simp; omega)))
                    try simp only [World.size_alloc] at hAn
                    refine wpAnyH_ready (rs := [9]) (by kernel_rfl) (by simp) ?_
                    refine AllReadyH.cons (o := ⟨some 72, .call ⟨.value (.func 12), #[.tmp 63, .tmp 65, .tmp 71], #[3, 5, 22]⟩, _, _, _, none⟩) rfl (fun K hK => ?_) ?_
                    · go_simp
                      refine (Mei.code_parse _ m1.code _ _ _ (b ++ [cx]) _ ho8.sl (by omega)).mono ?_
                      rintro e v9 ⟨⟨y9, rfl, hm9⟩, hb9⟩
                      obtain ⟨cs9, rfl, hs9, ho9, _⟩ := hm9.agg
                      rw [HMore.out]
                      have s9 : Below wc.heap.size wc v9 := below_next hHeld hb9 (Nat.le_refl _)
                      try replace hA := (hb9.block _ (lt_of_block hA)).trans hA
                      refine hK.out _ _ ?_ (fun hHeld => ?_)
                      · exact s9
                      clear hK K
                      try simp only [Act.put, List.setIfInBounds_toArray, List.set_cons_zero, List.set_cons_succ]
                      refine wpAnyH_take (i := 10) (oi := ⟨some 62, .move (.tmp 72), _, _, _, none⟩) (v := ?_) rfl (by kernel_rfl) (by kernel_rfl) (by kernel_rfl) (fun _ _ _ h => h) (Or.inl ⟨by rfl, ?_⟩) hHeld ?_
                      rotate_left
                      · (intro wq hSw; go_simp; try with_reducible rfl)
                      simp only [Act.put, List.setIfInBounds_toArray, List.set_cons_zero, List.set_cons_succ]
                      refine wpAnyH_take (i := 11) (oi := ⟨some 73, .extract (.tmp 62) 0, _, _, _, none⟩) (v := ?_) rfl (by kernel_rfl) (by kernel_rfl) (by kernel_rfl) (fun _ _ _ h => h) (Or.inl ⟨by rfl, ?_⟩) hHeld ?_
                      rotate_left
                      · (intro wq hSw; go_simp; try with_reducible rfl)
                      simp only [Act.put, List.setIfInBounds_toArray, List.set_cons_zero, List.set_cons_succ]
                      refine wpAnyH_take (i := 12) (oi := ⟨some 74, .extract (.tmp 62) 1, _, _, _, none⟩) (v := ?_) rfl (by kernel_rfl) (by kernel_rfl) (by kernel_rfl) (fun _ _ _ h => h) (Or.inl ⟨by rfl, ?_⟩) hHeld ?_
                      rotate_left
                      · (intro wq hSw; go_simp; try with_reducible rfl)
                      simp only [Act.put, List.setIfInBounds_toArray, List.set_cons_zero, List.set_cons_succ]
                      refine wpAnyH_ready (rs := [14]) (by kernel_rfl) (by simp) ?_
                      refine AllReadyH.cons (o := ⟨none, .store 30 (.tmp 16) (.tmp 73), _, _, _, none⟩) rfl (fun K hK => ?_) ?_
                      · refine step_store (by rfl) _ _ _ (by rfl) _ cs9 (by rfl) (by rfl) _ _ hA (msg_size cs9 hs9) (by rw [hs9]; rfl) ho9 ?_
                        intro u6 h6 b6 n6 z6
                        have s6 : Below wc.heap.size wc u6 := hHeld.trans (b6 _ (by first | exact hAw | omega))
                        refine hK.out _ _ ?_ (fun hHeld => ?_)
                        · exact s6
                        clear hK K
                        try simp only [Act.put]
                        refine wpAnyH_take (i := 15) (oi := ⟨some 17, .assign (.tmp 74), _, _, _, none⟩) (v := ?_) rfl (by kernel_rfl) (by kernel_rfl) (by kernel_rfl) (fun _ _ _ h => h) (Or.inl ⟨by rfl, ?_⟩) hHeld ?_
                        rotate_left
                        · (intro wq hSw; go_simp; try with_reducible rfl)
                        simp only [Act.put, List.setIfInBounds_toArray, List.set_cons_zero, List.set_cons_succ]
                        refine wpAnyH_done (by kernel_rfl) ?_ _
                        refine NoPanic.normal ?_
                        go_wp2
                        go_meet
                        case rel => exact ⟨rfl, s6⟩
                      exact AllReadyH.nil
                    exact AllReadyH.nil
                  exact AllReadyH.nil
                refine AllReadyH.cons (o := ⟨some 16, .alloc 30, _, _, _, none⟩) rfl (fun K hK => ?_) ?_
                · have hAw := hHeld.size
                  go_simp
                  refine hK.out _ _ ?_ (fun hHeld => ?_)
                  · exact hHeld.alloc hHeld.size _
                  clear hK K
                  try simp only [Act.put, List.setIfInBounds_toArray, List.set_cons_zero, List.set_cons_succ]
                  try replace hA := alloc_keep hHeld hA
                  try replace hL := sl_alloc hHeld hL
                  try replace ho5 := own_alloc hHeld ho5
                  try replace ho8 := own_alloc hHeld ho8
                  have hA := by first | exact alloc_at hHeld | exact alloc_at' hHeld
                  try simp only [World.size_alloc] at hA
                  try simp only [World.size_alloc] at hAw
                  try (have hAn := alloc_ne hHeld (show g5 < _ by first | exact hlt5 | (simp; omega)))
                  try simp only [World.size_alloc] at hAn
                  refine wpAnyH_ready (rs := [8]) (by kernel_rfl) (by simp) ?_
                  refine AllReadyH.cons (o := ⟨some 71, .call ⟨.builtin .append, #[.tmp 68, .tmp 70], #[22, 22]⟩, _, _, _, none⟩) rfl (fun K hK => ?_) ?_
                  · refine step_app_but (by rfl) _ _ (by rfl) _ (by rfl) ho5 (by rfl) hL (by omega) (by first | exact k5.size | exact Nat.le_trans k5.size (by simp <;> omega) | (have := k5.size; simp at this ⊢; omega)) g5 (fun b off h => by rw [HQ5.out] at h; cases h; rfl) ?_
                    intro q8 d8 v8 ho8 k8 u8
                    have s8 : Below wc.heap.size wc v8 := hHeld.trans (k8.mono hW5)
                    try replace hA := (u8.block _ (lt_of_block hA) hAn).trans hA
                    refine hK.out _ _ ?_ (fun hHeld => ?_)
                    · exact s8
                    clear hK K
                    try simp only [Act.put, List.setIfInBounds_toArray, List.set_cons_zero, List.set_cons_succ]
                    refine wpAnyH_ready (rs := [9]) (by kernel_rfl) (by simp) ?_
                    refine AllReadyH.cons (o := ⟨some 72, .call ⟨.value (.func 12), #[.tmp 63, .tmp 65, .tmp 71], #[3, 5, 22]⟩, _, _, _, none⟩) rfl (fun K hK => ?_) ?_
                    · go_simp
                      refine (Mei.code_parse _ m1.code _ _ _ (b ++ [cx]) _ ho8.sl (by omega)).mono ?_
                      rintro e v9 ⟨⟨y9, rfl, hm9⟩, hb9⟩
                      obtain ⟨cs9, rfl, hs9, ho9, _⟩ := hm9.agg
                      rw [HMore.out]
                      have s9 : Below wc.heap.size wc v9 := below_next hHeld hb9 (Nat.le_refl _)
                      try replace hA := (hb9.block _ (lt_of_block hA)).trans hA
                      refine hK.out _ _ ?_ (fun hHeld => ?_)
                      · exact s9
                      clear hK K
                      try simp only [Act.put, List.setIfInBounds_toArray, List.set_cons_zero, List.set_cons_succ]
                      refine wpAnyH_take (i := 10) (oi := ⟨some 62, .move (.tmp 72), _, _, _, none⟩) (v := ?_) rfl (by kernel_rfl) (by kernel_rfl) (by kernel_rfl) (fun _ _ _ h => h) (Or.inl ⟨by rfl, ?_⟩) hHeld ?_
                      rotate_left
                      · (intro wq hSw; go_simp; try with_reducible rfl)
                      simp only [Act.put, List.setIfInBounds_toArray, List.set_cons_zero, List.set_cons_succ]
                      refine wpAnyH_take (i := 11) (oi := ⟨some 73, .extract (.tmp 62) 0, _, _, _, none⟩) (v := ?_) rfl (by kernel_rfl) (by kernel_rfl) (by kernel_rfl) (fun _ _ _ h => h) (Or.inl ⟨by rfl, ?_⟩) hHeld ?_
                      rotate_left
                      · (intro wq hSw; go_simp; try with_reducible rfl)
                      simp only [Act.put, List.setIfInBounds_toArray, List.set_cons_zero, List.set_cons_succ]
                      refine wpAnyH_take (i := 12) (oi := ⟨some 74, .extract (.tmp 62) 1, _, _, _, none⟩) (v := ?_) rfl (by kernel_rfl) (by kernel_rfl) (by kernel_rfl) (fun _ _ _ h => h) (Or.inl ⟨by rfl, ?_⟩) hHeld ?_
                      rotate_left
                      · (intro wq hSw; go_simp; try with_reducible rfl)
                      simp only [Act.put, List.setIfInBounds_toArray, List.set_cons_zero, List.set_cons_succ]
                      refine wpAnyH_ready (rs := [14]) (by kernel_rfl) (by simp) ?_
                      refine AllReadyH.cons (o := ⟨none, .store 30 (.tmp 16) (.tmp 73), _, _, _, none⟩) rfl (fun K hK => ?_) ?_
                      · refine step_store (by rfl) _ _ _ (by rfl) _ cs9 (by rfl) (by rfl) _ _ hA (msg_size cs9 hs9) (by rw [hs9]; rfl) ho9 ?_
                        intro u6 h6 b6 n6 z6
                        have s6 : Below wc.heap.size wc u6 := hHeld.trans (b6 _ (by first | exact hAw | omega))
                        refine hK.out _ _ ?_ (fun hHeld => ?_)
                        · exact s6
                        clear hK K
                        try simp only [Act.put]
                        refine wpAnyH_take (i := 15) (oi := ⟨some 17, .assign (.tmp 74), _, _, _, none⟩) (v := ?_) rfl (by kernel_rfl) (by kernel_rfl) (by kernel_rfl) (fun _ _ _ h => h) (Or.inl ⟨by rfl, ?_⟩) hHeld ?_
                        rotate_left
                        · (intro wq hSw; go_simp; try with_reducible rfl)
                        simp only [Act.put, List.setIfInBounds_toArray, List.set_cons_zero, List.set_cons_succ]
                        refine wpAnyH_done (by kernel_rfl) ?_ _
                        refine NoPanic.normal ?_
                        go_wp2
                        go_meet
                        case rel => exact ⟨rfl, s6⟩
                      exact AllReadyH.nil
                    exact AllReadyH.nil
                  exact AllReadyH.nil
                exact AllReadyH.nil
              refine AllReadyH.cons (o := ⟨some 16, .alloc 30, _, _, _, none⟩) rfl (fun K hK => ?_) ?_
              · have hAw := hHeld.size
                go_simp
                refine hK.out _ _ ?_ (fun hHeld => ?_)
                · exact hHeld.alloc hHeld.size _
                clear hK K
                try simp only [Act.put, List.setIfInBounds_toArray, List.set_cons_zero, List.set_cons_succ]
                try replace hA := alloc_keep hHeld hA
                try replace hL := sl_alloc hHeld hL
                try replace ho5 := own_alloc hHeld ho5
                try replace ho8 := own_alloc hHeld ho8
                have hA := by first | exact alloc_at hHeld | exact alloc_at' hHeld
                try simp only [World.size_alloc] at hA
                try simp only [World.size_alloc] at hAw
                try (have hAn := alloc_ne hHeld (show g5 < _ by first | exact hlt5 | (simp; omega)))
                try simp only [World.size_alloc] at hAn
                refine wpAnyH_ready (rs := [5]) (by kernel_rfl) (by simp) ?_
                refine AllReadyH.cons (o := ⟨some 68, .call ⟨.builtin .append, #[.tmp 66, .tmp 67], #[22, 22]⟩, _, _, _, none⟩) rfl (fun K hK => ?_) ?_
                · refine step_app0 (by rfl) _ _ (by rfl) _ (by rfl) (by rfl) (HX7.out.mono hHeld) (by omega) (Nat.le_refl _) ?_
                  intro q5 d5 v5 ho5 k5
                  obtain ⟨g5, o5, hq5, hB5, hlt5, _⟩ := ho5.room 0 (by have := ho5.sl.hle; omega)
                  have HQ5 := hide hq5
                  clear hq5
                  have s5 : Below wc.heap.size wc v5 := hHeld.trans (k5.mono hHeld.size)
                  have hW5 := hHeld.size
                  try (have hAn := Nat.ne_of_lt (Nat.lt_of_lt_of_le (lt_of_block hA) hB5))
                  try replace hA := (k5.block _ (lt_of_block hA)).trans hA
                  try replace hL := hL.mono k5
                  refine hK.out _ _ ?_ (fun hHeld => ?_)
                  · exact s5
                  clear hK K
                  try simp only [Act.put, List.setIfInBounds_toArray, List.set_cons_zero, List.set_cons_succ]
                  refine wpAnyH_ready (rs := [8]) (by kernel_rfl) (by simp) ?_
                  refine AllReadyH.cons (o := ⟨some 71, .call ⟨.builtin .append, #[.tmp 68, .tmp 70], #[22, 22]⟩, _, _, _, none⟩) rfl (fun K hK => ?_) ?_
                  · refine step_app_but (by rfl) _ _ (by rfl) _ (by rfl) ho5 (by rfl) hL (by omega) (by first | exact k5.size | exact Nat.le_trans k5.size (by simp <;> omega) | (have := k5.size; simp at this ⊢; omega)) g5 (fun b off h => by rw [HQ5.out] at h; cases h; rfl) ?_
                    intro q8 d8 v8 ho8 k8 u8
                    have s8 : Below wc.heap.size wc v8 := hHeld.trans (k8.mono hW5)
                    try replace hA := (u8.block _ (lt_of_block hA) hAn).trans hA
                    refine hK.out _ _ ?_ (fun hHeld => ?_)
                    · exact s8
                    clear hK K
                    try simp only [Act.put, List.setIfInBounds_toArray, List.set_cons_zero, List.set_cons_succ]
                    refine wpAnyH_ready (rs := [9]) (by kernel_rfl) (by simp) ?_
                    refine AllReadyH.cons (o := ⟨some 72, .call ⟨.value (.func 12), #[.tmp 63, .tmp 65, .tmp 71], #[3, 5, 22]⟩, _, _, _, none⟩) rfl (fun K hK => ?_) ?_
                    · go_simp
                      refine (Mei.code_parse _ m1.code _ _ _ (b ++ [cx]) _ ho8.sl (by omega)).mono ?_
                      rintro e v9 ⟨⟨y9, rfl, hm9⟩, hb9⟩
                      obtain ⟨cs9, rfl, hs9, ho9, _⟩ := hm9.agg
                      rw [HMore.out]
                      have s9 : Below wc.heap.size wc v9 := below_next hHeld hb9 (Nat.le_refl _)
                      try replace hA := (hb9.block _ (lt_of_block hA)).trans hA
                      refine hK.out _ _ ?_ (fun hHeld => ?_)
                      · exact s9
                      clear hK K
                      try simp only [Act.put, List.setIfInBounds_toArray, List.set_cons_zero, List.set_cons_succ]
                      refine wpAnyH_take (i := 10) (oi := ⟨some 62, .move (.tmp 72), _, _, _, none⟩) (v := ?_) rfl (by kernel_rfl) (by kernel_rfl) (by kernel_rfl) (fun _ _ _ h => h) (Or.inl ⟨by rfl, ?_⟩) hHeld ?_
                      rotate_left
                      · (intro wq hSw; go_simp; try with_reducible rfl)
                      simp only [Act.put, List.setIfInBounds_toArray, List.set_cons_zero, List.set_cons_succ]
                      refine wpAnyH_take (i := 11) (oi := ⟨some 73, .extract (.tmp 62) 0, _, _, _, none⟩) (v := ?_) rfl (by kernel_rfl) (by kernel_rfl) (by kernel_rfl) (fun _ _ _ h => h) (Or.inl ⟨by rfl, ?_⟩) hHeld ?_
                      rotate_left
                      · (intro wq hSw; go_simp; try with_reducible rfl)
                      simp only [Act.put, List.setIfInBounds_toArray, List.set_cons_zero, List.set_cons_succ]
                      refine wpAnyH_take (i := 12) (oi := ⟨some 74, .extract (.tmp 62) 1, _, _, _, none⟩) (v := ?_) rfl (by kernel_rfl) (by kernel_rfl) (by kernel_rfl) (fun _ _ _ h => h) (Or.inl ⟨by rfl, ?_⟩) hHeld ?_
                      rotate_left
                      · (intro wq hSw; go_simp; try with_reducible rfl)
                      simp only [Act.put, List.setIfInBounds_toArray, List.set_cons_zero, List.set_cons_succ]
                      refine wpAnyH_ready (rs := [14]) (by kernel_rfl) (by simp) ?_
                      refine AllReadyH.cons (o := ⟨none, .store 30 (.tmp 16) (.tmp 73), _, _, _, none⟩) rfl (fun K hK => ?_) ?_
                      · refine step_store (by rfl) _ _ _ (by rfl) _ cs9 (by rfl) (by rfl) _ _ hA (msg_size cs9 hs9) (by rw [hs9]; rfl) ho9 ?_
                        intro u6 h6 b6 n6 z6
                        have s6 : Below wc.heap.size wc u6 := hHeld.trans (b6 _ (by first | exact hAw | omega))
                        refine hK.out _ _ ?_ (fun hHeld => ?_)
                        · exact s6
                        clear hK K
                        try simp only [Act.put]
                        refine wpAnyH_take (i := 15) (oi := ⟨some 17, .assign (.tmp 74), _, _, _, none⟩) (v := ?_) rfl (by kernel_rfl) (by kernel_rfl) (by kernel_rfl) (fun _ _ _ h => h) (Or.inl ⟨by rfl, ?_⟩) hHeld ?_
                        rotate_left
                        · (intro wq hSw; go_simp; try with_reducible rfl)
                        simp only [Act.put, List.setIfInBounds_toArray, List.set_cons_zero, List.set_cons_succ]
                        refine wpAnyH_done (by kernel_rfl) ?_ _
                        refine NoPanic.normal ?_
                        go_wp2
                        go_meet
                        case rel => exact ⟨rfl, s6⟩
                      exact AllReadyH.nil
                    exact AllReadyH.nil
                  exact AllReadyH.nil
                exact AllReadyH.nil
              exact AllReadyH.nil
            refine AllReadyH.cons (o := ⟨some 16, .alloc 30, _, _, _, none⟩) rfl (fun K hK => ?_) ?_
            · have hAw := hHeld.size
              go_simp
              refine hK.out _ _ ?_ (fun hHeld => ?_)
              · exact hHeld.alloc hHeld.size _
              clear hK K
              try simp only [Act.put, List.setIfInBounds_toArray, List.set_cons_zero, List.set_cons_succ]
              try replace hA := alloc_keep hHeld hA
              try replace hL := sl_alloc hHeld hL
              try replace ho5 := own_alloc hHeld ho5
              try replace ho8 := own_alloc hHeld ho8
              have hA := by first | exact alloc_at hHeld | exact alloc_at' hHeld
              try simp only [World.size_alloc] at hA
              try simp only [World.size_alloc] at hAw
              try (have hAn := alloc_ne hHeld (show g5 < _ by first | exact hlt5 | (simp; omega)))
              try simp only [World.size_alloc] at hAn
              refine wpAnyH_ready (rs := [3]) (by kernel_rfl) (by simp) ?_
              refine AllReadyH.cons (o := ⟨some 66, .buildSlice 22 0 #[], _, _, _, none⟩) rfl (fun K hK => ?_) ?_
              · go_simp
                refine hK.out _ _ ?_ (fun hHeld => ?_)
                · exact hHeld.alloc hHeld.size _
                clear hK K
                try simp only [Act.put, List.setIfInBounds_toArray, List.set_cons_zero, List.set_cons_succ]
                try replace hA := alloc_keep hHeld hA
                try replace hL := sl_alloc hHeld hL
                try replace ho5 := own_alloc hHeld ho5
                try replace ho8 := own_alloc hHeld ho8
                refine wpAnyH_ready (rs := [5]) (by kernel_rfl) (by simp) ?_
                refine AllReadyH.cons (o := ⟨some 68, .call ⟨.builtin .append, #[.tmp 66, .tmp 67], #[22, 22]⟩, _, _, _, none⟩) rfl (fun K hK => ?_) ?_
                · refine step_app0 (by rfl) _ _ (by rfl) _ (by rfl) (by rfl) (HX7.out.mono hHeld) (by omega) (Nat.le_refl _) ?_
                  intro q5 d5 v5 ho5 k5
                  obtain ⟨g5, o5, hq5, hB5, hlt5, _⟩ := ho5.room 0 (by have := ho5.sl.hle; omega)
                  have HQ5 := hide hq5
                  clear hq5
                  have s5 : Below wc.heap.size wc v5 := hHeld.trans (k5.mono hHeld.size)
                  have hW5 := hHeld.size
                  try (have hAn := Nat.ne_of_lt (Nat.lt_of_lt_of_le (lt_of_block hA) hB5))
                  try replace hA := (k5.block _ (lt_of_block hA)).trans hA
                  try replace hL := hL.mono k5
                  refine hK.out _ _ ?_ (fun hHeld => ?_)
                  · exact s5
                  clear hK K
                  try simp only [Act.put, List.setIfInBounds_toArray, List.set_cons_zero, List.set_cons_succ]
                  refine wpAnyH_ready (rs := [8]) (by kernel_rfl) (by simp) ?_
                  refine AllReadyH.cons (o := ⟨some 71, .call ⟨.builtin .append, #[.tmp 68, .tmp 70], #[22, 22]⟩, _, _, _, none⟩) rfl (fun K hK => ?_) ?_
                  · refine step_app_but (by rfl) _ _ (by rfl) _ (by rfl) ho5 (by rfl) hL (by omega) (by first | exact k5.size | exact Nat.le_trans k5.size (by simp <;> omega) | (have := k5.size; simp at this ⊢; omega)) g5 (fun b off h => by rw [HQ5.out] at h; cases h; rfl) ?_
                    intro q8 d8 v8 ho8 k8 u8
                    have s8 : Below wc.heap.size wc v8 := hHeld.trans (k8.mono hW5)
                    try replace hA := (u8.block _ (lt_of_block hA) hAn).trans hA
                    refine hK.out _ _ ?_ (fun hHeld => ?_)
                    · exact s8
                    clear hK K
                    try simp only [Act.put, List.setIfInBounds_toArray, List.set_cons_zero, List.set_cons_succ]
                    refine wpAnyH_ready (rs := [9]) (by kernel_rfl) (by simp) ?_
                    refine AllReadyH.cons (o := ⟨some 72, .call ⟨.value (.func 12), #[.tmp 63, .tmp 65, .tmp 71], #[3, 5, 22]⟩, _, _, _, none⟩) rfl (fun K hK => ?_) ?_
                    · go_simp
                      refine (Mei.code_parse _ m1.code _ _ _ (b ++ [cx]) _ ho8.sl (by omega)).mono ?_
                      rintro e v9 ⟨⟨y9, rfl, hm9⟩, hb9⟩
                      obtain ⟨cs9, rfl, hs9, ho9, _⟩ := hm9.agg
                      rw [HMore.out]
                      have s9 : Below wc.heap.size wc v9 := below_next hHeld hb9 (Nat.le_refl _)
                      try replace hA := (hb9.block _ (lt_of_block hA)).trans hA
                      refine hK.out _ _ ?_ (fun hHeld => ?_)
                      · exact s9
                      clear hK K
                      try simp only [Act.put, List.setIfInBounds_toArray, List.set_cons_zero, List.set_cons_succ]
                      refine wpAnyH_take (i := 10) (oi := ⟨some 62, .move (.tmp 72), _, _, _, none⟩) (v := ?_) rfl (by kernel_rfl) (by kernel_rfl) (by kernel_rfl) (fun _ _ _ h => h) (Or.inl ⟨by rfl, ?_⟩) hHeld ?_
                      rotate_left
                      · (intro wq hSw; go_simp; try with_reducible rfl)
                      simp only [Act.put, List.setIfInBounds_toArray, List.set_cons_zero, List.set_cons_succ]
                      refine wpAnyH_take (i := 11) (oi := ⟨some 73, .extract (.tmp 62) 0, _, _, _, none⟩) (v := ?_) rfl (by kernel_rfl) (by kernel_rfl) (by kernel_rfl) (fun _ _ _ h => h) (Or.inl ⟨by rfl, ?_⟩) hHeld ?_
                      rotate_left
                      · (intro wq hSw; go_simp; try with_reducible rfl)
                      simp only [Act.put, List.setIfInBounds_toArray, List.set_cons_zero, List.set_cons_succ]
                      refine wpAnyH_take (i := 12) (oi := ⟨some 74, .extract (.tmp 62) 1, _, _, _, none⟩) (v := ?_) rfl (by kernel_rfl) (by kernel_rfl) (by kernel_rfl) (fun _ _ _ h => h) (Or.inl ⟨by rfl, ?_⟩) hHeld ?_
                      rotate_left
                      · (intro wq hSw; go_simp; try with_reducible rfl)
                      simp only [Act.put, List.setIfInBounds_toArray, List.set_cons_zero, List.set_cons_succ]
                      refine wpAnyH_ready (rs := [14]) (by kernel_rfl) (by simp) ?_
                      refine AllReadyH.cons (o := ⟨none, .store 30 (.tmp 16) (.tmp 73), _, _, _, none⟩) rfl (fun K hK => ?_) ?_
                      · refine step_store (by rfl) _ _ _ (by rfl) _ cs9 (by rfl) (by rfl) _ _ hA (msg_size cs9 hs9) (by rw [hs9]; rfl) ho9 ?_
                        intro u6 h6 b6 n6 z6
                        have s6 : Below wc.heap.size wc u6 := hHeld.trans (b6 _ (by first | exact hAw | omega))
                        refine hK.out _ _ ?_ (fun hHeld => ?_)
                        · exact s6
                        clear hK K
                        try simp only [Act.put]
                        refine wpAnyH_take (i := 15) (oi := ⟨some 17, .assign (.tmp 74), _, _, _, none⟩) (v := ?_) rfl (by kernel_rfl) (by kernel_rfl) (by kernel_rfl) (fun _ _ _ h => h) (Or.inl ⟨by rfl, ?_⟩) hHeld ?_
                        rotate_left
                        · (intro wq hSw; go_simp; try with_reducible rfl)
                        simp only [Act.put, List.setIfInBounds_toArray, List.set_cons_zero, List.set_cons_succ]
                        refine wpAnyH_done (by kernel_rfl) ?_ _
                        refine NoPanic.normal ?_
                        go_wp2
                        go_meet
                        case rel => exact ⟨rfl, s6⟩
                      exact AllReadyH.nil
                    exact AllReadyH.nil
                  exact AllReadyH.nil
                exact AllReadyH.nil
              exact AllReadyH.nil
            exact AllReadyH.nil
          refine AllReadyH.cons (o := ⟨some 16, .alloc 30, _, _, _, none⟩) rfl (fun K hK => ?_) ?_
          · have hAw := hHeld.size
            go_simp
            refine hK.out _ _ ?_ (fun hHeld => ?_)
            · exact hHeld.alloc hHeld.size _
            clear hK K
            try simp only [Act.put, List.setIfInBounds_toArray, List.set_cons_zero, List.set_cons_succ]
            try replace hA := alloc_keep hHeld hA
            try replace hL := sl_alloc hHeld hL
            try replace ho5 := own_alloc hHeld ho5
            try replace ho8 := own_alloc hHeld ho8
            have hA := by first | exact alloc_at hHeld | exact alloc_at' hHeld
            try simp only [World.size_alloc] at hA
            try simp only [World.size_alloc] at hAw
            try (have hAn := alloc_ne hHeld (show g5 < _ by first | exact hlt5 | (simp; omega)))
            try simp only [World.size_alloc] at hAn
            refine wpAnyH_ready (rs := [3, 7]) (by kernel_rfl) (by simp) ?_
            refine AllReadyH.cons (o := ⟨some 66, .buildSlice 22 0 #[], _, _, _, none⟩) rfl (fun K hK => ?_) ?_
            · go_simp
              refine hK.out _ _ ?_ (fun hHeld => ?_)
              · exact hHeld.alloc hHeld.size _
              clear hK K
              try simp only [Act.put, List.setIfInBounds_toArray, List.set_cons_zero, List.set_cons_succ]
              try replace hA := alloc_keep hHeld hA
              try replace hL := sl_alloc hHeld hL
              try replace ho5 := own_alloc hHeld ho5
              try replace ho8 := own_alloc hHeld ho8
              refine wpAnyH_ready (rs := [5, 7]) (by kernel_rfl) (by simp) ?_
              refine AllReadyH.cons (o := ⟨some 68, .call ⟨.builtin .append, #[.tmp 66, .tmp 67], #[22, 22]⟩, _, _, _, none⟩) rfl (fun K hK => ?_) ?_
              · refine step_app0 (by rfl) _ _ (by rfl) _ (by rfl) (by rfl) (HX7.out.mono hHeld) (by omega) (Nat.le_refl _) ?_
                intro q5 d5 v5 ho5 k5
                obtain ⟨g5, o5, hq5, hB5, hlt5, _⟩ := ho5.room 0 (by have := ho5.sl.hle; omega)
                have HQ5 := hide hq5
                clear hq5
                have s5 : Below wc.heap.size wc v5 := hHeld.trans (k5.mono hHeld.size)
                have hW5 := hHeld.size
                try (have hAn := Nat.ne_of_lt (Nat.lt_of_lt_of_le (lt_of_block hA) hB5))
                try replace hA := (k5.block _ (lt_of_block hA)).trans hA
                try replace hL := hL.mono k5
                refine hK.out _ _ ?_ (fun hHeld => ?_)
                · exact s5
                clear hK K
                try simp only [Act.put, List.setIfInBounds_toArray, List.set_cons_zero, List.set_cons_succ]
                refine wpAnyH_ready (rs := [7]) (by kernel_rfl) (by simp) ?_
                refine AllReadyH.cons (o := ⟨some 70, .buildSlice 22 1 #[(0, .tmp 69)], _, _, _, none⟩) rfl (fun K hK => ?_) ?_
                · go_simp
                  refine hK.out _ _ ?_ (fun hHeld => ?_)
                  · exact hHeld.alloc hHeld.size _
                  clear hK K
                  try simp only [Act.put, List.setIfInBounds_toArray, List.set_cons_zero, List.set_cons_succ]
                  try replace hA := alloc_keep hHeld hA
                  try replace hL := sl_alloc hHeld hL
                  try replace ho5 := own_alloc hHeld ho5
                  try replace ho8 := own_alloc hHeld ho8
                  have hL := by first | exact lit_of hHeld cx rfl | exact lit_of' hHeld cx rfl
                  try simp only [World.size_alloc] at hL
                  refine wpAnyH_ready (rs := [8]) (by kernel_rfl) (by simp) ?_
                  refine AllReadyH.cons (o := ⟨some 71, .call ⟨.builtin .append, #[.tmp 68, .tmp 70], #[22, 22]⟩, _, _, _, none⟩) rfl (fun K hK => ?_) ?_
                  · refine step_app_but (by rfl) _ _ (by rfl) _ (by rfl) ho5 (by rfl) hL (by omega) (by first | exact k5.size | exact Nat.le_trans k5.size (by simp <;> omega) | (have := k5.size; simp at this ⊢; omega)) g5 (fun b off h => by rw [HQ5.out] at h; cases h; rfl) ?_
                    intro q8 d8 v8 ho8 k8 u8
                    have s8 : Below wc.heap.size wc v8 := hHeld.trans (k8.mono hW5)
                    try replace hA := (u8.block _ (lt_of_block hA) hAn).trans hA
                    refine hK.out _ _ ?_ (fun hHeld => ?_)
                    · exact s8
                    clear hK K
                    try simp only [Act.put, List.setIfInBounds_toArray, List.set_cons_zero, List.set_cons_succ]
                    refine wpAnyH_ready (rs := [9]) (by kernel_rfl) (by simp) ?_
                    refine AllReadyH.cons (o := ⟨some 72, .call ⟨.value (.func 12), #[.tmp 63, .tmp 65, .tmp 71], #[3, 5, 22]⟩, _, _, _, none⟩) rfl (fun K hK => ?_) ?_
                    · go_simp
                      refine (Mei.code_parse _ m1.code _ _ _ (b ++ [cx]) _ ho8.sl (by omega)).mono ?_
                      rintro e v9 ⟨⟨y9, rfl, hm9⟩, hb9⟩
                      obtain ⟨cs9, rfl, hs9, ho9, _⟩ := hm9.agg
                      rw [HMore.out]
                      have s9 : Below wc.heap.size wc v9 := below_next hHeld hb9 (Nat.le_refl _)
                      try replace hA := (hb9.block _ (lt_of_block hA)).trans hA
                      refine hK.out _ _ ?_ (fun hHeld => ?_)
                      · exact s9
                      clear hK K
                      try simp only [Act.put, List.setIfInBounds_toArray, List.set_cons_zero, List.set_cons_succ]
                      refine wpAnyH_take (i := 10) (oi := ⟨some 62, .move (.tmp 72), _, _, _, none⟩) (v := ?_) rfl (by kernel_rfl) (by kernel_rfl) (by kernel_rfl) (fun _ _ _ h => h) (Or.inl ⟨by rfl, ?_⟩) hHeld ?_
                      rotate_left
                      · (intro wq hSw; go_simp; try with_reducible rfl)
                      simp only [Act.put, List.setIfInBounds_toArray, List.set_cons_zero, List.set_cons_succ]
                      refine wpAnyH_take (i := 11) (oi := ⟨some 73, .extract (.tmp 62) 0, _, _, _, none⟩) (v := ?_) rfl (by kernel_rfl) (by kernel_rfl) (by kernel_rfl) (fun _ _ _ h => h) (Or.inl ⟨by rfl, ?_⟩) hHeld ?_
                      rotate_left
                      · (intro wq hSw; go_simp; try with_reducible rfl)
                      simp only [Act.put, List.setIfInBounds_toArray, List.set_cons_zero, List.set_cons_succ]
                      refine wpAnyH_take (i := 12) (oi := ⟨some 74, .extract (.tmp 62) 1, _, _, _, none⟩) (v := ?_) rfl (by kernel_rfl) (by kernel_rfl) (by kernel_rfl) (fun _ _ _ h => h) (Or.inl ⟨by rfl, ?_⟩) hHeld ?_
                      rotate_left
                      · (intro wq hSw; go_simp; try with_reducible rfl)
                      simp only [Act.put, List.setIfInBounds_toArray, List.set_cons_zero, List.set_cons_succ]
                      refine wpAnyH_ready (rs := [14]) (by kernel_rfl) (by simp) ?_
                      refine AllReadyH.cons (o := ⟨none, .store 30 (.tmp 16) (.tmp 73), _, _, _, none⟩) rfl (fun K hK => ?_) ?_
                      · refine step_store (by rfl) _ _ _ (by rfl) _ cs9 (by rfl) (by rfl) _ _ hA (msg_size cs9 hs9) (by rw [hs9]; rfl) ho9 ?_
                        intro u6 h6 b6 n6 z6
                        have s6 : Below wc.heap.size wc u6 := hHeld.trans (b6 _ (by first | exact hAw | omega))
                        refine hK.out _ _ ?_ (fun hHeld => ?_)
                        · exact s6
                        clear hK K
                        try simp only [Act.put]
                        refine wpAnyH_take (i := 15) (oi := ⟨some 17, .assign (.tmp 74), _, _, _, none⟩) (v := ?_) rfl (by kernel_rfl) (by kernel_rfl) (by kernel_rfl) (fun _ _ _ h => h) (Or.inl ⟨by rfl, ?_⟩) hHeld ?_
                        rotate_left
                        · (intro wq hSw; go_simp; try with_reducible rfl)
                        simp only [Act.put, List.setIfInBounds_toArray, List.set_cons_zero, List.set_cons_succ]
                        refine wpAnyH_done (by kernel_rfl) ?_ _
                        refine NoPanic.normal ?_
                        go_wp2
                        go_meet
                        case rel => exact ⟨rfl, s6⟩
                      exact AllReadyH.nil
                    exact AllReadyH.nil
                  exact AllReadyH.nil
                exact AllReadyH.nil
              refine AllReadyH.cons (o := ⟨some 70, .buildSlice 22 1 #[(0, .tmp 69)], _, _, _, none⟩) rfl (fun K hK => ?_) ?_
              · go_simp
                refine hK.out _ _ ?_ (fun hHeld => ?_)
                · exact hHeld.alloc hHeld.size _
                clear hK K
                try simp only [Act.put, List.setIfInBounds_toArray, List.set_cons_zero, List.set_cons_succ]
                try replace hA := alloc_keep hHeld hA
                try replace hL := sl_alloc hHeld hL
                try replace ho5 := own_alloc hHeld ho5
                try replace ho8 := own_alloc hHeld ho8
                have hL := by first | exact lit_of hHeld cx rfl | exact lit_of' hHeld cx rfl
                try simp only [World.size_alloc] at hL
                refine wpAnyH_ready (rs := [5]) (by kernel_rfl) (by simp) ?_
                refine AllReadyH.cons (o := ⟨some 68, .call ⟨.builtin .append, #[.tmp 66, .tmp 67], #[22, 22]⟩, _, _, _, none⟩) rfl (fun K hK => ?_) ?_
                · refine step_app0 (by rfl) _ _ (by rfl) _ (by rfl) (by rfl) (HX7.out.mono hHeld) (by omega) (Nat.le_refl _) ?_
                  intro q5 d5 v5 ho5 k5
                  obtain ⟨g5, o5, hq5, hB5, hlt5, _⟩ := ho5.room 0 (by have := ho5.sl.hle; omega)
                  have HQ5 := hide hq5
                  clear hq5
                  have s5 : Below wc.heap.size wc v5 := hHeld.trans (k5.mono hHeld.size)
                  have hW5 := hHeld.size
                  try (have hAn := Nat.ne_of_lt (Nat.lt_of_lt_of_le (lt_of_block hA) hB5))
                  try replace hA := (k5.block _ (lt_of_block hA)).trans hA
                  try replace hL := hL.mono k5
                  refine hK.out _ _ ?_ (fun hHeld => ?_)
                  · exact s5
                  clear hK K
                  try simp only [Act.put, List.setIfInBounds_toArray, List.set_cons_zero, List.set_cons_succ]
                  refine wpAnyH_ready (rs := [8]) (by kernel_rfl) (by simp) ?_
                  refine AllReadyH.cons (o := ⟨some 71, .call ⟨.builtin .append, #[.tmp 68, .tmp 70], #[22, 22]⟩, _, _, _, none⟩) rfl (fun K hK => ?_) ?_
                  · refine step_app_but (by rfl) _ _ (by rfl) _ (by rfl) ho5 (by rfl) hL (by omega) (by first | exact k5.size | exact Nat.le_trans k5.size (by simp <;> omega) | (have := k5.size; simp at this ⊢; omega)) g5 (fun b off h => by rw [HQ5.out] at h; cases h; rfl) ?_
                    intro q8 d8 v8 ho8 k8 u8
                    have s8 : Below wc.heap.size wc v8 := hHeld.trans (k8.mono hW5)
                    try replace hA := (u8.block _ (lt_of_block hA) hAn).trans hA
                    refine hK.out _ _ ?_ (fun hHeld => ?_)
                    · exact s8
                    clear hK K
                    try simp only [Act.put, List.setIfInBounds_toArray, List.set_cons_zero, List.set_cons_succ]
                    refine wpAnyH_ready (rs := [9]) (by kernel_rfl) (by simp) ?_
                    refine AllReadyH.cons (o := ⟨some 72, .call ⟨.value (.func 12), #[.tmp 63, .tmp 65, .tmp 71], #[3, 5, 22]⟩, _, _, _, none⟩) rfl (fun K hK => ?_) ?_
                    · go_simp
                      refine (Mei.code_parse _ m1.code _ _ _ (b ++ [cx]) _ ho8.sl (by omega)).mono ?_
                      rintro e v9 ⟨⟨y9, rfl, hm9⟩, hb9⟩
                      obtain ⟨cs9, rfl, hs9, ho9, _⟩ := hm9.agg
                      rw [HMore.out]
                      have s9 : Below wc.heap.size wc v9 := below_next hHeld hb9 (Nat.le_refl _)
                      try replace hA := (hb9.block _ (lt_of_block hA)).trans hA
                      refine hK.out _ _ ?_ (fun hHeld => ?_)
                      · exact s9
                      clear hK K
                      try simp only [Act.put, List.setIfInBounds_toArray, List.set_cons_zero, List.set_cons_succ]
                      refine wpAnyH_take (i := 10) (oi := ⟨some 62, .move (.tmp 72), _, _, _, none⟩) (v := ?_) rfl (by kernel_rfl) (by kernel_rfl) (by kernel_rfl) (fun _ _ _ h => h) (Or.inl ⟨by rfl, ?_⟩) hHeld ?_
                      rotate_left
                      · (intro wq hSw; go_simp; try with_reducible rfl)
                      simp only [Act.put, List.setIfInBounds_toArray, List.set_cons_zero, List.set_cons_succ]
                      refine wpAnyH_take (i := 11) (oi := ⟨some 73, .extract (.tmp 62) 0, _, _, _, none⟩) (v := ?_) rfl (by kernel_rfl) (by kernel_rfl) (by kernel_rfl) (fun _ _ _ h => h) (Or.inl ⟨by rfl, ?_⟩) hHeld ?_
                      rotate_left
                      · (intro wq hSw; go_simp; try with_reducible rfl)
                      simp only [Act.put, List.setIfInBounds_toArray, List.set_cons_zero, List.set_cons_succ]
                      refine wpAnyH_take (i := 12) (oi := ⟨some 74, .extract (.tmp 62) 1, _, _, _, none⟩) (v := ?_) rfl (by kernel_rfl) (by kernel_rfl) (by kernel_rfl) (fun _ _ _ h => h) (Or.inl ⟨by rfl, ?_⟩) hHeld ?_
                      rotate_left
                      · (intro wq hSw; go_simp; try with_reducible rfl)
                      simp only [Act.put, List.setIfInBounds_toArray, List.set_cons_zero, List.set_cons_succ]
                      refine wpAnyH_ready (rs := [14]) (by kernel_rfl) (by simp) ?_
                      refine AllReadyH.cons (o := ⟨none, .store 30 (.tmp 16) (.tmp 73), _, _, _, none⟩) rfl (fun K hK => ?_) ?_
                      · refine step_store (by rfl) _ _ _ (by rfl) _ cs9 (by rfl) (by rfl) _ _ hA (msg_size cs9 hs9) (by rw [hs9]; rfl) ho9 ?_
                        intro u6 h6 b6 n6 z6
                        have s6 : Below wc.heap.size wc u6 := hHeld.trans (b6 _ (by first | exact hAw | omega))
                        refine hK.out _ _ ?_ (fun hHeld => ?_)
                        · exact s6
                        clear hK K
                        try simp only [Act.put]
                        refine wpAnyH_take (i := 15) (oi := ⟨some 17, .assign (.tmp 74), _, _, _, none⟩) (v := ?_) rfl (by kernel_rfl) (by kernel_rfl) (by kernel_rfl) (fun _ _ _ h => h) (Or.inl ⟨by rfl, ?_⟩) hHeld ?_
                        rotate_left
                        · (intro wq hSw; go_simp; try with_reducible rfl)
                        simp only [Act.put, List.setIfInBounds_toArray, List.set_cons_zero, List.set_cons_succ]
                        refine wpAnyH_done (by kernel_rfl) ?_ _
                        refine NoPanic.normal ?_
                        go_wp2
                        go_meet
                        case rel => exact ⟨rfl, s6⟩
                      exact AllReadyH.nil
                    exact AllReadyH.nil
                  exact AllReadyH.nil
                exact AllReadyH.nil
              exact AllReadyH.nil
            refine AllReadyH.cons (o := ⟨some 70, .buildSlice 22 1 #[(0, .tmp 69)], _, _, _, none⟩) rfl (fun K hK => ?_) ?_
            · go_simp
              refine hK.out _ _ ?_ (fun hHeld => ?_)
              · exact hHeld.alloc hHeld.size _
              clear hK K
              try simp only [Act.put, List.setIfInBounds_toArray, List.set_cons_zero, List.set_cons_succ]
              try replace hA := alloc_keep hHeld hA
              try replace hL := sl_alloc hHeld hL
              try replace ho5 := own_alloc hHeld ho5
              try replace ho8 := own_alloc hHeld ho8
              have hL := by first | exact lit_of hHeld cx rfl | exact lit_of' hHeld cx rfl
              try simp only [World.size_alloc] at hL
              refine wpAnyH_ready (rs := [3]) (by kernel_rfl) (by simp) ?_
              refine AllReadyH.cons (o := ⟨some 66, .buildSlice 22 0 #[], _, _, _, none⟩) rfl (fun K hK => ?_) ?_
              · go_simp
                refine hK.out _ _ ?_ (fun hHeld => ?_)
                · exact hHeld.alloc hHeld.size _
                clear hK K
                try simp only [Act.put, List.setIfInBounds_toArray, List.set_cons_zero, List.set_cons_succ]
                try replace hA := alloc_keep hHeld hA
                try replace hL := sl_alloc hHeld hL
                try replace ho5 := own_alloc hHeld ho5
                try replace ho8 := own_alloc hHeld ho8
                refine wpAnyH_ready (rs := [5]) (by kernel_rfl) (by simp) ?_
                refine AllReadyH.cons (o := ⟨some 68, .call ⟨.builtin .append, #[.tmp 66, .tmp 67], #[22, 22]⟩, _, _, _, none⟩) rfl (fun K hK => ?_) ?_
                · refine step_app0 (by rfl) _ _ (by rfl) _ (by rfl) (by rfl) (HX7.out.mono hHeld) (by omega) (Nat.le_refl _) ?_
                  intro q5 d5 v5 ho5 k5
                  obtain ⟨g5, o5, hq5, hB5, hlt5, _⟩ := ho5.room 0 (by have := ho5.sl.hle; omega)
                  have HQ5 := hide hq5
                  clear hq5
                  have s5 : Below wc.heap.size wc v5 := hHeld.trans (k5.mono hHeld.size)
                  have hW5 := hHeld.size
                  try (have hAn := Nat.ne_of_lt (Nat.lt_of_lt_of_le (lt_of_block hA) hB5))
                  try replace hA := (k5.block _ (lt_of_block hA)).trans hA
                  try replace hL := hL.mono k5
                  refine hK.out _ _ ?_ (fun hHeld => ?_)
                  · exact s5
                  clear hK K
                  try simp only [Act.put, List.setIfInBounds_toArray, List.set_cons_zero, List.set_cons_succ]
                  refine wpAnyH_ready (rs := [8]) (by kernel_rfl) (by simp) ?_
                  refine AllReadyH.cons (o := ⟨some 71, .call ⟨.builtin .append, #[.tmp 68, .tmp 70], #[22, 22]⟩, _, _, _, none⟩) rfl (fun K hK => ?_) ?_
                  · refine step_app_but (by rfl) _ _ (by rfl) _ (by rfl) ho5 (by rfl) hL (by omega) (by first | exact k5.size | exact Nat.le_trans k5.size (by simp <;> omega) | (have := k5.size; simp at this ⊢; omega)) g5 (fun b off h => by rw [HQ5.out] at h; cases h; rfl) ?_
                    intro q8 d8 v8 ho8 k8 u8
                    have s8 : Below wc.heap.size wc v8 := hHeld.trans (k8.mono hW5)
                    try replace hA := (u8.block _ (lt_of_block hA) hAn).trans hA
                    refine hK.out _ _ ?_ (fun hHeld => ?_)
                    · exact s8
                    clear hK K
                    try simp only [Act.put, List.setIfInBounds_toArray, List.set_cons_zero, List.set_cons_succ]
                    refine wpAnyH_ready (rs := [9]) (by kernel_rfl) (by simp) ?_
                    refine AllReadyH.cons (o := ⟨some 72, .call ⟨.value (.func 12), #[.tmp 63, .tmp 65, .tmp 71], #[3, 5, 22]⟩, _, _, _, none⟩) rfl (fun K hK => ?_) ?_
                    · go_simp
                      refine (Mei.code_parse _ m1.code _ _ _ (b ++ [cx]) _ ho8.sl (by omega)).mono ?_
                      rintro e v9 ⟨⟨y9, rfl, hm9⟩, hb9⟩
                      obtain ⟨cs9, rfl, hs9, ho9, _⟩ := hm9.agg
                      rw [HMore.out]
                      have s9 : Below wc.heap.size wc v9 := below_next hHeld hb9 (Nat.le_refl _)
                      try replace hA := (hb9.block _ (lt_of_block hA)).trans hA
                      refine hK.out _ _ ?_ (fun hHeld => ?_)
                      · exact s9
                      clear hK K
                      try simp only [Act.put, List.setIfInBounds_toArray, List.set_cons_zero, List.set_cons_succ]
                      refine wpAnyH_take (i := 10) (oi := ⟨some 62, .move (.tmp 72), _, _, _, none⟩) (v := ?_) rfl (by kernel_rfl) (by kernel_rfl) (by kernel_rfl) (fun _ _ _ h => h) (Or.inl ⟨by rfl, ?_⟩) hHeld ?_
                      rotate_left
                      · (intro wq hSw; go_simp; try with_reducible rfl)
                      simp only [Act.put, List.setIfInBounds_toArray, List.set_cons_zero, List.set_cons_succ]
                      refine wpAnyH_take (i := 11) (oi := ⟨some 73, .extract (.tmp 62) 0, _, _, _, none⟩) (v := ?_) rfl (by kernel_rfl) (by kernel_rfl) (by kernel_rfl) (fun _ _ _ h => h) (Or.inl ⟨by rfl, ?_⟩) hHeld ?_
                      rotate_left
                      · (intro wq hSw; go_simp; try with_reducible rfl)
                      simp only [Act.put, List.setIfInBounds_toArray, List.set_cons_zero, List.set_cons_succ]
                      refine wpAnyH_take (i := 12) (oi := ⟨some 74, .extract (.tmp 62) 1, _, _, _, none⟩) (v := ?_) rfl (by kernel_rfl) (by kernel_rfl) (by kernel_rfl) (fun _ _ _ h => h) (Or.inl ⟨by rfl, ?_⟩) hHeld ?_
                      rotate_left
                      · (intro wq hSw; go_simp; try with_reducible rfl)
                      simp only [Act.put, List.setIfInBounds_toArray, List.set_cons_zero, List.set_cons_succ]
                      refine wpAnyH_ready (rs := [14]) (by kernel_rfl) (by simp) ?_
                      refine AllReadyH.cons (o := ⟨none, .store 30 (.tmp 16) (.tmp 73), _, _, _, none⟩) rfl (fun K hK => ?_) ?_
                      · refine step_store (by rfl) _ _ _ (by rfl) _ cs9 (by rfl) (by rfl) _ _ hA (msg_size cs9 hs9) (by rw [hs9]; rfl) ho9 ?_
                        intro u6 h6 b6 n6 z6
                        have s6 : Below wc.heap.size wc u6 := hHeld.trans (b6 _ (by first | exact hAw | omega))
                        refine hK.out _ _ ?_ (fun hHeld => ?_)
                        · exact s6
                        clear hK K
                        try simp only [Act.put]
                        refine wpAnyH_take (i := 15) (oi := ⟨some 17, .assign (.tmp 74), _, _, _, none⟩) (v := ?_) rfl (by kernel_rfl) (by kernel_rfl) (by kernel_rfl) (fun _ _ _ h => h) (Or.inl ⟨by rfl, ?_⟩) hHeld ?_
                        rotate_left
                        · (intro wq hSw; go_simp; try with_reducible rfl)
                        simp only [Act.put, List.setIfInBounds_toArray, List.set_cons_zero, List.set_cons_succ]
                        refine wpAnyH_done (by kernel_rfl) ?_ _
                        refine NoPanic.normal ?_
                        go_wp2
                        go_meet
                        case rel => exact ⟨rfl, s6⟩
                      exact AllReadyH.nil
                    exact AllReadyH.nil
                  exact AllReadyH.nil
                exact AllReadyH.nil
              exact AllReadyH.nil
            exact AllReadyH.nil
          exact AllReadyH.nil
        case rest =>
          obtain ⟨rfl, hb8⟩ := hcut
          have HB8 := hide (HB7.out.trans (hb8.mono (Nat.le_of_lt hzc)))
          go_wp2
          go_ret
          exact ⟨rfl, by rw [hr]; exact HB8.out⟩
  -- go_enter Try.func10, Try.ntmps10
  -- go_wp2
  -- go_ret
  -- exact ⟨rfl, by repeat (first | exact Grown.refl _ | apply Grown.drew | apply Grown.alloc)⟩

/-! ### THE ROW's STEP: WRITTEN OUT: LEAVE IT -/
set_option maxRecDepth 100000 in
theorem lifted (os : Os) (started : os.Started) (H : Type) (enc : TypeId × Value → H) :
    ReturnsInHanded {} Try.checked os 10 .any (Rows.meiCutsSpec.pre6 enc Try.prog Try.f10 Rows.meiCutsRow.domain false) (Rows.meiCutsSpec.post enc Try.prog Try.f10 false true false false) := by
  refine returnsInHanded_of_change (C := Try.checked) own started (by kernel_rfl) Try.func10
    (ChangeSpec.witness6 (enc := enc) (C := Try.checked) false ⟨#[], #[.bool false, .agg #[.int .u8 0, .int .u8 0, .int .u16 0, .int .u16 0, .int .u16 0, .int .u16 0, .int .u16 0, .int .u16 0, .int .u16 0, .int .u16 0, .int .u16 0, .int .u16 0, .slice none 0 0, .slice none 0 0, .slice none 0 0, .slice none 0 0, .int .u8 0, .int .u8 0, .int .u8 0, .int .u8 0, .int .u8 0, .slice none 0 0], .int .u16 0, .int .u8 0], []⟩ 8 (by kernel_rfl) (by kernel_rfl) (by kernel_rfl) (by kernel_rfl)) ?_
  intro W base args ds gs before hval0 hW hcnd _
  have hval : ∀ (j : Nat) t v, Try.f10.params[j]? = some t → args[j]? = some v → Value.okWide Try.prog W .any base t v := hval0
  have hW' := hW
  obtain ⟨p, q, hA0, hV, rfl, hfz, hnd⟩ := hW
  have hA : DataW.TrodAll enc Try.prog W 0 (fun _ => true) true Try.f10.params.toList args.toList ds p := hA0
  rw [Try.params10] at hA hval
  obtain ⟨v0, vs0, d0, ds0, p0, q0, hargs, rfl, rfl, h0, r0⟩ := trodAll_cons hA
  obtain ⟨v1, vs1, d1, ds1, p1, q1, rfl, rfl, rfl, h1, r1⟩ := trodAll_cons r0
  obtain ⟨v2, vs2, d2, ds2, p2, q2, rfl, rfl, rfl, h2, r2⟩ := trodAll_cons r1
  obtain ⟨v3, vs3, d3, ds3, p3, q3, rfl, rfl, rfl, h3, r3⟩ := trodAll_cons r2
  obtain ⟨rfl, rfl, rfl⟩ := trodAll_nil r3
  obtain rfl : args = #[v0, v1, v2, v3] := by cases args; simp_all
  obtain ⟨rfl, rfl⟩ := trodVars_none hV
  obtain ⟨a0, rfl, rfl, rfl⟩ := open_bool Try.underlying4 (hval 0 4 v0 rfl rfl) h0
  have k1 := h1
  have lt1 : ∀ x ∈ p1, x.block < W.heap.size := by obtain ⟨m, hm⟩ := k1; exact DataW.trod_lt m _ _ _ hm
  obtain ⟨m1, w1⟩ := MsgAt.ofTrod (hval 1 30 v1 rfl rfl) h1
  obtain ⟨a2, rfl, rfl, rfl, w2⟩ := open_int Try.underlying24 (hval 2 24 v2 rfl rfl) h2
  obtain ⟨a3, rfl, rfl, rfl, w3⟩ := open_int Try.underlying5 (hval 3 5 v3 rfl rfl) h3
  clear hA0 hval0
  refine (walk a0 v1 m1 a2 a3 W w1 w2 w3).mono fun e W' ⟨he, bel⟩ => ?_
  subst he
  exact ⟨_, rfl, _, _, _, [], _, [], hW', (trodAll_cons_mk (shut_bool Try.underlying4 _) trodAll_mk0), (trodAll_cons_mk (shut_bool Try.underlying4 _) (trodAll_cons_mk (Below.trod laidOut (by kernel_rfl) (of_decide_eq_true (by kernel_rfl)) k1 bel lt1) (trodAll_cons_mk (shut_int Try.underlying24 w2) (trodAll_cons_mk (shut_int Try.underlying5 w3) trodAll_mk0)))), rfl, bel.frame _, fun h => by cases h⟩

theorem over : Rows.meiCutsRow.holds Try.pinned (OpenSpec.ofChange Rows.meiCutsSpec) :=
  OpenClaim.holds_of_wide 10 Try.f10 rfl rfl rfl rfl rfl rfl rfl ⟨rfl, rfl, rfl, rfl, rfl⟩ rfl rfl rfl rfl rfl (by kernel_rfl) Try.func10 (by kernel_rfl)
    (of_decide_eq_true (by kernel_rfl)) (by unfold Func.isWrapper; first | (rw [if_pos (by decide +kernel)]; kernel_rfl) | (rw [if_neg (by decide +kernel)]; exact ⟨rfl, rfl⟩))
    (fun os started H enc _ => lifted os started H enc)

/-- ████ THE STATEMENT ████ -/
theorem proved : Rows.MeiCutsSaid :=
  over
#print axioms proved
end Go.Proofs.Ytaokbaddleplfaa.meiCuts
