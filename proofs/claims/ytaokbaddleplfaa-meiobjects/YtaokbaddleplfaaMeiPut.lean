/-
  Package mei: the contract of Write.
-/
import Derived.Test.YtaokbaddleplfaaMeiParse
import Derived.Test.YtaokbaddleplfaaMeiWrite
import Derived.Test.YtaokbaddleplfaaCodeSame
import Derived.Test.YtaokbaddleplfaaJoinA
import Derived.BigRegion
import Derived.Deep.RegionHeld3
import Derived.Deep.CutBlock
import Derived.Deep.DeepCutAuto
namespace Go.Proofs.Ytaokbaddleplfaa
open Go.RowKit
open Word Bits Cursor

namespace Mei
theorem write_none {dir : Int} {m : MsgM} (h : formOf dir m.code = none) : write dir m = none := by
  show pack.write dir m = none
  unfold PackW.write
  rw [show pack.formOf dir m.code = none from h]
theorem write_some {dir : Int} {m : MsgM} {f : Frm} (h : formOf dir m.code = some f) : write dir m = if (parse dir m.code (f.bytes m)).2 = 0 ∧ MsgM.same (parse dir m.code (f.bytes m)).1 m = true then some (f.bytes m) else none := by
  show pack.write dir m = _
  unfold PackW.write
  rw [show pack.formOf dir m.code = some f from h]
  rfl
theorem write_not {dir : Int} {m : MsgM} {f : Frm} (h : formOf dir m.code = some f) (hn : ¬ f.valid m.code m) : write dir m = none :=
  (PackW.write_one (X := pack) h (show f.valid m.code m ↔ False from ⟨hn, False.elim⟩)).trans (if_neg id)
theorem write_mei {dir : Int} {m : MsgM} {f : Frm} (h : formOf dir m.code = some f) (hn : isMei m.mei = false) : write dir m = none := by
  refine write_not h fun hv => ?_
  rcases hv with ⟨e, _⟩ | ⟨e, _⟩
  · rw [e] at hn; exact absurd hn (by decide)
  · rw [e] at hn; exact absurd hn (by decide)
theorem write_long {dir : Int} {m : MsgM} {f : Frm} (h : formOf dir m.code = some f) (hn : fits m = false) : write dir m = none := by
  refine write_not h fun hv => ?_
  obtain ⟨_, h1, _, _, h2, h3⟩ := valid_lists _ _ _ hv
  have : fits m = true := by
    unfold fits
    rw [Bool.and_eq_true, Bool.and_eq_true]
    refine ⟨⟨decide_eq_true (by omega), decide_eq_true h2⟩, ?_⟩
    rw [Bool.not_eq_true', List.any_eq_false]
    intro o ho
    have := h3 o ho
    unfold long
    simp
    omega
  rw [this] at hn
  cases hn
theorem lit1_of {B : Nat} {a w : World} {t : TypeId} {u : Int} (_h : Below B a (w.alloc (.cells #[.int .u8 u] t))) (n : Nat) (hu : u = n) (hn : n < 256) : Own byteV (w.alloc (.cells #[.int .u8 u] t)) w.heap.size (some ⟨w.heap.size, 0, none⟩) 1 1 [UInt8.ofNat n] := one_own w u n hu hn t
theorem lit1_of' {B : Nat} {a w : World} {t : TypeId} {u : Int} (_h : Below B a (w.alloc (.cells #[.int .u8 u] t)).drew) (n : Nat) (hu : u = n) (hn : n < 256) : Own byteV (w.alloc (.cells #[.int .u8 u] t)).drew w.heap.size (some ⟨w.heap.size, 0, none⟩) 1 1 [UInt8.ofNat n] := (one_own w u n hu hn t).mono (Below.refl _ _).drew
theorem slit_of {B : Nat} {a w : World} {o : Obj} (_h : Below B a (w.alloc o)) {q : Option Addr} {l c : Nat} {xs : List UInt8} (hx : Bs w q l c xs) : Bs (w.alloc o) q l c xs := hx.alloc o
theorem bytes_mei (f : Frm) (m : MsgM) : f.bytes m = [m.mei] ++ (if m.mei = 13 then m.data else tailOf f m) := rfl
end Mei

set_option maxRecDepth 20000 in
set_option maxHeartbeats 4000000 in
theorem meiWrite_any (dir : Int) (v : Value) (m : MsgM) (w : World) (hm : MsgAt w v m) (hsm : m.Small) :
    Calls Try.prog 16 #[.int .i64 dir, v] w fun e w' =>
      (∃ a l c, e = .returned (.tuple #[.slice a l c, .int .i64 (Mei.errW (Mei.write dir m))]) ∧ Bs w' a l c (Mei.outW (Mei.write dir m))) ∧ Below w.heap.size w w' := by
  obtain ⟨cs, rfl, hsz, hone, hc0⟩ := hm.agg
  have hMB := MB.made w cs hm 30
  have e1 := heap_alloc_new w (.cells cs 30 (0, 0))
  have b0 := (Below.refl w.heap.size w).alloc (Nat.le_refl _) (.cells cs 30 (0, 0))
  have HM := hide (hm.mono b0)
  have HC0 := hide hc0
  have k0 := hMB.c_code
  clear hm hc0 hMB
  obtain ⟨R, hR⟩ : ∃ R, R = Mei.write dir m := ⟨_, rfl⟩
  rw [← hR]
  have HR := hide hR
  clear hR
  obtain ⟨n0, hn0⟩ : ∃ n : Nat, n = m.mei.toNat := ⟨_, rfl⟩
  have HN0 := hide hn0
  clear hn0
  go_enter Try.func16, Try.ntmps16
  go_upto_region 1 with (refine wpList_boxC rfl 30 _ rfl cs rfl ?_)
  generalize w.alloc (.cells cs 30 (0, 0)) = u at *
  have z0 := lt_of_block e1
  generalize hr : w.heap.size = r at *
  go_wp2_with fail
  refine (formsOf_any dir m.code u).mono ?_
  rintro e w1 ⟨⟨mv, rfl, hv⟩, hb⟩
  have HV := hide hv
  replace e1 := (hb.block r z0).trans e1
  replace HM := hide (HM.out.mono hb)
  have z1 := lt_of_block e1
  replace b0 := b0.trans (hb.mono (Nat.le_of_lt z0))
  clear hb hv k0 z0
  generalize hE : Mei.errF dir m.code = E at *
  have HE := hide hE
  clear hE
  have km : w1.cell? ⟨r, 16, none⟩ = some (.int .u8 (n0 : Int)) := by
    rw [(show MB 30 w1 r m from ⟨cs, e1, HM.out⟩).c_mei]
    show some (Value.int .u8 (m.mei.toNat : Int)) = _
    rw [HN0.out]
  cases hfo : Mei.formOf dir m.code with
  | none =>
    have hne := Mei.err_none hfo
    rw [HE.out] at hne
    have hq : (E != 0) = true := by simpa using hne
    have hR : Hid (R = none) := hide (by rw [HR.out, Mei.write_none hfo])
    obtain rfl := HV.out.1 hfo
    have hlk : ∀ v : World, (Instr.lookup 49 (.map none) (.int .u8 (n0 : Int)) true).run Try.prog v = .ok (.tuple #[.agg #[.nilFunc, .nilFunc], .bool false]) v := fun v => run_tab_nil (P := Try.prog) (w := v) 49 5 58 Try.underlying49 Try.underlying5 _ (Mei.form_zero v) n0
    have kq : ∀ o, (w1.alloc o).cell? ⟨r, 16, none⟩ = some (.int .u8 (n0 : Int)) := fun o => (((Below.refl _ _).alloc (Nat.le_refl _) o).cell (p := ⟨r, 16, none⟩) z1).trans km
    clear HR HV HE hne hfo HM
    go_upto_region 3 with ((with_reducible (show wpList _ _ _ ({ dst := _, op := Op.store _ _ _, type := _, pos := _, after := _, guard := _ } :: _) _ _)); refine wpList_store_new rfl 58 _ _ rfl #[.nilFunc, .nilFunc] rfl rfl (Mei.lookC_size _ rfl) rfl Mei.nil_one ?_; intro w2 h2 b2)
    replace b0 := b0.trans (b2.mono (Nat.le_of_lt z1))
    clear h2 b2 km kq hlk
    go_wp2
    go_ret2
    rw [hR.out]
    exact ⟨⟨_, _, _, rfl, Sl.nil _ _ (by unfold maxLen; omega)⟩, by rw [hr]; exact b0⟩
  | some f =>
    have hE0 : E = 0 := by rw [← HE.out]; exact Mei.err_some hfo
    subst hE0
    obtain ⟨b, rfl, hT⟩ := HV.out.2 f hfo
    obtain ⟨ok, hok⟩ : ∃ b : Bool, b = Mei.isMei m.mei := ⟨_, rfl⟩
    obtain ⟨FV, hFV⟩ : ∃ F, F = Mei.lookC f m.mei := ⟨_, rfl⟩
    have hFs : FV.size = 2 := by rw [hFV]; exact Mei.look_size _ _
    have hFo : FV.all (·.oneCell') = true := by rw [hFV]; exact Mei.look_one _ _
    have hlk : ∀ o, (Instr.lookup 49 (.map (some b)) (.int .u8 (n0 : Int)) true).run Try.prog (w1.alloc o) = .ok (.tuple #[.agg FV, .bool ok]) (w1.alloc o) := fun o => by rw [hFV, hok]; exact Mei.look_any (hT.mono ((Below.refl _ _).alloc (Nat.le_refl _) o)) m.mei HN0.out
    have hlk0 : (Instr.lookup 49 (.map (some b)) (.int .u8 (n0 : Int)) true).run Try.prog w1 = .ok (.tuple #[.agg FV, .bool ok]) w1 := by rw [hFV, hok]; exact Mei.look_any hT m.mei HN0.out
    have kq : ∀ o, (w1.alloc o).cell? ⟨r, 16, none⟩ = some (.int .u8 (n0 : Int)) := fun o => (((Below.refl _ _).alloc (Nat.le_refl _) o).cell (p := ⟨r, 16, none⟩) z1).trans km
    have HFV := hide hFV
    have HOK := hide hok
    have HFO := hide hfo
    clear HV HE hT hFV hok hfo
    go_upto_region 3 with ((with_reducible (show wpList _ _ _ ({ dst := _, op := Op.store _ _ _, type := _, pos := _, after := _, guard := _ } :: _) _ _)); refine wpList_store_new rfl 58 _ _ rfl FV rfl rfl (Mei.lookC_size _ hFs) hFs.symm hFo ?_; intro w2 h2 b2)
    replace HM := hide (HM.out.mono b2)
    replace e1 := (b2.block r z1).trans e1
    replace b0 := b0.trans (b2.mono (Nat.le_of_lt z1))
    have z2 := lt_of_block e1
    clear hlk hlk0 kq km b2
    generalize w1.heap.size = gf at *
    cases ok
    · have hR : Hid (R = none) := hide (by rw [HR.out]; exact Mei.write_mei HFO.out HOK.out.symm)
      clear HR HFO HOK HFV HM h2
      go_wp2
      go_ret2
      rw [hR.out]
      exact ⟨⟨_, _, _, rfl, Sl.nil _ _ (by unfold maxLen; omega)⟩, by rw [hr]; exact b0⟩
    have hFV2 : FV = #[Mei.fnV (Mei.rdOf f m.mei), Mei.fnV (Mei.wrOf f m.mei)] := by
      rw [HFV.out]
      unfold Mei.lookC
      rw [← HOK.out]
      rfl
    obtain ⟨q, hq⟩ : ∃ q : Bool, q = Mei.fits m := ⟨_, rfl⟩
    have HQ := hide hq
    clear hq
    go_wp2_with ((with_reducible (show wpList _ _ _ ({ dst := _, op := Op.load _ _, type := _, pos := _, after := _, guard := _ } :: _) _ _)); refine wpList_load_rowG (by rfl) 30 _ rfl r rfl cs (load_whole e1 hsz) ?_)
    refine (mayFit_any _ m w2 HM.out).mono ?_
    rintro e w3 ⟨rfl, hb3⟩
    replace HM := hide (HM.out.mono hb3)
    replace e1 := (hb3.block r z2).trans e1
    replace b0 := b0.trans (hb3.mono (Nat.le_of_lt z2))
    replace h2 := (hb3.block gf (lt_of_block h2)).trans h2
    have z3 := lt_of_block e1
    rw [← HQ.out]
    clear hb3
    cases q
    · have hR : Hid (R = none) := hide (by rw [HR.out]; exact Mei.write_long HFO.out HQ.out.symm)
      clear HR HFO HOK HFV HM h2 hFV2
      go_wp2
      go_ret2
      rw [hR.out]
      exact ⟨⟨_, _, _, rfl, Sl.nil _ _ (by unfold maxLen; omega)⟩, by rw [hr]; exact b0⟩
    obtain ⟨Tl, hTl⟩ : ∃ l, l = (if m.mei = 13 then m.data else Mei.tailOf f m) := ⟨_, rfl⟩
    have HRs : Hid (R = if (Mei.parse dir m.code ([m.mei] ++ Tl)).2 = 0 ∧ MsgM.same (Mei.parse dir m.code ([m.mei] ++ Tl)).1 m = true then Option.some ([m.mei] ++ Tl) else none) := hide (by rw [HR.out, Mei.write_some HFO.out, Mei.bytes_mei, hTl])
    have k1 : w3.cell? ⟨gf, 1, none⟩ = some (Mei.fnV (Mei.wrOf f m.mei)) := by
      rw [cell_of_row w3 gf 1 _ _ _ h2, hFV2]
      rfl
    have HW : Hid (∀ u v', MsgAt u v' m → Calls Try.prog (Mei.wrOf f m.mei) #[v'] u fun e w' => (∃ a n c, e = .returned (.slice a n c) ∧ n ≤ 91000 ∧ Bs w' a n c Tl) ∧ Below u.heap.size u w') := hide (fun u v' hv => by rw [hTl]; exact formWrite_any f v' m u hv hsm)
    have hcf := wr_enter f m.mei
    generalize Mei.wrOf f m.mei = F at *
    have zf := lt_of_block h2
    have km3 : w3.cell? ⟨r, 16, none⟩ = some (.int .u8 (n0 : Int)) := by
      rw [(show MB 30 w3 r m from ⟨cs, e1, HM.out⟩).c_mei]
      show some (Value.int .u8 (m.mei.toNat : Int)) = _
      rw [HN0.out]
    have hn0b : n0 < 256 := by rw [HN0.out]; exact byte_lt _
    have HN1 : Hid (UInt8.ofNat n0 = m.mei) := hide (by rw [HN0.out]; simp)
    clear HR HFO HOK HFV hFV2 hTl HQ h2 hFs hFo
    go_upto_region 5 with fail
    go_cut [10] (fun s wx => ∃ a5 l5 c5, s = .slice a5 l5 c5 ∧ l5 ≤ 100000 ∧ Bs wx a5 l5 c5 ([m.mei] ++ Tl) ∧ Below w3.heap.size w3 wx)
    case first =>
      refine wp_region_noPanic ?_
      refine wp_region_held_drew (S := fun w' => Below w3.heap.size w3 w') (by kernel_rfl) ((Below.refl w3.heap.size w3).drew) (fun hHeld => ?_)
      refine wpAnyH_take (i := 0) (oi := ⟨some 38, .fieldAddr 30 (.tmp 3) 16, _, _, _, none⟩) (v := ?_) rfl (by kernel_rfl) (by kernel_rfl) (by kernel_rfl) (fun _ _ _ h => h) (Or.inl ⟨by rfl, ?_⟩) hHeld ?_
      rotate_left
      · (intro wq hSw; go_simp; try with_reducible rfl)
      simp only [Act.put, List.setIfInBounds_toArray, List.set_cons_zero, List.set_cons_succ]
      refine wpAnyH_take (i := 1) (oi := ⟨some 39, .load 5 (.tmp 38), _, _, _, none⟩) (v := ?_) rfl (by kernel_rfl) (by kernel_rfl) (by kernel_rfl) (fun _ _ _ h => h) (Or.inl ⟨by rfl, ?_⟩) hHeld ?_
      rotate_left
      · (intro wq hSw; have hcv := (hSw.cell (p := ⟨r, 16, none⟩) z3).trans km3; go_simp; try with_reducible rfl)
      simp only [Act.put, List.setIfInBounds_toArray, List.set_cons_zero, List.set_cons_succ]
      refine wpAnyH_take (i := 3) (oi := ⟨some 41, .fieldAddr 58 (.tmp 8) 1, _, _, _, none⟩) (v := ?_) rfl (by kernel_rfl) (by kernel_rfl) (by kernel_rfl) (fun _ _ _ h => h) (Or.inl ⟨by rfl, ?_⟩) hHeld ?_
      rotate_left
      · (intro wq hSw; go_simp; try with_reducible rfl)
      simp only [Act.put, List.setIfInBounds_toArray, List.set_cons_zero, List.set_cons_succ]
      refine wpAnyH_take (i := 4) (oi := ⟨some 42, .load 56 (.tmp 41), _, _, _, none⟩) (v := ?_) rfl (by kernel_rfl) (by kernel_rfl) (by kernel_rfl) (fun _ _ _ h => h) (Or.inl ⟨by rfl, ?_⟩) hHeld ?_
      rotate_left
      · (intro wq hSw; have hcv := (hSw.cell (p := ⟨gf, 1, none⟩) zf).trans k1; go_simp; try with_reducible rfl)
      simp only [Act.put, List.setIfInBounds_toArray, List.set_cons_zero, List.set_cons_succ]
      refine wpAnyH_take (i := 5) (oi := ⟨some 43, .load 30 (.tmp 3), _, _, _, none⟩) (v := .agg cs) rfl (by kernel_rfl) (by kernel_rfl) (by kernel_rfl) (fun _ _ _ h => h) (Or.inl ⟨by rfl, ?_⟩) hHeld ?_
      · (intro wq hSw; exact load_take 30 _ rfl r rfl cs (load_whole ((hSw.block _ z3).trans e1) hsz))
      simp only [Act.put, List.setIfInBounds_toArray, List.set_cons_zero, List.set_cons_succ]
      refine wpAnyH_ready (rs := [2, 6]) (by kernel_rfl) (by simp) ?_
      refine AllReadyH.cons (o := ⟨some 40, .buildSlice 22 1 #[(0, .tmp 39)], _, _, _, none⟩) rfl (fun K hK => ?_) ?_
      · go_simp
        refine hK.out _ _ ?_ (fun hHeld => ?_)
        · first | exact Below.alloc hHeld hHeld.size _ | exact (Below.alloc hHeld hHeld.size _).drew
        clear hK K
        try simp only [Act.put, List.setIfInBounds_toArray, List.set_cons_zero, List.set_cons_succ]
        have hA := by first | exact Mei.lit1_of hHeld n0 rfl hn0b | exact Mei.lit1_of' hHeld n0 rfl hn0b
        try simp only [World.size_alloc] at hA
        try replace hX := Mei.slit_of hHeld hX
        refine wpAnyH_ready (rs := [6]) (by kernel_rfl) (by simp) ?_
        refine AllReadyH.cons (o := ⟨some 44, .call ⟨.value (.tmp 42), #[.tmp 43], #[30]⟩, _, _, _, none⟩) rfl (fun K hK => ?_) ?_
        · go_simp
          refine (HW.out _ _ (HM.out.mono hHeld)).mono ?_
          rintro r6 v6 ⟨⟨a6, n6, c6, rfl, hn6, hX⟩, hb6⟩
          have s6 : Below w3.heap.size w3 v6 := below_next hHeld hb6 (Nat.le_refl _)
          have hW6 := s6.size
          try replace hA := hA.mono hb6
          refine hK.out _ _ ?_ (fun hHeld => ?_)
          · exact s6
          clear hK K
          try simp only [Act.put, List.setIfInBounds_toArray, List.set_cons_zero, List.set_cons_succ]
          refine wpAnyH_ready (rs := [7]) (by kernel_rfl) (by simp) ?_
          refine AllReadyH.cons (o := ⟨some 45, .call ⟨.builtin .append, #[.tmp 40, .tmp 44], #[22, 22]⟩, _, _, _, none⟩) rfl (fun K hK => ?_) ?_
          · refine step_app (by rfl) _ _ (by rfl) w3.heap.size (by rfl) (hA.base (by first | exact Nat.le_refl _ | exact hW6)) (by rfl) hX (by omega) hHeld.size ?_
            intro a7 c7 v7 ho7 hb7
            have s7 : Below w3.heap.size w3 v7 := hHeld.trans hb7
            refine hK.out _ _ ?_ (fun hHeld => ?_)
            · exact s7
            clear hK K
            try simp only [Act.put, List.setIfInBounds_toArray, List.set_cons_zero, List.set_cons_succ]
            refine wpAnyH_take (i := 8) (oi := ⟨some 10, .assign (.tmp 45), _, _, _, none⟩) (v := ?_) rfl (by kernel_rfl) (by kernel_rfl) (by kernel_rfl) (fun _ _ _ h => h) (Or.inl ⟨by rfl, ?_⟩) hHeld ?_
            rotate_left
            · (intro wq hSw; go_simp; try with_reducible rfl)
            simp only [Act.put, List.setIfInBounds_toArray, List.set_cons_zero, List.set_cons_succ]
            refine wpAnyH_done (by kernel_rfl) ?_ _
            refine NoPanic.normal ?_
            go_wp2
            go_meet
            case rel => exact ⟨_, _, _, rfl, by omega, by have := ho7.sl; rw [HN1.out] at this; exact this, s7⟩
          exact AllReadyH.nil
        exact AllReadyH.nil
      refine AllReadyH.cons (o := ⟨some 44, .call ⟨.value (.tmp 42), #[.tmp 43], #[30]⟩, _, _, _, none⟩) rfl (fun K hK => ?_) ?_
      · go_simp
        refine (HW.out _ _ (HM.out.mono hHeld)).mono ?_
        rintro r6 v6 ⟨⟨a6, n6, c6, rfl, hn6, hX⟩, hb6⟩
        have s6 : Below w3.heap.size w3 v6 := below_next hHeld hb6 (Nat.le_refl _)
        have hW6 := s6.size
        try replace hA := hA.mono hb6
        refine hK.out _ _ ?_ (fun hHeld => ?_)
        · exact s6
        clear hK K
        try simp only [Act.put, List.setIfInBounds_toArray, List.set_cons_zero, List.set_cons_succ]
        refine wpAnyH_ready (rs := [2]) (by kernel_rfl) (by simp) ?_
        refine AllReadyH.cons (o := ⟨some 40, .buildSlice 22 1 #[(0, .tmp 39)], _, _, _, none⟩) rfl (fun K hK => ?_) ?_
        · go_simp
          refine hK.out _ _ ?_ (fun hHeld => ?_)
          · first | exact Below.alloc hHeld hHeld.size _ | exact (Below.alloc hHeld hHeld.size _).drew
          clear hK K
          try simp only [Act.put, List.setIfInBounds_toArray, List.set_cons_zero, List.set_cons_succ]
          have hA := by first | exact Mei.lit1_of hHeld n0 rfl hn0b | exact Mei.lit1_of' hHeld n0 rfl hn0b
          try simp only [World.size_alloc] at hA
          try replace hX := Mei.slit_of hHeld hX
          refine wpAnyH_ready (rs := [7]) (by kernel_rfl) (by simp) ?_
          refine AllReadyH.cons (o := ⟨some 45, .call ⟨.builtin .append, #[.tmp 40, .tmp 44], #[22, 22]⟩, _, _, _, none⟩) rfl (fun K hK => ?_) ?_
          · refine step_app (by rfl) _ _ (by rfl) w3.heap.size (by rfl) (hA.base (by first | exact Nat.le_refl _ | exact hW6)) (by rfl) hX (by omega) hHeld.size ?_
            intro a7 c7 v7 ho7 hb7
            have s7 : Below w3.heap.size w3 v7 := hHeld.trans hb7
            refine hK.out _ _ ?_ (fun hHeld => ?_)
            · exact s7
            clear hK K
            try simp only [Act.put, List.setIfInBounds_toArray, List.set_cons_zero, List.set_cons_succ]
            refine wpAnyH_take (i := 8) (oi := ⟨some 10, .assign (.tmp 45), _, _, _, none⟩) (v := ?_) rfl (by kernel_rfl) (by kernel_rfl) (by kernel_rfl) (fun _ _ _ h => h) (Or.inl ⟨by rfl, ?_⟩) hHeld ?_
            rotate_left
            · (intro wq hSw; go_simp; try with_reducible rfl)
            simp only [Act.put, List.setIfInBounds_toArray, List.set_cons_zero, List.set_cons_succ]
            refine wpAnyH_done (by kernel_rfl) ?_ _
            refine NoPanic.normal ?_
            go_wp2
            go_meet
            case rel => exact ⟨_, _, _, rfl, by omega, by have := ho7.sl; rw [HN1.out] at this; exact this, s7⟩
          exact AllReadyH.nil
        exact AllReadyH.nil
      exact AllReadyH.nil
    case rest =>
    obtain ⟨a5, l5, c5, rfl, hl5, hx5, hb5⟩ := hcut
    replace HM := hide (HM.out.mono hb5)
    replace e1 := (hb5.block r z3).trans e1
    have hz : r < wc.heap.size := lt_of_block e1
    have hc5 : wc.cell? ⟨r, 0, none⟩ = some (byteV m.code) := (cell_of_row wc r 0 _ _ _ e1).trans HC0.out
    have HB := hide (b0.trans (hb5.mono (Nat.le_of_lt z3)))
    have HX := hide hx5
    clear HW hcf k1 hb5 b0 km3 hx5 HN1
    generalize [m.mei] ++ Tl = B at *
    go_wp2_with fail
    refine (meiParse_any dir m.code a5 l5 c5 B wc HX.out hl5).mono ?_
    rintro e w6 ⟨⟨v6, rfl, hm6⟩, hb6⟩
    obtain ⟨cs6, rfl, hs6, ho6, _⟩ := hm6.agg
    have hz6 := hb6.size
    have HX6 := hide (HX.out.mono hb6)
    have HM6 := hide hm6
    have HM7 := hide (HM.out.mono hb6)
    replace e1 := (hb6.block r hz).trans e1
    replace HB := hide (HB.out.trans (hb6.mono (Nat.le_of_lt hz)))
    have HRp : Hid (∀ p, p = Mei.parse dir m.code B → R = if p.2 = 0 ∧ MsgM.same p.1 m = true then Option.some B else none) := hide (fun p hp => by rw [hp]; exact HRs.out)
    replace HRp := hide (HRp.out _ rfl)
    clear HRs HM HX hc5 hb6 hm6
    generalize Mei.parse dir m.code B = P at *
    obtain ⟨n, E⟩ := P
    go_wp2_with ((with_reducible (show wpList _ _ _ ({ dst := _, op := Op.store _ _ _, type := _, pos := _, after := _, guard := _ } :: _) _ _)); refine wpList_store_new rfl 30 _ _ rfl cs6 rfl rfl (msg_size cs6 hs6) hs6.symm ho6 ?_)
    intro w7 h7 b7
    replace HX6 := hide (HX6.out.mono b7)
    replace HM6 := hide (HM6.out.mono b7)
    replace HM7 := hide (HM7.out.mono b7)
    replace e1 := (b7.block r (by omega)).trans e1
    replace HB := hide (HB.out.trans (b7.mono (by omega)))
    have hz7 : r ≤ w7.heap.size := Nat.le_of_lt (lt_of_block e1)
    generalize w6.heap.size = g6 at *
    clear b7
    by_cases hE : E = 0
    · subst hE
      have HRq : Hid (R = if MsgM.same n m = true then Option.some B else none) := hide (by rw [HRp.out]; simp)
      clear HRp
      go_wp2_with ((with_reducible (show wpList _ _ _ ({ dst := _, op := Op.load _ _, type := _, pos := _, after := _, guard := _ } :: _) _ _)); first | (refine wpList_load_rowG (by rfl) 30 _ rfl g6 rfl cs6 (load_whole h7 hs6) ?_) | (refine wpList_load_rowG (by rfl) 30 _ rfl r rfl cs (load_whole e1 hsz) ?_))
      refine (codeSame_any _ _ n m w7 HM6.out HM7.out).mono ?_
      rintro e w8 ⟨rfl, b8⟩
      have HX8 := hide (HX6.out.mono b8)
      have HB8 := hide (HB.out.trans (b8.mono hz7))
      generalize MsgM.same n m = q at *
      cases q
      · have hR : R = none := HRq.out
        subst hR
        go_wp2
        go_ret2
        exact ⟨⟨_, _, _, rfl, Sl.nil _ _ (by unfold maxLen; omega)⟩, by rw [hr]; exact HB8.out⟩
      · have hR : R = Option.some B := HRq.out
        subst hR
        go_wp2
        go_ret2
        exact ⟨⟨_, _, _, rfl, HX8.out⟩, by rw [hr]; exact HB8.out⟩
    · have hR : R = none := by rw [HRp.out, if_neg (fun h => hE h.1)]
      subst hR
      have hE' : (E != 0) = true := by simpa using hE
      clear HRp
      go_wp2
      go_ret2
      exact ⟨⟨_, _, _, rfl, Sl.nil _ _ (by unfold maxLen; omega)⟩, by rw [hr]; exact HB.out⟩

end Go.Proofs.Ytaokbaddleplfaa
