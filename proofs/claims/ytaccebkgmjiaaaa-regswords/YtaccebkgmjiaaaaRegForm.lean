/-
  Package regs: a code's form in a direction.
-/
import Derived.Test.YtaccebkgmjiaaaaRegRead
import Derived.Test.YtaccebkgmjiaaaaMsgRow
namespace Go.Proofs.Ytaccebkgmjiaaaa
open Go.RowKit
open Word Bits Cursor

theorem form_size : (Try.prog.info? 51).map (·.size) = some 2 := by kernel_rfl
theorem form_one (f1 f2 : Fn) (p1 p2 c1 c2 : Array Value) : (#[Value.func f1 p1 c1, Value.func f2 p2 c2].all (·.oneCell')) = true := by simp [Value.oneCell']
theorem nil_one : (#[Value.nilFunc, Value.nilFunc].all (·.oneCell')) = true := by simp [Value.oneCell']

theorem results_row {P : Program} {fn : Func} {p : Tmp} {ty : TypeId} (h : fn.results = #[.cell p ty]) (tmps : Array Value) (w : World) (g : Nat) (t : TypeId) (cs : Array Value) (fr : Nat × Nat) (d : TypeDesc)
    (hp : tmps.getD p undef = .pointer (some ⟨g, 0, none⟩)) (hg : w.heap[g]? = some (.cells cs t fr))
    (hu : P.underlying ty = some d) (hd : (match d with | .struct _ | .array _ _ => true | _ => false) = true) (hi : (P.info? ty).map (·.size) = some cs.size) :
    (results fn tmps).run P w = .ok (.agg cs) w := results_cell_row h tmps w g t cs fr d hp hg hu hd hi

set_option maxRecDepth 20000 in
set_option maxHeartbeats 1000000 in
theorem places_any (most : Nat) (w : World) :
    Calls Try.prog 53 #[.int .i64 (most : Int)] w fun e w' =>
      (∃ g, w.heap.size ≤ g ∧ e = .returned (.agg #[clV 61 #[ptrV g], clV 64 #[]]) ∧ w'.heap[g]? = some (.cells #[.int .i64 (most : Int)] 3 (0, 0))) ∧ Below w.heap.size w w' := by
  have hmf : ∀ (fn : Fn) (first cap : Array Value) (w : World), (Instr.makeFunc fn first cap).run Try.prog w = .ok (.func fn first cap) w := fun _ _ _ _ => rfl
  go_enter Try.func53, Try.ntmps53
  go_wp2
  refine bodyPost_ret (results_row Try.results53 _ _ (w.heap.size + 1) _ _ _ _ rfl (heap_alloc2_new _ _ _) Try.underlying51 rfl form_size) rfl ⟨⟨w.heap.size, Nat.le_refl _, rfl, ?_⟩, ?_⟩
  · exact (Below.heap_alloc _ _ _ (by simp)).trans (heap_alloc_new _ _)
  · exact ((Below.refl _ _).alloc (Nat.le_refl _) _).alloc (by simp) _

/-- A value that is a form. -/
def FormV (f : Regs.Frm) (w : World) (v : Value) : Prop := ∃ rc sc, v = .agg #[clV f.rd rc, clV f.wr sc] ∧ f.caps w rc sc
theorem FormV.mono {f : Regs.Frm} {w w' : World} {v : Value} (h : FormV f w v) (hb : Below w.heap.size w w') : FormV f w' v := by
  obtain ⟨rc, sc, h1, h2⟩ := h
  exact ⟨rc, sc, h1, Regs.Frm.caps_mono hb h2⟩
/-- What a maker of forms answers. -/
abbrev Makes (F : FuncId) (args : Array Value) (f : Regs.Frm) : Prop := ∀ w : World, Calls Try.prog F args w fun e w' => (∃ v, e = .returned v ∧ FormV f w' v) ∧ Below w.heap.size w w'

theorem ask_makes : Makes 53 #[.int .i64 125] 0 := fun w => by
  refine (places_any 125 w).mono ?_
  rintro e w1 ⟨⟨g, _, rfl, hg⟩, hb⟩
  exact ⟨⟨_, rfl, _, _, rfl, g, rfl, rfl, hg⟩, hb⟩
theorem done_makes : Makes 53 #[.int .i64 123] 4 := fun w => by
  refine (places_any 123 w).mono ?_
  rintro e w1 ⟨⟨g, _, rfl, hg⟩, hb⟩
  exact ⟨⟨_, rfl, _, _, rfl, g, rfl, rfl, hg⟩, hb⟩
theorem told_makes : Makes 59 #[] 1 := fun w => by
  go_enter Try.func59, Try.ntmps59
  go_wp2
  exact bodyPost_ret (results_row Try.results59 _ _ w.heap.size _ _ _ _ rfl (heap_alloc_new _ _) Try.underlying51 rfl form_size) rfl ⟨⟨_, rfl, _, _, rfl, rfl, rfl⟩, (Below.refl _ _).alloc (Nat.le_refl _) _⟩
theorem one_makes : Makes 54 #[] 2 := fun w => by
  go_enter Try.func54, Try.ntmps54
  go_wp2
  exact bodyPost_ret (results_row Try.results54 _ _ w.heap.size _ _ _ _ rfl (heap_alloc_new _ _) Try.underlying51 rfl form_size) rfl ⟨⟨_, rfl, _, _, rfl, rfl, rfl⟩, (Below.refl _ _).alloc (Nat.le_refl _) _⟩
theorem masks_makes : Makes 56 #[] 5 := fun w => by
  go_enter Try.func56, Try.ntmps56
  go_wp2
  exact bodyPost_ret (results_row Try.results56 _ _ w.heap.size _ _ _ _ rfl (heap_alloc_new _ _) Try.underlying51 rfl form_size) rfl ⟨⟨_, rfl, _, _, rfl, rfl, rfl⟩, (Below.refl _ _).alloc (Nat.le_refl _) _⟩
theorem queue_makes : Makes 58 #[] 7 := fun w => by
  go_enter Try.func58, Try.ntmps58
  go_wp2
  exact bodyPost_ret (results_row Try.results58 _ _ w.heap.size _ _ _ _ rfl (heap_alloc_new _ _) Try.underlying51 rfl form_size) rfl ⟨⟨_, rfl, _, _, rfl, rfl, rfl⟩, (Below.refl _ _).alloc (Nat.le_refl _) _⟩
theorem queued_makes : Makes 60 #[] 8 := fun w => by
  go_enter Try.func60, Try.ntmps60
  go_wp2
  exact bodyPost_ret (results_row Try.results60 _ _ w.heap.size _ _ _ _ rfl (heap_alloc_new _ _) Try.underlying51 rfl form_size) rfl ⟨⟨_, rfl, _, _, rfl, rfl, rfl⟩, (Below.refl _ _).alloc (Nat.le_refl _) _⟩
set_option maxRecDepth 20000 in
set_option maxHeartbeats 1000000 in
theorem some_makes : Makes 55 #[] 3 := fun w => by
  have hmf : ∀ (fn : Fn) (first cap : Array Value) (w : World), (Instr.makeFunc fn first cap).run Try.prog w = .ok (.func fn first cap) w := fun _ _ _ _ => rfl
  have e0 := heap_alloc_new w (.cells #[.nilFunc, .nilFunc] 51 (0, 0))
  have b0 := (Below.refl w.heap.size w).alloc (Nat.le_refl _) (.cells #[.nilFunc, .nilFunc] 51 (0, 0))
  go_enter Try.func55, Try.ntmps55
  go_wp2_with fail
  have z0 := lt_of_block e0
  generalize w.alloc (.cells #[.nilFunc, .nilFunc] 51 (0, 0)) = u at *
  refine (places_any 123 u).mono ?_
  rintro e w1 ⟨⟨g, hgu, rfl, hg⟩, hb⟩
  replace e0 := (hb.block _ (lt_of_block e0)).trans e0
  replace b0 := b0.trans (hb.mono b0.size)
  have hz := lt_of_block e0
  clear hb
  go_upto_region 2 with ((with_reducible (show wpList _ _ _ ({ dst := _, op := Op.store _ _ _, type := _, pos := _, after := _, guard := _ } :: _) _ _)); refine wpList_store_new rfl 51 _ _ rfl _ rfl rfl form_size rfl (form_one _ _ _ _ _ _) ?_; intro w2 h2 b2)
  replace e0 := (b2.block _ hz).trans e0
  replace hg := (b2.block _ (lt_of_block hg)).trans hg
  replace b0 := b0.trans (b2.mono b0.size)
  clear b2
  go_wp2_with ((with_reducible (show wpList _ _ _ ({ dst := _, op := Op.store _ _ _, type := _, pos := _, after := _, guard := _ } :: _) _ _)); refine wpList_store_lies rfl 51 _ _ rfl w.heap.size _ rfl rfl _ _ e0 form_size rfl (form_one _ _ _ _ _ _) ?_)
  intro w3 h3 b3 n3 z3
  go_wp2
  exact bodyPost_ret (results_row Try.results55 _ _ w.heap.size _ _ _ _ rfl h3 Try.underlying51 rfl form_size) rfl ⟨⟨_, rfl, _, _, rfl, _, g, rfl, rfl, (n3 _ (by omega)).trans h2, (n3 _ (by omega)).trans hg⟩, b0.trans (b3 _ (Nat.le_refl _))⟩
set_option maxRecDepth 20000 in
set_option maxHeartbeats 1000000 in
theorem both_makes : Makes 57 #[] 6 := fun w => by
  have hmf : ∀ (fn : Fn) (first cap : Array Value) (w : World), (Instr.makeFunc fn first cap).run Try.prog w = .ok (.func fn first cap) w := fun _ _ _ _ => rfl
  have e0 := heap_alloc_new w (.cells #[.nilFunc, .nilFunc] 51 (0, 0))
  have b0 := (Below.refl w.heap.size w).alloc (Nat.le_refl _) (.cells #[.nilFunc, .nilFunc] 51 (0, 0))
  go_enter Try.func57, Try.ntmps57
  go_wp2_with fail
  have z0 := lt_of_block e0
  generalize w.alloc (.cells #[.nilFunc, .nilFunc] 51 (0, 0)) = u at *
  refine (places_any 125 u).mono ?_
  rintro e w1 ⟨⟨g, hgu, rfl, hg⟩, hb⟩
  replace e0 := (hb.block _ (lt_of_block e0)).trans e0
  replace b0 := b0.trans (hb.mono b0.size)
  have hz := lt_of_block e0
  clear hb
  go_upto_region 2 with ((with_reducible (show wpList _ _ _ ({ dst := _, op := Op.store _ _ _, type := _, pos := _, after := _, guard := _ } :: _) _ _)); refine wpList_store_new rfl 51 _ _ rfl _ rfl rfl form_size rfl (form_one _ _ _ _ _ _) ?_; intro w2 h2 b2)
  replace e0 := (b2.block _ hz).trans e0
  replace hg := (b2.block _ (lt_of_block hg)).trans hg
  replace b0 := b0.trans (b2.mono b0.size)
  clear b2
  go_wp2_with ((with_reducible (show wpList _ _ _ ({ dst := _, op := Op.store _ _ _, type := _, pos := _, after := _, guard := _ } :: _) _ _)); refine wpList_store_lies rfl 51 _ _ rfl w.heap.size _ rfl rfl _ _ e0 form_size rfl (form_one _ _ _ _ _ _) ?_)
  intro w3 h3 b3 n3 z3
  go_wp2
  exact bodyPost_ret (results_row Try.results57 _ _ w.heap.size _ _ _ _ rfl h3 Try.underlying51 rfl form_size) rfl ⟨⟨_, rfl, _, _, rfl, _, g, rfl, rfl, (n3 _ (by omega)).trans h2, (n3 _ (by omega)).trans hg⟩, b0.trans (b3 _ (Nat.le_refl _))⟩

namespace Regs
/-- Why there is no form. -/
def errF (dir : Int) (c : UInt8) : Int := match formOf dir c with | some _ => 0 | none => if dir = 0 ∨ dir = 1 then 4 else 1
end Regs
/-- What a look for a form answers. -/
def FormAt (o : Option Regs.Frm) (w : World) (cs : Array Value) : Prop := cs.size = 2 ∧ cs.all (·.oneCell') = true ∧ ∀ f, o = some f → FormV f w (.agg cs)
theorem FormV.at {f : Regs.Frm} {w : World} {v : Value} (h : FormV f w v) : ∃ cs, v = .agg cs ∧ FormAt (some f) w cs := by
  obtain ⟨rc, sc, rfl, h2⟩ := h
  exact ⟨_, rfl, rfl, form_one _ _ _ _ _ _, fun g hg => by cases hg; exact ⟨rc, sc, rfl, h2⟩⟩
theorem formC_size (cs : Array Value) (h : cs.size = 2) : (Try.prog.info? 51).map (·.size) = some cs.size := by rw [h]; kernel_rfl

set_option maxRecDepth 20000 in
set_option maxHeartbeats 4000000 in
theorem request_any (c : UInt8) (w : World) :
    Calls Try.prog 34 #[byteV c] w fun e w' =>
      (∃ cs, e = .returned (.tuple #[.agg cs, .int .i64 (Regs.errF 0 c)]) ∧ FormAt (Regs.formOf 0 c) w' cs) ∧ Below w.heap.size w w' := by
  have e0 := heap_alloc_new w (.cells #[.nilFunc, .nilFunc] 51 (0, 0))
  have b0 := (Below.refl w.heap.size w).alloc (Nat.le_refl _) (.cells #[.nilFunc, .nilFunc] 51 (0, 0))
  obtain ⟨kc, hkc⟩ : ∃ k : Nat, k = c.toNat := ⟨_, rfl⟩
  have hkn : ∀ n : Nat, n < 256 → kc = n → c = UInt8.ofNat n := fun n hn h => by rw [← UInt8.toNat_inj, UInt8.toNat_ofNat', Nat.mod_eq_of_lt hn, ← hkc, h]
  have hkm : ∀ n : Nat, n < 256 → kc ≠ n → c ≠ UInt8.ofNat n := fun n hn h h1 => h (by rw [hkc, h1, UInt8.toNat_ofNat', Nat.mod_eq_of_lt hn])
  have HKN := hide hkn
  have HKM := hide hkm
  rw [show byteV c = .int .u8 (kc : Int) by rw [hkc]]
  clear hkn hkm hkc
  go_enter Try.func34, Try.ntmps34
  by_cases h3 : kc = 3
  · have hc := HKN.out 3 (by omega) h3
    subst h3
    have HF : Hid (Regs.formOf 0 c = some 0) := hide (by rw [hc]; decide)
    have HE : Hid (Regs.errF 0 c = 0) := hide (by unfold Regs.errF; rw [HF.out])
    clear HKN HKM hc
    go_wp2_with fail
    generalize w.alloc (.cells #[.nilFunc, .nilFunc] 51 (0, 0)) = u at *
    refine (ask_makes u).mono ?_
    rintro e w1 ⟨⟨v, rfl, hv⟩, hb⟩
    replace e0 := (hb.block _ (lt_of_block e0)).trans e0
    replace b0 := b0.trans (hb.mono b0.size)
    obtain ⟨rc, sc, rfl, hv⟩ := hv
    have HV := hide hv
    clear hb hv
    go_wp2_with ((with_reducible (show wpList _ _ _ ({ dst := _, op := Op.store _ _ _, type := _, pos := _, after := _, guard := _ } :: _) _ _)); refine wpList_store_lies rfl 51 _ _ rfl w.heap.size _ rfl rfl _ _ e0 form_size rfl (form_one _ _ _ _ _ _) ?_)
    intro w3 h3 b3 n3 z3
    go_wp2
    (try simp only [Exit.inBlock, Exit.then])
    rw [HE.out, HF.out]
    exact bodyPost_ret (results_row_tmp Try.results34 _ _ w.heap.size _ _ _ _ rfl h3 Try.underlying51 rfl form_size _ rfl) rfl ⟨⟨_, rfl, rfl, form_one _ _ _ _ _ _, fun g hg => by cases hg; exact ⟨rc, sc, rfl, Regs.Frm.caps_set e0 n3 HV.out⟩⟩, b0.trans (b3 _ (Nat.le_refl _))⟩
  have q3 : ((kc : Int) == 3) = false := by simp; omega
  by_cases h4 : kc = 4
  · have hc := HKN.out 4 (by omega) h4
    subst h4
    have HF : Hid (Regs.formOf 0 c = some 0) := hide (by rw [hc]; decide)
    have HE : Hid (Regs.errF 0 c = 0) := hide (by unfold Regs.errF; rw [HF.out])
    clear HKN HKM hc
    go_wp2_with fail
    generalize w.alloc (.cells #[.nilFunc, .nilFunc] 51 (0, 0)) = u at *
    refine (ask_makes u).mono ?_
    rintro e w1 ⟨⟨v, rfl, hv⟩, hb⟩
    replace e0 := (hb.block _ (lt_of_block e0)).trans e0
    replace b0 := b0.trans (hb.mono b0.size)
    obtain ⟨rc, sc, rfl, hv⟩ := hv
    have HV := hide hv
    clear hb hv
    go_wp2_with ((with_reducible (show wpList _ _ _ ({ dst := _, op := Op.store _ _ _, type := _, pos := _, after := _, guard := _ } :: _) _ _)); refine wpList_store_lies rfl 51 _ _ rfl w.heap.size _ rfl rfl _ _ e0 form_size rfl (form_one _ _ _ _ _ _) ?_)
    intro w3 h3 b3 n3 z3
    go_wp2
    (try simp only [Exit.inBlock, Exit.then])
    rw [HE.out, HF.out]
    exact bodyPost_ret (results_row_tmp Try.results34 _ _ w.heap.size _ _ _ _ rfl h3 Try.underlying51 rfl form_size _ rfl) rfl ⟨⟨_, rfl, rfl, form_one _ _ _ _ _ _, fun g hg => by cases hg; exact ⟨rc, sc, rfl, Regs.Frm.caps_set e0 n3 HV.out⟩⟩, b0.trans (b3 _ (Nat.le_refl _))⟩
  have q4 : ((kc : Int) == 4) = false := by simp; omega
  by_cases h6 : kc = 6
  · have hc := HKN.out 6 (by omega) h6
    subst h6
    have HF : Hid (Regs.formOf 0 c = some 2) := hide (by rw [hc]; decide)
    have HE : Hid (Regs.errF 0 c = 0) := hide (by unfold Regs.errF; rw [HF.out])
    clear HKN HKM hc
    go_wp2_with fail
    generalize w.alloc (.cells #[.nilFunc, .nilFunc] 51 (0, 0)) = u at *
    refine (one_makes u).mono ?_
    rintro e w1 ⟨⟨v, rfl, hv⟩, hb⟩
    replace e0 := (hb.block _ (lt_of_block e0)).trans e0
    replace b0 := b0.trans (hb.mono b0.size)
    obtain ⟨rc, sc, rfl, hv⟩ := hv
    have HV := hide hv
    clear hb hv
    go_wp2_with ((with_reducible (show wpList _ _ _ ({ dst := _, op := Op.store _ _ _, type := _, pos := _, after := _, guard := _ } :: _) _ _)); refine wpList_store_lies rfl 51 _ _ rfl w.heap.size _ rfl rfl _ _ e0 form_size rfl (form_one _ _ _ _ _ _) ?_)
    intro w3 h3 b3 n3 z3
    go_wp2
    (try simp only [Exit.inBlock, Exit.then])
    rw [HE.out, HF.out]
    exact bodyPost_ret (results_row_tmp Try.results34 _ _ w.heap.size _ _ _ _ rfl h3 Try.underlying51 rfl form_size _ rfl) rfl ⟨⟨_, rfl, rfl, form_one _ _ _ _ _ _, fun g hg => by cases hg; exact ⟨rc, sc, rfl, Regs.Frm.caps_set e0 n3 HV.out⟩⟩, b0.trans (b3 _ (Nat.le_refl _))⟩
  have q6 : ((kc : Int) == 6) = false := by simp; omega
  by_cases h16 : kc = 16
  · have hc := HKN.out 16 (by omega) h16
    subst h16
    have HF : Hid (Regs.formOf 0 c = some 3) := hide (by rw [hc]; decide)
    have HE : Hid (Regs.errF 0 c = 0) := hide (by unfold Regs.errF; rw [HF.out])
    clear HKN HKM hc
    go_wp2_with fail
    generalize w.alloc (.cells #[.nilFunc, .nilFunc] 51 (0, 0)) = u at *
    refine (some_makes u).mono ?_
    rintro e w1 ⟨⟨v, rfl, hv⟩, hb⟩
    replace e0 := (hb.block _ (lt_of_block e0)).trans e0
    replace b0 := b0.trans (hb.mono b0.size)
    obtain ⟨rc, sc, rfl, hv⟩ := hv
    have HV := hide hv
    clear hb hv
    go_wp2_with ((with_reducible (show wpList _ _ _ ({ dst := _, op := Op.store _ _ _, type := _, pos := _, after := _, guard := _ } :: _) _ _)); refine wpList_store_lies rfl 51 _ _ rfl w.heap.size _ rfl rfl _ _ e0 form_size rfl (form_one _ _ _ _ _ _) ?_)
    intro w3 h3 b3 n3 z3
    go_wp2
    (try simp only [Exit.inBlock, Exit.then])
    rw [HE.out, HF.out]
    exact bodyPost_ret (results_row_tmp Try.results34 _ _ w.heap.size _ _ _ _ rfl h3 Try.underlying51 rfl form_size _ rfl) rfl ⟨⟨_, rfl, rfl, form_one _ _ _ _ _ _, fun g hg => by cases hg; exact ⟨rc, sc, rfl, Regs.Frm.caps_set e0 n3 HV.out⟩⟩, b0.trans (b3 _ (Nat.le_refl _))⟩
  have q16 : ((kc : Int) == 16) = false := by simp; omega
  by_cases h22 : kc = 22
  · have hc := HKN.out 22 (by omega) h22
    subst h22
    have HF : Hid (Regs.formOf 0 c = some 5) := hide (by rw [hc]; decide)
    have HE : Hid (Regs.errF 0 c = 0) := hide (by unfold Regs.errF; rw [HF.out])
    clear HKN HKM hc
    go_wp2_with fail
    generalize w.alloc (.cells #[.nilFunc, .nilFunc] 51 (0, 0)) = u at *
    refine (masks_makes u).mono ?_
    rintro e w1 ⟨⟨v, rfl, hv⟩, hb⟩
    replace e0 := (hb.block _ (lt_of_block e0)).trans e0
    replace b0 := b0.trans (hb.mono b0.size)
    obtain ⟨rc, sc, rfl, hv⟩ := hv
    have HV := hide hv
    clear hb hv
    go_wp2_with ((with_reducible (show wpList _ _ _ ({ dst := _, op := Op.store _ _ _, type := _, pos := _, after := _, guard := _ } :: _) _ _)); refine wpList_store_lies rfl 51 _ _ rfl w.heap.size _ rfl rfl _ _ e0 form_size rfl (form_one _ _ _ _ _ _) ?_)
    intro w3 h3 b3 n3 z3
    go_wp2
    (try simp only [Exit.inBlock, Exit.then])
    rw [HE.out, HF.out]
    exact bodyPost_ret (results_row_tmp Try.results34 _ _ w.heap.size _ _ _ _ rfl h3 Try.underlying51 rfl form_size _ rfl) rfl ⟨⟨_, rfl, rfl, form_one _ _ _ _ _ _, fun g hg => by cases hg; exact ⟨rc, sc, rfl, Regs.Frm.caps_set e0 n3 HV.out⟩⟩, b0.trans (b3 _ (Nat.le_refl _))⟩
  have q22 : ((kc : Int) == 22) = false := by simp; omega
  by_cases h23 : kc = 23
  · have hc := HKN.out 23 (by omega) h23
    subst h23
    have HF : Hid (Regs.formOf 0 c = some 6) := hide (by rw [hc]; decide)
    have HE : Hid (Regs.errF 0 c = 0) := hide (by unfold Regs.errF; rw [HF.out])
    clear HKN HKM hc
    go_wp2_with fail
    generalize w.alloc (.cells #[.nilFunc, .nilFunc] 51 (0, 0)) = u at *
    refine (both_makes u).mono ?_
    rintro e w1 ⟨⟨v, rfl, hv⟩, hb⟩
    replace e0 := (hb.block _ (lt_of_block e0)).trans e0
    replace b0 := b0.trans (hb.mono b0.size)
    obtain ⟨rc, sc, rfl, hv⟩ := hv
    have HV := hide hv
    clear hb hv
    go_wp2_with ((with_reducible (show wpList _ _ _ ({ dst := _, op := Op.store _ _ _, type := _, pos := _, after := _, guard := _ } :: _) _ _)); refine wpList_store_lies rfl 51 _ _ rfl w.heap.size _ rfl rfl _ _ e0 form_size rfl (form_one _ _ _ _ _ _) ?_)
    intro w3 h3 b3 n3 z3
    go_wp2
    (try simp only [Exit.inBlock, Exit.then])
    rw [HE.out, HF.out]
    exact bodyPost_ret (results_row_tmp Try.results34 _ _ w.heap.size _ _ _ _ rfl h3 Try.underlying51 rfl form_size _ rfl) rfl ⟨⟨_, rfl, rfl, form_one _ _ _ _ _ _, fun g hg => by cases hg; exact ⟨rc, sc, rfl, Regs.Frm.caps_set e0 n3 HV.out⟩⟩, b0.trans (b3 _ (Nat.le_refl _))⟩
  have q23 : ((kc : Int) == 23) = false := by simp; omega
  by_cases h24 : kc = 24
  · have hc := HKN.out 24 (by omega) h24
    subst h24
    have HF : Hid (Regs.formOf 0 c = some 7) := hide (by rw [hc]; decide)
    have HE : Hid (Regs.errF 0 c = 0) := hide (by unfold Regs.errF; rw [HF.out])
    clear HKN HKM hc
    go_wp2_with fail
    generalize w.alloc (.cells #[.nilFunc, .nilFunc] 51 (0, 0)) = u at *
    refine (queue_makes u).mono ?_
    rintro e w1 ⟨⟨v, rfl, hv⟩, hb⟩
    replace e0 := (hb.block _ (lt_of_block e0)).trans e0
    replace b0 := b0.trans (hb.mono b0.size)
    obtain ⟨rc, sc, rfl, hv⟩ := hv
    have HV := hide hv
    clear hb hv
    go_wp2_with ((with_reducible (show wpList _ _ _ ({ dst := _, op := Op.store _ _ _, type := _, pos := _, after := _, guard := _ } :: _) _ _)); refine wpList_store_lies rfl 51 _ _ rfl w.heap.size _ rfl rfl _ _ e0 form_size rfl (form_one _ _ _ _ _ _) ?_)
    intro w3 h3 b3 n3 z3
    go_wp2
    (try simp only [Exit.inBlock, Exit.then])
    rw [HE.out, HF.out]
    exact bodyPost_ret (results_row_tmp Try.results34 _ _ w.heap.size _ _ _ _ rfl h3 Try.underlying51 rfl form_size _ rfl) rfl ⟨⟨_, rfl, rfl, form_one _ _ _ _ _ _, fun g hg => by cases hg; exact ⟨rc, sc, rfl, Regs.Frm.caps_set e0 n3 HV.out⟩⟩, b0.trans (b3 _ (Nat.le_refl _))⟩
  have q24 : ((kc : Int) == 24) = false := by simp; omega
  have HF : Hid (Regs.formOf 0 c = none) := hide (by
    have m3 := HKM.out 3 (by omega) h3
    have m4 := HKM.out 4 (by omega) h4
    have m6 := HKM.out 6 (by omega) h6
    have m16 := HKM.out 16 (by omega) h16
    have m22 := HKM.out 22 (by omega) h22
    have m23 := HKM.out 23 (by omega) h23
    have m24 := HKM.out 24 (by omega) h24
    unfold Regs.formOf
    simp only [show c ≠ 3 from m3, show c ≠ 4 from m4, show c ≠ 6 from m6, show c ≠ 16 from m16, show c ≠ 22 from m22, show c ≠ 23 from m23, show c ≠ 24 from m24]
    simp)
  have HE : Hid (Regs.errF 0 c = 4) := hide (by unfold Regs.errF; rw [HF.out]; rfl)
  clear HKN HKM h3 h4 h6 h16 h22 h23 h24
  go_wp2_with ((with_reducible (show wpList _ _ _ ({ dst := _, op := Op.store _ _ _, type := _, pos := _, after := _, guard := _ } :: _) _ _)); refine wpList_store_lies rfl 51 _ _ rfl w.heap.size _ rfl rfl _ _ e0 form_size rfl nil_one ?_)
  intro w3 h3 b3 n3 z3
  go_wp2
  (try simp only [Exit.inBlock, Exit.then])
  rw [HE.out, HF.out]
  exact bodyPost_ret (results_row_tmp Try.results34 _ _ w.heap.size _ _ _ _ rfl h3 Try.underlying51 rfl form_size _ rfl) rfl ⟨⟨_, rfl, rfl, nil_one, fun g hg => by cases hg⟩, b0.trans (b3 _ (Nat.le_refl _))⟩

set_option maxRecDepth 20000 in
set_option maxHeartbeats 4000000 in
theorem response_any (c : UInt8) (w : World) :
    Calls Try.prog 35 #[byteV c] w fun e w' =>
      (∃ cs, e = .returned (.tuple #[.agg cs, .int .i64 (Regs.errF 1 c)]) ∧ FormAt (Regs.formOf 1 c) w' cs) ∧ Below w.heap.size w w' := by
  have e0 := heap_alloc_new w (.cells #[.nilFunc, .nilFunc] 51 (0, 0))
  have b0 := (Below.refl w.heap.size w).alloc (Nat.le_refl _) (.cells #[.nilFunc, .nilFunc] 51 (0, 0))
  obtain ⟨kc, hkc⟩ : ∃ k : Nat, k = c.toNat := ⟨_, rfl⟩
  have hkn : ∀ n : Nat, n < 256 → kc = n → c = UInt8.ofNat n := fun n hn h => by rw [← UInt8.toNat_inj, UInt8.toNat_ofNat', Nat.mod_eq_of_lt hn, ← hkc, h]
  have hkm : ∀ n : Nat, n < 256 → kc ≠ n → c ≠ UInt8.ofNat n := fun n hn h h1 => h (by rw [hkc, h1, UInt8.toNat_ofNat', Nat.mod_eq_of_lt hn])
  have HKN := hide hkn
  have HKM := hide hkm
  rw [show byteV c = .int .u8 (kc : Int) by rw [hkc]]
  clear hkn hkm hkc
  go_enter Try.func35, Try.ntmps35
  by_cases h3 : kc = 3
  · have hc := HKN.out 3 (by omega) h3
    subst h3
    have HF : Hid (Regs.formOf 1 c = some 1) := hide (by rw [hc]; decide)
    have HE : Hid (Regs.errF 1 c = 0) := hide (by unfold Regs.errF; rw [HF.out])
    clear HKN HKM hc
    go_wp2_with fail
    generalize w.alloc (.cells #[.nilFunc, .nilFunc] 51 (0, 0)) = u at *
    refine (told_makes u).mono ?_
    rintro e w1 ⟨⟨v, rfl, hv⟩, hb⟩
    replace e0 := (hb.block _ (lt_of_block e0)).trans e0
    replace b0 := b0.trans (hb.mono b0.size)
    obtain ⟨rc, sc, rfl, hv⟩ := hv
    have HV := hide hv
    clear hb hv
    go_wp2_with ((with_reducible (show wpList _ _ _ ({ dst := _, op := Op.store _ _ _, type := _, pos := _, after := _, guard := _ } :: _) _ _)); refine wpList_store_lies rfl 51 _ _ rfl w.heap.size _ rfl rfl _ _ e0 form_size rfl (form_one _ _ _ _ _ _) ?_)
    intro w3 h3 b3 n3 z3
    go_wp2
    (try simp only [Exit.inBlock, Exit.then])
    rw [HE.out, HF.out]
    exact bodyPost_ret (results_row_tmp Try.results35 _ _ w.heap.size _ _ _ _ rfl h3 Try.underlying51 rfl form_size _ rfl) rfl ⟨⟨_, rfl, rfl, form_one _ _ _ _ _ _, fun g hg => by cases hg; exact ⟨rc, sc, rfl, Regs.Frm.caps_set e0 n3 HV.out⟩⟩, b0.trans (b3 _ (Nat.le_refl _))⟩
  have q3 : ((kc : Int) == 3) = false := by simp; omega
  by_cases h4 : kc = 4
  · have hc := HKN.out 4 (by omega) h4
    subst h4
    have HF : Hid (Regs.formOf 1 c = some 1) := hide (by rw [hc]; decide)
    have HE : Hid (Regs.errF 1 c = 0) := hide (by unfold Regs.errF; rw [HF.out])
    clear HKN HKM hc
    go_wp2_with fail
    generalize w.alloc (.cells #[.nilFunc, .nilFunc] 51 (0, 0)) = u at *
    refine (told_makes u).mono ?_
    rintro e w1 ⟨⟨v, rfl, hv⟩, hb⟩
    replace e0 := (hb.block _ (lt_of_block e0)).trans e0
    replace b0 := b0.trans (hb.mono b0.size)
    obtain ⟨rc, sc, rfl, hv⟩ := hv
    have HV := hide hv
    clear hb hv
    go_wp2_with ((with_reducible (show wpList _ _ _ ({ dst := _, op := Op.store _ _ _, type := _, pos := _, after := _, guard := _ } :: _) _ _)); refine wpList_store_lies rfl 51 _ _ rfl w.heap.size _ rfl rfl _ _ e0 form_size rfl (form_one _ _ _ _ _ _) ?_)
    intro w3 h3 b3 n3 z3
    go_wp2
    (try simp only [Exit.inBlock, Exit.then])
    rw [HE.out, HF.out]
    exact bodyPost_ret (results_row_tmp Try.results35 _ _ w.heap.size _ _ _ _ rfl h3 Try.underlying51 rfl form_size _ rfl) rfl ⟨⟨_, rfl, rfl, form_one _ _ _ _ _ _, fun g hg => by cases hg; exact ⟨rc, sc, rfl, Regs.Frm.caps_set e0 n3 HV.out⟩⟩, b0.trans (b3 _ (Nat.le_refl _))⟩
  have q4 : ((kc : Int) == 4) = false := by simp; omega
  by_cases h23 : kc = 23
  · have hc := HKN.out 23 (by omega) h23
    subst h23
    have HF : Hid (Regs.formOf 1 c = some 1) := hide (by rw [hc]; decide)
    have HE : Hid (Regs.errF 1 c = 0) := hide (by unfold Regs.errF; rw [HF.out])
    clear HKN HKM hc
    go_wp2_with fail
    generalize w.alloc (.cells #[.nilFunc, .nilFunc] 51 (0, 0)) = u at *
    refine (told_makes u).mono ?_
    rintro e w1 ⟨⟨v, rfl, hv⟩, hb⟩
    replace e0 := (hb.block _ (lt_of_block e0)).trans e0
    replace b0 := b0.trans (hb.mono b0.size)
    obtain ⟨rc, sc, rfl, hv⟩ := hv
    have HV := hide hv
    clear hb hv
    go_wp2_with ((with_reducible (show wpList _ _ _ ({ dst := _, op := Op.store _ _ _, type := _, pos := _, after := _, guard := _ } :: _) _ _)); refine wpList_store_lies rfl 51 _ _ rfl w.heap.size _ rfl rfl _ _ e0 form_size rfl (form_one _ _ _ _ _ _) ?_)
    intro w3 h3 b3 n3 z3
    go_wp2
    (try simp only [Exit.inBlock, Exit.then])
    rw [HE.out, HF.out]
    exact bodyPost_ret (results_row_tmp Try.results35 _ _ w.heap.size _ _ _ _ rfl h3 Try.underlying51 rfl form_size _ rfl) rfl ⟨⟨_, rfl, rfl, form_one _ _ _ _ _ _, fun g hg => by cases hg; exact ⟨rc, sc, rfl, Regs.Frm.caps_set e0 n3 HV.out⟩⟩, b0.trans (b3 _ (Nat.le_refl _))⟩
  have q23 : ((kc : Int) == 23) = false := by simp; omega
  by_cases h6 : kc = 6
  · have hc := HKN.out 6 (by omega) h6
    subst h6
    have HF : Hid (Regs.formOf 1 c = some 2) := hide (by rw [hc]; decide)
    have HE : Hid (Regs.errF 1 c = 0) := hide (by unfold Regs.errF; rw [HF.out])
    clear HKN HKM hc
    go_wp2_with fail
    generalize w.alloc (.cells #[.nilFunc, .nilFunc] 51 (0, 0)) = u at *
    refine (one_makes u).mono ?_
    rintro e w1 ⟨⟨v, rfl, hv⟩, hb⟩
    replace e0 := (hb.block _ (lt_of_block e0)).trans e0
    replace b0 := b0.trans (hb.mono b0.size)
    obtain ⟨rc, sc, rfl, hv⟩ := hv
    have HV := hide hv
    clear hb hv
    go_wp2_with ((with_reducible (show wpList _ _ _ ({ dst := _, op := Op.store _ _ _, type := _, pos := _, after := _, guard := _ } :: _) _ _)); refine wpList_store_lies rfl 51 _ _ rfl w.heap.size _ rfl rfl _ _ e0 form_size rfl (form_one _ _ _ _ _ _) ?_)
    intro w3 h3 b3 n3 z3
    go_wp2
    (try simp only [Exit.inBlock, Exit.then])
    rw [HE.out, HF.out]
    exact bodyPost_ret (results_row_tmp Try.results35 _ _ w.heap.size _ _ _ _ rfl h3 Try.underlying51 rfl form_size _ rfl) rfl ⟨⟨_, rfl, rfl, form_one _ _ _ _ _ _, fun g hg => by cases hg; exact ⟨rc, sc, rfl, Regs.Frm.caps_set e0 n3 HV.out⟩⟩, b0.trans (b3 _ (Nat.le_refl _))⟩
  have q6 : ((kc : Int) == 6) = false := by simp; omega
  by_cases h16 : kc = 16
  · have hc := HKN.out 16 (by omega) h16
    subst h16
    have HF : Hid (Regs.formOf 1 c = some 4) := hide (by rw [hc]; decide)
    have HE : Hid (Regs.errF 1 c = 0) := hide (by unfold Regs.errF; rw [HF.out])
    clear HKN HKM hc
    go_wp2_with fail
    generalize w.alloc (.cells #[.nilFunc, .nilFunc] 51 (0, 0)) = u at *
    refine (done_makes u).mono ?_
    rintro e w1 ⟨⟨v, rfl, hv⟩, hb⟩
    replace e0 := (hb.block _ (lt_of_block e0)).trans e0
    replace b0 := b0.trans (hb.mono b0.size)
    obtain ⟨rc, sc, rfl, hv⟩ := hv
    have HV := hide hv
    clear hb hv
    go_wp2_with ((with_reducible (show wpList _ _ _ ({ dst := _, op := Op.store _ _ _, type := _, pos := _, after := _, guard := _ } :: _) _ _)); refine wpList_store_lies rfl 51 _ _ rfl w.heap.size _ rfl rfl _ _ e0 form_size rfl (form_one _ _ _ _ _ _) ?_)
    intro w3 h3 b3 n3 z3
    go_wp2
    (try simp only [Exit.inBlock, Exit.then])
    rw [HE.out, HF.out]
    exact bodyPost_ret (results_row_tmp Try.results35 _ _ w.heap.size _ _ _ _ rfl h3 Try.underlying51 rfl form_size _ rfl) rfl ⟨⟨_, rfl, rfl, form_one _ _ _ _ _ _, fun g hg => by cases hg; exact ⟨rc, sc, rfl, Regs.Frm.caps_set e0 n3 HV.out⟩⟩, b0.trans (b3 _ (Nat.le_refl _))⟩
  have q16 : ((kc : Int) == 16) = false := by simp; omega
  by_cases h22 : kc = 22
  · have hc := HKN.out 22 (by omega) h22
    subst h22
    have HF : Hid (Regs.formOf 1 c = some 5) := hide (by rw [hc]; decide)
    have HE : Hid (Regs.errF 1 c = 0) := hide (by unfold Regs.errF; rw [HF.out])
    clear HKN HKM hc
    go_wp2_with fail
    generalize w.alloc (.cells #[.nilFunc, .nilFunc] 51 (0, 0)) = u at *
    refine (masks_makes u).mono ?_
    rintro e w1 ⟨⟨v, rfl, hv⟩, hb⟩
    replace e0 := (hb.block _ (lt_of_block e0)).trans e0
    replace b0 := b0.trans (hb.mono b0.size)
    obtain ⟨rc, sc, rfl, hv⟩ := hv
    have HV := hide hv
    clear hb hv
    go_wp2_with ((with_reducible (show wpList _ _ _ ({ dst := _, op := Op.store _ _ _, type := _, pos := _, after := _, guard := _ } :: _) _ _)); refine wpList_store_lies rfl 51 _ _ rfl w.heap.size _ rfl rfl _ _ e0 form_size rfl (form_one _ _ _ _ _ _) ?_)
    intro w3 h3 b3 n3 z3
    go_wp2
    (try simp only [Exit.inBlock, Exit.then])
    rw [HE.out, HF.out]
    exact bodyPost_ret (results_row_tmp Try.results35 _ _ w.heap.size _ _ _ _ rfl h3 Try.underlying51 rfl form_size _ rfl) rfl ⟨⟨_, rfl, rfl, form_one _ _ _ _ _ _, fun g hg => by cases hg; exact ⟨rc, sc, rfl, Regs.Frm.caps_set e0 n3 HV.out⟩⟩, b0.trans (b3 _ (Nat.le_refl _))⟩
  have q22 : ((kc : Int) == 22) = false := by simp; omega
  by_cases h24 : kc = 24
  · have hc := HKN.out 24 (by omega) h24
    subst h24
    have HF : Hid (Regs.formOf 1 c = some 8) := hide (by rw [hc]; decide)
    have HE : Hid (Regs.errF 1 c = 0) := hide (by unfold Regs.errF; rw [HF.out])
    clear HKN HKM hc
    go_wp2_with fail
    generalize w.alloc (.cells #[.nilFunc, .nilFunc] 51 (0, 0)) = u at *
    refine (queued_makes u).mono ?_
    rintro e w1 ⟨⟨v, rfl, hv⟩, hb⟩
    replace e0 := (hb.block _ (lt_of_block e0)).trans e0
    replace b0 := b0.trans (hb.mono b0.size)
    obtain ⟨rc, sc, rfl, hv⟩ := hv
    have HV := hide hv
    clear hb hv
    go_wp2_with ((with_reducible (show wpList _ _ _ ({ dst := _, op := Op.store _ _ _, type := _, pos := _, after := _, guard := _ } :: _) _ _)); refine wpList_store_lies rfl 51 _ _ rfl w.heap.size _ rfl rfl _ _ e0 form_size rfl (form_one _ _ _ _ _ _) ?_)
    intro w3 h3 b3 n3 z3
    go_wp2
    (try simp only [Exit.inBlock, Exit.then])
    rw [HE.out, HF.out]
    exact bodyPost_ret (results_row_tmp Try.results35 _ _ w.heap.size _ _ _ _ rfl h3 Try.underlying51 rfl form_size _ rfl) rfl ⟨⟨_, rfl, rfl, form_one _ _ _ _ _ _, fun g hg => by cases hg; exact ⟨rc, sc, rfl, Regs.Frm.caps_set e0 n3 HV.out⟩⟩, b0.trans (b3 _ (Nat.le_refl _))⟩
  have q24 : ((kc : Int) == 24) = false := by simp; omega
  have HF : Hid (Regs.formOf 1 c = none) := hide (by
    have m3 := HKM.out 3 (by omega) h3
    have m4 := HKM.out 4 (by omega) h4
    have m23 := HKM.out 23 (by omega) h23
    have m6 := HKM.out 6 (by omega) h6
    have m16 := HKM.out 16 (by omega) h16
    have m22 := HKM.out 22 (by omega) h22
    have m24 := HKM.out 24 (by omega) h24
    unfold Regs.formOf
    simp only [show c ≠ 3 from m3, show c ≠ 4 from m4, show c ≠ 23 from m23, show c ≠ 6 from m6, show c ≠ 16 from m16, show c ≠ 22 from m22, show c ≠ 24 from m24]
    simp)
  have HE : Hid (Regs.errF 1 c = 4) := hide (by unfold Regs.errF; rw [HF.out]; rfl)
  clear HKN HKM h3 h4 h23 h6 h16 h22 h24
  go_wp2_with ((with_reducible (show wpList _ _ _ ({ dst := _, op := Op.store _ _ _, type := _, pos := _, after := _, guard := _ } :: _) _ _)); refine wpList_store_lies rfl 51 _ _ rfl w.heap.size _ rfl rfl _ _ e0 form_size rfl nil_one ?_)
  intro w3 h3 b3 n3 z3
  go_wp2
  (try simp only [Exit.inBlock, Exit.then])
  rw [HE.out, HF.out]
  exact bodyPost_ret (results_row_tmp Try.results35 _ _ w.heap.size _ _ _ _ rfl h3 Try.underlying51 rfl form_size _ rfl) rfl ⟨⟨_, rfl, rfl, nil_one, fun g hg => by cases hg⟩, b0.trans (b3 _ (Nat.le_refl _))⟩

set_option maxRecDepth 20000 in
set_option maxHeartbeats 2000000 in
theorem formOf_any (dir : Int) (c : UInt8) (w : World) :
    Calls Try.prog 20 #[.int .i64 dir, byteV c] w fun e w' =>
      (∃ cs, e = .returned (.tuple #[.agg cs, .int .i64 (Regs.errF dir c)]) ∧ FormAt (Regs.formOf dir c) w' cs) ∧ Below w.heap.size w w' := by
  have e0 := heap_alloc_new w (.cells #[.nilFunc, .nilFunc] 51 (0, 0))
  have b0 := (Below.refl w.heap.size w).alloc (Nat.le_refl _) (.cells #[.nilFunc, .nilFunc] 51 (0, 0))
  go_enter Try.func20, Try.ntmps20
  by_cases h0 : dir = 0
  · subst h0
    go_wp2_with fail
    generalize w.alloc (.cells #[.nilFunc, .nilFunc] 51 (0, 0)) = u at *
    refine (request_any c u).mono ?_
    rintro e w1 ⟨⟨cs, rfl, hs, ho, hv⟩, hb⟩
    replace e0 := (hb.block _ (lt_of_block e0)).trans e0
    replace b0 := b0.trans (hb.mono b0.size)
    have HV := hide hv
    clear hb hv
    go_wp2_with ((with_reducible (show wpList _ _ _ ({ dst := _, op := Op.store _ _ _, type := _, pos := _, after := _, guard := _ } :: _) _ _)); refine wpList_store_lies rfl 51 _ _ rfl w.heap.size _ rfl rfl _ _ e0 (formC_size _ hs) hs.symm ho ?_)
    intro w3 h3 b3 n3 z3
    go_wp2
    (try simp only [Exit.inBlock, Exit.then])
    exact bodyPost_ret (results_row_tmp Try.results20 _ _ w.heap.size _ _ _ _ rfl h3 Try.underlying51 rfl (formC_size _ hs) _ rfl) rfl ⟨⟨_, rfl, hs, ho, fun g hg => by obtain ⟨rc, sc, h1, h2⟩ := HV.out g hg; exact ⟨rc, sc, h1, Regs.Frm.caps_set e0 n3 h2⟩⟩, b0.trans (b3 _ (Nat.le_refl _))⟩
  have q0 : (dir == 0) = false := by simpa using h0
  by_cases h1 : dir = 1
  · subst h1
    go_wp2_with fail
    generalize w.alloc (.cells #[.nilFunc, .nilFunc] 51 (0, 0)) = u at *
    refine (response_any c u).mono ?_
    rintro e w1 ⟨⟨cs, rfl, hs, ho, hv⟩, hb⟩
    replace e0 := (hb.block _ (lt_of_block e0)).trans e0
    replace b0 := b0.trans (hb.mono b0.size)
    have HV := hide hv
    clear hb hv
    go_wp2_with ((with_reducible (show wpList _ _ _ ({ dst := _, op := Op.store _ _ _, type := _, pos := _, after := _, guard := _ } :: _) _ _)); refine wpList_store_lies rfl 51 _ _ rfl w.heap.size _ rfl rfl _ _ e0 (formC_size _ hs) hs.symm ho ?_)
    intro w3 h3 b3 n3 z3
    go_wp2
    (try simp only [Exit.inBlock, Exit.then])
    exact bodyPost_ret (results_row_tmp Try.results20 _ _ w.heap.size _ _ _ _ rfl h3 Try.underlying51 rfl (formC_size _ hs) _ rfl) rfl ⟨⟨_, rfl, hs, ho, fun g hg => by obtain ⟨rc, sc, h1, h2⟩ := HV.out g hg; exact ⟨rc, sc, h1, Regs.Frm.caps_set e0 n3 h2⟩⟩, b0.trans (b3 _ (Nat.le_refl _))⟩
  have q1 : (dir == 1) = false := by simpa using h1
  have HF : Hid (Regs.formOf dir c = none) := hide (by unfold Regs.formOf; rw [if_neg h0, if_neg h1])
  have HE : Hid (Regs.errF dir c = 1) := hide (by unfold Regs.errF; rw [HF.out]; simp [h0, h1])
  clear h0 h1
  go_wp2_with ((with_reducible (show wpList _ _ _ ({ dst := _, op := Op.store _ _ _, type := _, pos := _, after := _, guard := _ } :: _) _ _)); refine wpList_store_lies rfl 51 _ _ rfl w.heap.size _ rfl rfl _ _ e0 form_size rfl nil_one ?_)
  intro w3 h3 b3 n3 z3
  go_wp2
  (try simp only [Exit.inBlock, Exit.then])
  rw [HE.out, HF.out]
  exact bodyPost_ret (results_row_tmp Try.results20 _ _ w.heap.size _ _ _ _ rfl h3 Try.underlying51 rfl form_size _ rfl) rfl ⟨⟨_, rfl, rfl, nil_one, fun g hg => by cases hg⟩, b0.trans (b3 _ (Nat.le_refl _))⟩

end Go.Proofs.Ytaccebkgmjiaaaa
