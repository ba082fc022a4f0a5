/-
  Package diag: a code's form in a direction.
-/
import Derived.Test.YtemomgcapjpaiaaDiagRead
import Derived.Test.YtemomgcapjpaiaaMsgRow
namespace Go.Proofs.Ytemomgcapjpaiaa
open Go.RowKit
open Word Bits Cursor

theorem form_size : (Try.prog.info? 51).map (·.size) = some 2 := by kernel_rfl
theorem form_one (f1 f2 : Fn) (p1 p2 c1 c2 : Array Value) : (#[Value.func f1 p1 c1, Value.func f2 p2 c2].all (·.oneCell')) = true := by simp [Value.oneCell']
theorem nil_one : (#[Value.nilFunc, Value.nilFunc].all (·.oneCell')) = true := by simp [Value.oneCell']

theorem results_row {P : Program} {fn : Func} {p : Tmp} {ty : TypeId} (h : fn.results = #[.cell p ty]) (tmps : Array Value) (w : World) (g : Nat) (t : TypeId) (cs : Array Value) (fr : Nat × Nat) (d : TypeDesc)
    (hp : tmps.getD p undef = .pointer (some ⟨g, 0, none⟩)) (hg : w.heap[g]? = some (.cells cs t fr))
    (hu : P.underlying ty = some d) (hd : (match d with | .struct _ | .array _ _ => true | _ => false) = true) (hi : (P.info? ty).map (·.size) = some cs.size) :
    (results fn tmps).run P w = .ok (.agg cs) w := results_cell_row h tmps w g t cs fr d hp hg hu hd hi

set_option maxRecDepth 20000 in
set_option maxHeartbeats 1000000 in
theorem diagnosis_any (dir : Int) (w : World) :
    Calls Try.prog 53 #[.int .i64 dir] w fun e w' =>
      (∃ g, w.heap.size ≤ g ∧ e = .returned (.agg #[clV 60 #[ptrV g], clV 66 #[]]) ∧ w'.heap[g]? = some (.cells #[.int .i64 dir] 3 (0, 0))) ∧ Below w.heap.size w w' := by
  have hmf : ∀ (fn : Fn) (first cap : Array Value) (w : World), (Instr.makeFunc fn first cap).run Try.prog w = .ok (.func fn first cap) w := fun _ _ _ _ => rfl
  go_enter Try.func53, Try.ntmps53
  go_wp2
  refine bodyPost_ret (results_row Try.results53 _ _ (w.heap.size + 1) _ _ _ _ rfl (heap_alloc2_new _ _ _) Try.underlying51 rfl form_size) rfl ⟨⟨w.heap.size, Nat.le_refl _, rfl, ?_⟩, ?_⟩
  · exact (Below.heap_alloc _ _ _ (by simp)).trans (heap_alloc_new _ _)
  · exact ((Below.refl _ _).alloc (Nat.le_refl _) _).alloc (by simp) _

/-- A value that is a form. -/
def FormV (f : Diag.Frm) (w : World) (v : Value) : Prop := ∃ rc sc, v = .agg #[clV f.rd rc, clV f.wr sc] ∧ f.caps w rc sc
theorem FormV.mono {f : Diag.Frm} {w w' : World} {v : Value} (h : FormV f w v) (hb : Below w.heap.size w w') : FormV f w' v := by
  obtain ⟨rc, sc, h1, h2⟩ := h
  exact ⟨rc, sc, h1, Diag.Frm.caps_mono hb h2⟩
/-- What a maker of forms answers. -/
abbrev Makes (F : FuncId) (args : Array Value) (f : Diag.Frm) : Prop := ∀ w : World, Calls Try.prog F args w fun e w' => (∃ v, e = .returned v ∧ FormV f w' v) ∧ Below w.heap.size w w'

theorem asked_makes : Makes 53 #[.int .i64 0] 2 := fun w => by
  refine (diagnosis_any 0 w).mono ?_
  rintro e w1 ⟨⟨g, _, rfl, hg⟩, hb⟩
  exact ⟨⟨_, rfl, _, _, rfl, g, rfl, rfl, hg⟩, hb⟩
theorem answered_makes : Makes 53 #[.int .i64 1] 3 := fun w => by
  refine (diagnosis_any 1 w).mono ?_
  rintro e w1 ⟨⟨g, _, rfl, hg⟩, hb⟩
  exact ⟨⟨_, rfl, _, _, rfl, g, rfl, rfl, hg⟩, hb⟩
theorem nothing_makes : Makes 52 #[] 0 := fun w => by
  go_enter Try.func52, Try.ntmps52
  go_wp2
  exact bodyPost_ret (results_row Try.results52 _ _ w.heap.size _ _ _ _ rfl (heap_alloc_new _ _) Try.underlying51 rfl form_size) rfl ⟨⟨_, rfl, _, _, rfl, rfl, rfl⟩, (Below.refl _ _).alloc (Nat.le_refl _) _⟩
theorem flags_makes : Makes 54 #[] 1 := fun w => by
  go_enter Try.func54, Try.ntmps54
  go_wp2
  exact bodyPost_ret (results_row Try.results54 _ _ w.heap.size _ _ _ _ rfl (heap_alloc_new _ _) Try.underlying51 rfl form_size) rfl ⟨⟨_, rfl, _, _, rfl, rfl, rfl⟩, (Below.refl _ _).alloc (Nat.le_refl _) _⟩
theorem counted_makes : Makes 55 #[] 4 := fun w => by
  go_enter Try.func55, Try.ntmps55
  go_wp2
  exact bodyPost_ret (results_row Try.results55 _ _ w.heap.size _ _ _ _ rfl (heap_alloc_new _ _) Try.underlying51 rfl form_size) rfl ⟨⟨_, rfl, _, _, rfl, rfl, rfl⟩, (Below.refl _ _).alloc (Nat.le_refl _) _⟩
theorem logged_makes : Makes 56 #[] 5 := fun w => by
  go_enter Try.func56, Try.ntmps56
  go_wp2
  exact bodyPost_ret (results_row Try.results56 _ _ w.heap.size _ _ _ _ rfl (heap_alloc_new _ _) Try.underlying51 rfl form_size) rfl ⟨⟨_, rfl, _, _, rfl, rfl, rfl⟩, (Below.refl _ _).alloc (Nat.le_refl _) _⟩
theorem itself_makes : Makes 57 #[] 6 := fun w => by
  go_enter Try.func57, Try.ntmps57
  go_wp2
  exact bodyPost_ret (results_row Try.results57 _ _ w.heap.size _ _ _ _ rfl (heap_alloc_new _ _) Try.underlying51 rfl form_size) rfl ⟨⟨_, rfl, _, _, rfl, rfl, rfl⟩, (Below.refl _ _).alloc (Nat.le_refl _) _⟩

namespace Diag
/-- Why there is no form. -/
def errF (dir : Int) (c : UInt8) : Int := match formOf dir c with | some _ => 0 | none => if dir = 0 ∨ dir = 1 then 4 else 1
end Diag
/-- What a look for a form answers. -/
def FormAt (o : Option Diag.Frm) (w : World) (cs : Array Value) : Prop := cs.size = 2 ∧ cs.all (·.oneCell') = true ∧ ∀ f, o = some f → FormV f w (.agg cs)
theorem FormV.at {f : Diag.Frm} {w : World} {v : Value} (h : FormV f w v) : ∃ cs, v = .agg cs ∧ FormAt (some f) w cs := by
  obtain ⟨rc, sc, rfl, h2⟩ := h
  exact ⟨_, rfl, rfl, form_one _ _ _ _ _ _, fun g hg => by cases hg; exact ⟨rc, sc, rfl, h2⟩⟩
theorem formC_size (cs : Array Value) (h : cs.size = 2) : (Try.prog.info? 51).map (·.size) = some cs.size := by rw [h]; kernel_rfl

set_option maxRecDepth 20000 in
set_option maxHeartbeats 4000000 in
theorem request_any (c : UInt8) (w : World) :
    Calls Try.prog 36 #[byteV c] w fun e w' =>
      (∃ cs, e = .returned (.tuple #[.agg cs, .int .i64 (Diag.errF 0 c)]) ∧ FormAt (Diag.formOf 0 c) w' cs) ∧ Below w.heap.size w w' := by
  have e0 := heap_alloc_new w (.cells #[.nilFunc, .nilFunc] 51 (0, 0))
  have b0 := (Below.refl w.heap.size w).alloc (Nat.le_refl _) (.cells #[.nilFunc, .nilFunc] 51 (0, 0))
  obtain ⟨kc, hkc⟩ : ∃ k : Nat, k = c.toNat := ⟨_, rfl⟩
  have hkn : ∀ n : Nat, n < 256 → kc = n → c = UInt8.ofNat n := fun n hn h => by rw [← UInt8.toNat_inj, UInt8.toNat_ofNat', Nat.mod_eq_of_lt hn, ← hkc, h]
  have hkm : ∀ n : Nat, n < 256 → kc ≠ n → c ≠ UInt8.ofNat n := fun n hn h h1 => h (by rw [hkc, h1, UInt8.toNat_ofNat', Nat.mod_eq_of_lt hn])
  have HKN := hide hkn
  have HKM := hide hkm
  rw [show byteV c = .int .u8 (kc : Int) by rw [hkc]]
  clear hkn hkm hkc
  go_enter Try.func36, Try.ntmps36
  by_cases h7 : kc = 7
  · have hc := HKN.out 7 (by omega) h7
    subst h7
    have HF : Hid (Diag.formOf 0 c = some 0) := hide (by rw [hc]; decide)
    have HE : Hid (Diag.errF 0 c = 0) := hide (by unfold Diag.errF; rw [HF.out])
    clear HKN HKM hc
    go_wp2_with fail
    generalize w.alloc (.cells #[.nilFunc, .nilFunc] 51 (0, 0)) = u at *
    refine (nothing_makes u).mono ?_
    rintro e w1 ⟨⟨v, rfl, hv⟩, hb⟩
    replace e0 := (hb.block _ (lt_of_block e0)).trans e0
    replace b0 := b0.trans (hb.mono b0.size)
    obtain ⟨rc, sc, rfl, hv⟩ := hv
    have HV := hide hv
    clear hb hv
    go_wp2_with ((with_reducible (show wpList _ _ _ ({ dst := _, op := Op.store _ _ _, type := _, pos := _, after := _, guard := _ } :: _) _ _)); refine wpList_store_lies rfl 51 _ _ rfl w.heap.size _ rfl rfl _ _ e0 form_size rfl (form_one _ _ _ _ _ _) ?_)
    intro w3 h3 b3 n3 z3
    go_wp2
    (try simp only [Exit.inBlock, Exit.then])
    rw [HE.out, HF.out]
    exact bodyPost_ret (results_row_tmp Try.results36 _ _ w.heap.size _ _ _ _ rfl h3 Try.underlying51 rfl form_size _ rfl) rfl ⟨⟨_, rfl, rfl, form_one _ _ _ _ _ _, fun g hg => by cases hg; exact ⟨rc, sc, rfl, Diag.Frm.caps_set e0 n3 HV.out⟩⟩, b0.trans (b3 _ (Nat.le_refl _))⟩
  have q7 : ((kc : Int) == 7) = false := by simp; omega
  by_cases h11 : kc = 11
  · have hc := HKN.out 11 (by omega) h11
    subst h11
    have HF : Hid (Diag.formOf 0 c = some 0) := hide (by rw [hc]; decide)
    have HE : Hid (Diag.errF 0 c = 0) := hide (by unfold Diag.errF; rw [HF.out])
    clear HKN HKM hc
    go_wp2_with fail
    generalize w.alloc (.cells #[.nilFunc, .nilFunc] 51 (0, 0)) = u at *
    refine (nothing_makes u).mono ?_
    rintro e w1 ⟨⟨v, rfl, hv⟩, hb⟩
    replace e0 := (hb.block _ (lt_of_block e0)).trans e0
    replace b0 := b0.trans (hb.mono b0.size)
    obtain ⟨rc, sc, rfl, hv⟩ := hv
    have HV := hide hv
    clear hb hv
    go_wp2_with ((with_reducible (show wpList _ _ _ ({ dst := _, op := Op.store _ _ _, type := _, pos := _, after := _, guard := _ } :: _) _ _)); refine wpList_store_lies rfl 51 _ _ rfl w.heap.size _ rfl rfl _ _ e0 form_size rfl (form_one _ _ _ _ _ _) ?_)
    intro w3 h3 b3 n3 z3
    go_wp2
    (try simp only [Exit.inBlock, Exit.then])
    rw [HE.out, HF.out]
    exact bodyPost_ret (results_row_tmp Try.results36 _ _ w.heap.size _ _ _ _ rfl h3 Try.underlying51 rfl form_size _ rfl) rfl ⟨⟨_, rfl, rfl, form_one _ _ _ _ _ _, fun g hg => by cases hg; exact ⟨rc, sc, rfl, Diag.Frm.caps_set e0 n3 HV.out⟩⟩, b0.trans (b3 _ (Nat.le_refl _))⟩
  have q11 : ((kc : Int) == 11) = false := by simp; omega
  by_cases h12 : kc = 12
  · have hc := HKN.out 12 (by omega) h12
    subst h12
    have HF : Hid (Diag.formOf 0 c = some 0) := hide (by rw [hc]; decide)
    have HE : Hid (Diag.errF 0 c = 0) := hide (by unfold Diag.errF; rw [HF.out])
    clear HKN HKM hc
    go_wp2_with fail
    generalize w.alloc (.cells #[.nilFunc, .nilFunc] 51 (0, 0)) = u at *
    refine (nothing_makes u).mono ?_
    rintro e w1 ⟨⟨v, rfl, hv⟩, hb⟩
    replace e0 := (hb.block _ (lt_of_block e0)).trans e0
    replace b0 := b0.trans (hb.mono b0.size)
    obtain ⟨rc, sc, rfl, hv⟩ := hv
    have HV := hide hv
    clear hb hv
    go_wp2_with ((with_reducible (show wpList _ _ _ ({ dst := _, op := Op.store _ _ _, type := _, pos := _, after := _, guard := _ } :: _) _ _)); refine wpList_store_lies rfl 51 _ _ rfl w.heap.size _ rfl rfl _ _ e0 form_size rfl (form_one _ _ _ _ _ _) ?_)
    intro w3 h3 b3 n3 z3
    go_wp2
    (try simp only [Exit.inBlock, Exit.then])
    rw [HE.out, HF.out]
    exact bodyPost_ret (results_row_tmp Try.results36 _ _ w.heap.size _ _ _ _ rfl h3 Try.underlying51 rfl form_size _ rfl) rfl ⟨⟨_, rfl, rfl, form_one _ _ _ _ _ _, fun g hg => by cases hg; exact ⟨rc, sc, rfl, Diag.Frm.caps_set e0 n3 HV.out⟩⟩, b0.trans (b3 _ (Nat.le_refl _))⟩
  have q12 : ((kc : Int) == 12) = false := by simp; omega
  by_cases h17 : kc = 17
  · have hc := HKN.out 17 (by omega) h17
    subst h17
    have HF : Hid (Diag.formOf 0 c = some 0) := hide (by rw [hc]; decide)
    have HE : Hid (Diag.errF 0 c = 0) := hide (by unfold Diag.errF; rw [HF.out])
    clear HKN HKM hc
    go_wp2_with fail
    generalize w.alloc (.cells #[.nilFunc, .nilFunc] 51 (0, 0)) = u at *
    refine (nothing_makes u).mono ?_
    rintro e w1 ⟨⟨v, rfl, hv⟩, hb⟩
    replace e0 := (hb.block _ (lt_of_block e0)).trans e0
    replace b0 := b0.trans (hb.mono b0.size)
    obtain ⟨rc, sc, rfl, hv⟩ := hv
    have HV := hide hv
    clear hb hv
    go_wp2_with ((with_reducible (show wpList _ _ _ ({ dst := _, op := Op.store _ _ _, type := _, pos := _, after := _, guard := _ } :: _) _ _)); refine wpList_store_lies rfl 51 _ _ rfl w.heap.size _ rfl rfl _ _ e0 form_size rfl (form_one _ _ _ _ _ _) ?_)
    intro w3 h3 b3 n3 z3
    go_wp2
    (try simp only [Exit.inBlock, Exit.then])
    rw [HE.out, HF.out]
    exact bodyPost_ret (results_row_tmp Try.results36 _ _ w.heap.size _ _ _ _ rfl h3 Try.underlying51 rfl form_size _ rfl) rfl ⟨⟨_, rfl, rfl, form_one _ _ _ _ _ _, fun g hg => by cases hg; exact ⟨rc, sc, rfl, Diag.Frm.caps_set e0 n3 HV.out⟩⟩, b0.trans (b3 _ (Nat.le_refl _))⟩
  have q17 : ((kc : Int) == 17) = false := by simp; omega
  by_cases h8 : kc = 8
  · have hc := HKN.out 8 (by omega) h8
    subst h8
    have HF : Hid (Diag.formOf 0 c = some 2) := hide (by rw [hc]; decide)
    have HE : Hid (Diag.errF 0 c = 0) := hide (by unfold Diag.errF; rw [HF.out])
    clear HKN HKM hc
    go_wp2_with fail
    generalize w.alloc (.cells #[.nilFunc, .nilFunc] 51 (0, 0)) = u at *
    refine (asked_makes u).mono ?_
    rintro e w1 ⟨⟨v, rfl, hv⟩, hb⟩
    replace e0 := (hb.block _ (lt_of_block e0)).trans e0
    replace b0 := b0.trans (hb.mono b0.size)
    obtain ⟨rc, sc, rfl, hv⟩ := hv
    have HV := hide hv
    clear hb hv
    go_wp2_with ((with_reducible (show wpList _ _ _ ({ dst := _, op := Op.store _ _ _, type := _, pos := _, after := _, guard := _ } :: _) _ _)); refine wpList_store_lies rfl 51 _ _ rfl w.heap.size _ rfl rfl _ _ e0 form_size rfl (form_one _ _ _ _ _ _) ?_)
    intro w3 h3 b3 n3 z3
    go_wp2
    (try simp only [Exit.inBlock, Exit.then])
    rw [HE.out, HF.out]
    exact bodyPost_ret (results_row_tmp Try.results36 _ _ w.heap.size _ _ _ _ rfl h3 Try.underlying51 rfl form_size _ rfl) rfl ⟨⟨_, rfl, rfl, form_one _ _ _ _ _ _, fun g hg => by cases hg; exact ⟨rc, sc, rfl, Diag.Frm.caps_set e0 n3 HV.out⟩⟩, b0.trans (b3 _ (Nat.le_refl _))⟩
  have q8 : ((kc : Int) == 8) = false := by simp; omega
  have HF : Hid (Diag.formOf 0 c = none) := hide (by
    have m7 := HKM.out 7 (by omega) h7
    have m11 := HKM.out 11 (by omega) h11
    have m12 := HKM.out 12 (by omega) h12
    have m17 := HKM.out 17 (by omega) h17
    have m8 := HKM.out 8 (by omega) h8
    unfold Diag.formOf
    simp only [show c ≠ 7 from m7, show c ≠ 11 from m11, show c ≠ 12 from m12, show c ≠ 17 from m17, show c ≠ 8 from m8]
    simp)
  have HE : Hid (Diag.errF 0 c = 4) := hide (by unfold Diag.errF; rw [HF.out]; rfl)
  clear HKN HKM h7 h11 h12 h17 h8
  go_wp2_with ((with_reducible (show wpList _ _ _ ({ dst := _, op := Op.store _ _ _, type := _, pos := _, after := _, guard := _ } :: _) _ _)); refine wpList_store_lies rfl 51 _ _ rfl w.heap.size _ rfl rfl _ _ e0 form_size rfl nil_one ?_)
  intro w3 h3 b3 n3 z3
  go_wp2
  (try simp only [Exit.inBlock, Exit.then])
  rw [HE.out, HF.out]
  exact bodyPost_ret (results_row_tmp Try.results36 _ _ w.heap.size _ _ _ _ rfl h3 Try.underlying51 rfl form_size _ rfl) rfl ⟨⟨_, rfl, rfl, nil_one, fun g hg => by cases hg⟩, b0.trans (b3 _ (Nat.le_refl _))⟩

set_option maxRecDepth 20000 in
set_option maxHeartbeats 4000000 in
theorem response_any (c : UInt8) (w : World) :
    Calls Try.prog 37 #[byteV c] w fun e w' =>
      (∃ cs, e = .returned (.tuple #[.agg cs, .int .i64 (Diag.errF 1 c)]) ∧ FormAt (Diag.formOf 1 c) w' cs) ∧ Below w.heap.size w w' := by
  have e0 := heap_alloc_new w (.cells #[.nilFunc, .nilFunc] 51 (0, 0))
  have b0 := (Below.refl w.heap.size w).alloc (Nat.le_refl _) (.cells #[.nilFunc, .nilFunc] 51 (0, 0))
  obtain ⟨kc, hkc⟩ : ∃ k : Nat, k = c.toNat := ⟨_, rfl⟩
  have hkn : ∀ n : Nat, n < 256 → kc = n → c = UInt8.ofNat n := fun n hn h => by rw [← UInt8.toNat_inj, UInt8.toNat_ofNat', Nat.mod_eq_of_lt hn, ← hkc, h]
  have hkm : ∀ n : Nat, n < 256 → kc ≠ n → c ≠ UInt8.ofNat n := fun n hn h h1 => h (by rw [hkc, h1, UInt8.toNat_ofNat', Nat.mod_eq_of_lt hn])
  have HKN := hide hkn
  have HKM := hide hkm
  rw [show byteV c = .int .u8 (kc : Int) by rw [hkc]]
  clear hkn hkm hkc
  go_enter Try.func37, Try.ntmps37
  by_cases h7 : kc = 7
  · have hc := HKN.out 7 (by omega) h7
    subst h7
    have HF : Hid (Diag.formOf 1 c = some 1) := hide (by rw [hc]; decide)
    have HE : Hid (Diag.errF 1 c = 0) := hide (by unfold Diag.errF; rw [HF.out])
    clear HKN HKM hc
    go_wp2_with fail
    generalize w.alloc (.cells #[.nilFunc, .nilFunc] 51 (0, 0)) = u at *
    refine (flags_makes u).mono ?_
    rintro e w1 ⟨⟨v, rfl, hv⟩, hb⟩
    replace e0 := (hb.block _ (lt_of_block e0)).trans e0
    replace b0 := b0.trans (hb.mono b0.size)
    obtain ⟨rc, sc, rfl, hv⟩ := hv
    have HV := hide hv
    clear hb hv
    go_wp2_with ((with_reducible (show wpList _ _ _ ({ dst := _, op := Op.store _ _ _, type := _, pos := _, after := _, guard := _ } :: _) _ _)); refine wpList_store_lies rfl 51 _ _ rfl w.heap.size _ rfl rfl _ _ e0 form_size rfl (form_one _ _ _ _ _ _) ?_)
    intro w3 h3 b3 n3 z3
    go_wp2
    (try simp only [Exit.inBlock, Exit.then])
    rw [HE.out, HF.out]
    exact bodyPost_ret (results_row_tmp Try.results37 _ _ w.heap.size _ _ _ _ rfl h3 Try.underlying51 rfl form_size _ rfl) rfl ⟨⟨_, rfl, rfl, form_one _ _ _ _ _ _, fun g hg => by cases hg; exact ⟨rc, sc, rfl, Diag.Frm.caps_set e0 n3 HV.out⟩⟩, b0.trans (b3 _ (Nat.le_refl _))⟩
  have q7 : ((kc : Int) == 7) = false := by simp; omega
  by_cases h8 : kc = 8
  · have hc := HKN.out 8 (by omega) h8
    subst h8
    have HF : Hid (Diag.formOf 1 c = some 3) := hide (by rw [hc]; decide)
    have HE : Hid (Diag.errF 1 c = 0) := hide (by unfold Diag.errF; rw [HF.out])
    clear HKN HKM hc
    go_wp2_with fail
    generalize w.alloc (.cells #[.nilFunc, .nilFunc] 51 (0, 0)) = u at *
    refine (answered_makes u).mono ?_
    rintro e w1 ⟨⟨v, rfl, hv⟩, hb⟩
    replace e0 := (hb.block _ (lt_of_block e0)).trans e0
    replace b0 := b0.trans (hb.mono b0.size)
    obtain ⟨rc, sc, rfl, hv⟩ := hv
    have HV := hide hv
    clear hb hv
    go_wp2_with ((with_reducible (show wpList _ _ _ ({ dst := _, op := Op.store _ _ _, type := _, pos := _, after := _, guard := _ } :: _) _ _)); refine wpList_store_lies rfl 51 _ _ rfl w.heap.size _ rfl rfl _ _ e0 form_size rfl (form_one _ _ _ _ _ _) ?_)
    intro w3 h3 b3 n3 z3
    go_wp2
    (try simp only [Exit.inBlock, Exit.then])
    rw [HE.out, HF.out]
    exact bodyPost_ret (results_row_tmp Try.results37 _ _ w.heap.size _ _ _ _ rfl h3 Try.underlying51 rfl form_size _ rfl) rfl ⟨⟨_, rfl, rfl, form_one _ _ _ _ _ _, fun g hg => by cases hg; exact ⟨rc, sc, rfl, Diag.Frm.caps_set e0 n3 HV.out⟩⟩, b0.trans (b3 _ (Nat.le_refl _))⟩
  have q8 : ((kc : Int) == 8) = false := by simp; omega
  by_cases h11 : kc = 11
  · have hc := HKN.out 11 (by omega) h11
    subst h11
    have HF : Hid (Diag.formOf 1 c = some 4) := hide (by rw [hc]; decide)
    have HE : Hid (Diag.errF 1 c = 0) := hide (by unfold Diag.errF; rw [HF.out])
    clear HKN HKM hc
    go_wp2_with fail
    generalize w.alloc (.cells #[.nilFunc, .nilFunc] 51 (0, 0)) = u at *
    refine (counted_makes u).mono ?_
    rintro e w1 ⟨⟨v, rfl, hv⟩, hb⟩
    replace e0 := (hb.block _ (lt_of_block e0)).trans e0
    replace b0 := b0.trans (hb.mono b0.size)
    obtain ⟨rc, sc, rfl, hv⟩ := hv
    have HV := hide hv
    clear hb hv
    go_wp2_with ((with_reducible (show wpList _ _ _ ({ dst := _, op := Op.store _ _ _, type := _, pos := _, after := _, guard := _ } :: _) _ _)); refine wpList_store_lies rfl 51 _ _ rfl w.heap.size _ rfl rfl _ _ e0 form_size rfl (form_one _ _ _ _ _ _) ?_)
    intro w3 h3 b3 n3 z3
    go_wp2
    (try simp only [Exit.inBlock, Exit.then])
    rw [HE.out, HF.out]
    exact bodyPost_ret (results_row_tmp Try.results37 _ _ w.heap.size _ _ _ _ rfl h3 Try.underlying51 rfl form_size _ rfl) rfl ⟨⟨_, rfl, rfl, form_one _ _ _ _ _ _, fun g hg => by cases hg; exact ⟨rc, sc, rfl, Diag.Frm.caps_set e0 n3 HV.out⟩⟩, b0.trans (b3 _ (Nat.le_refl _))⟩
  have q11 : ((kc : Int) == 11) = false := by simp; omega
  by_cases h12 : kc = 12
  · have hc := HKN.out 12 (by omega) h12
    subst h12
    have HF : Hid (Diag.formOf 1 c = some 5) := hide (by rw [hc]; decide)
    have HE : Hid (Diag.errF 1 c = 0) := hide (by unfold Diag.errF; rw [HF.out])
    clear HKN HKM hc
    go_wp2_with fail
    generalize w.alloc (.cells #[.nilFunc, .nilFunc] 51 (0, 0)) = u at *
    refine (logged_makes u).mono ?_
    rintro e w1 ⟨⟨v, rfl, hv⟩, hb⟩
    replace e0 := (hb.block _ (lt_of_block e0)).trans e0
    replace b0 := b0.trans (hb.mono b0.size)
    obtain ⟨rc, sc, rfl, hv⟩ := hv
    have HV := hide hv
    clear hb hv
    go_wp2_with ((with_reducible (show wpList _ _ _ ({ dst := _, op := Op.store _ _ _, type := _, pos := _, after := _, guard := _ } :: _) _ _)); refine wpList_store_lies rfl 51 _ _ rfl w.heap.size _ rfl rfl _ _ e0 form_size rfl (form_one _ _ _ _ _ _) ?_)
    intro w3 h3 b3 n3 z3
    go_wp2
    (try simp only [Exit.inBlock, Exit.then])
    rw [HE.out, HF.out]
    exact bodyPost_ret (results_row_tmp Try.results37 _ _ w.heap.size _ _ _ _ rfl h3 Try.underlying51 rfl form_size _ rfl) rfl ⟨⟨_, rfl, rfl, form_one _ _ _ _ _ _, fun g hg => by cases hg; exact ⟨rc, sc, rfl, Diag.Frm.caps_set e0 n3 HV.out⟩⟩, b0.trans (b3 _ (Nat.le_refl _))⟩
  have q12 : ((kc : Int) == 12) = false := by simp; omega
  by_cases h17 : kc = 17
  · have hc := HKN.out 17 (by omega) h17
    subst h17
    have HF : Hid (Diag.formOf 1 c = some 6) := hide (by rw [hc]; decide)
    have HE : Hid (Diag.errF 1 c = 0) := hide (by unfold Diag.errF; rw [HF.out])
    clear HKN HKM hc
    go_wp2_with fail
    generalize w.alloc (.cells #[.nilFunc, .nilFunc] 51 (0, 0)) = u at *
    refine (itself_makes u).mono ?_
    rintro e w1 ⟨⟨v, rfl, hv⟩, hb⟩
    replace e0 := (hb.block _ (lt_of_block e0)).trans e0
    replace b0 := b0.trans (hb.mono b0.size)
    obtain ⟨rc, sc, rfl, hv⟩ := hv
    have HV := hide hv
    clear hb hv
    go_wp2_with ((with_reducible (show wpList _ _ _ ({ dst := _, op := Op.store _ _ _, type := _, pos := _, after := _, guard := _ } :: _) _ _)); refine wpList_store_lies rfl 51 _ _ rfl w.heap.size _ rfl rfl _ _ e0 form_size rfl (form_one _ _ _ _ _ _) ?_)
    intro w3 h3 b3 n3 z3
    go_wp2
    (try simp only [Exit.inBlock, Exit.then])
    rw [HE.out, HF.out]
    exact bodyPost_ret (results_row_tmp Try.results37 _ _ w.heap.size _ _ _ _ rfl h3 Try.underlying51 rfl form_size _ rfl) rfl ⟨⟨_, rfl, rfl, form_one _ _ _ _ _ _, fun g hg => by cases hg; exact ⟨rc, sc, rfl, Diag.Frm.caps_set e0 n3 HV.out⟩⟩, b0.trans (b3 _ (Nat.le_refl _))⟩
  have q17 : ((kc : Int) == 17) = false := by simp; omega
  have HF : Hid (Diag.formOf 1 c = none) := hide (by
    have m7 := HKM.out 7 (by omega) h7
    have m8 := HKM.out 8 (by omega) h8
    have m11 := HKM.out 11 (by omega) h11
    have m12 := HKM.out 12 (by omega) h12
    have m17 := HKM.out 17 (by omega) h17
    unfold Diag.formOf
    simp only [show c ≠ 7 from m7, show c ≠ 8 from m8, show c ≠ 11 from m11, show c ≠ 12 from m12, show c ≠ 17 from m17]
    simp)
  have HE : Hid (Diag.errF 1 c = 4) := hide (by unfold Diag.errF; rw [HF.out]; rfl)
  clear HKN HKM h7 h8 h11 h12 h17
  go_wp2_with ((with_reducible (show wpList _ _ _ ({ dst := _, op := Op.store _ _ _, type := _, pos := _, after := _, guard := _ } :: _) _ _)); refine wpList_store_lies rfl 51 _ _ rfl w.heap.size _ rfl rfl _ _ e0 form_size rfl nil_one ?_)
  intro w3 h3 b3 n3 z3
  go_wp2
  (try simp only [Exit.inBlock, Exit.then])
  rw [HE.out, HF.out]
  exact bodyPost_ret (results_row_tmp Try.results37 _ _ w.heap.size _ _ _ _ rfl h3 Try.underlying51 rfl form_size _ rfl) rfl ⟨⟨_, rfl, rfl, nil_one, fun g hg => by cases hg⟩, b0.trans (b3 _ (Nat.le_refl _))⟩

set_option maxRecDepth 20000 in
set_option maxHeartbeats 2000000 in
theorem formOf_any (dir : Int) (c : UInt8) (w : World) :
    Calls Try.prog 20 #[.int .i64 dir, byteV c] w fun e w' =>
      (∃ cs, e = .returned (.tuple #[.agg cs, .int .i64 (Diag.errF dir c)]) ∧ FormAt (Diag.formOf dir c) w' cs) ∧ Below w.heap.size w w' := by
  have e0 := heap_alloc_new w (.cells #[.nilFunc, .nilFunc] 51 (0, 0))
  have b0 := (Below.refl w.heap.size w).alloc (Nat.le_refl _) (.cells #[.nilFunc, .nilFunc] 51 (0, 0))
  go_enter Try.func20, Try.ntmps20
  by_cases h0 : dir = 0
  · subst h0
    go_wp2_with fail
    generalize w.alloc (.cells #[.nilFunc, .nilFunc] 51 (0, 0)) = u at *
    refine (request_any c u).mono ?_
    rintro e w1 ⟨⟨cs, rfl, hs, ho, hv⟩, hb⟩
    replace e0 := (hb.block _ (lt_of_block e0)).trans e0
    replace b0 := b0.trans (hb.mono b0.size)
    have HV := hide hv
    clear hb hv
    go_wp2_with ((with_reducible (show wpList _ _ _ ({ dst := _, op := Op.store _ _ _, type := _, pos := _, after := _, guard := _ } :: _) _ _)); refine wpList_store_lies rfl 51 _ _ rfl w.heap.size _ rfl rfl _ _ e0 (formC_size _ hs) hs.symm ho ?_)
    intro w3 h3 b3 n3 z3
    go_wp2
    (try simp only [Exit.inBlock, Exit.then])
    exact bodyPost_ret (results_row_tmp Try.results20 _ _ w.heap.size _ _ _ _ rfl h3 Try.underlying51 rfl (formC_size _ hs) _ rfl) rfl ⟨⟨_, rfl, hs, ho, fun g hg => by obtain ⟨rc, sc, h1, h2⟩ := HV.out g hg; exact ⟨rc, sc, h1, Diag.Frm.caps_set e0 n3 h2⟩⟩, b0.trans (b3 _ (Nat.le_refl _))⟩
  have q0 : (dir == 0) = false := by simpa using h0
  by_cases h1 : dir = 1
  · subst h1
    go_wp2_with fail
    generalize w.alloc (.cells #[.nilFunc, .nilFunc] 51 (0, 0)) = u at *
    refine (response_any c u).mono ?_
    rintro e w1 ⟨⟨cs, rfl, hs, ho, hv⟩, hb⟩
    replace e0 := (hb.block _ (lt_of_block e0)).trans e0
    replace b0 := b0.trans (hb.mono b0.size)
    have HV := hide hv
    clear hb hv
    go_wp2_with ((with_reducible (show wpList _ _ _ ({ dst := _, op := Op.store _ _ _, type := _, pos := _, after := _, guard := _ } :: _) _ _)); refine wpList_store_lies rfl 51 _ _ rfl w.heap.size _ rfl rfl _ _ e0 (formC_size _ hs) hs.symm ho ?_)
    intro w3 h3 b3 n3 z3
    go_wp2
    (try simp only [Exit.inBlock, Exit.then])
    exact bodyPost_ret (results_row_tmp Try.results20 _ _ w.heap.size _ _ _ _ rfl h3 Try.underlying51 rfl (formC_size _ hs) _ rfl) rfl ⟨⟨_, rfl, hs, ho, fun g hg => by obtain ⟨rc, sc, h1, h2⟩ := HV.out g hg; exact ⟨rc, sc, h1, Diag.Frm.caps_set e0 n3 h2⟩⟩, b0.trans (b3 _ (Nat.le_refl _))⟩
  have q1 : (dir == 1) = false := by simpa using h1
  have HF : Hid (Diag.formOf dir c = none) := hide (by unfold Diag.formOf; rw [if_neg h0, if_neg h1])
  have HE : Hid (Diag.errF dir c = 1) := hide (by unfold Diag.errF; rw [HF.out]; simp [h0, h1])
  clear h0 h1
  go_wp2_with ((with_reducible (show wpList _ _ _ ({ dst := _, op := Op.store _ _ _, type := _, pos := _, after := _, guard := _ } :: _) _ _)); refine wpList_store_lies rfl 51 _ _ rfl w.heap.size _ rfl rfl _ _ e0 form_size rfl nil_one ?_)
  intro w3 h3 b3 n3 z3
  go_wp2
  (try simp only [Exit.inBlock, Exit.then])
  rw [HE.out, HF.out]
  exact bodyPost_ret (results_row_tmp Try.results20 _ _ w.heap.size _ _ _ _ rfl h3 Try.underlying51 rfl form_size _ rfl) rfl ⟨⟨_, rfl, rfl, nil_one, fun g hg => by cases hg⟩, b0.trans (b3 _ (Nat.le_refl _))⟩

end Go.Proofs.Ytemomgcapjpaiaa
