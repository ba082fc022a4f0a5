/-
  Package files: what a block may have, the forms, and a code's form in a direction.
-/
import Derived.Test.YtolkcohmoalnhaaFileBlock
namespace Go.Proofs.Ytolkcohmoalnhaa
open Go.RowKit
open Word Bits Cursor

theorem form_size : (Try.prog.info? 52).map (·.size) = some 3 := by kernel_rfl
theorem form_one (a b c : FuncId) : (#[clV a #[], clV b #[], clV c #[]] : Array Value).all (·.oneCell') = true := by simp [Value.oneCell']
abbrev nilForm : Array Value := #[.nilFunc, .nilFunc, .nilFunc]
theorem nil_one : nilForm.all (·.oneCell') = true := by simp [Value.oneCell']

set_option maxHeartbeats 1000000 in
/-- How many bytes a block may have. -/
theorem may_any (f : Files.Frm) (n : Nat) (hn : n < 256) (w : World) :
    Calls Try.prog f.may #[.int .i64 (n : Int)] w fun e w' => e = .returned (.bool (Files.ruleN f n)) ∧ w' = w := by
  rcases Files.Frm.three f with rfl | rfl | rfl
  · show Calls Try.prog 55 _ _ _
    have hR : Hid (Files.ruleN 0 n = (decide (7 ≤ n) && decide (n ≤ 245) && decide (n % 7 = 0))) := hide rfl
    rw [hR.out]
    clear hR
    obtain ⟨o1, q1⟩ : ∃ b : Bool, b = decide (7 ≤ n) := ⟨_, rfl⟩
    obtain ⟨o2, q2⟩ : ∃ b : Bool, b = decide (n ≤ 245) := ⟨_, rfl⟩
    have r1 : decide ((7 : Int) ≤ (n : Int)) = o1 := by rw [q1, Bool.eq_iff_iff]; simp; omega
    have r2 : decide ((n : Int) ≤ 245) = o2 := by rw [q2, Bool.eq_iff_iff]; simp; omega
    rw [← q1, ← q2]
    obtain ⟨mm, hmm⟩ : ∃ k : Nat, k = n % 7 := ⟨_, rfl⟩
    obtain ⟨o3, q3⟩ : ∃ b : Bool, b = decide (mm = 0) := ⟨_, rfl⟩
    have hmod : Int.tmod (n : Int) 7 = (mm : Int) := by rw [Int.tmod_eq_emod_of_nonneg (by omega), hmm]; omega
    have hmod2 : (n : Int) % 7 = (mm : Int) := by rw [hmm]; omega
    have hwm : IntKind.i64.wrap (mm : Int) = (mm : Int) := by rw [IntKind.wrap_i64]; omega
    have r3 : ((mm : Int) == 0) = o3 := by rw [q3, Bool.eq_iff_iff]; simp
    rw [← hmm, ← q3]
    clear q3 hmm
    clear q1 q2
    go_enter Try.func55, Try.ntmps55
    cases o1 <;> cases o2 <;> (go_wp2; go_ret; exact ⟨rfl, rfl⟩)
  · show Calls Try.prog 61 _ _ _
    have hR : Hid (Files.ruleN 1 n = (decide (4 ≤ n) && decide (n ≤ 245))) := hide rfl
    rw [hR.out]
    clear hR
    obtain ⟨o1, q1⟩ : ∃ b : Bool, b = decide (4 ≤ n) := ⟨_, rfl⟩
    obtain ⟨o2, q2⟩ : ∃ b : Bool, b = decide (n ≤ 245) := ⟨_, rfl⟩
    have r1 : decide ((4 : Int) ≤ (n : Int)) = o1 := by rw [q1, Bool.eq_iff_iff]; simp; omega
    have r2 : decide ((n : Int) ≤ 245) = o2 := by rw [q2, Bool.eq_iff_iff]; simp; omega
    rw [← q1, ← q2]
    clear q1 q2
    go_enter Try.func61, Try.ntmps61
    cases o1 <;> cases o2 <;> (go_wp2; go_ret; exact ⟨rfl, rfl⟩)
  · show Calls Try.prog 68 _ _ _
    have hR : Hid (Files.ruleN 2 n = (decide (9 ≤ n) && decide (n ≤ 251))) := hide rfl
    rw [hR.out]
    clear hR
    obtain ⟨o1, q1⟩ : ∃ b : Bool, b = decide (9 ≤ n) := ⟨_, rfl⟩
    obtain ⟨o2, q2⟩ : ∃ b : Bool, b = decide (n ≤ 251) := ⟨_, rfl⟩
    have r1 : decide ((9 : Int) ≤ (n : Int)) = o1 := by rw [q1, Bool.eq_iff_iff]; simp; omega
    have r2 : decide ((n : Int) ≤ 251) = o2 := by rw [q2, Bool.eq_iff_iff]; simp; omega
    rw [← q1, ← q2]
    clear q1 q2
    go_enter Try.func68, Try.ntmps68
    cases o1 <;> cases o2 <;> (go_wp2; go_ret; exact ⟨rfl, rfl⟩)

/-- What a maker of forms answers. -/
abbrev Makes (F : FuncId) (f : Files.Frm) : Prop := ∀ w : World, Calls Try.prog F #[] w fun e w' => e = .returned (.agg (formC f)) ∧ Below w.heap.size w w'
theorem asked_makes : Makes 33 0 := fun w => by
  go_enter Try.func33, Try.ntmps33
  go_wp2
  exact bodyPost_ret (results_row Try.results33 _ _ w.heap.size _ _ _ _ rfl (heap_alloc_new _ _) Try.underlying52 rfl form_size) rfl ⟨rfl, (Below.refl _ _).alloc (Nat.le_refl _) _⟩
theorem told_makes : Makes 34 1 := fun w => by
  go_enter Try.func34, Try.ntmps34
  go_wp2
  exact bodyPost_ret (results_row Try.results34 _ _ w.heap.size _ _ _ _ rfl (heap_alloc_new _ _) Try.underlying52 rfl form_size) rfl ⟨rfl, (Below.refl _ _).alloc (Nat.le_refl _) _⟩
theorem written_makes : Makes 35 2 := fun w => by
  go_enter Try.func35, Try.ntmps35
  go_wp2
  exact bodyPost_ret (results_row Try.results35 _ _ w.heap.size _ _ _ _ rfl (heap_alloc_new _ _) Try.underlying52 rfl form_size) rfl ⟨rfl, (Below.refl _ _).alloc (Nat.le_refl _) _⟩

namespace Files
/-- Why there is no form. -/
def errF (dir : Int) (c : UInt8) : Int := match formOf dir c with | some _ => 0 | none => if dir = 0 ∨ dir = 1 then 4 else 1
end Files
/-- What a look for a form answers. -/
def FormAt (o : Option Files.Frm) (cs : Array Value) : Prop := cs.size = 3 ∧ cs.all (·.oneCell') = true ∧ ∀ f, o = some f → cs = formC f
theorem formC_size (cs : Array Value) (h : cs.size = 3) : (Try.prog.info? 52).map (·.size) = some cs.size := by rw [h]; kernel_rfl

set_option maxRecDepth 20000 in
set_option maxHeartbeats 4000000 in
theorem formOf_any (dir : Int) (c : UInt8) (w : World) :
    Calls Try.prog 19 #[.int .i64 dir, byteV c] w fun e w' =>
      (∃ cs, e = .returned (.tuple #[.agg cs, .int .i64 (Files.errF dir c)]) ∧ FormAt (Files.formOf dir c) cs) ∧ Below w.heap.size w w' := by
  have e0 := heap_alloc_new w (.cells nilForm 52 (0, 0))
  have b0 := (Below.refl w.heap.size w).alloc (Nat.le_refl _) (.cells nilForm 52 (0, 0))
  obtain ⟨kc, hkc⟩ : ∃ k : Nat, k = c.toNat := ⟨_, rfl⟩
  have hkn : ∀ n : Nat, n < 256 → kc = n → c = UInt8.ofNat n := fun n hn h => by rw [← UInt8.toNat_inj, UInt8.toNat_ofNat', Nat.mod_eq_of_lt hn, ← hkc, h]
  have hkm : ∀ n : Nat, n < 256 → kc ≠ n → c ≠ UInt8.ofNat n := fun n hn h h1 => h (by rw [hkc, h1, UInt8.toNat_ofNat', Nat.mod_eq_of_lt hn])
  have HKN := hide hkn
  have HKM := hide hkm
  rw [show byteV c = .int .u8 (kc : Int) by rw [hkc]]
  clear hkn hkm hkc
  go_enter Try.func19, Try.ntmps19
  by_cases h0 : dir = 0
  · subst h0
    by_cases h20 : kc = 20
    · have hc := HKN.out 20 (by omega) h20
      subst h20
      have HF : Hid (Files.formOf 0 c = some 0) := hide (by rw [hc]; decide)
      clear hc
      have HE : Hid (Files.errF 0 c = 0) := hide (by unfold Files.errF; rw [HF.out])
      clear HKN HKM
      go_wp2_with fail
      generalize w.alloc (.cells nilForm 52 (0, 0)) = u at *
      refine (asked_makes u).mono ?_
      rintro e w1 ⟨rfl, hb⟩
      replace e0 := (hb.block _ (lt_of_block e0)).trans e0
      replace b0 := b0.trans (hb.mono b0.size)
      clear hb
      go_wp2_with ((with_reducible (show wpList _ _ _ ({ dst := _, op := Op.store _ _ _, type := _, pos := _, after := _, guard := _ } :: _) _ _)); refine wpList_store_lies rfl 52 _ _ rfl w.heap.size _ rfl rfl _ _ e0 form_size rfl (form_one _ _ _) ?_)
      intro w3 h3 b3 n3 z3
      go_wp2
      (try simp only [Exit.inBlock, Exit.then])
      rw [HE.out, HF.out]
      exact bodyPost_ret (results_row_tmp Try.results19 _ _ w.heap.size _ _ _ _ rfl h3 Try.underlying52 rfl form_size _ rfl) rfl ⟨⟨_, rfl, rfl, form_one _ _ _, fun g hg => by cases hg; rfl⟩, b0.trans (b3 _ (Nat.le_refl _))⟩
    have q20 : ((kc : Int) == 20) = false := by simp; omega
    by_cases h21 : kc = 21
    · have hc := HKN.out 21 (by omega) h21
      subst h21
      have HF : Hid (Files.formOf 0 c = some 2) := hide (by rw [hc]; decide)
      clear hc h20
      have HE : Hid (Files.errF 0 c = 0) := hide (by unfold Files.errF; rw [HF.out])
      clear HKN HKM
      go_wp2_with fail
      generalize w.alloc (.cells nilForm 52 (0, 0)) = u at *
      refine (written_makes u).mono ?_
      rintro e w1 ⟨rfl, hb⟩
      replace e0 := (hb.block _ (lt_of_block e0)).trans e0
      replace b0 := b0.trans (hb.mono b0.size)
      clear hb
      go_wp2_with ((with_reducible (show wpList _ _ _ ({ dst := _, op := Op.store _ _ _, type := _, pos := _, after := _, guard := _ } :: _) _ _)); refine wpList_store_lies rfl 52 _ _ rfl w.heap.size _ rfl rfl _ _ e0 form_size rfl (form_one _ _ _) ?_)
      intro w3 h3 b3 n3 z3
      go_wp2
      (try simp only [Exit.inBlock, Exit.then])
      rw [HE.out, HF.out]
      exact bodyPost_ret (results_row_tmp Try.results19 _ _ w.heap.size _ _ _ _ rfl h3 Try.underlying52 rfl form_size _ rfl) rfl ⟨⟨_, rfl, rfl, form_one _ _ _, fun g hg => by cases hg; rfl⟩, b0.trans (b3 _ (Nat.le_refl _))⟩
    have q21 : ((kc : Int) == 21) = false := by simp; omega
    have HF : Hid (Files.formOf 0 c = none) := hide (by
      have m20 := HKM.out 20 (by omega) h20
      have m21 := HKM.out 21 (by omega) h21
      unfold Files.formOf
      simp only [show c ≠ 20 from m20, show c ≠ 21 from m21]
      simp)
    have HE : Hid (Files.errF 0 c = 4) := hide (by unfold Files.errF; rw [HF.out]; rfl)
    clear h20 h21
    clear HKN HKM
    go_wp2_with ((with_reducible (show wpList _ _ _ ({ dst := _, op := Op.store _ _ _, type := _, pos := _, after := _, guard := _ } :: _) _ _)); refine wpList_store_lies rfl 52 _ _ rfl w.heap.size _ rfl rfl _ _ e0 form_size rfl nil_one ?_)
    intro w3 h3 b3 n3 z3
    go_wp2
    (try simp only [Exit.inBlock, Exit.then])
    rw [HE.out, HF.out]
    exact bodyPost_ret (results_row_tmp Try.results19 _ _ w.heap.size _ _ _ _ rfl h3 Try.underlying52 rfl form_size _ rfl) rfl ⟨⟨_, rfl, rfl, nil_one, fun g hg => by cases hg⟩, b0.trans (b3 _ (Nat.le_refl _))⟩
  by_cases h1 : dir = 1
  · subst h1
    clear h0
    by_cases h20 : kc = 20
    · have hc := HKN.out 20 (by omega) h20
      subst h20
      have HF : Hid (Files.formOf 1 c = some 1) := hide (by rw [hc]; decide)
      clear hc
      have HE : Hid (Files.errF 1 c = 0) := hide (by unfold Files.errF; rw [HF.out])
      clear HKN HKM
      go_wp2_with fail
      generalize w.alloc (.cells nilForm 52 (0, 0)) = u at *
      refine (told_makes u).mono ?_
      rintro e w1 ⟨rfl, hb⟩
      replace e0 := (hb.block _ (lt_of_block e0)).trans e0
      replace b0 := b0.trans (hb.mono b0.size)
      clear hb
      go_wp2_with ((with_reducible (show wpList _ _ _ ({ dst := _, op := Op.store _ _ _, type := _, pos := _, after := _, guard := _ } :: _) _ _)); refine wpList_store_lies rfl 52 _ _ rfl w.heap.size _ rfl rfl _ _ e0 form_size rfl (form_one _ _ _) ?_)
      intro w3 h3 b3 n3 z3
      go_wp2
      (try simp only [Exit.inBlock, Exit.then])
      rw [HE.out, HF.out]
      exact bodyPost_ret (results_row_tmp Try.results19 _ _ w.heap.size _ _ _ _ rfl h3 Try.underlying52 rfl form_size _ rfl) rfl ⟨⟨_, rfl, rfl, form_one _ _ _, fun g hg => by cases hg; rfl⟩, b0.trans (b3 _ (Nat.le_refl _))⟩
    have q20 : ((kc : Int) == 20) = false := by simp; omega
    by_cases h21 : kc = 21
    · have hc := HKN.out 21 (by omega) h21
      subst h21
      have HF : Hid (Files.formOf 1 c = some 2) := hide (by rw [hc]; decide)
      clear hc h20
      have HE : Hid (Files.errF 1 c = 0) := hide (by unfold Files.errF; rw [HF.out])
      clear HKN HKM
      go_wp2_with fail
      generalize w.alloc (.cells nilForm 52 (0, 0)) = u at *
      refine (written_makes u).mono ?_
      rintro e w1 ⟨rfl, hb⟩
      replace e0 := (hb.block _ (lt_of_block e0)).trans e0
      replace b0 := b0.trans (hb.mono b0.size)
      clear hb
      go_wp2_with ((with_reducible (show wpList _ _ _ ({ dst := _, op := Op.store _ _ _, type := _, pos := _, after := _, guard := _ } :: _) _ _)); refine wpList_store_lies rfl 52 _ _ rfl w.heap.size _ rfl rfl _ _ e0 form_size rfl (form_one _ _ _) ?_)
      intro w3 h3 b3 n3 z3
      go_wp2
      (try simp only [Exit.inBlock, Exit.then])
      rw [HE.out, HF.out]
      exact bodyPost_ret (results_row_tmp Try.results19 _ _ w.heap.size _ _ _ _ rfl h3 Try.underlying52 rfl form_size _ rfl) rfl ⟨⟨_, rfl, rfl, form_one _ _ _, fun g hg => by cases hg; rfl⟩, b0.trans (b3 _ (Nat.le_refl _))⟩
    have q21 : ((kc : Int) == 21) = false := by simp; omega
    have HF : Hid (Files.formOf 1 c = none) := hide (by
      have m20 := HKM.out 20 (by omega) h20
      have m21 := HKM.out 21 (by omega) h21
      unfold Files.formOf
      simp only [show c ≠ 20 from m20, show c ≠ 21 from m21]
      simp)
    have HE : Hid (Files.errF 1 c = 4) := hide (by unfold Files.errF; rw [HF.out]; rfl)
    clear h20 h21
    clear HKN HKM
    go_wp2_with ((with_reducible (show wpList _ _ _ ({ dst := _, op := Op.store _ _ _, type := _, pos := _, after := _, guard := _ } :: _) _ _)); refine wpList_store_lies rfl 52 _ _ rfl w.heap.size _ rfl rfl _ _ e0 form_size rfl nil_one ?_)
    intro w3 h3 b3 n3 z3
    go_wp2
    (try simp only [Exit.inBlock, Exit.then])
    rw [HE.out, HF.out]
    exact bodyPost_ret (results_row_tmp Try.results19 _ _ w.heap.size _ _ _ _ rfl h3 Try.underlying52 rfl form_size _ rfl) rfl ⟨⟨_, rfl, rfl, nil_one, fun g hg => by cases hg⟩, b0.trans (b3 _ (Nat.le_refl _))⟩
  have q0 : (dir != 0) = true := by simpa using h0
  have q1 : (dir != 1) = true := by simpa using h1
  have HF : Hid (Files.formOf dir c = none) := hide (by unfold Files.formOf; rw [if_neg h0, if_neg h1])
  have HE : Hid (Files.errF dir c = 1) := hide (by unfold Files.errF; rw [HF.out]; simp [h0, h1])
  clear h0 h1
  clear HKN HKM
  go_wp2_with ((with_reducible (show wpList _ _ _ ({ dst := _, op := Op.store _ _ _, type := _, pos := _, after := _, guard := _ } :: _) _ _)); refine wpList_store_lies rfl 52 _ _ rfl w.heap.size _ rfl rfl _ _ e0 form_size rfl nil_one ?_)
  intro w3 h3 b3 n3 z3
  go_wp2
  (try simp only [Exit.inBlock, Exit.then])
  rw [HE.out, HF.out]
  exact bodyPost_ret (results_row_tmp Try.results19 _ _ w.heap.size _ _ _ _ rfl h3 Try.underlying52 rfl form_size _ rfl) rfl ⟨⟨_, rfl, rfl, nil_one, fun g hg => by cases hg⟩, b0.trans (b3 _ (Nat.le_refl _))⟩

end Go.Proofs.Ytolkcohmoalnhaa
