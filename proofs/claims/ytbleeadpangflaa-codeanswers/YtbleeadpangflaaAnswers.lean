/-
  Proved: for every input the law CodeAnswers answers true, and each argument reads behind the call as it read before.
  Conditions: none (the statement Rows.CodeAnswersSaid as it is given).
-/
import Derived.Test.YtbleeadpangflaaRows
import Derived.Below
import Derived.Test.YtbleeadpangflaaCodeRef
import Derived.Test.YtbleeadpangflaaCodeAwake
import Derived.WalkKit
import Derived.ProofKit
import Derived.OpenShut
import Derived.ShutString
namespace Go.Proofs.Ytbleeadpangflaa.codeAnswers
open Go.ChangeShapes Go.WideShapes Go.ChangeAt Go.RowKit
open Go.ChangeMaps (open_string shut_string)
set_option linter.unusedVariables false      -- a walk need not use every 'w<i>' (that an integer argument fits its kind)

theorem pub_low (c : Nat) (h : pub c = true) : c < 128 := by unfold pub at h; simp at h; omega
theorem ans_one (a b c : Nat) (h1 : ans a c = true) (h2 : ans b c = true) : a = b := by unfold ans at h1 h2; simp at h1 h2; omega
theorem ans_self (a : Nat) (h : a < 128) : ans a a = true := by unfold ans; simp [h]
theorem ans_bad (a : Nat) (h : a < 128) : ans a (a + 128) = true := by unfold ans; simp [h]
theorem ans_two (a c : Nat) (h : ans a c = true) : c = a ∨ c = a + 128 := by unfold ans at h; simp at h; omega
theorem own : ownKnob Try.prog.godebug = none := by kernel_rfl

/-! ### STEP 1: THE WALK: the Go text returns true. 'Grown w w'': the world has at most new blocks (Derived/RowKit3.lean). Part the cases AHEAD of 'go_enter' where a test parts the walk; take each callee by a contract of your own. -/
set_option maxRecDepth 20000 in
set_option maxHeartbeats 2000000 in
theorem walk (a0 : Int) (a1 : Int) (a2 : Int) (w0 : (Lit.int .u8 a0).wf = true) (w1 : (Lit.int .u8 a1).wf = true) (w2 : (Lit.int .u8 a2).wf = true) (w : World) :
    Calls Try.prog 4 #[.int .u8 a0, .int .u8 a1, .int .u8 a2] w fun e w' => e = .returned (.bool true) ∧ Below w.heap.size w w' := by
  obtain ⟨a, rfl, ha⟩ : ∃ s : Nat, a0 = s ∧ s < 256 := nat_u8 w0
  obtain ⟨b, rfl, hb⟩ : ∃ s : Nat, a1 = s ∧ s < 256 := nat_u8 w1
  obtain ⟨c, rfl, hc⟩ : ∃ s : Nat, a2 = s ∧ s < 256 := nat_u8 w2
  clear w0 w1 w2
  go_enter Try.func4, Try.ntmps4
  go_wp2_with fail
  refine (awake_any w).mono ?_
  rintro e w1 ⟨rfl, hb1⟩
  have H1 := hide (ans_one a b c)
  have H2 := hide (ans_two a c)
  have H3 := hide (pub_low a)
  go_wp2_with fail
  refine (answers_any a c _).mono ?_
  rintro e w2 ⟨rfl, rfl⟩
  obtain ⟨f, hf⟩ : ∃ f, f = ans a c := ⟨_, rfl⟩
  rw [← hf]
  cases f
  · have HA : Hid (ans a c = false) := hide hf.symm
    clear hf
    go_wp2_with fail
    refine (public_any a ha _).mono ?_
    rintro e w4 ⟨rfl, hb4⟩
    replace hb4 := below_next hb1 hb4 (Nat.le_refl _)
    have HP : Hid (pub a = true → a < 128) := H3
    generalize pub a = p at *
    cases p
    · go_wp2
      go_ret
      exact ⟨rfl, hb4⟩
    · have hlow := HP.out rfl
      have l1 : (a : Int) < 128 := by omega
      have hwr : IntKind.u8.wrap ((a : Int) + 128) = ((a + 128 : Nat) : Int) := by rw [IntKind.wrap_u8]; omega
      have HL := hide hlow
      clear hlow
      go_wp2_with fail
      refine (answers_any a a _).mono ?_
      rintro e w5 ⟨rfl, rfl⟩
      rw [ans_self a HL.out]
      go_wp2_with fail
      refine (answers_any a (a + 128) _).mono ?_
      rintro e w6 ⟨rfl, rfl⟩
      rw [ans_bad a HL.out]
      go_wp2_with fail
      refine (answers_any a c _).mono ?_
      rintro e w7 ⟨rfl, rfl⟩
      rw [HA.out]
      go_wp2
      go_ret
      exact ⟨rfl, hb4⟩
  · have HA : Hid (ans a c = true) := hide hf.symm
    clear hf
    go_wp2_with fail
    refine (answers_any b c _).mono ?_
    rintro e w3 ⟨rfl, rfl⟩
    obtain ⟨g, hg⟩ : ∃ g, g = ans b c := ⟨_, rfl⟩
    rw [← hg]
    cases g
    · clear hg
      go_wp2_with fail
      refine (public_any a ha _).mono ?_
      rintro e w4 ⟨rfl, hb4⟩
      replace hb4 := below_next hb1 hb4 (Nat.le_refl _)
      have HP : Hid (pub a = true → a < 128) := H3
      generalize pub a = p at *
      cases p
      · go_wp2
        go_ret
        exact ⟨rfl, hb4⟩
      · have hlow := HP.out rfl
        have l1 : (a : Int) < 128 := by omega
        have hwr : IntKind.u8.wrap ((a : Int) + 128) = ((a + 128 : Nat) : Int) := by rw [IntKind.wrap_u8]; omega
        have HL := hide hlow
        clear hlow
        go_wp2_with fail
        refine (answers_any a a _).mono ?_
        rintro e w5 ⟨rfl, rfl⟩
        rw [ans_self a HL.out]
        go_wp2_with fail
        refine (answers_any a (a + 128) _).mono ?_
        rintro e w6 ⟨rfl, rfl⟩
        rw [ans_bad a HL.out]
        go_wp2_with fail
        refine (answers_any a c _).mono ?_
        rintro e w7 ⟨rfl, rfl⟩
        rw [HA.out]
        by_cases hca : c = a
        · subst hca
          go_wp2
          go_ret
          exact ⟨rfl, hb4⟩
        · have hcb : c = a + 128 := (H2.out HA.out).resolve_left hca
          have n1 : ((c : Int) == (a : Int)) = false := by rw [beq_cast]; simp [hca]
          have n2 : (c : Int) = (a : Int) + 128 := by omega
          have n3 : ((c : Int) == ((a + 128 : Nat) : Int)) = true := by rw [beq_cast]; simp [hcb]
          clear hca hcb
          go_wp2
          go_ret
          exact ⟨ret_bool (by first | rfl | (simp; done) | (simp; omega)), hb4⟩
    · have hab : a = b := H1.out HA.out hg.symm
      clear hg
      subst hab
      go_wp2_with fail
      refine (public_any a ha _).mono ?_
      rintro e w4 ⟨rfl, hb4⟩
      replace hb4 := below_next hb1 hb4 (Nat.le_refl _)
      have HP : Hid (pub a = true → a < 128) := H3
      generalize pub a = p at *
      cases p
      · go_wp2
        go_ret
        exact ⟨rfl, hb4⟩
      · have hlow := HP.out rfl
        have l1 : (a : Int) < 128 := by omega
        have hwr : IntKind.u8.wrap ((a : Int) + 128) = ((a + 128 : Nat) : Int) := by rw [IntKind.wrap_u8]; omega
        have HL := hide hlow
        clear hlow
        go_wp2_with fail
        refine (answers_any a a _).mono ?_
        rintro e w5 ⟨rfl, rfl⟩
        rw [ans_self a HL.out]
        go_wp2_with fail
        refine (answers_any a (a + 128) _).mono ?_
        rintro e w6 ⟨rfl, rfl⟩
        rw [ans_bad a HL.out]
        go_wp2_with fail
        refine (answers_any a c _).mono ?_
        rintro e w7 ⟨rfl, rfl⟩
        rw [HA.out]
        by_cases hca : c = a
        · subst hca
          go_wp2
          go_ret
          exact ⟨rfl, hb4⟩
        · have hcb : c = a + 128 := (H2.out HA.out).resolve_left hca
          have n1 : ((c : Int) == (a : Int)) = false := by rw [beq_cast]; simp [hca]
          have n2 : (c : Int) = (a : Int) + 128 := by omega
          have n3 : ((c : Int) == ((a + 128 : Nat) : Int)) = true := by rw [beq_cast]; simp [hcb]
          clear hca hcb
          go_wp2
          go_ret
          exact ⟨ret_bool (by first | rfl | (simp; done) | (simp; omega)), hb4⟩
  -- go_enter Try.func4, Try.ntmps4
  -- go_wp2
  -- go_ret
  -- exact ⟨rfl, by repeat (first | exact Grown.refl _ | apply Grown.drew | apply Grown.alloc)⟩

/-! ### THE ROW's STEP: WRITTEN OUT: LEAVE IT -/
set_option maxRecDepth 100000 in
theorem lifted (os : Os) (started : os.Started) (H : Type) (enc : TypeId × Value → H) :
    ReturnsInHanded {} Try.checked os 4 .any (Rows.codeAnswersSpec.pre6 enc Try.prog Try.f4 Rows.codeAnswersRow.domain false) (Rows.codeAnswersSpec.post enc Try.prog Try.f4 false true false false) := by
  refine returnsInHanded_of_change (C := Try.checked) own started (by kernel_rfl) Try.func4
    (ChangeSpec.witness6 (enc := enc) (C := Try.checked) false ⟨#[], #[.int .u8 0, .int .u8 0, .int .u8 0], []⟩ 8 (by kernel_rfl) (by kernel_rfl) (by kernel_rfl) (by kernel_rfl)) ?_
  intro W base args ds gs before hval0 hW hcnd _
  have hval : ∀ (j : Nat) t v, Try.f4.params[j]? = some t → args[j]? = some v → Value.okWide Try.prog W .any base t v := hval0
  have hW' := hW
  obtain ⟨p, q, hA0, hV, rfl, hfz, hnd⟩ := hW
  have hA : DataW.TrodAll enc Try.prog W 0 (fun _ => true) true Try.f4.params.toList args.toList ds p := hA0
  rw [Try.params4] at hA hval
  obtain ⟨v0, vs0, d0, ds0, p0, q0, hargs, rfl, rfl, h0, r0⟩ := trodAll_cons hA
  obtain ⟨v1, vs1, d1, ds1, p1, q1, rfl, rfl, rfl, h1, r1⟩ := trodAll_cons r0
  obtain ⟨v2, vs2, d2, ds2, p2, q2, rfl, rfl, rfl, h2, r2⟩ := trodAll_cons r1
  obtain ⟨rfl, rfl, rfl⟩ := trodAll_nil r2
  obtain rfl : args = #[v0, v1, v2] := by cases args; simp_all
  obtain ⟨rfl, rfl⟩ := trodVars_none hV
  obtain ⟨a0, rfl, rfl, rfl, w0⟩ := open_int Try.underlying5 (hval 0 5 v0 rfl rfl) h0
  obtain ⟨a1, rfl, rfl, rfl, w1⟩ := open_int Try.underlying5 (hval 1 5 v1 rfl rfl) h1
  obtain ⟨a2, rfl, rfl, rfl, w2⟩ := open_int Try.underlying5 (hval 2 5 v2 rfl rfl) h2
  clear hA0 hval0
  simp only [List.append_nil] at hW'
  refine (walk a0 a1 a2 w0 w1 w2 W).mono fun e W' ⟨he, bel⟩ => ?_
  subst he
  exact ⟨_, rfl, _, _, _, [], _, [], hW', (trodAll_cons_mk (shut_bool Try.underlying4 _) trodAll_mk0), (trodAll_cons_mk (shut_int Try.underlying5 w0) (trodAll_cons_mk (shut_int Try.underlying5 w1) (trodAll_cons_mk (shut_int Try.underlying5 w2) trodAll_mk0))), rfl, bel.frame _, fun h => by cases h⟩

theorem over : Rows.codeAnswersRow.holds Try.pinned (OpenSpec.ofChange Rows.codeAnswersSpec) :=
  OpenClaim.holds_of_wide 4 Try.f4 rfl rfl rfl rfl rfl rfl rfl ⟨rfl, rfl, rfl, rfl, rfl⟩ rfl rfl rfl rfl rfl (by kernel_rfl) Try.func4 (by kernel_rfl)
    (of_decide_eq_true (by kernel_rfl)) (by unfold Func.isWrapper; first | (rw [if_pos (by decide +kernel)]; kernel_rfl) | (rw [if_neg (by decide +kernel)]; exact ⟨rfl, rfl⟩))
    (fun os started H enc _ => lifted os started H enc)

/-- ████ THE STATEMENT ████ -/
theorem proved : Rows.CodeAnswersSaid :=
  over
#print axioms proved
end Go.Proofs.Ytbleeadpangflaa.codeAnswers
