/-
  Proved: for every input the law DiagSubs answers true, and each argument reads behind the call as it read before.
  Conditions: none (the statement Rows.DiagSubsSaid as it is given).
-/
import Derived.Test.YtemomgcapjpaiaaRows
import Derived.Below
import Derived.Test.YtemomgcapjpaiaaDiagFacts
import Derived.WalkKit
import Derived.ProofKit
import Derived.OpenShut
import Derived.ShutString
namespace Go.Proofs.Ytemomgcapjpaiaa.diagSubs
open Go.ChangeShapes Go.WideShapes Go.ChangeAt Go.RowKit
open Go.ChangeMaps (open_string shut_string)
set_option linter.unusedVariables false      -- a walk need not use every 'w<i>' (that an integer argument fits its kind)

theorem own : ownKnob Try.prog.godebug = none := by kernel_rfl

/-! ### STEP 1: THE WALK: the Go text returns true. 'Grown w w'': the world has at most new blocks (Derived/RowKit3.lean). Part the cases AHEAD of 'go_enter' where a test parts the walk; take each callee by a contract of your own. -/
set_option maxRecDepth 20000 in
set_option maxHeartbeats 2000000 in
theorem walk (a0 : Int) (a1 : Int) (w0 : (Lit.int .u16 a0).wf = true) (w1 : (Lit.int .u16 a1).wf = true) (w : World) :
    Calls Try.prog 9 #[.int .u16 a0, .int .u16 a1] w fun e w' => e = .returned (.bool true) ∧ Below w.heap.size w w' := by
  obtain ⟨s, rfl⟩ := word_arg w0
  obtain ⟨v, rfl⟩ := word_arg w1
  have bs := word_lt s
  have bv := word_lt v
  clear w0 w1
  have hcw : ∀ u g, Ws u (some ⟨g, 0, none⟩) 1 1 [v] → MsgAt u (.agg (Diag.mCells (.int .u8 8) Diag.z16 (wordV s) Diag.z16 Diag.z16 Diag.z16 (.slice (some ⟨g, 0, none⟩) 1 1) Diag.nilS)) (Diag.subM s [v]) := fun u g h => Diag.m_at (m := Diag.subM s [v]) h (Sl.nil u none (Nat.zero_le _)) rfl
  have HCW := hide hcw
  clear hcw
  have HSM : Hid (Diag.subM s [v]).Small := hide (Diag.small_of (by show 1 ≤ _; omega) rfl (Nat.zero_le _) rfl rfl)
  go_enter Try.func9, Try.ntmps9
  go_wp2_with fail
  refine (awake_any w).mono ?_
  rintro e u0 ⟨rfl, hb1⟩
  go_wp2_with ((with_reducible (show wpList _ _ _ ({ dst := _, op := Op.store _ _ _, type := _, pos := _, after := _, guard := _ } :: _) _ _)); refine wpList_store_lies rfl 30 _ _ rfl (u0.heap.size + 1) (Diag.mCells (.int .u8 8) Diag.z16 (wordV s) Diag.z16 Diag.z16 Diag.z16 (.slice (some ⟨u0.heap.size, 0, none⟩) 1 1) Diag.nilS) rfl rfl _ _ (heap_alloc2_new _ _ _) (msg_size _ rfl) rfl (by simp [Value.oneCell']) ?_)
  intro u2 h2 b2 n2 z2
  have hB := ((Below.refl (u0.alloc (.cells #[wordV v] 24 (0, 0))).heap.size (u0.alloc (.cells #[wordV v] 24 (0, 0)))).alloc (Nat.le_refl _) (.cells zeroCells 30 (0, 0))).trans (b2 _ (by simp))
  have HX := hide ((own_word u0 v 24).sl.mono hB)
  replace hb1 := below_next (below_next hb1 ((Below.refl u0.heap.size u0).alloc (Nat.le_refl _) _) (Nat.le_refl _)) hB (Nat.le_refl _)
  clear b2 n2 z2 hB
  generalize hgz : u0.heap.size + 1 = g1 at *
  clear hgz
  generalize u0.heap.size = g0 at *
  go_wp2_with ((with_reducible (show wpList _ _ _ ({ dst := _, op := Op.load _ _, type := _, pos := _, after := _, guard := _ } :: _) _ _)); refine wpList_load_rowG (by rfl) 30 _ rfl g1 rfl _ (load_whole h2 rfl) ?_)
  refine (Diag.code_write 0 _ (Diag.subM s [v]) u2 (HCW.out _ _ HX.out) HSM.out).mono ?_
  rintro e u3 ⟨⟨a3, l3, c3, rfl, hx3⟩, b3⟩
  replace hb1 := below_next hb1 b3 (Nat.le_refl _)
  replace HX := hide (HX.out.mono b3)
  replace h2 := (b3.block g1 (lt_of_block h2)).trans h2
  clear b3 hx3
  go_wp2_with ((with_reducible (show wpList _ _ _ ({ dst := _, op := Op.load _ _, type := _, pos := _, after := _, guard := _ } :: _) _ _)); refine wpList_load_rowG (by rfl) 30 _ rfl g1 rfl _ (load_whole h2 rfl) ?_)
  refine (Diag.code_write 1 _ (Diag.subM s [v]) u3 (HCW.out _ _ HX.out) HSM.out).mono ?_
  rintro e u4 ⟨⟨a4, l4, c4, rfl, hx4⟩, b4⟩
  replace hb1 := below_next hb1 b4 (Nat.le_refl _)
  clear b4 hx4 h2 HCW HSM HX
  obtain ⟨n, hn⟩ : ∃ n : Nat, n = s.toNat := ⟨_, rfl⟩
  obtain ⟨x, hx⟩ : ∃ n : Nat, n = v.toNat := ⟨_, rfl⟩
  have hz : (s = 0) = (n = 0) := by rw [hn, ← UInt16.toNat_inj]; rfl
  have hB : ∀ d, Diag.okEndB d s [v] = if n = 0 then true else Diag.may d n x := fun d => by unfold Diag.okEndB; simp only [hz, hn, hx]; rfl
  have hS : ∀ d : Int, Diag.okSub d s = (isSub n && (decide (n ≠ 4) || decide (d = 0))) := fun d => by rw [hn]; rfl
  obtain ⟨E0, HE0⟩ : ∃ E, Hid (E = Diag.errW (Diag.write 0 (Diag.subM s [v])) ∧ E = if isSub n = true ∧ (n = 0 ∨ Diag.may 0 n x = true) then 0 else 1) := ⟨_, hide ⟨rfl, by
    rw [Diag.write_asked, hB, hS]
    by_cases h0 : n = 0
    · simp [h0]; split <;> rfl
    · simp [h0]; split <;> rfl⟩⟩
  obtain ⟨E1, HE1⟩ : ∃ E, Hid (E = Diag.errW (Diag.write 1 (Diag.subM s [v])) ∧ E = if isSub n = true ∧ n ≠ 4 ∧ (n = 0 ∨ Diag.may 1 n x = true) then 0 else 1) := ⟨_, hide ⟨rfl, by
    rw [Diag.write_answered, hB, hS]
    by_cases h0 : n = 0
    · simp [h0]; split <;> rfl
    · by_cases h4 : n = 4 <;> simp [h0, h4] <;> first | rfl | (split <;> rfl)⟩⟩
  rw [← HE0.out.1, ← HE1.out.1]
  replace HE0 := hide HE0.out.2
  replace HE1 := hide HE1.out.2
  rw [← hn] at bs
  rw [← hx] at bv
  rw [← hn, ← hx]
  clear hB hS hz hn hx
  go_wp2_with fail
  refine (rsub_any n u4).mono ?_
  rintro e u5 ⟨rfl, rfl⟩
  cases hS : isSub n with
  | false =>
    have e0 : E0 = 1 := by rw [HE0.out, hS]; simp
    have e1 : E1 = 1 := by rw [HE1.out, hS]; simp
    subst e0 e1
    clear HE0 HE1 hS
    go_wp2
    go_ret
    exact ⟨by first | rfl | (simp [*]; done), hb1⟩
  | true =>
    rw [hS] at HE0 HE1
    have hsub : Hid (n ≤ 4 ∨ 10 ≤ n ∧ n ≤ 18 ∨ n = 20) := hide (by unfold isSub at hS; simpa using hS)
    clear hS
    by_cases ht : n = 2 ∨ 11 ≤ n ∧ n ≤ 18
    · have e1 : E1 = 0 := by rw [HE1.out, if_pos ⟨rfl, by omega, .inr (by rw [may_told _ _ _ ht]; simp)⟩]
      have e0 : E0 = if x = 0 then 0 else 1 := by
        rw [HE0.out, may_told _ _ _ ht]
        by_cases h0 : x = 0
        · rw [if_pos h0, if_pos ⟨rfl, .inr (by simp [h0])⟩]
        · rw [if_neg h0, if_neg (fun g => by rcases g.2 with h | h; omega; simp [h0] at h)]
      have H0 := hide e0
      clear e0 HE0 HE1
      subst e1
      rcases (show n = 2 ∨ (n ≠ 2 ∧ 11 ≤ n ∧ n ≤ 18) by omega) with h2 | ⟨h2, h11, h18⟩
      · subst h2
        clear ht hsub
        by_cases h0 : x = 0
        · have e0 := H0.out
          rw [if_pos h0] at e0
          subst h0 e0
          clear H0
          go_wp2
          go_ret
          exact ⟨by first | rfl | (simp [*]; done), hb1⟩
        · have e0 := H0.out
          rw [if_neg h0] at e0
          subst e0
          have qx : ((x : Int) == 0) = false := by simp; omega
          clear H0 h0
          go_wp2
          go_ret
          exact ⟨by first | rfl | (simp [*]; done), hb1⟩
      · have q2 : ((n : Int) == 2) = false := by simp; omega
        have g1 : (11 : Int) ≤ (n : Int) := by omega
        have g2 : (n : Int) ≤ 18 := by omega
        clear ht hsub h2
        by_cases h0 : x = 0
        · have e0 := H0.out
          rw [if_pos h0] at e0
          subst h0 e0
          clear H0
          go_wp2
          go_ret
          exact ⟨by first | rfl | (simp [*]; done), hb1⟩
        · have e0 := H0.out
          rw [if_neg h0] at e0
          subst e0
          have qx : ((x : Int) == 0) = false := by simp; omega
          clear H0 h0
          go_wp2
          go_ret
          exact ⟨by first | rfl | (simp [*]; done), hb1⟩
    have q2 : ((n : Int) == 2) = false := by simp; omega
    have hr : (11 : Int) ≤ (n : Int) → ¬ (n : Int) ≤ 18 := by omega
    have HR := hide hr
    clear hr
    by_cases h0 : x = 0
    · have e0 : E0 = 0 := by
        rw [HE0.out]
        refine if_pos ⟨rfl, .inr ?_⟩
        rcases (show n = 0 ∨ n = 1 ∨ n = 3 ∨ (n = 4 ∨ n = 10 ∨ n = 20) by have := hsub.out; omega) with h | h | h | h
        · subst h h0; rfl
        · subst h h0; rfl
        · subst h h0; rfl
        · rw [may_nil _ _ _ h]; simp [h0]
      have e1 : E1 = if n = 4 then 1 else 0 := by
        rw [HE1.out]
        by_cases h4 : n = 4
        · rw [if_pos h4, if_neg (fun g => g.2.1 h4)]
        · rw [if_neg h4]
          refine if_pos ⟨rfl, h4, .inr ?_⟩
          rcases (show n = 0 ∨ n = 1 ∨ n = 3 ∨ (n = 4 ∨ n = 10 ∨ n = 20) by have := hsub.out; omega) with h | h | h | h
          · subst h h0; rfl
          · subst h h0; rfl
          · subst h h0; rfl
          · rw [may_nil _ _ _ h]; simp [h0]
      have H1 := hide e1
      clear e1 HE0 HE1
      subst e0 h0
      by_cases h4 : n = 4
      · have e1 := H1.out
        rw [if_pos h4] at e1
        subst h4 e1
        clear H1 HR hsub ht
        go_wp2
        go_ret
        exact ⟨by first | rfl | (simp [*]; done), hb1⟩
      · have e1 := H1.out
        rw [if_neg h4] at e1
        subst e1
        have q4 : ((n : Int) == 4) = false := by simp; omega
        have H4 := hide h4
        clear H1 h4 ht
        by_cases h11 : 11 ≤ n
        · have g1 : (11 : Int) ≤ (n : Int) := by omega
          have g2 := HR.out g1
          clear HR hsub
          go_wp2
          go_ret
          exact ⟨by first | rfl | (have h4 := H4.out; simp; omega), hb1⟩
        · have g1 : ¬ (11 : Int) ≤ (n : Int) := by omega
          clear HR hsub
          go_wp2
          go_ret
          exact ⟨by first | rfl | (have h4 := H4.out; simp; omega), hb1⟩
    · have qx : ((x : Int) == 0) = false := by simp; omega
      rcases (show n = 0 ∨ n = 1 ∨ n = 3 ∨ (n = 4 ∨ n = 10 ∨ n = 20) by have := hsub.out; omega) with h | h | h | h
      · subst h
        clear HE0 HE1 HR hsub ht h0
        go_wp2
        go_ret
        exact ⟨by first | rfl | (simp [*]; done), hb1⟩
      · subst h
        clear HE0 HE1 HR hsub ht h0
        go_wp2
        go_ret
        exact ⟨by first | rfl | (simp [*]; done), hb1⟩
      · subst h
        clear HE0 HE1 HR hsub ht h0
        go_wp2
        go_ret
        exact ⟨by first | rfl | (simp [*]; done), hb1⟩
      · have e0 : E0 = 1 := by
          rw [HE0.out]
          refine if_neg (fun g => ?_)
          rcases g.2 with g | g
          · omega
          · rw [may_nil _ _ _ h] at g; simp [h0] at g
        subst e0
        clear HE0 HE1 HR hsub ht h0
        rcases h with h | h | h
        · subst h
          go_wp2
          go_ret
          exact ⟨by first | rfl | (simp [*]; done), hb1⟩
        · subst h
          go_wp2
          go_ret
          exact ⟨by first | rfl | (simp [*]; done), hb1⟩
        · subst h
          go_wp2
          go_ret
          exact ⟨by first | rfl | (simp [*]; done), hb1⟩
  -- go_enter Try.func9, Try.ntmps9
  -- go_wp2
  -- go_ret
  -- exact ⟨rfl, by repeat (first | exact Grown.refl _ | apply Grown.drew | apply Grown.alloc)⟩

/-! ### THE ROW's STEP: WRITTEN OUT: LEAVE IT -/
set_option maxRecDepth 100000 in
theorem lifted (os : Os) (started : os.Started) (H : Type) (enc : TypeId × Value → H) :
    ReturnsInHanded {} Try.checked os 9 .any (Rows.diagSubsSpec.pre6 enc Try.prog Try.f9 Rows.diagSubsRow.domain false) (Rows.diagSubsSpec.post enc Try.prog Try.f9 false true false false) := by
  refine returnsInHanded_of_change (C := Try.checked) own started (by kernel_rfl) Try.func9
    (ChangeSpec.witness6 (enc := enc) (C := Try.checked) false ⟨#[], #[.int .u16 0, .int .u16 0], []⟩ 8 (by kernel_rfl) (by kernel_rfl) (by kernel_rfl) (by kernel_rfl)) ?_
  intro W base args ds gs before hval0 hW hcnd _
  have hval : ∀ (j : Nat) t v, Try.f9.params[j]? = some t → args[j]? = some v → Value.okWide Try.prog W .any base t v := hval0
  have hW' := hW
  obtain ⟨p, q, hA0, hV, rfl, hfz, hnd⟩ := hW
  have hA : DataW.TrodAll enc Try.prog W 0 (fun _ => true) true Try.f9.params.toList args.toList ds p := hA0
  rw [Try.params9] at hA hval
  obtain ⟨v0, vs0, d0, ds0, p0, q0, hargs, rfl, rfl, h0, r0⟩ := trodAll_cons hA
  obtain ⟨v1, vs1, d1, ds1, p1, q1, rfl, rfl, rfl, h1, r1⟩ := trodAll_cons r0
  obtain ⟨rfl, rfl, rfl⟩ := trodAll_nil r1
  obtain rfl : args = #[v0, v1] := by cases args; simp_all
  obtain ⟨rfl, rfl⟩ := trodVars_none hV
  obtain ⟨a0, rfl, rfl, rfl, w0⟩ := open_int Try.underlying24 (hval 0 24 v0 rfl rfl) h0
  obtain ⟨a1, rfl, rfl, rfl, w1⟩ := open_int Try.underlying24 (hval 1 24 v1 rfl rfl) h1
  clear hA0 hval0
  simp only [List.append_nil] at hW'
  refine (walk a0 a1 w0 w1 W).mono fun e W' ⟨he, bel⟩ => ?_
  subst he
  exact ⟨_, rfl, _, _, _, [], _, [], hW', (trodAll_cons_mk (shut_bool Try.underlying4 _) trodAll_mk0), (trodAll_cons_mk (shut_int Try.underlying24 w0) (trodAll_cons_mk (shut_int Try.underlying24 w1) trodAll_mk0)), rfl, bel.frame _, fun h => by cases h⟩

theorem over : Rows.diagSubsRow.holds Try.pinned (OpenSpec.ofChange Rows.diagSubsSpec) :=
  OpenClaim.holds_of_wide 9 Try.f9 rfl rfl rfl rfl rfl rfl rfl ⟨rfl, rfl, rfl, rfl, rfl⟩ rfl rfl rfl rfl rfl (by kernel_rfl) Try.func9 (by kernel_rfl)
    (of_decide_eq_true (by kernel_rfl)) (by unfold Func.isWrapper; first | (rw [if_pos (by decide +kernel)]; kernel_rfl) | (rw [if_neg (by decide +kernel)]; exact ⟨rfl, rfl⟩))
    (fun os started H enc _ => lifted os started H enc)

/-- ████ THE STATEMENT ████ -/
theorem proved : Rows.DiagSubsSaid :=
  over
#print axioms proved
end Go.Proofs.Ytemomgcapjpaiaa.diagSubs
