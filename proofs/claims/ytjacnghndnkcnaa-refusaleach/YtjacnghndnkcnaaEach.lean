/-
  Proved: for every input the law RefusalEach answers true, and each argument reads behind the call as it read before.
  Conditions: none (the statement Rows.RefusalEachSaid as it is given).
-/
import Derived.Test.YtjacnghndnkcnaaRows
import Derived.Below
import Derived.Test.YtjacnghndnkcnaaFusFacts
import Derived.Test.YtjacnghndnkcnaaCodeRef
import Derived.Test.YtjacnghndnkcnaaSmall
import Derived.Test.YtjacnghndnkcnaaSame
import Derived.WalkKit
import Derived.ProofKit
import Derived.OpenShut
import Derived.ShutString
namespace Go.Proofs.Ytjacnghndnkcnaa.refusalEach
open Go.ChangeShapes Go.WideShapes Go.ChangeAt Go.RowKit
open Go.ChangeMaps (open_string shut_string)
set_option linter.unusedVariables false      -- a walk need not use every 'w<i>' (that an integer argument fits its kind)

theorem own : ownKnob Try.prog.godebug = none := by kernel_rfl

/-! ### STEP 1: THE WALK: the Go text returns true. 'Grown w w'': the world has at most new blocks (Derived/RowKit3.lean). Part the cases AHEAD of 'go_enter' where a test parts the walk; take each callee by a contract of your own. -/
set_option maxRecDepth 20000 in
set_option maxHeartbeats 2000000 in
theorem walk (a0 : Int) (a1 : Int) (a2 : Int) (a3 : Int) (w0 : (Lit.int .u8 a0).wf = true) (w1 : (Lit.int .u8 a1).wf = true) (w2 : (Lit.int .u8 a2).wf = true) (w3 : (Lit.int .u8 a3).wf = true) (w : World) :
    Calls Try.prog 6 #[.int .u8 a0, .int .u8 a1, .int .u8 a2, .int .u8 a3] w fun e w' => e = .returned (.bool true) ∧ Below w.heap.size w w' := by
  obtain ⟨xa, rfl⟩ := byte_arg w0
  obtain ⟨xy, rfl⟩ := byte_arg w1
  obtain ⟨xb, rfl⟩ := byte_arg w2
  obtain ⟨xz, rfl⟩ := byte_arg w3
  clear w0 w1 w2 w3
  go_enter Try.func6, Try.ntmps6
  go_wp2_with fail
  refine (awake_any w).mono ?_
  rintro e u1 ⟨rfl, hb1⟩
  go_wp2_with fail
  refine (Fus.code_of xa xy _).mono ?_
  rintro e u2 ⟨⟨v1, rfl, hm1⟩, b1⟩
  replace hb1 := below_next hb1 b1 (Nat.le_refl _)
  obtain ⟨P, hP1⟩ : ∃ P, P = Fus.of xa xy := ⟨_, rfl⟩
  rw [← hP1] at hm1 ⊢
  have HP1 := hide hP1
  clear hP1 b1
  obtain ⟨m1, E1⟩ := P
  obtain ⟨cs1, rfl, hs1, ho1, _⟩ := hm1.agg
  have HM1 := hide hm1
  clear hm1
  go_wp2_with ((with_reducible show wpList _ _ _ (⟨_, .store _ _ _, _, _, _, _⟩ :: _) _ _); refine wpList_store_new rfl 30 _ _ rfl cs1 rfl rfl (msg_size cs1 hs1) hs1.symm ho1 ?_)
  intro u3 h1 b1
  replace HM1 := hide (HM1.out.mono b1)
  replace hb1 := below_next hb1 b1 (Nat.le_refl _)
  generalize u2.heap.size = g1 at *
  clear b1
  go_wp2_with fail
  refine (Fus.code_of xb xz _).mono ?_
  rintro e u4 ⟨⟨v2, rfl, hm2⟩, b2⟩
  replace hb1 := below_next hb1 b2 (Nat.le_refl _)
  replace h1 := (b2.block g1 (lt_of_block h1)).trans h1
  replace HM1 := hide (HM1.out.mono b2)
  obtain ⟨P, hP2⟩ : ∃ P, P = Fus.of xb xz := ⟨_, rfl⟩
  rw [← hP2] at hm2 ⊢
  have HP2 := hide hP2
  clear hP2 b2
  obtain ⟨m2, E2⟩ := P
  obtain ⟨cs2, rfl, hs2, ho2, _⟩ := hm2.agg
  have HM2 := hide hm2
  clear hm2
  go_wp2_with ((with_reducible show wpList _ _ _ (⟨_, .store _ _ _, _, _, _, _⟩ :: _) _ _); refine wpList_store_new rfl 30 _ _ rfl cs2 rfl rfl (msg_size cs2 hs2) hs2.symm ho2 ?_)
  intro u5 h2 b2
  replace h1 := (b2.block g1 (lt_of_block h1)).trans h1
  replace HM1 := hide (HM1.out.mono b2)
  replace HM2 := hide (HM2.out.mono b2)
  replace hb1 := below_next hb1 b2 (Nat.le_refl _)
  generalize u4.heap.size = g2 at *
  clear b2
  go_wp2_with fail
  refine (rpublic_any xa.toNat _).mono ?_
  rintro e wp1 ⟨rfl, rfl⟩
  cases hp1 : pub xa.toNat with
  | false =>
    go_wp2_with fail
    refine (rpublic_any xb.toNat _).mono ?_
    rintro e wp2 ⟨rfl, rfl⟩
    cases hp2 : pub xb.toNat with
    | false =>
      obtain rfl : E1 = 1 := (congrArg Prod.snd HP1.out).trans (Fus.of_bad (fun h => by simp [hp1] at h))
      obtain rfl : E2 = 1 := (congrArg Prod.snd HP2.out).trans (Fus.of_bad (fun h => by simp [hp2] at h))
      clear HP1 HP2
      go_wp2
      go_ret
      exact ⟨rfl, hb1⟩
    | true =>
      go_wp2_with fail
      refine (rfailure_any xz.toNat _).mono ?_
      rintro e wf2 ⟨rfl, rfl⟩
      cases hf2 : fails xz.toNat with
      | false =>
        obtain rfl : E1 = 1 := (congrArg Prod.snd HP1.out).trans (Fus.of_bad (fun h => by simp [hp1] at h))
        obtain rfl : E2 = 1 := (congrArg Prod.snd HP2.out).trans (Fus.of_bad (fun h => by simp [hf2] at h))
        clear HP1 HP2
        go_wp2
        go_ret
        exact ⟨rfl, hb1⟩
      | true =>
        obtain rfl : E1 = 1 := (congrArg Prod.snd HP1.out).trans (Fus.of_bad (fun h => by simp [hp1] at h))
        obtain rfl : E2 = 0 := (congrArg Prod.snd HP2.out).trans (Fus.of_good hp2 hf2)
        clear HP1 HP2
        go_wp2
        go_ret
        exact ⟨rfl, hb1⟩
  | true =>
    go_wp2_with fail
    refine (rfailure_any xy.toNat _).mono ?_
    rintro e wf1 ⟨rfl, rfl⟩
    cases hf1 : fails xy.toNat with
    | false =>
      go_wp2_with fail
      refine (rpublic_any xb.toNat _).mono ?_
      rintro e wp2 ⟨rfl, rfl⟩
      cases hp2 : pub xb.toNat with
      | false =>
        obtain rfl : E1 = 1 := (congrArg Prod.snd HP1.out).trans (Fus.of_bad (fun h => by simp [hf1] at h))
        obtain rfl : E2 = 1 := (congrArg Prod.snd HP2.out).trans (Fus.of_bad (fun h => by simp [hp2] at h))
        clear HP1 HP2
        go_wp2
        go_ret
        exact ⟨rfl, hb1⟩
      | true =>
        go_wp2_with fail
        refine (rfailure_any xz.toNat _).mono ?_
        rintro e wf2 ⟨rfl, rfl⟩
        cases hf2 : fails xz.toNat with
        | false =>
          obtain rfl : E1 = 1 := (congrArg Prod.snd HP1.out).trans (Fus.of_bad (fun h => by simp [hf1] at h))
          obtain rfl : E2 = 1 := (congrArg Prod.snd HP2.out).trans (Fus.of_bad (fun h => by simp [hf2] at h))
          clear HP1 HP2
          go_wp2
          go_ret
          exact ⟨rfl, hb1⟩
        | true =>
          obtain rfl : E1 = 1 := (congrArg Prod.snd HP1.out).trans (Fus.of_bad (fun h => by simp [hf1] at h))
          obtain rfl : E2 = 0 := (congrArg Prod.snd HP2.out).trans (Fus.of_good hp2 hf2)
          clear HP1 HP2
          go_wp2
          go_ret
          exact ⟨rfl, hb1⟩
    | true =>
      go_wp2_with fail
      refine (rpublic_any xb.toNat _).mono ?_
      rintro e wp2 ⟨rfl, rfl⟩
      cases hp2 : pub xb.toNat with
      | false =>
        obtain rfl : E1 = 0 := (congrArg Prod.snd HP1.out).trans (Fus.of_good hp1 hf1)
        obtain rfl : E2 = 1 := (congrArg Prod.snd HP2.out).trans (Fus.of_bad (fun h => by simp [hp2] at h))
        clear HP1 HP2
        go_wp2
        go_ret
        exact ⟨rfl, hb1⟩
      | true =>
        go_wp2_with fail
        refine (rfailure_any xz.toNat _).mono ?_
        rintro e wf2 ⟨rfl, rfl⟩
        cases hf2 : fails xz.toNat with
        | false =>
          obtain rfl : E1 = 0 := (congrArg Prod.snd HP1.out).trans (Fus.of_good hp1 hf1)
          obtain rfl : E2 = 1 := (congrArg Prod.snd HP2.out).trans (Fus.of_bad (fun h => by simp [hf2] at h))
          clear HP1 HP2
          go_wp2
          go_ret
          exact ⟨rfl, hb1⟩
        | true =>
          obtain ⟨rfl, rfl⟩ : m1 = Fus.ofM xa xy ∧ E1 = 0 := by have h := HP1.out.trans (Fus.of_all hp1 hf1); exact ⟨congrArg Prod.fst h, congrArg Prod.snd h⟩
          obtain ⟨rfl, rfl⟩ : m2 = Fus.ofM xb xz ∧ E2 = 0 := by have h := HP2.out.trans (Fus.of_all hp2 hf2); exact ⟨congrArg Prod.fst h, congrArg Prod.snd h⟩
          have HW1 : Hid (Fus.write (Fus.ofM xa xy) = some [xa + 128, xy]) := hide (Fus.write_iff.2 ⟨hp1, hf1, rfl, rfl⟩)
          have HW2 : Hid (Fus.write (Fus.ofM xb xz) = some [xb + 128, xz]) := hide (Fus.write_iff.2 ⟨hp2, hf2, rfl, rfl⟩)
          clear HP1 HP2 hp1 hf1 hp2 hf2
          go_wp2_with ((with_reducible show wpList _ _ _ (⟨_, .load _ _, _, _, _, _⟩ :: _) _ _); refine wpList_load_rowG (by rfl) 30 _ rfl g1 rfl cs1 (load_whole h1 hs1) ?_)
          refine (Fus.code_write _ (Fus.ofM xa xy) _ HM1.out).mono ?_
          rintro e u8 ⟨⟨a8, l8, c8, rfl, hx8⟩, b8⟩
          rw [HW1.out] at hx8 ⊢
          rw [show Fus.errW (some [xa + 128, xy]) = (0 : Int) from rfl]
          replace hx8 : Bs u8 a8 l8 c8 [xa + 128, xy] := hx8
          have HX8 := hide hx8
          replace h2 := (b8.block g2 (lt_of_block h2)).trans h2
          replace HM2 := hide (HM2.out.mono b8)
          replace hb1 := below_next hb1 b8 (Nat.le_refl _)
          clear b8 hx8 HW1 h1
          go_wp2_with ((with_reducible show wpList _ _ _ (⟨_, .load _ _, _, _, _, _⟩ :: _) _ _); refine wpList_load_rowG (by rfl) 30 _ rfl g2 rfl cs2 (load_whole h2 hs2) ?_)
          refine (Fus.code_write _ (Fus.ofM xb xz) _ HM2.out).mono ?_
          rintro e u9 ⟨⟨a9, l9, c9, rfl, hx9⟩, b9⟩
          rw [HW2.out] at hx9 ⊢
          rw [show Fus.errW (some [xb + 128, xz]) = (0 : Int) from rfl]
          replace hx9 : Bs u9 a9 l9 c9 [xb + 128, xz] := hx9
          have HX9 := hide hx9
          replace HX8 := hide (HX8.out.mono b9)
          replace hb1 := below_next hb1 b9 (Nat.le_refl _)
          clear b9 hx9 HW2 h2 HM1 HM2
          go_wp2_with fail
          refine (same_any _ _ _ _ _ _ _ _ _ HX8.out HX9.out).mono ?_
          rintro e u10 ⟨rfl, rfl⟩
          have HD : Hid (([xa + 128, xy] = [xb + 128, xz]) ↔ (xa = xb ∧ xy = xz)) := hide (by
            constructor
            · intro h
              injection h with h1 h2
              injection h2 with h2 _
              exact ⟨by simpa using h1, h2⟩
            · rintro ⟨rfl, rfl⟩
              rfl)
          by_cases h1 : xa = xb
          · by_cases h2 : xy = xz
            · rw [decide_eq_true (HD.out.2 ⟨h1, h2⟩)]
              subst h1 h2
              clear HX8 HX9 HD
              go_wp2
              go_ret
              exact ⟨rfl, hb1⟩
            · rw [decide_eq_false (fun h => h2 (HD.out.1 h).2)]
              have q2 : ((xy.toNat : Int) == (xz.toNat : Int)) = false := by rw [beq_cast]; simpa [UInt8.toNat_inj] using h2
              subst h1
              clear HX8 HX9 HD h2
              go_wp2
              go_ret
              exact ⟨rfl, hb1⟩
          · rw [decide_eq_false (fun h => h1 (HD.out.1 h).1)]
            have q1 : ((xa.toNat : Int) == (xb.toNat : Int)) = false := by rw [beq_cast]; simpa [UInt8.toNat_inj] using h1
            clear HX8 HX9 HD h1
            go_wp2
            go_ret
            exact ⟨rfl, hb1⟩
  -- go_enter Try.func6, Try.ntmps6
  -- go_wp2
  -- go_ret
  -- exact ⟨rfl, by repeat (first | exact Grown.refl _ | apply Grown.drew | apply Grown.alloc)⟩

/-! ### THE ROW's STEP: WRITTEN OUT: LEAVE IT -/
set_option maxRecDepth 100000 in
theorem lifted (os : Os) (started : os.Started) (H : Type) (enc : TypeId × Value → H) :
    ReturnsInHanded {} Try.checked os 6 .any (Rows.refusalEachSpec.pre6 enc Try.prog Try.f6 Rows.refusalEachRow.domain false) (Rows.refusalEachSpec.post enc Try.prog Try.f6 false true false false) := by
  refine returnsInHanded_of_change (C := Try.checked) own started (by kernel_rfl) Try.func6
    (ChangeSpec.witness6 (enc := enc) (C := Try.checked) false ⟨#[], #[.int .u8 0, .int .u8 0, .int .u8 0, .int .u8 0], []⟩ 8 (by kernel_rfl) (by kernel_rfl) (by kernel_rfl) (by kernel_rfl)) ?_
  intro W base args ds gs before hval0 hW hcnd _
  have hval : ∀ (j : Nat) t v, Try.f6.params[j]? = some t → args[j]? = some v → Value.okWide Try.prog W .any base t v := hval0
  have hW' := hW
  obtain ⟨p, q, hA0, hV, rfl, hfz, hnd⟩ := hW
  have hA : DataW.TrodAll enc Try.prog W 0 (fun _ => true) true Try.f6.params.toList args.toList ds p := hA0
  rw [Try.params6] at hA hval
  obtain ⟨v0, vs0, d0, ds0, p0, q0, hargs, rfl, rfl, h0, r0⟩ := trodAll_cons hA
  obtain ⟨v1, vs1, d1, ds1, p1, q1, rfl, rfl, rfl, h1, r1⟩ := trodAll_cons r0
  obtain ⟨v2, vs2, d2, ds2, p2, q2, rfl, rfl, rfl, h2, r2⟩ := trodAll_cons r1
  obtain ⟨v3, vs3, d3, ds3, p3, q3, rfl, rfl, rfl, h3, r3⟩ := trodAll_cons r2
  obtain ⟨rfl, rfl, rfl⟩ := trodAll_nil r3
  obtain rfl : args = #[v0, v1, v2, v3] := by cases args; simp_all
  obtain ⟨rfl, rfl⟩ := trodVars_none hV
  obtain ⟨a0, rfl, rfl, rfl, w0⟩ := open_int Try.underlying5 (hval 0 5 v0 rfl rfl) h0
  obtain ⟨a1, rfl, rfl, rfl, w1⟩ := open_int Try.underlying5 (hval 1 5 v1 rfl rfl) h1
  obtain ⟨a2, rfl, rfl, rfl, w2⟩ := open_int Try.underlying5 (hval 2 5 v2 rfl rfl) h2
  obtain ⟨a3, rfl, rfl, rfl, w3⟩ := open_int Try.underlying5 (hval 3 5 v3 rfl rfl) h3
  clear hA0 hval0
  simp only [List.append_nil] at hW'
  refine (walk a0 a1 a2 a3 w0 w1 w2 w3 W).mono fun e W' ⟨he, bel⟩ => ?_
  subst he
  exact ⟨_, rfl, _, _, _, [], _, [], hW', (trodAll_cons_mk (shut_bool Try.underlying4 _) trodAll_mk0), (trodAll_cons_mk (shut_int Try.underlying5 w0) (trodAll_cons_mk (shut_int Try.underlying5 w1) (trodAll_cons_mk (shut_int Try.underlying5 w2) (trodAll_cons_mk (shut_int Try.underlying5 w3) trodAll_mk0)))), rfl, bel.frame _, fun h => by cases h⟩

theorem over : Rows.refusalEachRow.holds Try.pinned (OpenSpec.ofChange Rows.refusalEachSpec) :=
  OpenClaim.holds_of_wide 6 Try.f6 rfl rfl rfl rfl rfl rfl rfl ⟨rfl, rfl, rfl, rfl, rfl⟩ rfl rfl rfl rfl rfl (by kernel_rfl) Try.func6 (by kernel_rfl)
    (of_decide_eq_true (by kernel_rfl)) (by unfold Func.isWrapper; first | (rw [if_pos (by decide +kernel)]; kernel_rfl) | (rw [if_neg (by decide +kernel)]; exact ⟨rfl, rfl⟩))
    (fun os started H enc _ => lifted os started H enc)

/-- ████ THE STATEMENT ████ -/
theorem proved : Rows.RefusalEachSaid :=
  over
#print axioms proved
end Go.Proofs.Ytjacnghndnkcnaa.refusalEach
