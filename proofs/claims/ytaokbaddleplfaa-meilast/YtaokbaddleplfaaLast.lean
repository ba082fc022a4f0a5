/-
  Proved: for every input the law MeiLast answers true, and each argument reads behind the call as it read before.
  Conditions: none (the statement Rows.MeiLastSaid as it is given).
-/
import Derived.Test.YtaokbaddleplfaaRows
import Derived.Below
import Derived.Test.YtaokbaddleplfaaMeiFacts
import Derived.Test.YtaokbaddleplfaaSame
import Derived.Test.YtaokbaddleplfaaFew
import Derived.WalkKit
import Derived.ProofKit
import Derived.OpenShut
import Derived.ShutString
namespace Go.Proofs.Ytaokbaddleplfaa.meiLast
open Go.ChangeShapes Go.WideShapes Go.ChangeAt Go.RowKit
open Go.ChangeMaps (open_string shut_string)
set_option linter.unusedVariables false      -- a walk need not use every 'w<i>' (that an integer argument fits its kind)

theorem last_kind (k : Nat) (hk : k < 256) : Mei.okKind (UInt8.ofNat (1 + k % 3)) = true ∧ (UInt8.ofNat (1 + k % 3)).toNat ≠ 4 ∧ byteV (UInt8.ofNat (1 + k % 3)) = .int .u8 (1 + (k : Int) % 3) := by
  have h : (UInt8.ofNat (1 + k % 3)).toNat = 1 + k % 3 := by rw [UInt8.toNat_ofNat', Nat.mod_eq_of_lt (by omega)]
  refine ⟨?_, by rw [h]; omega, ?_⟩
  · unfold Mei.okKind
    rw [h]
    simp
    omega
  · show Value.int .u8 ((UInt8.ofNat (1 + k % 3)).toNat : Int) = _
    rw [h]
    congr 1
theorem last_write (k m n : UInt8) (hk : Mei.okKind k = true) (h4 : k.toNat ≠ 4) : (Mei.write 1 (Mei.toldM k 1 m n [])).isSome = (decide (m.toNat = 255) || (decide (m.toNat = 0) && decide (n.toNat = 0))) := by
  rw [Mei.write_told]
  have h1 : Mei.okLevel 1 = true := rfl
  have ho : (([] : List ObjM).length = 1 ∨ k.toNat ≠ 4) := .inr h4
  have e : Mei.okMore m = (decide (m.toNat = 0) || decide (m.toNat = 255)) := rfl
  have f : Mei.okNext m n = (decide (n.toNat = 0) || decide (m.toNat = 255)) := rfl
  simp only [hk, h1, ho, e, f, true_and]
  by_cases a : m.toNat = 255 <;> by_cases b : m.toNat = 0 <;> by_cases c : n.toNat = 0 <;> simp [a, b, c]
theorem own : ownKnob Try.prog.godebug = none := by kernel_rfl

/-! ### STEP 1: THE WALK: the Go text returns true. 'Grown w w'': the world has at most new blocks (Derived/RowKit3.lean). Part the cases AHEAD of 'go_enter' where a test parts the walk; take each callee by a contract of your own. -/
set_option maxRecDepth 20000 in
set_option maxHeartbeats 2000000 in
theorem walk (a0 : Int) (a1 : Int) (a2 : Int) (w0 : (Lit.int .u8 a0).wf = true) (w1 : (Lit.int .u8 a1).wf = true) (w2 : (Lit.int .u8 a2).wf = true) (w : World) :
    Calls Try.prog 7 #[.int .u8 a0, .int .u8 a1, .int .u8 a2] w fun e w' => e = .returned (.bool true) ∧ Below w.heap.size w w' := by
  obtain ⟨x, rfl⟩ := byte_arg w0
  obtain ⟨y, rfl⟩ := byte_arg w1
  obtain ⟨z, rfl⟩ := byte_arg w2
  clear w0 w1 w2
  have bz := byte_lt z
  obtain ⟨kz, hkz⟩ : ∃ n : Nat, n = z.toNat := ⟨_, rfl⟩
  rw [← hkz] at bz ⊢
  obtain ⟨hk1, hk2, hk3⟩ := last_kind kz bz
  obtain ⟨kk, hkk⟩ : ∃ k, k = UInt8.ofNat (1 + kz % 3) := ⟨_, rfl⟩
  rw [← hkk] at hk1 hk2 hk3
  have W1 := hide (last_write kk x y hk1 hk2)
  have HK := hide hk3
  clear hkz hkk hk1 hk2 hk3
  go_enter Try.func7, Try.ntmps7
  go_wp2_with fail
  refine (awake_any w).mono ?_
  rintro e u1 ⟨rfl, hb1⟩
  have hat := Mei.told_at (w := u1) (o := []) (a := none) (l := 0) (c := 0) (Obs.nil _ _ (Nat.zero_le _)) kk 1 x y
  rw [HK.out] at hat
  have HAT := hide hat
  clear hat
  go_wp2_with fail
  refine (Mei.code_write 1 _ (Mei.toldM kk 1 x y []) u1 HAT.out (Mei.told_small (by simp) (by simp) _ _ _ _)).mono ?_
  rintro e u3 ⟨⟨a3, l3, c3, rfl, _⟩, b3⟩
  replace hb1 := hb1.trans (b3.mono hb1.size)
  obtain ⟨E, hE⟩ : ∃ E, E = Mei.errW (Mei.write 1 (Mei.toldM kk 1 x y [])) := ⟨_, rfl⟩
  have hq : (E == 0) = (decide (x.toNat = 255) || (decide (x.toNat = 0) && decide (y.toNat = 0))) := by
    rw [hE, ← W1.out]
    cases Mei.write 1 (Mei.toldM kk 1 x y []) <;> rfl
  rw [← hE]
  have HQ := hide hq
  clear hq hE W1 b3 HAT HK
  generalize x.toNat = nx at *
  generalize y.toNat = ny at *
  by_cases h1 : nx = 255
  · have q : (E == 0) = true := by rw [HQ.out]; simp [h1]
    have g1 : ((nx : Int) == 255) = true := by simp; omega
    have HX := hide h1
    clear HQ h1
    go_wp2
    go_ret
    exact ⟨by first | rfl | simp, hb1⟩
  have g1 : ((nx : Int) == 255) = false := by simp; omega
  by_cases h2 : nx = 0
  rotate_left
  · have q : (E == 0) = false := by rw [HQ.out]; simp [h1, h2]
    have g2 : ((nx : Int) == 0) = false := by simp; omega
    clear HQ h1 h2
    go_wp2
    go_ret
    exact ⟨by first | rfl | simp, hb1⟩
  have g2 : ((nx : Int) == 0) = true := by simp; omega
  obtain ⟨o, ho⟩ : ∃ b : Bool, b = decide (ny = 0) := ⟨_, rfl⟩
  have q : (E == 0) = o := by rw [HQ.out, ho]; simp [h2]
  have g3 : ((ny : Int) == 0) = o := by rw [ho, Bool.eq_iff_iff]; simp
  clear HQ h1 h2 ho
  go_wp2
  go_ret
  exact ⟨ret_bool (by simp), hb1⟩
  -- go_enter Try.func7, Try.ntmps7
  -- go_wp2
  -- go_ret
  -- exact ⟨rfl, by repeat (first | exact Grown.refl _ | apply Grown.drew | apply Grown.alloc)⟩

/-! ### THE ROW's STEP: WRITTEN OUT: LEAVE IT -/
set_option maxRecDepth 100000 in
theorem lifted (os : Os) (started : os.Started) (H : Type) (enc : TypeId × Value → H) :
    ReturnsInHanded {} Try.checked os 7 .any (Rows.meiLastSpec.pre6 enc Try.prog Try.f7 Rows.meiLastRow.domain false) (Rows.meiLastSpec.post enc Try.prog Try.f7 false true false false) := by
  refine returnsInHanded_of_change (C := Try.checked) own started (by kernel_rfl) Try.func7
    (ChangeSpec.witness6 (enc := enc) (C := Try.checked) false ⟨#[], #[.int .u8 0, .int .u8 0, .int .u8 0], []⟩ 8 (by kernel_rfl) (by kernel_rfl) (by kernel_rfl) (by kernel_rfl)) ?_
  intro W base args ds gs before hval0 hW hcnd _
  have hval : ∀ (j : Nat) t v, Try.f7.params[j]? = some t → args[j]? = some v → Value.okWide Try.prog W .any base t v := hval0
  have hW' := hW
  obtain ⟨p, q, hA0, hV, rfl, hfz, hnd⟩ := hW
  have hA : DataW.TrodAll enc Try.prog W 0 (fun _ => true) true Try.f7.params.toList args.toList ds p := hA0
  rw [Try.params7] at hA hval
  obtain ⟨v0, vs0, d0, ds0, p0, q0, hargs, rfl, rfl, h0, r0⟩ := trodAll_cons hA
  obtain ⟨v1, vs1, d1, ds1, p1, q1, rfl, rfl, rfl, h1, r1⟩ := trodAll_cons r0
  obtain ⟨v2, vs2, d2, ds2, p2, q2, rfl, rfl, rfl, h2, r2⟩ := trodAll_cons r1
  obtain ⟨rfl, rfl, rfl⟩ := trodAll_nil r2
  obtain rfl : args = #[v0, v1, v2] := by cases args; simp_all
  obtain ⟨rfl, rfl⟩ := trodVars_none hV
  obtain ⟨a0, rfl, rfl, rfl, w0⟩ := open_int Try.underlying5 (hval 0 5 v0 rfl rfl) h0
  obtain ⟨a1, rfl, rfl, rfl, w1⟩ := open_int Try.underlying5 (hval 1 5 v1 rfl rfl) h1
  obtain ⟨a2, rfl, rfl, rfl, w2⟩ := open_int Try.underlying5 (hval 2 5 v2 rfl rfl) h2
  clear hA0 hval0
  simp only [List.append_nil] at hW'
  refine (walk a0 a1 a2 w0 w1 w2 W).mono fun e W' ⟨he, bel⟩ => ?_
  subst he
  exact ⟨_, rfl, _, _, _, [], _, [], hW', (trodAll_cons_mk (shut_bool Try.underlying4 _) trodAll_mk0), (trodAll_cons_mk (shut_int Try.underlying5 w0) (trodAll_cons_mk (shut_int Try.underlying5 w1) (trodAll_cons_mk (shut_int Try.underlying5 w2) trodAll_mk0))), rfl, bel.frame _, fun h => by cases h⟩

theorem over : Rows.meiLastRow.holds Try.pinned (OpenSpec.ofChange Rows.meiLastSpec) :=
  OpenClaim.holds_of_wide 7 Try.f7 rfl rfl rfl rfl rfl rfl rfl ⟨rfl, rfl, rfl, rfl, rfl⟩ rfl rfl rfl rfl rfl (by kernel_rfl) Try.func7 (by kernel_rfl)
    (of_decide_eq_true (by kernel_rfl)) (by unfold Func.isWrapper; first | (rw [if_pos (by decide +kernel)]; kernel_rfl) | (rw [if_neg (by decide +kernel)]; exact ⟨rfl, rfl⟩))
    (fun os started H enc _ => lifted os started H enc)

/-- ████ THE STATEMENT ████ -/
theorem proved : Rows.MeiLastSaid :=
  over
#print axioms proved
end Go.Proofs.Ytaokbaddleplfaa.meiLast
