/-
  Proved: for every input the law MeiAsks answers true, and each argument reads behind the call as it read before.
  Conditions: none (the statement Rows.MeiAsksSaid as it is given).
-/
import Derived.Test.YtaokbaddleplfaaRows
import Derived.Below
import Derived.Test.YtaokbaddleplfaaMeiFacts
import Derived.Test.YtaokbaddleplfaaSame
import Derived.Test.YtaokbaddleplfaaFew
import Derived.WalkKit
import Derived.ProofKit
import Derived.OpenShut
import Derived.ShutString
namespace Go.Proofs.Ytaokbaddleplfaa.meiAsks
open Go.ChangeShapes Go.WideShapes Go.ChangeAt Go.RowKit
open Go.ChangeMaps (open_string shut_string)
set_option linter.unusedVariables false      -- a walk need not use every 'w<i>' (that an integer argument fits its kind)

theorem asks_lit (w : World) (k n : UInt8) (t : TypeId) : Bs (w.alloc (.cells #[.int .u8 14, byteV k, byteV n] t)) (some ⟨w.heap.size, 0, none⟩) 3 3 [14, k, n] :=
  Sl.fresh w [14, k, n] _ t _ 3 rfl (by unfold maxLen; omega) rfl
theorem own : ownKnob Try.prog.godebug = none := by kernel_rfl

/-! ### STEP 1: THE WALK: the Go text returns true. 'Grown w w'': the world has at most new blocks (Derived/RowKit3.lean). Part the cases AHEAD of 'go_enter' where a test parts the walk; take each callee by a contract of your own. -/
set_option maxRecDepth 20000 in
set_option maxHeartbeats 2000000 in
theorem walk (a0 : Int) (a1 : Int) (w0 : (Lit.int .u8 a0).wf = true) (w1 : (Lit.int .u8 a1).wf = true) (w : World) :
    Calls Try.prog 9 #[.int .u8 a0, .int .u8 a1] w fun e w' => e = .returned (.bool true) ∧ Below w.heap.size w w' := by
  obtain ⟨x, rfl⟩ := byte_arg w0
  obtain ⟨y, rfl⟩ := byte_arg w1
  clear w0 w1
  have W1 := hide (Mei.write_ask x y)
  go_enter Try.func9, Try.ntmps9
  go_wp2_with fail
  refine (awake_any w).mono ?_
  rintro e u1 ⟨rfl, hb1⟩
  go_wp2_with fail
  refine (Mei.code_write 0 _ (Mei.askM x y) u1 (Mei.ask_at u1 x y) (Mei.ask_small x y)).mono ?_
  rintro e u3 ⟨⟨a3, l3, c3, rfl, hx3⟩, b3⟩
  replace hb1 := hb1.trans (b3.mono hb1.size)
  rw [W1.out] at hx3 ⊢
  clear b3 W1
  have bx := byte_lt x
  have HX := hide hx3
  have HO : Hid (Mei.okKind x = (decide (0 < x.toNat) && decide (x.toNat < 5))) := hide rfl
  obtain ⟨LS, hLS⟩ : ∃ l, l = [14, x, y] := ⟨_, rfl⟩
  have hlit := asks_lit u3 x y 5
  rw [← hLS] at HX hlit ⊢
  have HLT := hide hlit
  clear hx3 hLS hlit
  generalize hkx : x.toNat = kx at *
  have q0 : Mei.errW (some LS) = 0 := rfl
  have q1 : Mei.errW none = 1 := rfl
  by_cases h1 : 0 < kx
  rotate_left
  · obtain rfl : kx = 0 := by omega
    rw [if_neg (by rw [HO.out]; simp), q1]
    clear HX HO HLT hkx
    go_wp2
    go_ret
    exact ⟨rfl, hb1⟩
  by_cases h2 : kx < 5
  rotate_left
  · rw [if_neg (by rw [HO.out]; simp [h2]), q1]
    have g1 : ¬ (kx : Int) < 1 := by omega
    have g2 : (4 : Int) < (kx : Int) := by omega
    clear HX HO HLT hkx
    go_wp2
    go_ret
    exact ⟨by first | rfl | simp, hb1⟩
  rw [if_pos (by rw [HO.out]; simp [h1, h2])] at HX ⊢
  rw [q0]
  replace HX : Hid (Bs u3 a3 l3 c3 LS) := HX
  have g1 : ¬ (kx : Int) < 1 := by omega
  have g2 : ¬ (4 : Int) < (kx : Int) := by omega
  have HKX := hide hkx
  clear HO q0 q1 hkx
  go_wp2_with fail
  have b4 := (Below.refl u3.heap.size u3).alloc (Nat.le_refl _) (.cells #[.int .u8 14, byteV x, byteV y] 5 (0, 0))
  have hlt2 := HLT.out
  rw [show byteV x = .int .u8 (kx : Int) by rw [← HKX.out]] at b4 hlt2
  refine (same_any _ _ _ _ _ _ _ _ _ (HX.out.mono b4) hlt2).mono ?_
  rintro e u6 ⟨rfl, rfl⟩
  rw [decide_eq_true (rfl : LS = LS)]
  replace hb1 := hb1.trans (b4.mono hb1.size)
  go_wp2
  go_ret
  exact ⟨rfl, hb1⟩
  -- go_enter Try.func9, Try.ntmps9
  -- go_wp2
  -- go_ret
  -- exact ⟨rfl, by repeat (first | exact Grown.refl _ | apply Grown.drew | apply Grown.alloc)⟩

/-! ### THE ROW's STEP: WRITTEN OUT: LEAVE IT -/
set_option maxRecDepth 100000 in
theorem lifted (os : Os) (started : os.Started) (H : Type) (enc : TypeId × Value → H) :
    ReturnsInHanded {} Try.checked os 9 .any (Rows.meiAsksSpec.pre6 enc Try.prog Try.f9 Rows.meiAsksRow.domain false) (Rows.meiAsksSpec.post enc Try.prog Try.f9 false true false false) := by
  refine returnsInHanded_of_change (C := Try.checked) own started (by kernel_rfl) Try.func9
    (ChangeSpec.witness6 (enc := enc) (C := Try.checked) false ⟨#[], #[.int .u8 0, .int .u8 0], []⟩ 8 (by kernel_rfl) (by kernel_rfl) (by kernel_rfl) (by kernel_rfl)) ?_
  intro W base args ds gs before hval0 hW hcnd _
  have hval : ∀ (j : Nat) t v, Try.f9.params[j]? = some t → args[j]? = some v → Value.okWide Try.prog W .any base t v := hval0
  have hW' := hW
  obtain ⟨p, q, hA0, hV, rfl, hfz, hnd⟩ := hW
  have hA : DataW.TrodAll enc Try.prog W 0 (fun _ => true) true Try.f9.params.toList args.toList ds p := hA0
  rw [Try.params9] at hA hval
  obtain ⟨v0, vs0, d0, ds0, p0, q0, hargs, rfl, rfl, h0, r0⟩ := trodAll_cons hA
  obtain ⟨v1, vs1, d1, ds1, p1, q1, rfl, rfl, rfl, h1, r1⟩ := trodAll_cons r0
  obtain ⟨rfl, rfl, rfl⟩ := trodAll_nil r1
  obtain rfl : args = #[v0, v1] := by cases args; simp_all
  obtain ⟨rfl, rfl⟩ := trodVars_none hV
  obtain ⟨a0, rfl, rfl, rfl, w0⟩ := open_int Try.underlying5 (hval 0 5 v0 rfl rfl) h0
  obtain ⟨a1, rfl, rfl, rfl, w1⟩ := open_int Try.underlying5 (hval 1 5 v1 rfl rfl) h1
  clear hA0 hval0
  simp only [List.append_nil] at hW'
  refine (walk a0 a1 w0 w1 W).mono fun e W' ⟨he, bel⟩ => ?_
  subst he
  exact ⟨_, rfl, _, _, _, [], _, [], hW', (trodAll_cons_mk (shut_bool Try.underlying4 _) trodAll_mk0), (trodAll_cons_mk (shut_int Try.underlying5 w0) (trodAll_cons_mk (shut_int Try.underlying5 w1) trodAll_mk0)), rfl, bel.frame _, fun h => by cases h⟩

theorem over : Rows.meiAsksRow.holds Try.pinned (OpenSpec.ofChange Rows.meiAsksSpec) :=
  OpenClaim.holds_of_wide 9 Try.f9 rfl rfl rfl rfl rfl rfl rfl ⟨rfl, rfl, rfl, rfl, rfl⟩ rfl rfl rfl rfl rfl (by kernel_rfl) Try.func9 (by kernel_rfl)
    (of_decide_eq_true (by kernel_rfl)) (by unfold Func.isWrapper; first | (rw [if_pos (by decide +kernel)]; kernel_rfl) | (rw [if_neg (by decide +kernel)]; exact ⟨rfl, rfl⟩))
    (fun os started H enc _ => lifted os started H enc)

/-- ████ THE STATEMENT ████ -/
theorem proved : Rows.MeiAsksSaid :=
  over
#print axioms proved
end Go.Proofs.Ytaokbaddleplfaa.meiAsks
