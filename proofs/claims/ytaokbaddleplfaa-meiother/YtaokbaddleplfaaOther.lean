/-
  Proved: for every input the law MeiOther answers true, and each argument reads behind the call as it read before.
  Conditions: none (the statement Rows.MeiOtherSaid as it is given).
-/
import Derived.Test.YtaokbaddleplfaaRows
import Derived.WalkKit
import Derived.ProofKit
import Derived.OpenShut
import Derived.ShutString
import Derived.ChangeOld
import Derived.Below
import Derived.Test.YtaokbaddleplfaaMeiFacts
import Derived.Test.YtaokbaddleplfaaSame
import Derived.Test.YtaokbaddleplfaaFew
import Derived.Test.YtaokbaddleplfaaJoinA
namespace Go.Proofs.Ytaokbaddleplfaa.meiOther
open Go.ChangeShapes Go.WideShapes Go.ChangeAt Go.RowKit
open Go.ChangeMaps (open_string shut_string)
set_option linter.unusedVariables false

theorem own : ownKnob Try.prog.godebug = none := by kernel_rfl
theorem laidOut : laidOutB Try.prog = true := by kernel_rfl

/-- WHAT THE WALK IS TOLD OF A SLICE OF INTEGERS THAT CAME IN: it is nil; or it leads to a row of 'cap' cells, the numbers 'zs' (the first 'len' are its elements, the rest its spare room), each fitting its kind. -/
def IsRow (k : IntKind) (w : World) (a : Option Addr) (len cap : Nat) (zs : List Int) : Prop :=
  (a = none ∧ len = 0 ∧ cap = 0 ∧ zs = []) ∨
  ∃ x, a = some x ∧ len ≤ cap ∧ cap ≤ maxLen ∧ zs.length = cap ∧ (∀ i, i < zs.length → w.cell? (x.add i) = some (.int k (zs.getD i 0))) ∧ ∀ n ∈ zs, (Lit.int k n).wf = true

/-! ### STEP 1: THE WALK: the Go text returns true, AND WRITES NOTHING THAT WAS THERE: 'Below w.heap.size w w'' (Derived/Below.lean: '.refl', '.alloc', '.drew', '.setCell' at a new block, '.trans'). Open each 'IsRow' by 'rcases' AHEAD of 'go_enter'; part every test ahead of the walk. -/
set_option maxRecDepth 20000 in
set_option maxHeartbeats 2000000 in
theorem walk (a0 : Option Addr) (len0 cap0 : Nat) (z0 : List Int) (w : World) (w0 : IsRow .u8 w a0 len0 cap0 z0) :
    Calls Try.prog 8 #[.slice a0 len0 cap0] w fun e w' => e = .returned (.bool true) ∧ Below w.heap.size w w' := by
  obtain ⟨xs, hx⟩ := Bs.ofRow w0
  have hm := hx.hle
  have hm2 := hx.hmax
  unfold maxLen at hm2
  have HX := hide hx
  clear w0 hx
  go_enter Try.func8, Try.ntmps8
  go_wp2_with fail
  refine (awake_any w).mono ?_
  rintro e u1 ⟨rfl, hb1⟩
  replace HX := hide (HX.out.mono hb1)
  by_cases hl : len0 ≤ 400
  rotate_left
  · have hl' : (400 : Int) < (len0 : Int) := by omega
    go_wp2
    go_ret
    exact ⟨rfl, hb1⟩
  have hl' : ¬ (400 : Int) < (len0 : Int) := by omega
  have HXL := hide HX.out.hlen
  have HW0 := hide (Mei.write_other (dir := 0) (.inl rfl) xs)
  have HW1 := hide (Mei.write_other (dir := 1) (.inr rfl) xs)
  have HSM := hide (Mei.other_small (d := xs) (by rw [HXL.out]; omega))
  go_wp2_with ((with_reducible (show wpList _ _ _ ({ dst := _, op := Op.store _ _ _, type := _, pos := _, after := _, guard := _ } :: _) _ _)); refine wpList_store_new rfl 30 _ _ rfl (Mei.xCells (.slice a0 len0 cap0) (.int .u8 13) (.int .u8 0) (.int .u8 0) (.int .u8 0) (.int .u8 0) (.slice none 0 0)) rfl rfl (msg_size _ rfl) rfl (by simp [Value.oneCell']) ?_)
  intro u2 h2 b2
  replace HX := hide (HX.out.mono b2)
  have hb2 := hb1.trans (b2.mono hb1.size)
  have hz2 := lt_of_block h2
  obtain ⟨r, hr⟩ : ∃ r, r = u1.heap.size := ⟨_, rfl⟩
  rw [← hr] at h2 hz2 ⊢
  clear b2 hr hb1
  go_wp2_with ((with_reducible (show wpList _ _ _ ({ dst := _, op := Op.load _ _, type := _, pos := _, after := _, guard := _ } :: _) _ _)); refine wpList_load_row rfl 30 _ rfl r rfl 30 (Mei.xCells (.slice a0 len0 cap0) (.int .u8 13) (.int .u8 0) (.int .u8 0) (.int .u8 0) (.int .u8 0) (.slice none 0 0)) (0, 0) _ h2 Try.underlying30 rfl (msg_size _ rfl) ?_)
  refine (Mei.code_write 0 _ (Mei.otherM xs) u2 (Mei.other_at HX.out) HSM.out).mono ?_
  rintro e u3 ⟨⟨a3, l3, c3, rfl, hx3⟩, b3⟩
  replace HX := hide (HX.out.mono b3)
  replace h2 := (b3.block r hz2).trans h2
  have hb3 := hb2.trans (b3.mono hb2.size)
  have hz3 := lt_of_block h2
  have HX3 := hide hx3
  clear b3 hx3 hb2 hz2
  go_wp2_with ((with_reducible (show wpList _ _ _ ({ dst := _, op := Op.load _ _, type := _, pos := _, after := _, guard := _ } :: _) _ _)); refine wpList_load_row rfl 30 _ rfl r rfl 30 (Mei.xCells (.slice a0 len0 cap0) (.int .u8 13) (.int .u8 0) (.int .u8 0) (.int .u8 0) (.int .u8 0) (.slice none 0 0)) (0, 0) _ h2 Try.underlying30 rfl (msg_size _ rfl) ?_)
  refine (Mei.code_write 1 _ (Mei.otherM xs) u3 (Mei.other_at HX.out) HSM.out).mono ?_
  rintro e u4 ⟨⟨a4, l4, c4, rfl, hx4⟩, b4⟩
  replace HX := hide (HX.out.mono b4)
  replace HX3 := hide (HX3.out.mono b4)
  have hb4 := hb3.trans (b4.mono hb3.size)
  have HX4 := hide hx4
  clear b4 hx4 hb3 h2 hz3
  rw [HW0.out] at HX3 ⊢
  rw [HW1.out] at HX4 ⊢
  obtain ⟨LS, hLS⟩ : ∃ l, l = 13 :: xs := ⟨_, rfl⟩
  rw [← hLS] at HX3 HX4 ⊢
  have HLS := hide hLS
  clear hLS HW0 HW1 HSM
  have q0 : Mei.errW (some LS) = 0 := rfl
  have q1 : Mei.errW none = 1 := rfl
  by_cases hn : len0 ≤ 251
  rotate_left
  · rw [if_neg (by rw [HXL.out]; exact hn), q1]
    have g1 : (251 : Int) < (len0 : Int) := by omega
    clear HX HX3 HX4
    go_wp2
    go_ret
    exact ⟨by first | rfl | simp, hb4⟩
  rw [if_pos (by rw [HXL.out]; exact hn)] at HX3 HX4 ⊢
  rw [q0]
  have g1 : ¬ (251 : Int) < (len0 : Int) := by omega
  replace HX3 : Hid (Bs u4 a3 l3 c3 LS) := HX3
  replace HX4 : Hid (Bs u4 a4 l4 c4 LS) := HX4
  clear q0 q1
  go_wp2_with fail
  refine (same_any _ _ _ _ _ _ _ _ _ HX3.out HX4.out).mono ?_
  rintro e u5 ⟨rfl, rfl⟩
  rw [decide_eq_true (rfl : LS = LS)]
  have h13 := one_own u5 13 13 rfl (by omega) 5
  have hsz : u5.heap.size ≤ (u5.alloc (.cells #[.int .u8 13] 5)).heap.size := by simp
  have b5 := (Below.refl u5.heap.size u5).alloc (Nat.le_refl _) (.cells #[.int .u8 13] 5)
  have HXA := hide (HX.out.alloc (.cells #[.int .u8 13] 5))
  have HA := hide h13
  clear h13 HX
  go_wp2_with (at_builtin; refine app (by rfl) _ _ (by rfl) u5.heap.size (by rfl) HA.out (by rfl) HXA.out (by omega) hsz ?_)
  intro a6 c6 u6 ho6 hb6
  have b56 := b5.trans hb6
  have HO6 : Hid (Bs u6 a6 (1 + len0) c6 LS) := hide (by rw [HLS.out]; simpa using ho6.sl)
  have HX36 := hide (HX3.out.mono b56)
  have hb6' := hb4.trans (b56.mono hb4.size)
  clear ho6 hb6 b5 HXA HA hsz HX3 HX4
  go_wp2_with fail
  refine (same_any _ _ _ _ _ _ _ _ _ HX36.out HO6.out).mono ?_
  rintro e u7 ⟨rfl, rfl⟩
  rw [decide_eq_true (rfl : LS = LS)]
  go_wp2
  go_ret
  exact ⟨rfl, hb6'⟩

/-! ### THE ROW's STEP: WRITTEN OUT: LEAVE IT -/
set_option maxRecDepth 100000 in
theorem lifted (os : Os) (started : os.Started) (H : Type) (enc : TypeId × Value → H) :
    ReturnsInHanded {} Try.checked os 8 .any (Rows.meiOtherSpec.pre6 enc Try.prog Try.f8 Rows.meiOtherRow.domain false) (Rows.meiOtherSpec.post enc Try.prog Try.f8 false true false false) := by
  refine returnsInHanded_of_change (C := Try.checked) own started (by kernel_rfl) Try.func8
    (ChangeSpec.witness6 (enc := enc) (C := Try.checked) false ⟨#[], #[.slice none 0 0], []⟩ 8 (by kernel_rfl) (by kernel_rfl) (by kernel_rfl) (by kernel_rfl)) ?_
  intro W base args ds gs before hval0 hW hcnd _
  have hval : ∀ (j : Nat) t v, Try.f8.params[j]? = some t → args[j]? = some v → Value.okWide Try.prog W .any base t v := hval0
  have hW' := hW
  obtain ⟨p, q, hA0, hV, rfl, hfz, hnd⟩ := hW
  have hA : DataW.TrodAll enc Try.prog W 0 (fun _ => true) true Try.f8.params.toList args.toList ds p := hA0
  rw [Try.params8] at hA hval
  obtain ⟨v0, vs0, d0, ds0, p0, q0, hargs, rfl, rfl, h0, r0⟩ := trodAll_cons hA
  obtain ⟨rfl, rfl, rfl⟩ := trodAll_nil r0
  obtain rfl : args = #[v0] := by cases args; simp_all
  obtain ⟨rfl, rfl⟩ := trodVars_none hV
  obtain ⟨a0, len0, cap0, rfl⟩ := okWide_slice Try.underlying22 (hval 0 22 v0 rfl rfl)
  have k0 := h0
  have lt0 : ∀ x ∈ p0, x.block < W.heap.size := by obtain ⟨m, hm⟩ := k0; exact DataW.trod_lt m _ _ _ hm
  obtain ⟨z0, w0⟩ : ∃ zs, IsRow .u8 W a0 len0 cap0 zs := by
    obtain ⟨fuel, hf⟩ := h0
    rcases open_ints Try.underlying22 Try.underlying5 (by kernel_rfl) hf with ⟨hcs, _⟩ | ⟨x, l, c, zs, hcs, _, hl, hm, hz, _, hcell, hwz⟩
    · simp [Value.cells] at hcs
      obtain ⟨rfl, rfl, rfl⟩ := hcs
      exact ⟨[], .inl ⟨rfl, rfl, rfl, rfl⟩⟩
    · simp [Value.cells] at hcs
      obtain ⟨rfl, rfl, rfl⟩ := hcs
      exact ⟨zs, .inr ⟨_, rfl, hl, hm, by simpa using hz, hcell, hwz⟩⟩
  clear hA0 hval0
  refine (walk a0 len0 cap0 z0 W w0).mono fun e W' ⟨he, bel⟩ => ?_
  subst he
  exact ⟨_, rfl, _, _, _, [], _, [], hW', trodAll_mk1 (shut_bool Try.underlying4 _), (trodAll_cons_mk (Below.trod laidOut (by kernel_rfl) (of_decide_eq_true (by kernel_rfl)) k0 bel lt0) trodAll_mk0), rfl, bel.frame _, fun h => by cases h⟩

theorem over : Rows.meiOtherRow.holds Try.pinned (OpenSpec.ofChange Rows.meiOtherSpec) :=
  OpenClaim.holds_of_wide 8 Try.f8 rfl rfl rfl rfl rfl rfl rfl ⟨rfl, rfl, rfl, rfl, rfl⟩ rfl rfl rfl rfl rfl (by kernel_rfl) Try.func8 (by kernel_rfl)
    (of_decide_eq_true (by kernel_rfl)) (by unfold Func.isWrapper; first | (rw [if_pos (by decide +kernel)]; kernel_rfl) | (rw [if_neg (by decide +kernel)]; exact ⟨rfl, rfl⟩))
    (fun os started H enc _ => lifted os started H enc)

/-- ████ THE STATEMENT ████ -/
theorem proved : Rows.MeiOtherSaid := over
#print axioms proved
end Go.Proofs.Ytaokbaddleplfaa.meiOther
