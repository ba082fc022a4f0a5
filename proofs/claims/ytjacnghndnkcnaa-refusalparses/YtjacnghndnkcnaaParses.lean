/-
  Proved: for every input the law RefusalParses answers true, and each argument reads behind the call as it read before.
  Conditions: none (the statement Rows.RefusalParsesSaid as it is given).
-/
import Derived.Test.YtjacnghndnkcnaaRows
import Derived.WalkKit
import Derived.ProofKit
import Derived.OpenShut
import Derived.ShutString
import Derived.ChangeOld
import Derived.Below
import Derived.Test.YtjacnghndnkcnaaFusFacts
import Derived.Test.YtjacnghndnkcnaaRefSame
namespace Go.Proofs.Ytjacnghndnkcnaa.refusalParses
open Go.ChangeShapes Go.WideShapes Go.ChangeAt Go.RowKit
open Go.ChangeMaps (open_string shut_string)
set_option linter.unusedVariables false

theorem own : ownKnob Try.prog.godebug = none := by kernel_rfl
theorem laidOut : laidOutB Try.prog = true := by kernel_rfl

/-- WHAT THE WALK IS TOLD OF A SLICE OF INTEGERS THAT CAME IN: it is nil; or it leads to a row of 'cap' cells, the numbers 'zs' (the first 'len' are its elements, the rest its spare room), each fitting its kind. -/
def IsRow (k : IntKind) (w : World) (a : Option Addr) (len cap : Nat) (zs : List Int) : Prop :=
  (a = none ∧ len = 0 ∧ cap = 0 ∧ zs = []) ∨
  ∃ x, a = some x ∧ len ≤ cap ∧ cap ≤ maxLen ∧ zs.length = cap ∧ (∀ i, i < zs.length → w.cell? (x.add i) = some (.int k (zs.getD i 0))) ∧ ∀ n ∈ zs, (Lit.int k n).wf = true

/-! ### STEP 1: THE WALK: the Go text returns true, AND WRITES NOTHING THAT WAS THERE: 'Below w.heap.size w w'' (Derived/Below.lean: '.refl', '.alloc', '.drew', '.setCell' at a new block, '.trans'). Open each 'IsRow' by 'rcases' AHEAD of 'go_enter'; part every test ahead of the walk. -/
set_option maxRecDepth 20000 in
set_option maxHeartbeats 2000000 in
theorem walk (a0 : Option Addr) (len0 cap0 : Nat) (z0 : List Int) (w : World) (w0 : IsRow .u8 w a0 len0 cap0 z0) :
    Calls Try.prog 3 #[.slice a0 len0 cap0] w fun e w' => e = .returned (.bool true) ∧ Below w.heap.size w w' := by
  obtain ⟨xs, hx⟩ := Bs.ofRow w0
  have hm := hx.hle
  have hm2 := hx.hmax
  unfold maxLen at hm2
  have HX := hide hx
  clear w0 hx
  go_enter Try.func3, Try.ntmps3
  go_wp2_with fail
  refine (awake_any w).mono ?_
  rintro e u1 ⟨rfl, hb1⟩
  replace HX := hide (HX.out.mono hb1)
  by_cases hl : len0 ≤ 400
  rotate_left
  · have hl' : (400 : Int) < (len0 : Int) := by omega
    go_wp2
    go_ret
    exact ⟨rfl, hb1⟩
  have hl' : ¬ (400 : Int) < (len0 : Int) := by omega
  go_wp2_with fail
  refine (Fus.code_parse _ _ _ xs _ HX.out (by omega)).mono ?_
  rintro e u2 ⟨⟨v2, rfl, hm2'⟩, hb2⟩
  obtain ⟨cs2, rfl, hs2, ho2, _⟩ := hm2'.agg
  have HM2 := hide hm2'
  replace HX := hide (HX.out.mono hb2)
  replace hb1 := below_next hb1 hb2 (Nat.le_refl _)
  clear hm2' hb2
  go_wp2_with ((with_reducible show wpList _ _ _ (⟨_, .store _ _ _, _, _, _, _⟩ :: _) _ _); refine wpList_store_new rfl 30 _ _ rfl cs2 rfl rfl (msg_size cs2 hs2) hs2.symm ho2 ?_)
  intro u3 h3 b3
  replace HM2 := hide (HM2.out.mono b3)
  replace HX := hide (HX.out.mono b3)
  replace hb1 := below_next hb1 b3 (Nat.le_refl _)
  clear b3
  generalize u2.heap.size = g2 at *
  have hg2 := lt_of_block h3
  go_wp2_with fail
  refine (Fus.ref_parse _ _ _ xs _ HX.out (by omega)).mono ?_
  rintro e u4 ⟨⟨v4, rfl, hm4⟩, hb4⟩
  obtain ⟨cs4, rfl, hs4, ho4, _⟩ := hm4.agg
  have HM4 := hide hm4
  replace HM2 := hide (HM2.out.mono hb4)
  replace h3 := (hb4.block g2 hg2).trans h3
  replace hb1 := below_next hb1 hb4 (Nat.le_refl _)
  clear hm4 hb4 HX hg2
  generalize Fus.parse xs = P at *
  obtain ⟨m, E⟩ := P
  go_wp2_with ((with_reducible show wpList _ _ _ (⟨_, .store _ _ _, _, _, _, _⟩ :: _) _ _); refine wpList_store_new rfl 30 _ _ rfl cs4 rfl rfl (msg_size cs4 hs4) hs4.symm ho4 ?_)
  intro u5 h5 b5
  replace HM4 := hide (HM4.out.mono b5)
  replace HM2 := hide (HM2.out.mono b5)
  replace h3 := (b5.block g2 (lt_of_block h3)).trans h3
  replace hb1 := below_next hb1 b5 (Nat.le_refl _)
  clear b5
  generalize u4.heap.size = g4 at *
  go_wp2_with ((with_reducible show wpList _ _ _ (⟨_, .load _ _, _, _, _, _⟩ :: _) _ _); first | (refine wpList_load_rowG (by rfl) 30 _ rfl g2 rfl cs2 (load_whole h3 hs2) ?_) | (refine wpList_load_rowG (by rfl) 30 _ rfl g4 rfl cs4 (load_whole h5 hs4) ?_))
  refine (refSame_any _ _ m m _ HM2.out HM4.out).mono ?_
  rintro e u6 ⟨rfl, hb6⟩
  rw [(MsgM.same_iff m m).2 rfl]
  replace hb1 := below_next hb1 hb6 (Nat.le_refl _)
  go_wp2
  go_ret
  exact ⟨rfl, hb1⟩

/-! ### THE ROW's STEP: WRITTEN OUT: LEAVE IT -/
set_option maxRecDepth 100000 in
theorem lifted (os : Os) (started : os.Started) (H : Type) (enc : TypeId × Value → H) :
    ReturnsInHanded {} Try.checked os 3 .any (Rows.refusalParsesSpec.pre6 enc Try.prog Try.f3 Rows.refusalParsesRow.domain false) (Rows.refusalParsesSpec.post enc Try.prog Try.f3 false true false false) := by
  refine returnsInHanded_of_change (C := Try.checked) own started (by kernel_rfl) Try.func3
    (ChangeSpec.witness6 (enc := enc) (C := Try.checked) false ⟨#[], #[.slice none 0 0], []⟩ 8 (by kernel_rfl) (by kernel_rfl) (by kernel_rfl) (by kernel_rfl)) ?_
  intro W base args ds gs before hval0 hW hcnd _
  have hval : ∀ (j : Nat) t v, Try.f3.params[j]? = some t → args[j]? = some v → Value.okWide Try.prog W .any base t v := hval0
  have hW' := hW
  obtain ⟨p, q, hA0, hV, rfl, hfz, hnd⟩ := hW
  have hA : DataW.TrodAll enc Try.prog W 0 (fun _ => true) true Try.f3.params.toList args.toList ds p := hA0
  rw [Try.params3] at hA hval
  obtain ⟨v0, vs0, d0, ds0, p0, q0, hargs, rfl, rfl, h0, r0⟩ := trodAll_cons hA
  obtain ⟨rfl, rfl, rfl⟩ := trodAll_nil r0
  obtain rfl : args = #[v0] := by cases args; simp_all
  obtain ⟨rfl, rfl⟩ := trodVars_none hV
  obtain ⟨a0, len0, cap0, rfl⟩ := okWide_slice Try.underlying22 (hval 0 22 v0 rfl rfl)
  have k0 := h0
  have lt0 : ∀ x ∈ p0, x.block < W.heap.size := by obtain ⟨m, hm⟩ := k0; exact DataW.trod_lt m _ _ _ hm
  obtain ⟨z0, w0⟩ : ∃ zs, IsRow .u8 W a0 len0 cap0 zs := by
    obtain ⟨fuel, hf⟩ := h0
    rcases open_ints Try.underlying22 Try.underlying5 (by kernel_rfl) hf with ⟨hcs, _⟩ | ⟨x, l, c, zs, hcs, _, hl, hm, hz, _, hcell, hwz⟩
    · simp [Value.cells] at hcs
      obtain ⟨rfl, rfl, rfl⟩ := hcs
      exact ⟨[], .inl ⟨rfl, rfl, rfl, rfl⟩⟩
    · simp [Value.cells] at hcs
      obtain ⟨rfl, rfl, rfl⟩ := hcs
      exact ⟨zs, .inr ⟨_, rfl, hl, hm, by simpa using hz, hcell, hwz⟩⟩
  clear hA0 hval0
  refine (walk a0 len0 cap0 z0 W w0).mono fun e W' ⟨he, bel⟩ => ?_
  subst he
  exact ⟨_, rfl, _, _, _, [], _, [], hW', trodAll_mk1 (shut_bool Try.underlying4 _), (trodAll_cons_mk (Below.trod laidOut (by kernel_rfl) (of_decide_eq_true (by kernel_rfl)) k0 bel lt0) trodAll_mk0), rfl, bel.frame _, fun h => by cases h⟩

theorem over : Rows.refusalParsesRow.holds Try.pinned (OpenSpec.ofChange Rows.refusalParsesSpec) :=
  OpenClaim.holds_of_wide 3 Try.f3 rfl rfl rfl rfl rfl rfl rfl ⟨rfl, rfl, rfl, rfl, rfl⟩ rfl rfl rfl rfl rfl (by kernel_rfl) Try.func3 (by kernel_rfl)
    (of_decide_eq_true (by kernel_rfl)) (by unfold Func.isWrapper; first | (rw [if_pos (by decide +kernel)]; kernel_rfl) | (rw [if_neg (by decide +kernel)]; exact ⟨rfl, rfl⟩))
    (fun os started H enc _ => lifted os started H enc)

/-- ████ THE STATEMENT ████ -/
theorem proved : Rows.RefusalParsesSaid := over
#print axioms proved
end Go.Proofs.Ytjacnghndnkcnaa.refusalParses
