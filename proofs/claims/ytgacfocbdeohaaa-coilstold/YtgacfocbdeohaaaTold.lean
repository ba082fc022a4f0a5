/-
  Proved: for every input the law CoilsTold answers true, and each argument reads behind the call as it read before.
  Conditions: none (the statement Rows.CoilsToldSaid as it is given).
-/
import Derived.Test.YtgacfocbdeohaaaRows
import Derived.WalkKit
import Derived.ProofKit
import Derived.OpenShut
import Derived.ShutString
import Derived.ChangeOld
import Derived.Below
import Derived.Test.YtgacfocbdeohaaaCoilFacts
namespace Go.Proofs.Ytgacfocbdeohaaa.coilsTold
open Go.ChangeShapes Go.WideShapes Go.ChangeAt Go.RowKit
open Go.ChangeMaps (open_string shut_string)
set_option linter.unusedVariables false

theorem own : ownKnob Try.prog.godebug = none := by kernel_rfl
theorem laidOut : laidOutB Try.prog = true := by kernel_rfl

/-- WHAT THE WALK IS TOLD OF A SLICE OF INTEGERS THAT CAME IN: it is nil; or it leads to a row of 'cap' cells, the numbers 'zs' (the first 'len' are its elements, the rest its spare room), each fitting its kind. -/
def IsRow (k : IntKind) (w : World) (a : Option Addr) (len cap : Nat) (zs : List Int) : Prop :=
  (a = none ∧ len = 0 ∧ cap = 0 ∧ zs = []) ∨
  ∃ x, a = some x ∧ len ≤ cap ∧ cap ≤ maxLen ∧ zs.length = cap ∧ (∀ i, i < zs.length → w.cell? (x.add i) = some (.int k (zs.getD i 0))) ∧ ∀ n ∈ zs, (Lit.int k n).wf = true

/-! ### STEP 1: THE WALK: the Go text returns true, AND WRITES NOTHING THAT WAS THERE: 'Below w.heap.size w w'' (Derived/Below.lean: '.refl', '.alloc', '.drew', '.setCell' at a new block, '.trans'). Open each 'IsRow' by 'rcases' AHEAD of 'go_enter'; part every test ahead of the walk. -/
set_option maxRecDepth 20000 in
set_option maxHeartbeats 2000000 in
theorem walk (a0 : Option Addr) (len0 cap0 : Nat) (z0 : List Int) (w : World) (w0 : IsRow .u8 w a0 len0 cap0 z0) :
    Calls Try.prog 9 #[.slice a0 len0 cap0] w fun e w' => e = .returned (.bool true) ∧ Below w.heap.size w w' := by
  obtain ⟨xs, hx⟩ := Bs.ofRow w0
  have hm := hx.hle
  have hm2 := hx.hmax
  unfold maxLen at hm2
  have HL := hide hx.hlen
  have HX := hide hx
  clear w0 hx
  go_enter Try.func9, Try.ntmps9
  go_wp2_with fail
  refine (awake_any w).mono ?_
  rintro e u1 ⟨rfl, hb1⟩
  replace HX := hide (HX.out.mono hb1)
  by_cases hl : len0 ≤ 400
  rotate_left
  · have hl' : (400 : Int) < (len0 : Int) := by omega
    go_wp2
    go_ret
    exact ⟨rfl, hb1⟩
  have hl' : ¬ (400 : Int) < (len0 : Int) := by omega
  go_wp2_with fail
  refine (Coils.code_write 1 _ (Coils.toldM xs) u1 (Coils.told_at HX.out) (Coils.told_small xs (by rw [HL.out]; omega))).mono ?_
  rintro e u2 ⟨⟨a2, l2, c2, rfl, hx2⟩, b2⟩
  replace hb1 := below_next hb1 b2 (Nat.le_refl _)
  replace HX := hide (HX.out.mono b2)
  rw [Coils.write_told, HL.out] at hx2 ⊢
  have HX2 := hide hx2
  clear b2 hx2
  by_cases hs : 1 ≤ len0 ∧ len0 ≤ 250
  · rw [if_pos hs] at HX2 ⊢
    replace HX2 : Hid (Bs u2 a2 l2 c2 (Coils.counted [] xs)) := HX2
    have q0 : Coils.errW (some (Coils.counted [] xs)) = 0 := rfl
    rw [q0]
    have HE : Hid (Coils.counted [] xs = UInt8.ofNat (len0 % 256) :: xs) := hide (by
      unfold Coils.counted
      rw [HL.out]
      show UInt8.ofNat len0 :: xs = _
      congr 1
      apply UInt8.toNat_inj.1
      simp)
    obtain ⟨h1, h2⟩ := hs
    have i1 : ¬ (len0 : Int) < 1 := by omega
    have i2 : ¬ (250 : Int) < (len0 : Int) := by omega
    clear q0 hl hl'
    go_wp2_with (at_builtin; refine app (by rfl) _ _ rfl u2.heap.size rfl (one_own _ _ (len0 % 256) (by first | rfl | omega | (simp; omega)) (by omega) _) rfl (HX.out.alloc _) (by omega) (by simp) ?_)
    intro a4 c4 u4 ho4 b4
    have b4' := ((Below.refl u2.heap.size u2).alloc (Nat.le_refl _) _).trans b4
    replace HX2 := hide (HX2.out.mono b4')
    replace hb1 := below_next hb1 b4' (Nat.le_refl _)
    have HO4 := hide ho4
    clear b4 b4' ho4
    go_wp2_with fail
    refine (same_any _ _ _ _ _ _ _ _ _ HX2.out HO4.out.sl).mono ?_
    rintro e u5 ⟨rfl, rfl⟩
    rw [decide_eq_true HE.out]
    go_wp2
    go_ret
    exact ⟨rfl, hb1⟩
  · rw [if_neg hs]
    have q0 : Coils.errW (none : Option (List UInt8)) = 1 := rfl
    rw [q0]
    clear HX2 q0
    by_cases h1 : (len0 : Int) < 1
    · go_wp2
      go_ret
      exact ⟨rfl, hb1⟩
    · have i2 : (250 : Int) < (len0 : Int) := by omega
      go_wp2
      go_ret
      exact ⟨rfl, hb1⟩

/-! ### THE ROW's STEP: WRITTEN OUT: LEAVE IT -/
set_option maxRecDepth 100000 in
theorem lifted (os : Os) (started : os.Started) (H : Type) (enc : TypeId × Value → H) :
    ReturnsInHanded {} Try.checked os 9 .any (Rows.coilsToldSpec.pre6 enc Try.prog Try.f9 Rows.coilsToldRow.domain false) (Rows.coilsToldSpec.post enc Try.prog Try.f9 false true false false) := by
  refine returnsInHanded_of_change (C := Try.checked) own started (by kernel_rfl) Try.func9
    (ChangeSpec.witness6 (enc := enc) (C := Try.checked) false ⟨#[], #[.slice none 0 0], []⟩ 8 (by kernel_rfl) (by kernel_rfl) (by kernel_rfl) (by kernel_rfl)) ?_
  intro W base args ds gs before hval0 hW hcnd _
  have hval : ∀ (j : Nat) t v, Try.f9.params[j]? = some t → args[j]? = some v → Value.okWide Try.prog W .any base t v := hval0
  have hW' := hW
  obtain ⟨p, q, hA0, hV, rfl, hfz, hnd⟩ := hW
  have hA : DataW.TrodAll enc Try.prog W 0 (fun _ => true) true Try.f9.params.toList args.toList ds p := hA0
  rw [Try.params9] at hA hval
  obtain ⟨v0, vs0, d0, ds0, p0, q0, hargs, rfl, rfl, h0, r0⟩ := trodAll_cons hA
  obtain ⟨rfl, rfl, rfl⟩ := trodAll_nil r0
  obtain rfl : args = #[v0] := by cases args; simp_all
  obtain ⟨rfl, rfl⟩ := trodVars_none hV
  obtain ⟨a0, len0, cap0, rfl⟩ := okWide_slice Try.underlying22 (hval 0 22 v0 rfl rfl)
  have k0 := h0
  have lt0 : ∀ x ∈ p0, x.block < W.heap.size := by obtain ⟨m, hm⟩ := k0; exact DataW.trod_lt m _ _ _ hm
  obtain ⟨z0, w0⟩ : ∃ zs, IsRow .u8 W a0 len0 cap0 zs := by
    obtain ⟨fuel, hf⟩ := h0
    rcases open_ints Try.underlying22 Try.underlying5 (by kernel_rfl) hf with ⟨hcs, _⟩ | ⟨x, l, c, zs, hcs, _, hl, hm, hz, _, hcell, hwz⟩
    · simp [Value.cells] at hcs
      obtain ⟨rfl, rfl, rfl⟩ := hcs
      exact ⟨[], .inl ⟨rfl, rfl, rfl, rfl⟩⟩
    · simp [Value.cells] at hcs
      obtain ⟨rfl, rfl, rfl⟩ := hcs
      exact ⟨zs, .inr ⟨_, rfl, hl, hm, by simpa using hz, hcell, hwz⟩⟩
  clear hA0 hval0
  refine (walk a0 len0 cap0 z0 W w0).mono fun e W' ⟨he, bel⟩ => ?_
  subst he
  exact ⟨_, rfl, _, _, _, [], _, [], hW', trodAll_mk1 (shut_bool Try.underlying4 _), (trodAll_cons_mk (Below.trod laidOut (by kernel_rfl) (of_decide_eq_true (by kernel_rfl)) k0 bel lt0) trodAll_mk0), rfl, bel.frame _, fun h => by cases h⟩

theorem over : Rows.coilsToldRow.holds Try.pinned (OpenSpec.ofChange Rows.coilsToldSpec) :=
  OpenClaim.holds_of_wide 9 Try.f9 rfl rfl rfl rfl rfl rfl rfl ⟨rfl, rfl, rfl, rfl, rfl⟩ rfl rfl rfl rfl rfl (by kernel_rfl) Try.func9 (by kernel_rfl)
    (of_decide_eq_true (by kernel_rfl)) (by unfold Func.isWrapper; first | (rw [if_pos (by decide +kernel)]; kernel_rfl) | (rw [if_neg (by decide +kernel)]; exact ⟨rfl, rfl⟩))
    (fun os started H enc _ => lifted os started H enc)

/-- ████ THE STATEMENT ████ -/
theorem proved : Rows.CoilsToldSaid := over
#print axioms proved
end Go.Proofs.Ytgacfocbdeohaaa.coilsTold
