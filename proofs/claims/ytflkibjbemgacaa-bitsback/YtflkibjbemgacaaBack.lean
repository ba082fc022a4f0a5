/-
  Proved: for every input the law BitsBack answers true, and each argument reads behind the call as it read before.
  Conditions: none (the statement Rows.BitsBackSaid as it is given).
-/
import Derived.Test.YtflkibjbemgacaaRows
import Derived.WalkKit
import Derived.ProofKit
import Derived.OpenShut
import Derived.ShutString
import Derived.ChangeOld
import Derived.Below
import Derived.Test.YtflkibjbemgacaaBitAwake
namespace Go.Proofs.Ytflkibjbemgacaa.bitsBack
open Go.ChangeShapes Go.WideShapes Go.ChangeAt Go.RowKit
open Go.ChangeMaps (open_string shut_string)
set_option linter.unusedVariables false

open Bits
theorem good_many {xs : List UInt8} {n : Nat} (h : good xs n = true) : (xs.length : Int) = manyI n := by
  unfold good at h
  simp only [Bool.and_eq_true, decide_eq_true_eq] at h
  exact h.1.2
theorem outU_len {xs : List UInt8} {n : Nat} (h : good xs n = true) : (outU xs n).length = n := by
  unfold outU
  rw [if_pos h, unpackL_length]; simp
theorem own : ownKnob Try.prog.godebug = none := by kernel_rfl
theorem laidOut : laidOutB Try.prog = true := by kernel_rfl

/-- WHAT THE WALK IS TOLD OF A SLICE OF INTEGERS THAT CAME IN: it is nil; or it leads to a row of 'cap' cells, the numbers 'zs' (the first 'len' are its elements, the rest its spare room), each fitting its kind. -/
def IsRow (k : IntKind) (w : World) (a : Option Addr) (len cap : Nat) (zs : List Int) : Prop :=
  (a = none ∧ len = 0 ∧ cap = 0 ∧ zs = []) ∨
  ∃ x, a = some x ∧ len ≤ cap ∧ cap ≤ maxLen ∧ zs.length = cap ∧ (∀ i, i < zs.length → w.cell? (x.add i) = some (.int k (zs.getD i 0))) ∧ ∀ n ∈ zs, (Lit.int k n).wf = true

/-! ### STEP 1: THE WALK: the Go text returns true, AND WRITES NOTHING THAT WAS THERE: 'Below w.heap.size w w'' (Derived/Below.lean: '.refl', '.alloc', '.drew', '.setCell' at a new block, '.trans'). Open each 'IsRow' by 'rcases' AHEAD of 'go_enter'; part every test ahead of the walk. -/
set_option maxHeartbeats 2000000 in
theorem walk (a0 : Option Addr) (len0 cap0 : Nat) (z0 : List Bool) (a1 : Int) (w : World) (w0 : Ls w a0 len0 cap0 z0) (w1 : (Lit.int .u16 a1).wf = true) :
    Calls Try.prog 4 #[.slice a0 len0 cap0, .int .u16 a1] w fun e w' => e = .returned (.bool true) ∧ Below w.heap.size w w' := by
  obtain ⟨n, rfl, hn16⟩ : ∃ s : Nat, a1 = s ∧ s < 65536 := nat_u16 w1
  have hx := w0
  have hm := hx.hle
  have hm2 := hx.hmax
  unfold maxLen at hm2
  have HL := hide hx.hlen
  clear w0 w1
  go_enter Try.func4, Try.ntmps4
  go_wp2_with fail
  refine (awake_any w).mono ?_
  rintro e w1 ⟨rfl, hb1⟩
  by_cases hbig : 300 < len0
  · go_wp2
    go_ret
    exact ⟨rfl, hb1⟩
  have HW : Hid ((Lit.int .i64 (len0 : Int)).wf = true) := hide (by simp [Lit.wf, IntKind.min, IntKind.max, IntKind.bits, IntKind.signed]; omega)
  have HV : Hid ((Lit.int .i64 (n : Int)).wf = true) := hide (by simp [Lit.wf, IntKind.min, IntKind.max, IntKind.bits, IntKind.signed]; omega)
  have hx1 := hx.mono hb1
  clear hx
  go_wp2_with fail
  refine (pack_any _ _ _ _ _ hx1 (by omega)).mono ?_
  rintro e w2 ⟨⟨p2, c2, rfl, ho2⟩, hb2⟩
  have hz2 := ho2.sl
  have hx2 := hx1.mono hb2
  replace hb2 := below_next hb1 hb2 (Nat.le_refl _)
  clear hx1 ho2
  have hM : many len0 ≤ 40 := by unfold many; omega
  have HMI : Hid (manyI len0 = (many len0 : Int)) := hide (manyI_nat _)
  have HPL : Hid ((packB z0).length = many len0) := hide (by rw [packB_length, HL.out])
  have HG : Hid (good (packB z0) len0 = true) := hide (by rw [← HL.out]; exact good_pack z0)
  have HU : Hid (outU (packB z0) len0 = z0) := hide (by rw [← HL.out]; exact outU_pack z0)
  generalize many len0 = M at *
  generalize packB z0 = ps at *
  go_wp2_with fail
  refine (unpack_any _ _ _ _ _ HW.out _ hz2 (by omega)).mono ?_
  rintro e w3 ⟨⟨p3, c3, rfl, hz3⟩, hb3⟩
  rw [HU.out, HL.out] at hz3
  simp only [HU.out, HL.out, HG.out]
  have hx3 := hx2.mono hb3
  have hz23 := hz2.mono hb3
  replace hb3 := below_next hb2 hb3 (Nat.le_refl _)
  clear hx2 hz2
  go_wp2_with fail
  refine (unpack_any _ _ _ _ _ HV.out _ hz23 (by omega)).mono ?_
  rintro e w4 ⟨⟨p4, c4, rfl, hz4⟩, hb4⟩
  have hx4 := hx3.mono hb4
  have hz34 := hz3.mono hb4
  replace hb4 := below_next hb3 hb4 (Nat.le_refl _)
  clear hx3 hz3 hz23 hz4
  by_cases hg : good ps n = true
  · have H1 := hide (good_many hg)
    have H2 := hide (outU_len hg)
    rw [hg, H2.out]
    clear hg
    go_wp2_with fail
    refine (many_any _ HV.out _).mono ?_
    rintro e w5 ⟨rfl, rfl⟩
    rw [← H1.out, HPL.out]
    go_wp2_with fail
    refine (bools_any _ _ _ _ _ _ _ _ _ hz34 hx4).mono ?_
    rintro e w6 ⟨rfl, hb6⟩
    rw [show decide (z0 = z0) = true by simp]
    replace hb6 := below_next hb4 hb6 (Nat.le_refl _)
    go_wp2_with fail
    refine (many_any _ HW.out _).mono ?_
    rintro e w7 ⟨rfl, rfl⟩
    rw [HMI.out]
    go_wp2
    go_ret
    exact ⟨rfl, hb6⟩
  · have hg' : good ps n = false := by simpa using hg
    rw [hg']
    clear hg hg'
    generalize (outU ps n).length = L at *
    go_wp2_with fail
    refine (bools_any _ _ _ _ _ _ _ _ _ hz34 hx4).mono ?_
    rintro e w6 ⟨rfl, hb6⟩
    rw [show decide (z0 = z0) = true by simp]
    replace hb6 := below_next hb4 hb6 (Nat.le_refl _)
    go_wp2_with fail
    refine (many_any _ HW.out _).mono ?_
    rintro e w7 ⟨rfl, rfl⟩
    rw [HMI.out]
    go_wp2
    go_ret
    exact ⟨rfl, hb6⟩

/-! ### THE ROW's STEP: WRITTEN OUT: LEAVE IT -/
set_option maxRecDepth 100000 in
theorem lifted (os : Os) (started : os.Started) (H : Type) (enc : TypeId × Value → H) :
    ReturnsInHanded {} Try.checked os 4 .any (Rows.bitsBackSpec.pre6 enc Try.prog Try.f4 Rows.bitsBackRow.domain false) (Rows.bitsBackSpec.post enc Try.prog Try.f4 false true false false) := by
  refine returnsInHanded_of_change (C := Try.checked) own started (by kernel_rfl) Try.func4
    (ChangeSpec.witness6 (enc := enc) (C := Try.checked) false ⟨#[], #[.slice none 0 0, .int .u16 0], []⟩ 8 (by kernel_rfl) (by kernel_rfl) (by kernel_rfl) (by kernel_rfl)) ?_
  intro W base args ds gs before hval0 hW hcnd _
  have hval : ∀ (j : Nat) t v, Try.f4.params[j]? = some t → args[j]? = some v → Value.okWide Try.prog W .any base t v := hval0
  have hW' := hW
  obtain ⟨p, q, hA0, hV, rfl, hfz, hnd⟩ := hW
  have hA : DataW.TrodAll enc Try.prog W 0 (fun _ => true) true Try.f4.params.toList args.toList ds p := hA0
  rw [Try.params4] at hA hval
  obtain ⟨v0, vs0, d0, ds0, p0, q0, hargs, rfl, rfl, h0, r0⟩ := trodAll_cons hA
  obtain ⟨v1, vs1, d1, ds1, p1, q1, rfl, rfl, rfl, h1, r1⟩ := trodAll_cons r0
  obtain ⟨rfl, rfl, rfl⟩ := trodAll_nil r1
  obtain rfl : args = #[v0, v1] := by cases args; simp_all
  obtain ⟨rfl, rfl⟩ := trodVars_none hV
  obtain ⟨a0, len0, cap0, rfl⟩ := okWide_slice Try.underlying22 (hval 0 22 v0 rfl rfl)
  have k0 := h0
  have lt0 : ∀ x ∈ p0, x.block < W.heap.size := by obtain ⟨m, hm⟩ := k0; exact DataW.trod_lt m _ _ _ hm
  obtain ⟨z0, w0⟩ : ∃ zs, Ls W a0 len0 cap0 zs := by
    obtain ⟨fuel, hf⟩ := h0
    rcases Go.Deep.open_bools Try.underlying22 Try.underlying4 (by kernel_rfl) hf with ⟨hcs, _⟩ | ⟨x, l, c, zs, hcs, _, hl, hm, _, hcell⟩
    · simp [Value.cells] at hcs
      obtain ⟨rfl, rfl, rfl⟩ := hcs
      exact ⟨[], Ls.ofNone _⟩
    · simp [Value.cells] at hcs
      obtain ⟨rfl, rfl, rfl⟩ := hcs
      exact ⟨_, Ls.ofCells hl hm hcell⟩
  obtain ⟨a1, rfl, rfl, rfl, w1⟩ := open_int Try.underlying32 (hval 1 32 v1 rfl rfl) h1
  clear hA0 hval0
  refine (walk a0 len0 cap0 z0 a1 W w0 w1).mono fun e W' ⟨he, bel⟩ => ?_
  subst he
  exact ⟨_, rfl, _, _, _, [], _, [], hW', trodAll_mk1 (shut_bool Try.underlying4 _), (trodAll_cons_mk (Below.trod laidOut (by kernel_rfl) (of_decide_eq_true (by kernel_rfl)) k0 bel lt0) (trodAll_cons_mk (shut_int Try.underlying32 w1) trodAll_mk0)), rfl, bel.frame _, fun h => by cases h⟩

theorem over : Rows.bitsBackRow.holds Try.pinned (OpenSpec.ofChange Rows.bitsBackSpec) :=
  OpenClaim.holds_of_wide 4 Try.f4 rfl rfl rfl rfl rfl rfl rfl ⟨rfl, rfl, rfl, rfl, rfl⟩ rfl rfl rfl rfl rfl (by kernel_rfl) Try.func4 (by kernel_rfl)
    (of_decide_eq_true (by kernel_rfl)) (by unfold Func.isWrapper; first | (rw [if_pos (by decide +kernel)]; kernel_rfl) | (rw [if_neg (by decide +kernel)]; exact ⟨rfl, rfl⟩))
    (fun os started H enc _ => lifted os started H enc)

/-- ████ THE STATEMENT ████ -/
theorem proved : Rows.BitsBackSaid := over
#print axioms proved
end Go.Proofs.Ytflkibjbemgacaa.bitsBack
