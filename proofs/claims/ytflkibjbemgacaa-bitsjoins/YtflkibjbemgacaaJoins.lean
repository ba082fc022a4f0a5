/-
  Proved: for every input the law BitsJoins answers true, and each argument reads behind the call as it read before.
  Conditions: none (the statement Rows.BitsJoinsSaid as it is given).
-/
import Derived.Test.YtflkibjbemgacaaRows
import Derived.WalkKit
import Derived.ProofKit
import Derived.OpenShut
import Derived.ShutString
import Derived.ChangeOld
import Derived.Below
import Derived.Test.YtflkibjbemgacaaBitAwake
namespace Go.Proofs.Ytflkibjbemgacaa.bitsJoins
open Go.ChangeShapes Go.WideShapes Go.ChangeAt Go.RowKit
open Go.ChangeMaps (open_string shut_string)
set_option linter.unusedVariables false

open Bits
theorem own : ownKnob Try.prog.godebug = none := by kernel_rfl
theorem laidOut : laidOutB Try.prog = true := by kernel_rfl

/-- WHAT THE WALK IS TOLD OF A SLICE OF INTEGERS THAT CAME IN: it is nil; or it leads to a row of 'cap' cells, the numbers 'zs' (the first 'len' are its elements, the rest its spare room), each fitting its kind. -/
def IsRow (k : IntKind) (w : World) (a : Option Addr) (len cap : Nat) (zs : List Int) : Prop :=
  (a = none ∧ len = 0 ∧ cap = 0 ∧ zs = []) ∨
  ∃ x, a = some x ∧ len ≤ cap ∧ cap ≤ maxLen ∧ zs.length = cap ∧ (∀ i, i < zs.length → w.cell? (x.add i) = some (.int k (zs.getD i 0))) ∧ ∀ n ∈ zs, (Lit.int k n).wf = true

/-! ### STEP 1: THE WALK: the Go text returns true, AND WRITES NOTHING THAT WAS THERE: 'Below w.heap.size w w'' (Derived/Below.lean: '.refl', '.alloc', '.drew', '.setCell' at a new block, '.trans'). Open each 'IsRow' by 'rcases' AHEAD of 'go_enter'; part every test ahead of the walk. -/
set_option maxHeartbeats 2000000 in
theorem walk (a0 : Option Addr) (len0 cap0 : Nat) (z0 : List Bool) (a1 : Option Addr) (len1 cap1 : Nat) (z1 : List Bool) (w : World) (w0 : Ls w a0 len0 cap0 z0) (w1 : Ls w a1 len1 cap1 z1) :
    Calls Try.prog 6 #[.slice a0 len0 cap0, .slice a1 len1 cap1] w fun e w' => e = .returned (.bool true) ∧ Below w.heap.size w w' := by
  have hx := w0
  have hy := w1
  have hm := hx.hle
  have hm2 := hx.hmax
  have hn := hy.hle
  have hn2 := hy.hmax
  unfold maxLen at hm2 hn2
  have HL := hide hx.hlen
  clear w0 w1
  go_enter Try.func6, Try.ntmps6
  go_wp2_with fail
  refine (awake_any w).mono ?_
  rintro e w1 ⟨rfl, hb1⟩
  by_cases hbig : 300 < len0
  · go_wp2
    go_ret
    exact ⟨rfl, hb1⟩
  by_cases hbig1 : 300 < len1
  · go_wp2
    go_ret
    exact ⟨rfl, hb1⟩
  obtain ⟨q, hq⟩ : ∃ q, q = len0 / 8 := ⟨_, rfl⟩
  have hq1 : 8 * q ≤ len0 := by omega
  have hqi : (len0 : Int) / 8 = (q : Int) := by omega
  have hx1 := (hx.mono hb1).take (8 * q) hq1
  have hy1 := hy.mono hb1
  have HX : Hid ((z0.take (8 * q)).length = 8 * q) := hide (by simp [HL.out]; omega)
  have HJ : Hid (packB (z0.take (8 * q) ++ z1) = packB (z0.take (8 * q)) ++ packB z1) := hide (packB_append _ _ q HX.out)
  clear hx hy hq
  generalize z0.take (8 * q) = xs at *
  have hq2 : 8 * q ≤ cap0 := by omega
  have hq3 : (8 * q : Int) ≤ (cap0 : Int) := by omega
  have hq5 : (q : Int) * 8 = ((8 * q : Nat) : Int) := by omega
  have hq6 : q ≤ 38 := by omega
  have HQ : Hid (many (8 * q) = q) := hide (by unfold many; omega)
  obtain ⟨n, hn0⟩ : ∃ n, n = 8 * q := ⟨_, rfl⟩
  rw [← hn0] at hx1 hq1 hq2 hq5 HX HQ
  have hn3 : (n : Int) ≤ (cap0 : Int) := by omega
  have hn4 : n ≤ 304 := by omega
  have hn5 : (n : Int) / 8 = (q : Int) := by omega
  clear hq3 hn0
  go_wp2_with (at_builtin; refine appL (by rfl) _ _ rfl w1.heap.size rfl (Own.empty _ _ _) rfl (hx1.alloc _) (by omega) (by simp) ?_)
  intro p2 c2 w2 ho2 hb2
  replace hb2 := ((Below.refl w1.heap.size w1).alloc (Nat.le_refl _) _).trans hb2
  have hy2 := hy1.mono hb2
  go_wp2_with (at_builtin; refine appL (by rfl) _ _ rfl w1.heap.size rfl ho2 rfl hy2 (by omega) hb2.size ?_)
  intro p3 c3 w3 ho3 hb3
  replace hb3 := hb2.trans hb3
  clear ho2 hy2 hb2
  have hx3 := hx1.mono hb3
  have hy3 := hy1.mono hb3
  replace hb3 := below_next hb1 hb3 (Nat.le_refl _)
  clear hx1 hy1
  go_wp2_with fail
  refine (pack_any _ _ _ _ _ ho3.sl (by omega)).mono ?_
  rintro e w4 ⟨⟨p4, c4, rfl, hz4⟩, hb4⟩
  have hx4 := hx3.mono hb4
  have hy4 := hy3.mono hb4
  replace hb4 := below_next hb3 hb4 (Nat.le_refl _)
  clear hx3 hy3 ho3
  have hM1 : many len1 ≤ 40 := by unfold many; omega
  generalize many (n + len1) = N at *
  go_wp2_with fail
  refine (pack_any _ _ _ _ _ (hx4.alloc _) (by omega)).mono ?_
  rintro e w5 ⟨⟨p5, c5, rfl, hz5⟩, hb5⟩
  rw [HQ.out] at hz5
  rw [HQ.out]
  replace hb5 := ((Below.refl w4.heap.size w4).alloc (Nat.le_refl _) _).trans (hb5.mono (by simp))
  have hx5 := hx4.mono hb5
  have hy5 := hy4.mono hb5
  have hz45 := hz4.sl.mono hb5
  replace hb5 := below_next hb4 hb5 (Nat.le_refl _)
  clear hx4 hy4 hz4
  go_wp2_with (at_builtin; refine app (by rfl) _ _ rfl w5.heap.size rfl (Own.empty _ _ _) rfl hz5.sl (by omega) (Nat.le_refl _) ?_)
  intro p6 c6 w6 ho6 hb6
  have hy6 := hy5.mono hb6
  have hs6 := hb6.size
  clear hy5 hz5
  go_wp2_with fail
  refine (pack_any _ _ _ _ _ hy6 (by omega)).mono ?_
  rintro e w7 ⟨⟨p7, c7, rfl, hz7⟩, hb7⟩
  have ho7 := ho6.mono hb7
  have hs7 := Nat.le_trans hs6 hb7.size
  replace hb7 := below_next hb6 hb7 (Nat.le_refl _)
  clear hy6 ho6 hb6
  generalize many len1 = M1 at *
  go_wp2_with (at_builtin; refine app (by rfl) _ _ rfl w5.heap.size rfl ho7 rfl hz7.sl (by omega) hs7 ?_)
  intro p8 c8 w8 ho8 hb8
  replace hb8 := hb7.trans hb8
  have hx8 := hx5.mono hb8
  have hz8 := hz45.mono hb8
  replace hb8 := below_next hb5 hb8 (Nat.le_refl _)
  clear hx5 hz45 hb7 ho7 hz7
  go_wp2_with fail
  refine (same_any _ _ _ _ _ _ _ _ _ hz8 ho8.sl).mono ?_
  rintro e w9 ⟨rfl, rfl⟩
  rw [HJ.out, show decide (packB xs ++ packB z1 = packB xs ++ packB z1) = true by simp]
  go_wp2_with fail
  refine (pack_any _ _ _ _ _ hx8 (by omega)).mono ?_
  rintro e w10 ⟨⟨p10, c10, rfl, hz10⟩, hb10⟩
  rw [HQ.out]
  replace hb10 := below_next hb8 hb10 (Nat.le_refl _)
  clear hz10 hx8 hz8 ho8
  go_wp2
  go_ret
  exact ⟨rfl, hb10⟩

/-! ### THE ROW's STEP: WRITTEN OUT: LEAVE IT -/
set_option maxRecDepth 100000 in
theorem lifted (os : Os) (started : os.Started) (H : Type) (enc : TypeId × Value → H) :
    ReturnsInHanded {} Try.checked os 6 .any (Rows.bitsJoinsSpec.pre6 enc Try.prog Try.f6 Rows.bitsJoinsRow.domain false) (Rows.bitsJoinsSpec.post enc Try.prog Try.f6 false true false false) := by
  refine returnsInHanded_of_change (C := Try.checked) own started (by kernel_rfl) Try.func6
    (ChangeSpec.witness6 (enc := enc) (C := Try.checked) false ⟨#[], #[.slice none 0 0, .slice none 0 0], []⟩ 8 (by kernel_rfl) (by kernel_rfl) (by kernel_rfl) (by kernel_rfl)) ?_
  intro W base args ds gs before hval0 hW hcnd _
  have hval : ∀ (j : Nat) t v, Try.f6.params[j]? = some t → args[j]? = some v → Value.okWide Try.prog W .any base t v := hval0
  have hW' := hW
  obtain ⟨p, q, hA0, hV, rfl, hfz, hnd⟩ := hW
  have hA : DataW.TrodAll enc Try.prog W 0 (fun _ => true) true Try.f6.params.toList args.toList ds p := hA0
  rw [Try.params6] at hA hval
  obtain ⟨v0, vs0, d0, ds0, p0, q0, hargs, rfl, rfl, h0, r0⟩ := trodAll_cons hA
  obtain ⟨v1, vs1, d1, ds1, p1, q1, rfl, rfl, rfl, h1, r1⟩ := trodAll_cons r0
  obtain ⟨rfl, rfl, rfl⟩ := trodAll_nil r1
  obtain rfl : args = #[v0, v1] := by cases args; simp_all
  obtain ⟨rfl, rfl⟩ := trodVars_none hV
  obtain ⟨a0, len0, cap0, rfl⟩ := okWide_slice Try.underlying22 (hval 0 22 v0 rfl rfl)
  have k0 := h0
  have lt0 : ∀ x ∈ p0, x.block < W.heap.size := by obtain ⟨m, hm⟩ := k0; exact DataW.trod_lt m _ _ _ hm
  obtain ⟨z0, w0⟩ : ∃ zs, Ls W a0 len0 cap0 zs := by
    obtain ⟨fuel, hf⟩ := h0
    rcases Go.Deep.open_bools Try.underlying22 Try.underlying4 (by kernel_rfl) hf with ⟨hcs, _⟩ | ⟨x, l, c, zs, hcs, _, hl, hm, _, hcell⟩
    · simp [Value.cells] at hcs
      obtain ⟨rfl, rfl, rfl⟩ := hcs
      exact ⟨[], Ls.ofNone _⟩
    · simp [Value.cells] at hcs
      obtain ⟨rfl, rfl, rfl⟩ := hcs
      exact ⟨_, Ls.ofCells hl hm hcell⟩
  obtain ⟨a1, len1, cap1, rfl⟩ := okWide_slice Try.underlying22 (hval 1 22 v1 rfl rfl)
  have k1 := h1
  have lt1 : ∀ x ∈ p1, x.block < W.heap.size := by obtain ⟨m, hm⟩ := k1; exact DataW.trod_lt m _ _ _ hm
  obtain ⟨z1, w1⟩ : ∃ zs, Ls W a1 len1 cap1 zs := by
    obtain ⟨fuel, hf⟩ := h1
    rcases Go.Deep.open_bools Try.underlying22 Try.underlying4 (by kernel_rfl) hf with ⟨hcs, _⟩ | ⟨x, l, c, zs, hcs, _, hl, hm, _, hcell⟩
    · simp [Value.cells] at hcs
      obtain ⟨rfl, rfl, rfl⟩ := hcs
      exact ⟨[], Ls.ofNone _⟩
    · simp [Value.cells] at hcs
      obtain ⟨rfl, rfl, rfl⟩ := hcs
      exact ⟨_, Ls.ofCells hl hm hcell⟩
  clear hA0 hval0
  refine (walk a0 len0 cap0 z0 a1 len1 cap1 z1 W w0 w1).mono fun e W' ⟨he, bel⟩ => ?_
  subst he
  exact ⟨_, rfl, _, _, _, [], _, [], hW', trodAll_mk1 (shut_bool Try.underlying4 _), (trodAll_cons_mk (Below.trod laidOut (by kernel_rfl) (of_decide_eq_true (by kernel_rfl)) k0 bel lt0) (trodAll_cons_mk (Below.trod laidOut (by kernel_rfl) (of_decide_eq_true (by kernel_rfl)) k1 bel lt1) trodAll_mk0)), rfl, bel.frame _, fun h => by cases h⟩

theorem over : Rows.bitsJoinsRow.holds Try.pinned (OpenSpec.ofChange Rows.bitsJoinsSpec) :=
  OpenClaim.holds_of_wide 6 Try.f6 rfl rfl rfl rfl rfl rfl rfl ⟨rfl, rfl, rfl, rfl, rfl⟩ rfl rfl rfl rfl rfl (by kernel_rfl) Try.func6 (by kernel_rfl)
    (of_decide_eq_true (by kernel_rfl)) (by unfold Func.isWrapper; first | (rw [if_pos (by decide +kernel)]; kernel_rfl) | (rw [if_neg (by decide +kernel)]; exact ⟨rfl, rfl⟩))
    (fun os started H enc _ => lifted os started H enc)

/-- ████ THE STATEMENT ████ -/
theorem proved : Rows.BitsJoinsSaid := over
#print axioms proved
end Go.Proofs.Ytflkibjbemgacaa.bitsJoins
