/-
  Proved: for every input the law LrcOrder answers true, and each argument reads behind the call as it read before.
  Conditions: none (the statement Rows.LrcOrderSaid as it is given).
-/
import Derived.Test.YtgkifohjjapifaaRows
import Derived.WalkKit
import Derived.ProofKit
import Derived.OpenShut
import Derived.ShutString
import Derived.ChangeOld
import Derived.Below
import Derived.Test.YtgkifohjjapifaaLrcAwake
namespace Go.Proofs.Ytgkifohjjapifaa.lrcOrder
open Go.ChangeShapes Go.WideShapes Go.ChangeAt Go.RowKit
open Go.ChangeMaps (open_string shut_string)
set_option linter.unusedVariables false

open Lrc
theorem order_eq (xs ys : List UInt8) : ofN (xs ++ ys) = (ofN xs + ofN ys) % 256 ∧ ofN (ys ++ xs) = ofN (xs ++ ys) := by
  unfold ofN; rw [tot_append, tot_append]; omega
theorem own : ownKnob Try.prog.godebug = none := by kernel_rfl
theorem laidOut : laidOutB Try.prog = true := by kernel_rfl

/-- WHAT THE WALK IS TOLD OF A SLICE OF INTEGERS THAT CAME IN: it is nil; or it leads to a row of 'cap' cells, the numbers 'zs' (the first 'len' are its elements, the rest its spare room), each fitting its kind. -/
def IsRow (k : IntKind) (w : World) (a : Option Addr) (len cap : Nat) (zs : List Int) : Prop :=
  (a = none ∧ len = 0 ∧ cap = 0 ∧ zs = []) ∨
  ∃ x, a = some x ∧ len ≤ cap ∧ cap ≤ maxLen ∧ zs.length = cap ∧ (∀ i, i < zs.length → w.cell? (x.add i) = some (.int k (zs.getD i 0))) ∧ ∀ n ∈ zs, (Lit.int k n).wf = true

/-! ### STEP 1: THE WALK: the Go text returns true, AND WRITES NOTHING THAT WAS THERE: 'Below w.heap.size w w'' (Derived/Below.lean: '.refl', '.alloc', '.drew', '.setCell' at a new block, '.trans'). Open each 'IsRow' by 'rcases' AHEAD of 'go_enter'; part every test ahead of the walk. -/
set_option maxHeartbeats 2000000 in
theorem walk (a0 : Option Addr) (len0 cap0 : Nat) (z0 : List Int) (a1 : Option Addr) (len1 cap1 : Nat) (z1 : List Int) (w : World) (w0 : IsRow .u8 w a0 len0 cap0 z0) (w1 : IsRow .u8 w a1 len1 cap1 z1) :
    Calls Try.prog 5 #[.slice a0 len0 cap0, .slice a1 len1 cap1] w fun e w' => e = .returned (.bool true) ∧ Below w.heap.size w w' := by
  obtain ⟨xs, hx⟩ := Bs.ofRow w0
  obtain ⟨ys, hy⟩ := Bs.ofRow w1
  have hm := hx.hle
  have hm2 := hx.hmax
  have hn := hy.hle
  have hn2 := hy.hmax
  unfold maxLen at hm2 hn2
  go_enter Try.func5, Try.ntmps5
  go_wp2_with fail
  refine (awake_any w).mono ?_
  rintro e w1 ⟨rfl, hb1⟩
  by_cases hbig : 300 < len0
  · go_wp2
    go_ret
    exact ⟨rfl, hb1⟩
  by_cases hbig1 : 300 < len1
  · go_wp2
    go_ret
    exact ⟨rfl, hb1⟩
  have hx1 := hx.mono hb1
  have hy1 := hy.mono hb1
  have hl0 : len0 ≤ 300 := by omega
  have hl1 : len1 ≤ 300 := by omega
  have HE := hide (order_eq xs ys)
  go_wp2_with (at_builtin; refine app (by rfl) _ _ rfl w1.heap.size rfl (Own.empty _ _ _) rfl (hx1.alloc _) (by omega) (by simp) ?_)
  intro p2 c2 w2 ho2 hb2
  replace hb2 := ((Below.refl w1.heap.size w1).alloc (Nat.le_refl _) _).trans hb2
  have hy2 := hy1.mono hb2
  go_wp2_with (at_builtin; refine app (by rfl) _ _ rfl w1.heap.size rfl ho2 rfl hy2 (by omega) hb2.size ?_)
  intro p3 c3 w3 ho3 hb3
  replace hb3 := hb2.trans hb3
  clear ho2 hy2 hb2
  have hx3 := hx1.mono hb3
  have hy3 := hy1.mono hb3
  go_wp2_with (at_builtin; refine app (by rfl) _ _ rfl w3.heap.size rfl (Own.empty _ _ _) rfl (hy3.alloc _) (by omega) (by simp) ?_)
  intro p4 c4 w4 ho4 hb4
  replace hb4 := ((Below.refl w3.heap.size w3).alloc (Nat.le_refl _) _).trans hb4
  have hx4 := hx3.mono hb4
  go_wp2_with (at_builtin; refine app (by rfl) _ _ rfl w3.heap.size rfl ho4 rfl hx4 (by omega) hb4.size ?_)
  intro p5 c5 w5 ho5 hb5
  replace hb5 := hb4.trans hb5
  have hx5 := hx3.mono hb5
  have hy5 := hy3.mono hb5
  have ho3' := ho3.sl.mono hb5
  clear ho4 hx4 hb4 ho3
  go_wp2_with fail
  refine (of_any _ _ _ _ _ ho3').mono ?_
  rintro e w6 ⟨rfl, hb6⟩
  go_wp2_with fail
  refine (of_any _ _ _ _ _ (ho5.sl.mono hb6)).mono ?_
  rintro e w7 ⟨rfl, hb7⟩
  simp only [HE.out.2]
  go_wp2_with fail
  refine (of_any _ _ _ _ _ ((ho3'.mono hb6).mono hb7)).mono ?_
  rintro e w8 ⟨rfl, hb8⟩
  go_wp2_with fail
  refine (of_any _ _ _ _ _ (((hx5.mono hb6).mono hb7).mono hb8)).mono ?_
  rintro e w9 ⟨rfl, hb9⟩
  go_wp2_with fail
  refine (of_any _ _ _ _ _ ((((hy5.mono hb6).mono hb7).mono hb8).mono hb9)).mono ?_
  rintro e w10 ⟨rfl, hb10⟩
  simp only [HE.out.1]
  go_wp2
  go_ret
  exact ⟨ret_bool (by simp), below_next (below_next (below_next (below_next (below_next (below_next (below_next hb1 hb3 (Nat.le_refl _)) hb5 (Nat.le_refl _)) hb6 (Nat.le_refl _)) hb7 (Nat.le_refl _)) hb8 (Nat.le_refl _)) hb9 (Nat.le_refl _)) hb10 (Nat.le_refl _)⟩

/-! ### THE ROW's STEP: WRITTEN OUT: LEAVE IT -/
set_option maxRecDepth 100000 in
theorem lifted (os : Os) (started : os.Started) (H : Type) (enc : TypeId × Value → H) :
    ReturnsInHanded {} Try.checked os 5 .any (Rows.lrcOrderSpec.pre6 enc Try.prog Try.f5 Rows.lrcOrderRow.domain false) (Rows.lrcOrderSpec.post enc Try.prog Try.f5 false true false false) := by
  refine returnsInHanded_of_change (C := Try.checked) own started (by kernel_rfl) Try.func5
    (ChangeSpec.witness6 (enc := enc) (C := Try.checked) false ⟨#[], #[.slice none 0 0, .slice none 0 0], []⟩ 8 (by kernel_rfl) (by kernel_rfl) (by kernel_rfl) (by kernel_rfl)) ?_
  intro W base args ds gs before hval0 hW hcnd _
  have hval : ∀ (j : Nat) t v, Try.f5.params[j]? = some t → args[j]? = some v → Value.okWide Try.prog W .any base t v := hval0
  have hW' := hW
  obtain ⟨p, q, hA0, hV, rfl, hfz, hnd⟩ := hW
  have hA : DataW.TrodAll enc Try.prog W 0 (fun _ => true) true Try.f5.params.toList args.toList ds p := hA0
  rw [Try.params5] at hA hval
  obtain ⟨v0, vs0, d0, ds0, p0, q0, hargs, rfl, rfl, h0, r0⟩ := trodAll_cons hA
  obtain ⟨v1, vs1, d1, ds1, p1, q1, rfl, rfl, rfl, h1, r1⟩ := trodAll_cons r0
  obtain ⟨rfl, rfl, rfl⟩ := trodAll_nil r1
  obtain rfl : args = #[v0, v1] := by cases args; simp_all
  obtain ⟨rfl, rfl⟩ := trodVars_none hV
  obtain ⟨a0, len0, cap0, rfl⟩ := okWide_slice Try.underlying22 (hval 0 22 v0 rfl rfl)
  have k0 := h0
  have lt0 : ∀ x ∈ p0, x.block < W.heap.size := by obtain ⟨m, hm⟩ := k0; exact DataW.trod_lt m _ _ _ hm
  obtain ⟨z0, w0⟩ : ∃ zs, IsRow .u8 W a0 len0 cap0 zs := by
    obtain ⟨fuel, hf⟩ := h0
    rcases open_ints Try.underlying22 Try.underlying5 (by kernel_rfl) hf with ⟨hcs, _⟩ | ⟨x, l, c, zs, hcs, _, hl, hm, hz, _, hcell, hwz⟩
    · simp [Value.cells] at hcs
      obtain ⟨rfl, rfl, rfl⟩ := hcs
      exact ⟨[], .inl ⟨rfl, rfl, rfl, rfl⟩⟩
    · simp [Value.cells] at hcs
      obtain ⟨rfl, rfl, rfl⟩ := hcs
      exact ⟨zs, .inr ⟨_, rfl, hl, hm, by simpa using hz, hcell, hwz⟩⟩
  obtain ⟨a1, len1, cap1, rfl⟩ := okWide_slice Try.underlying22 (hval 1 22 v1 rfl rfl)
  have k1 := h1
  have lt1 : ∀ x ∈ p1, x.block < W.heap.size := by obtain ⟨m, hm⟩ := k1; exact DataW.trod_lt m _ _ _ hm
  obtain ⟨z1, w1⟩ : ∃ zs, IsRow .u8 W a1 len1 cap1 zs := by
    obtain ⟨fuel, hf⟩ := h1
    rcases open_ints Try.underlying22 Try.underlying5 (by kernel_rfl) hf with ⟨hcs, _⟩ | ⟨x, l, c, zs, hcs, _, hl, hm, hz, _, hcell, hwz⟩
    · simp [Value.cells] at hcs
      obtain ⟨rfl, rfl, rfl⟩ := hcs
      exact ⟨[], .inl ⟨rfl, rfl, rfl, rfl⟩⟩
    · simp [Value.cells] at hcs
      obtain ⟨rfl, rfl, rfl⟩ := hcs
      exact ⟨zs, .inr ⟨_, rfl, hl, hm, by simpa using hz, hcell, hwz⟩⟩
  clear hA0 hval0
  refine (walk a0 len0 cap0 z0 a1 len1 cap1 z1 W w0 w1).mono fun e W' ⟨he, bel⟩ => ?_
  subst he
  exact ⟨_, rfl, _, _, _, [], _, [], hW', trodAll_mk1 (shut_bool Try.underlying4 _), (trodAll_cons_mk (Below.trod laidOut (by kernel_rfl) (of_decide_eq_true (by kernel_rfl)) k0 bel lt0) (trodAll_cons_mk (Below.trod laidOut (by kernel_rfl) (of_decide_eq_true (by kernel_rfl)) k1 bel lt1) trodAll_mk0)), rfl, bel.frame _, fun h => by cases h⟩

theorem over : Rows.lrcOrderRow.holds Try.pinned (OpenSpec.ofChange Rows.lrcOrderSpec) :=
  OpenClaim.holds_of_wide 5 Try.f5 rfl rfl rfl rfl rfl rfl rfl ⟨rfl, rfl, rfl, rfl, rfl⟩ rfl rfl rfl rfl rfl (by kernel_rfl) Try.func5 (by kernel_rfl)
    (of_decide_eq_true (by kernel_rfl)) (by unfold Func.isWrapper; first | (rw [if_pos (by decide +kernel)]; kernel_rfl) | (rw [if_neg (by decide +kernel)]; exact ⟨rfl, rfl⟩))
    (fun os started H enc _ => lifted os started H enc)

/-- ████ THE STATEMENT ████ -/
theorem proved : Rows.LrcOrderSaid := over
#print axioms proved
end Go.Proofs.Ytgkifohjjapifaa.lrcOrder
