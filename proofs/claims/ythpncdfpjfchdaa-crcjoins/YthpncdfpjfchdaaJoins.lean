/-
  Proved: for every input the law CrcJoins answers true, and each argument reads behind the call as it read before.
  Conditions: none (the statement Rows.CrcJoinsSaid as it is given).
-/
import Derived.Test.YthpncdfpjfchdaaRows
import Derived.WalkKit
import Derived.ProofKit
import Derived.OpenShut
import Derived.ShutString
import Derived.ChangeOld
import Derived.Below
import Derived.Test.YthpncdfpjfchdaaAwake
import Derived.Test.YthpncdfpjfchdaaApp
namespace Go.Proofs.Ythpncdfpjfchdaa.crcJoins
open Go.ChangeShapes Go.WideShapes Go.ChangeAt Go.RowKit
open Go.ChangeMaps (open_string shut_string)
set_option linter.unusedVariables false

open Crc
theorem joins_eq (xs : List UInt8) : isB (xs ++ two (thenN 65535 xs)) = true := by
  rw [isB_iff _ (by simp [two]), own_zero]; rfl
theorem own : ownKnob Try.prog.godebug = none := by kernel_rfl
theorem laidOut : laidOutB Try.prog = true := by kernel_rfl

/-- WHAT THE WALK IS TOLD OF A SLICE OF INTEGERS THAT CAME IN: it is nil; or it leads to a row of 'cap' cells, the numbers 'zs' (the first 'len' are its elements, the rest its spare room), each fitting its kind. -/
def IsRow (k : IntKind) (w : World) (a : Option Addr) (len cap : Nat) (zs : List Int) : Prop :=
  (a = none ∧ len = 0 ∧ cap = 0 ∧ zs = []) ∨
  ∃ x, a = some x ∧ len ≤ cap ∧ cap ≤ maxLen ∧ zs.length = cap ∧ (∀ i, i < zs.length → w.cell? (x.add i) = some (.int k (zs.getD i 0))) ∧ ∀ n ∈ zs, (Lit.int k n).wf = true

/-! ### STEP 1: THE WALK: the Go text returns true, AND WRITES NOTHING THAT WAS THERE: 'Below w.heap.size w w'' (Derived/Below.lean: '.refl', '.alloc', '.drew', '.setCell' at a new block, '.trans'). Open each 'IsRow' by 'rcases' AHEAD of 'go_enter'; part every test ahead of the walk. -/
set_option maxHeartbeats 2000000 in
theorem walk (a0 : Option Addr) (len0 cap0 : Nat) (z0 : List Int) (a1 : Option Addr) (len1 cap1 : Nat) (z1 : List Int) (a2 : Int) (w : World) (w0 : IsRow .u8 w a0 len0 cap0 z0) (w1 : IsRow .u8 w a1 len1 cap1 z1) (w2 : (Lit.int .u16 a2).wf = true) :
    Calls Try.prog 4 #[.slice a0 len0 cap0, .slice a1 len1 cap1, .int .u16 a2] w fun e w' => e = .returned (.bool true) ∧ Below w.heap.size w w' := by
  obtain ⟨xs, hx⟩ := Bs.ofRow w0
  obtain ⟨ys, hy⟩ := Bs.ofRow w1
  obtain ⟨s, rfl, hs⟩ : ∃ s : Nat, a2 = s ∧ s < 65536 := nat_u16 w2
  have hm := hx.hle
  have hm2 := hx.hmax
  have hm3 := hy.hle
  have hm4 := hy.hmax
  unfold maxLen at hm2 hm4
  go_enter Try.func4, Try.ntmps4
  go_wp2_with fail
  refine (awake_any w).mono ?_
  rintro e w1 ⟨rfl, hb1⟩
  by_cases hbig : 300 < len0
  · go_wp2
    go_ret
    exact ⟨rfl, hb1⟩
  by_cases hbig2 : 300 < len1
  · go_wp2
    go_ret
    exact ⟨rfl, hb1⟩
  have hx1 := hx.mono hb1
  have hy1 := hy.mono hb1
  have hl0 : len0 ≤ 300 := by omega
  have hl1 : len1 ≤ 300 := by omega
  go_wp2_with (at_builtin; refine app (by rfl) _ _ rfl w1.heap.size rfl (Own.empty _ _ _) rfl (hx1.alloc _) (by omega) (by simp) ?_)
  intro p1 c1 w2 ho2 hb2
  replace hb2 := ((Below.refl w1.heap.size w1).alloc (Nat.le_refl _) _).trans hb2
  have hx2 := hx1.mono hb2
  have hy2 := hy1.mono hb2
  go_wp2_with (at_builtin; refine app (by rfl) _ _ rfl w1.heap.size rfl ho2 rfl hy2 (by omega) hb2.size ?_)
  intro p2 c2 w3 ho3 hb3
  replace hb3 := hb2.trans hb3
  clear hb2 ho2 hx2 hy2
  have hx3 := hx1.mono hb3
  have hy3 := hy1.mono hb3
  go_wp2_with (at_builtin; refine app (by rfl) _ _ rfl w3.heap.size rfl (Own.empty _ _ _) rfl (hx3.alloc _) (by omega) (by simp) ?_)
  intro p4 c4 w4 ho4 hb4
  replace hb4 := ((Below.refl w3.heap.size w3).alloc (Nat.le_refl _) _).trans hb4
  have hx4 := hx3.mono hb4
  go_wp2_with fail
  refine (of_any _ _ _ xs _ hx4).mono ?_
  rintro e w5 ⟨rfl, hb5⟩
  go_wp2_with fail
  refine (two_any _ (thenN_lt _ _ (by omega)) _).mono ?_
  rintro e w6 ⟨p6, rfl, hs6, hb6⟩
  have ho6 := (ho4.mono hb5).mono hb6
  have hsz6 : w3.heap.size ≤ w6.heap.size := Nat.le_trans hb4.size (Nat.le_trans hb5.size hb6.size)
  go_wp2_with (at_builtin; refine app (by rfl) _ _ rfl w3.heap.size rfl ho6 rfl hs6 (by omega) hsz6 ?_)
  intro p7 c7 w7 ho7 hb7
  replace hb7 := (hb4.trans ((hb5.mono hb4.size).trans ((hb6.mono (Nat.le_trans hb4.size hb5.size)).trans hb7)))
  clear hb4 hb5 hb6 hs6 ho6 ho4 hx4
  have ha7 := ho3.sl.mono hb7
  have hx7 := hx3.mono hb7
  have hy7 := hy3.mono hb7
  have hr1 := thenN_lt 65535 xs (by omega)
  have hr2 := thenN_lt s xs hs
  go_wp2_with fail
  refine (of_any _ _ _ _ _ ha7).mono ?_
  rintro e w8 ⟨rfl, hb8⟩
  rw [thenN_append]
  go_wp2_with fail
  refine (of_any _ _ _ _ _ (hx7.mono hb8)).mono ?_
  rintro e w9 ⟨rfl, hb9⟩
  go_wp2_with fail
  refine (then_any _ _ _ _ hr1 _ _ ((hy7.mono hb8).mono hb9)).mono ?_
  rintro e w10 ⟨rfl, hb10⟩
  replace hb10 := below_next (below_next hb8 hb9 (Nat.le_refl _)) hb10 (Nat.le_refl _)
  go_wp2_with fail
  refine (then_any _ _ _ s hs _ _ (ha7.mono hb10)).mono ?_
  rintro e w11 ⟨rfl, hb11⟩
  rw [thenN_append]
  replace hb11 := below_next hb10 hb11 (Nat.le_refl _)
  go_wp2_with fail
  refine (then_any _ _ _ s hs _ _ (hx7.mono hb11)).mono ?_
  rintro e w12 ⟨rfl, hb12⟩
  replace hb12 := below_next hb11 hb12 (Nat.le_refl _)
  go_wp2_with fail
  refine (then_any _ _ _ _ hr2 _ _ (hy7.mono hb12)).mono ?_
  rintro e w13 ⟨rfl, hb13⟩
  replace hb13 := below_next hb12 hb13 (Nat.le_refl _)
  go_wp2_with fail
  refine (of_any _ _ _ _ _ (ho7.sl.mono hb13)).mono ?_
  rintro e w14 ⟨rfl, hb14⟩
  rw [own_zero]
  replace hb14 := below_next hb13 hb14 (Nat.le_refl _)
  go_wp2_with fail
  refine (is_any _ _ _ _ _ (ho7.sl.mono hb14)).mono ?_
  rintro e w15 ⟨rfl, hb15⟩
  rw [joins_eq]
  replace hb15 := below_next hb14 hb15 (Nat.le_refl _)
  go_wp2
  go_ret
  exact ⟨rfl, below_next (below_next (below_next hb1 hb3 (Nat.le_refl _)) hb7 (Nat.le_refl _)) hb15 (Nat.le_refl _)⟩

/-! ### THE ROW's STEP: WRITTEN OUT: LEAVE IT -/
set_option maxRecDepth 100000 in
theorem lifted (os : Os) (started : os.Started) (H : Type) (enc : TypeId × Value → H) :
    ReturnsInHanded {} Try.checked os 4 .any (Rows.crcJoinsSpec.pre6 enc Try.prog Try.f4 Rows.crcJoinsRow.domain false) (Rows.crcJoinsSpec.post enc Try.prog Try.f4 false true false false) := by
  refine returnsInHanded_of_change (C := Try.checked) own started (by kernel_rfl) Try.func4
    (ChangeSpec.witness6 (enc := enc) (C := Try.checked) false ⟨#[], #[.slice none 0 0, .slice none 0 0, .int .u16 0], []⟩ 8 (by kernel_rfl) (by kernel_rfl) (by kernel_rfl) (by kernel_rfl)) ?_
  intro W base args ds gs before hval0 hW hcnd _
  have hval : ∀ (j : Nat) t v, Try.f4.params[j]? = some t → args[j]? = some v → Value.okWide Try.prog W .any base t v := hval0
  have hW' := hW
  obtain ⟨p, q, hA0, hV, rfl, hfz, hnd⟩ := hW
  have hA : DataW.TrodAll enc Try.prog W 0 (fun _ => true) true Try.f4.params.toList args.toList ds p := hA0
  rw [Try.params4] at hA hval
  obtain ⟨v0, vs0, d0, ds0, p0, q0, hargs, rfl, rfl, h0, r0⟩ := trodAll_cons hA
  obtain ⟨v1, vs1, d1, ds1, p1, q1, rfl, rfl, rfl, h1, r1⟩ := trodAll_cons r0
  obtain ⟨v2, vs2, d2, ds2, p2, q2, rfl, rfl, rfl, h2, r2⟩ := trodAll_cons r1
  obtain ⟨rfl, rfl, rfl⟩ := trodAll_nil r2
  obtain rfl : args = #[v0, v1, v2] := by cases args; simp_all
  obtain ⟨rfl, rfl⟩ := trodVars_none hV
  obtain ⟨a0, len0, cap0, rfl⟩ := okWide_slice Try.underlying22 (hval 0 22 v0 rfl rfl)
  have k0 := h0
  have lt0 : ∀ x ∈ p0, x.block < W.heap.size := by obtain ⟨m, hm⟩ := k0; exact DataW.trod_lt m _ _ _ hm
  obtain ⟨z0, w0⟩ : ∃ zs, IsRow .u8 W a0 len0 cap0 zs := by
    obtain ⟨fuel, hf⟩ := h0
    rcases open_ints Try.underlying22 Try.underlying5 (by kernel_rfl) hf with ⟨hcs, _⟩ | ⟨x, l, c, zs, hcs, _, hl, hm, hz, _, hcell, hwz⟩
    · simp [Value.cells] at hcs
      obtain ⟨rfl, rfl, rfl⟩ := hcs
      exact ⟨[], .inl ⟨rfl, rfl, rfl, rfl⟩⟩
    · simp [Value.cells] at hcs
      obtain ⟨rfl, rfl, rfl⟩ := hcs
      exact ⟨zs, .inr ⟨_, rfl, hl, hm, by simpa using hz, hcell, hwz⟩⟩
  obtain ⟨a1, len1, cap1, rfl⟩ := okWide_slice Try.underlying22 (hval 1 22 v1 rfl rfl)
  have k1 := h1
  have lt1 : ∀ x ∈ p1, x.block < W.heap.size := by obtain ⟨m, hm⟩ := k1; exact DataW.trod_lt m _ _ _ hm
  obtain ⟨z1, w1⟩ : ∃ zs, IsRow .u8 W a1 len1 cap1 zs := by
    obtain ⟨fuel, hf⟩ := h1
    rcases open_ints Try.underlying22 Try.underlying5 (by kernel_rfl) hf with ⟨hcs, _⟩ | ⟨x, l, c, zs, hcs, _, hl, hm, hz, _, hcell, hwz⟩
    · simp [Value.cells] at hcs
      obtain ⟨rfl, rfl, rfl⟩ := hcs
      exact ⟨[], .inl ⟨rfl, rfl, rfl, rfl⟩⟩
    · simp [Value.cells] at hcs
      obtain ⟨rfl, rfl, rfl⟩ := hcs
      exact ⟨zs, .inr ⟨_, rfl, hl, hm, by simpa using hz, hcell, hwz⟩⟩
  obtain ⟨a2, rfl, rfl, rfl, w2⟩ := open_int Try.underlying23 (hval 2 23 v2 rfl rfl) h2
  clear hA0 hval0
  refine (walk a0 len0 cap0 z0 a1 len1 cap1 z1 a2 W w0 w1 w2).mono fun e W' ⟨he, bel⟩ => ?_
  subst he
  exact ⟨_, rfl, _, _, _, [], _, [], hW', trodAll_mk1 (shut_bool Try.underlying4 _), (trodAll_cons_mk (Below.trod laidOut (by kernel_rfl) (of_decide_eq_true (by kernel_rfl)) k0 bel lt0) (trodAll_cons_mk (Below.trod laidOut (by kernel_rfl) (of_decide_eq_true (by kernel_rfl)) k1 bel lt1) (trodAll_cons_mk (shut_int Try.underlying23 w2) trodAll_mk0))), rfl, bel.frame _, fun h => by cases h⟩

theorem over : Rows.crcJoinsRow.holds Try.pinned (OpenSpec.ofChange Rows.crcJoinsSpec) :=
  OpenClaim.holds_of_wide 4 Try.f4 rfl rfl rfl rfl rfl rfl rfl ⟨rfl, rfl, rfl, rfl, rfl⟩ rfl rfl rfl rfl rfl (by kernel_rfl) Try.func4 (by kernel_rfl)
    (of_decide_eq_true (by kernel_rfl)) (by unfold Func.isWrapper; first | (rw [if_pos (by decide +kernel)]; kernel_rfl) | (rw [if_neg (by decide +kernel)]; exact ⟨rfl, rfl⟩))
    (fun os started H enc _ => lifted os started H enc)

/-- ████ THE STATEMENT ████ -/
theorem proved : Rows.CrcJoinsSaid := over
#print axioms proved
end Go.Proofs.Ythpncdfpjfchdaa.crcJoins
