/-
  Proved: for every input the law WordBack answers true, and each argument reads behind the call as it read before.
  Conditions: none (the statement Rows.WordBackSaid as it is given).
-/
import Derived.Test.YtaollhpecgeiiaaRows
import Derived.WalkKit
import Derived.ProofKit
import Derived.OpenShut
import Derived.ShutString
import Derived.ChangeOld
import Derived.Below
import Derived.Test.YtaollhpecgeiiaaWordAwake
import Derived.Test.YtaollhpecgeiiaaWordRef
namespace Go.Proofs.Ytaollhpecgeiiaa.wordBack
open Go.ChangeShapes Go.WideShapes Go.ChangeAt Go.RowKit
open Go.ChangeMaps (open_string shut_string)
set_option linter.unusedVariables false

open Word
theorem own : ownKnob Try.prog.godebug = none := by kernel_rfl
theorem laidOut : laidOutB Try.prog = true := by kernel_rfl

/-- WHAT THE WALK IS TOLD OF A SLICE OF INTEGERS THAT CAME IN: it is nil; or it leads to a row of 'cap' cells, the numbers 'zs' (the first 'len' are its elements, the rest its spare room), each fitting its kind. -/
def IsRow (k : IntKind) (w : World) (a : Option Addr) (len cap : Nat) (zs : List Int) : Prop :=
  (a = none ∧ len = 0 ∧ cap = 0 ∧ zs = []) ∨
  ∃ x, a = some x ∧ len ≤ cap ∧ cap ≤ maxLen ∧ zs.length = cap ∧ (∀ i, i < zs.length → w.cell? (x.add i) = some (.int k (zs.getD i 0))) ∧ ∀ n ∈ zs, (Lit.int k n).wf = true

/-! ### STEP 1: THE WALK: the Go text returns true, AND WRITES NOTHING THAT WAS THERE: 'Below w.heap.size w w'' (Derived/Below.lean: '.refl', '.alloc', '.drew', '.setCell' at a new block, '.trans'). Open each 'IsRow' by 'rcases' AHEAD of 'go_enter'; part every test ahead of the walk. -/
set_option maxHeartbeats 2000000 in
theorem walk (a0 : Option Addr) (len0 cap0 : Nat) (z0 : List Int) (a1 : Option Addr) (len1 cap1 : Nat) (z1 : List Int) (w : World) (w0 : IsRow .u16 w a0 len0 cap0 z0) (w1 : IsRow .u8 w a1 len1 cap1 z1) :
    Calls Try.prog 4 #[.slice a0 len0 cap0, .slice a1 len1 cap1] w fun e w' => e = .returned (.bool true) ∧ Below w.heap.size w w' := by
  obtain ⟨xs, hx⟩ := Ws.ofRow w0
  obtain ⟨ys, hy⟩ := Bs.ofRow w1
  have hm := hx.hle
  have hm2 := hx.hmax
  have hn := hy.hle
  have hn2 := hy.hmax
  unfold maxLen at hm2 hn2
  have HL := hide hx.hlen
  have HM := hide hy.hlen
  go_enter Try.func4, Try.ntmps4
  go_wp2_with fail
  refine (awake_any w).mono ?_
  rintro e w1 ⟨rfl, hb1⟩
  by_cases hbig : 200 < len0
  · go_wp2
    go_ret
    exact ⟨rfl, hb1⟩
  by_cases hbig1 : 200 < len1
  · go_wp2
    go_ret
    exact ⟨rfl, hb1⟩
  have hx1 := hx.mono hb1
  have hy1 := hy.mono hb1
  clear hx hy w0
  go_wp2_with fail
  refine (put_any _ _ _ _ _ hx1 (by omega)).mono ?_
  rintro e w2 ⟨⟨p2, c2, rfl, hz2⟩, hb2⟩
  have hx2 := hx1.mono hb2
  have hy2 := hy1.mono hb2
  replace hb2 := below_next hb1 hb2 (Nat.le_refl _)
  clear hx1 hy1
  go_wp2_with fail
  refine (take_any _ _ _ _ _ hz2 (by omega)).mono ?_
  rintro e w3 ⟨⟨p3, c3, rfl, hz3⟩, hb3⟩
  rw [takeW_putW, HL.out] at hz3
  simp only [takeW_putW, HL.out]
  have hx3 := hx2.mono hb3
  have hy3 := hy2.mono hb3
  replace hb3 := below_next hb2 hb3 (Nat.le_refl _)
  clear hx2 hy2 hz2
  go_wp2_with fail
  refine (take_any _ _ _ _ _ hy3 (by omega)).mono ?_
  rintro e w4 ⟨⟨p4, c4, rfl, hz4⟩, hb4⟩
  have hx4 := hx3.mono hb4
  have hy4 := hy3.mono hb4
  have ha4 := hz3.mono hb4
  replace hb4 := below_next hb3 hb4 (Nat.le_refl _)
  clear hx3 hy3 hz3
  have hTl := takeW_length ys
  have HP := hide (putW_takeW ys)
  have HPL := hide (putW_length (takeW ys))
  rw [HM.out] at HP hTl
  generalize takeW ys = ts at *
  obtain ⟨T, hT⟩ : ∃ T, T = ts.length := ⟨_, rfl⟩
  rw [← hT] at hz4 hTl HPL ⊢
  clear hT
  go_wp2_with fail
  refine (put_any _ _ _ _ _ hz4 (by omega)).mono ?_
  rintro e w5 ⟨⟨p5, c5, rfl, hz5⟩, hb5⟩
  have hx5 := hx4.mono hb5
  have hy5 := hy4.mono hb5
  have ha5 := ha4.mono hb5
  replace hb5 := below_next hb4 hb5 (Nat.le_refl _)
  clear hx4 hy4 ha4 hz4
  by_cases hodd : len1 % 2 = 1
  · have hT0 : T = 0 := by
      have h1 := HP.out
      have h2 := HPL.out
      rw [if_pos hodd] at h1
      rw [h1] at h2
      simp at h2
      omega
    subst hT0
    go_wp2_with fail
    refine (words_any _ _ _ _ _ _ _ _ _ ha5 hx5).mono ?_
    rintro e w6 ⟨rfl, hb6⟩
    rw [show decide (xs = xs) = true by simp]
    go_wp2
    go_ret
    exact ⟨rfl, below_next hb5 hb6 (Nat.le_refl _)⟩
  · have he := HP.out
    rw [if_neg hodd] at he
    rw [he] at hz5
    go_wp2_with fail
    refine (words_any _ _ _ _ _ _ _ _ _ ha5 hx5).mono ?_
    rintro e w6 ⟨rfl, hb6⟩
    rw [show decide (xs = xs) = true by simp]
    have hz6 := hz5.mono hb6
    have hy6 := hy5.mono hb6
    go_wp2_with fail
    refine (same_any _ _ _ _ _ _ _ _ _ hz6 hy6).mono ?_
    rintro e w7 ⟨rfl, rfl⟩
    rw [show decide (ys = ys) = true by simp]
    go_wp2
    go_ret
    exact ⟨rfl, below_next hb5 hb6 (Nat.le_refl _)⟩

/-! ### THE ROW's STEP: WRITTEN OUT: LEAVE IT -/
set_option maxRecDepth 100000 in
theorem lifted (os : Os) (started : os.Started) (H : Type) (enc : TypeId × Value → H) :
    ReturnsInHanded {} Try.checked os 4 .any (Rows.wordBackSpec.pre6 enc Try.prog Try.f4 Rows.wordBackRow.domain false) (Rows.wordBackSpec.post enc Try.prog Try.f4 false true false false) := by
  refine returnsInHanded_of_change (C := Try.checked) own started (by kernel_rfl) Try.func4
    (ChangeSpec.witness6 (enc := enc) (C := Try.checked) false ⟨#[], #[.slice none 0 0, .slice none 0 0], []⟩ 8 (by kernel_rfl) (by kernel_rfl) (by kernel_rfl) (by kernel_rfl)) ?_
  intro W base args ds gs before hval0 hW hcnd _
  have hval : ∀ (j : Nat) t v, Try.f4.params[j]? = some t → args[j]? = some v → Value.okWide Try.prog W .any base t v := hval0
  have hW' := hW
  obtain ⟨p, q, hA0, hV, rfl, hfz, hnd⟩ := hW
  have hA : DataW.TrodAll enc Try.prog W 0 (fun _ => true) true Try.f4.params.toList args.toList ds p := hA0
  rw [Try.params4] at hA hval
  obtain ⟨v0, vs0, d0, ds0, p0, q0, hargs, rfl, rfl, h0, r0⟩ := trodAll_cons hA
  obtain ⟨v1, vs1, d1, ds1, p1, q1, rfl, rfl, rfl, h1, r1⟩ := trodAll_cons r0
  obtain ⟨rfl, rfl, rfl⟩ := trodAll_nil r1
  obtain rfl : args = #[v0, v1] := by cases args; simp_all
  obtain ⟨rfl, rfl⟩ := trodVars_none hV
  obtain ⟨a0, len0, cap0, rfl⟩ := okWide_slice Try.underlying22 (hval 0 22 v0 rfl rfl)
  have k0 := h0
  have lt0 : ∀ x ∈ p0, x.block < W.heap.size := by obtain ⟨m, hm⟩ := k0; exact DataW.trod_lt m _ _ _ hm
  obtain ⟨z0, w0⟩ : ∃ zs, IsRow .u16 W a0 len0 cap0 zs := by
    obtain ⟨fuel, hf⟩ := h0
    rcases open_ints Try.underlying22 Try.underlying24 (by kernel_rfl) hf with ⟨hcs, _⟩ | ⟨x, l, c, zs, hcs, _, hl, hm, hz, _, hcell, hwz⟩
    · simp [Value.cells] at hcs
      obtain ⟨rfl, rfl, rfl⟩ := hcs
      exact ⟨[], .inl ⟨rfl, rfl, rfl, rfl⟩⟩
    · simp [Value.cells] at hcs
      obtain ⟨rfl, rfl, rfl⟩ := hcs
      exact ⟨zs, .inr ⟨_, rfl, hl, hm, by simpa using hz, hcell, hwz⟩⟩
  obtain ⟨a1, len1, cap1, rfl⟩ := okWide_slice Try.underlying23 (hval 1 23 v1 rfl rfl)
  have k1 := h1
  have lt1 : ∀ x ∈ p1, x.block < W.heap.size := by obtain ⟨m, hm⟩ := k1; exact DataW.trod_lt m _ _ _ hm
  obtain ⟨z1, w1⟩ : ∃ zs, IsRow .u8 W a1 len1 cap1 zs := by
    obtain ⟨fuel, hf⟩ := h1
    rcases open_ints Try.underlying23 Try.underlying5 (by kernel_rfl) hf with ⟨hcs, _⟩ | ⟨x, l, c, zs, hcs, _, hl, hm, hz, _, hcell, hwz⟩
    · simp [Value.cells] at hcs
      obtain ⟨rfl, rfl, rfl⟩ := hcs
      exact ⟨[], .inl ⟨rfl, rfl, rfl, rfl⟩⟩
    · simp [Value.cells] at hcs
      obtain ⟨rfl, rfl, rfl⟩ := hcs
      exact ⟨zs, .inr ⟨_, rfl, hl, hm, by simpa using hz, hcell, hwz⟩⟩
  clear hA0 hval0
  refine (walk a0 len0 cap0 z0 a1 len1 cap1 z1 W w0 w1).mono fun e W' ⟨he, bel⟩ => ?_
  subst he
  exact ⟨_, rfl, _, _, _, [], _, [], hW', trodAll_mk1 (shut_bool Try.underlying4 _), (trodAll_cons_mk (Below.trod laidOut (by kernel_rfl) (of_decide_eq_true (by kernel_rfl)) k0 bel lt0) (trodAll_cons_mk (Below.trod laidOut (by kernel_rfl) (of_decide_eq_true (by kernel_rfl)) k1 bel lt1) trodAll_mk0)), rfl, bel.frame _, fun h => by cases h⟩

theorem over : Rows.wordBackRow.holds Try.pinned (OpenSpec.ofChange Rows.wordBackSpec) :=
  OpenClaim.holds_of_wide 4 Try.f4 rfl rfl rfl rfl rfl rfl rfl ⟨rfl, rfl, rfl, rfl, rfl⟩ rfl rfl rfl rfl rfl (by kernel_rfl) Try.func4 (by kernel_rfl)
    (of_decide_eq_true (by kernel_rfl)) (by unfold Func.isWrapper; first | (rw [if_pos (by decide +kernel)]; kernel_rfl) | (rw [if_neg (by decide +kernel)]; exact ⟨rfl, rfl⟩))
    (fun os started H enc _ => lifted os started H enc)

/-- ████ THE STATEMENT ████ -/
theorem proved : Rows.WordBackSaid := over
#print axioms proved
end Go.Proofs.Ytaollhpecgeiiaa.wordBack
