/-
  Proved: for every input the law HexaTells answers true, and each argument reads behind the call as it read before, where the listed package-level variables (busbar/hexa.digits) hold, when the call begins, what the program's text lays; the card ties that to the text.
  Conditions: 'laid' alone, as the given statement Rows.HexaTellsCardSaid has it; the tie speaks of the pruned copy of the project that was translated, not of other packages or tests.
-/
import Derived.Test.YtjidokjajkoneaaDoorRows
import Derived.WalkKit
import Derived.ProofKit
import Derived.OpenShut
import Derived.ShutString
import Derived.ChangeOld
import Derived.Below
import Derived.Test.YtjidokjajkoneaaDoorTie
import Derived.Test.YtjidokjajkoneaaDoorCards
import Derived.SevenTiedAt
import Derived.Test.YtjidokjajkoneaaDoorHexaLaid
import Derived.Test.YtjidokjajkoneaaDoorHexaAwake
import Derived.Test.YtjidokjajkoneaaDoorHexaRefTake
namespace Go.Proofs.YtjidokjajkoneaaDoor.hexaTells
open Go.ChangeShapes Go.WideShapes Go.ChangeAt Go.RowKit
open Go.ChangeMaps (open_string shut_string)
set_option linter.unusedVariables false

open Hexa
theorem own : ownKnob Tryd.prog.godebug = none := by kernel_rfl
theorem laidOut : laidOutB Tryd.prog = true := by kernel_rfl

/-- WHAT THE WALK IS TOLD OF A SLICE OF INTEGERS THAT CAME IN: it is nil; or it leads to a row of 'cap' cells, the numbers 'zs' (the first 'len' are its elements, the rest its spare room), each fitting its kind. -/
def IsRow (k : IntKind) (w : World) (a : Option Addr) (len cap : Nat) (zs : List Int) : Prop :=
  (a = none ∧ len = 0 ∧ cap = 0 ∧ zs = []) ∨
  ∃ x, a = some x ∧ len ≤ cap ∧ cap ≤ maxLen ∧ zs.length = cap ∧ (∀ i, i < zs.length → w.cell? (x.add i) = some (.int k (zs.getD i 0))) ∧ ∀ n ∈ zs, (Lit.int k n).wf = true

/-! ### STEP 1: THE WALK: the Go text returns true, AND WRITES NOTHING THAT WAS THERE: 'Below w.heap.size w w'' (Derived/Below.lean: '.refl', '.alloc', '.drew', '.setCell' at a new block, '.trans'). Open each 'IsRow' by 'rcases' AHEAD of 'go_enter'; part every test ahead of the walk. -/
set_option maxHeartbeats 2000000 in
theorem walk (a0 : Int) (a1 : Option Addr) (len1 cap1 : Nat) (z1 : List Int) (a2 : ByteArray) (w : World) (w0 : (Lit.int .u8 a0).wf = true) (w1 : IsRow .u8 w a1 len1 cap1 z1) (w2 : a2.size ≤ maxLen) (hD : Laid w) :
    Calls Tryd.prog 3 #[.int .u8 a0, .slice a1 len1 cap1, .string a2] w fun e w' => e = .returned (.bool true) ∧ Below w.heap.size w w' := by
  obtain ⟨cc, rfl, hcc⟩ : ∃ s : Nat, a0 = s ∧ s < 256 := nat_u8 w0
  obtain ⟨xs, hx⟩ := Bs.ofRow w1
  obtain ⟨ss, rfl⟩ : ∃ ss, a2 = strOf ss := ⟨a2.toList, (strOf_of a2).symm⟩
  have hml := hide hx.hlen
  have hm := hx.hle
  have hm2 := hx.hmax
  unfold maxLen at hm2
  have hst := strOf_toList
  have hsz := strOf_size ss
  go_enter Tryd.func3, Tryd.ntmps3
  go_wp2_with fail
  refine (awake_any w hD).mono ?_
  rintro e w1 ⟨rfl, hb1⟩
  by_cases hbig : 300 < len1
  · go_wp2
    go_ret
    exact ⟨rfl, hb1⟩
  by_cases hbig2 : 600 < ss.length
  · go_wp2
    go_ret
    exact ⟨rfl, hb1⟩
  have hx1 := hx.mono hb1
  have hD1 := hD.mono hb1
  cases hT : takeL ss with
  | none =>
    go_wp2_with fail
    refine (take_none ss _ hD1 (by omega) hT).mono ?_
    rintro e w2 ⟨rfl, hb2⟩
    have hx2 := hx1.mono hb2
    have hD2 := hD1.mono hb2
    replace hb2 := below_next hb1 hb2 (Nat.le_refl _)
    go_wp2_with fail
    refine (refTake_none ss _ (by omega) hT).mono ?_
    rintro e w3 ⟨rfl, hb3⟩
    have hx3 := hx2.mono hb3
    have hD3 := hD2.mono hb3
    replace hb3 := below_next hb2 hb3 (Nat.le_refl _)
    go_wp2_with fail
    refine (digit_any cc _ hD3).mono ?_
    rintro e w3' ⟨rfl, rfl⟩
    go_wp2_with fail
    refine (refDigit_any cc _).mono ?_
    rintro e w3' ⟨rfl, rfl⟩
    go_wp2_with fail
    refine (put_any _ _ _ _ _ hx3 hD3 (by omega)).mono ?_
    rintro e w4 ⟨rfl, hb4⟩
    have hx4 := hx3.mono hb4
    replace hb4 := below_next hb3 hb4 (Nat.le_refl _)
    go_wp2_with fail
    refine (refPut_any _ _ _ _ _ hx4 (by omega)).mono ?_
    rintro e w5 ⟨rfl, hb5⟩
    replace hb5 := below_next hb4 hb5 (Nat.le_refl _)
    go_wp2_with fail
    refine (same_any none none 0 0 0 0 [] [] _ (Sl.nil _ _ (by unfold maxLen; omega)) (Sl.nil _ _ (by unfold maxLen; omega))).mono ?_
    rintro e w6 ⟨rfl, rfl⟩
    go_wp2
    go_ret
    exact ⟨rfl, hb5⟩
  | some ys =>
    go_wp2_with fail
    refine (take_some ss ys _ hD1 (by omega) hT).mono ?_
    rintro e w2 ⟨⟨p2, c2, rfl, hy2⟩, hb2⟩
    have hx2 := hx1.mono hb2
    have hD2 := hD1.mono hb2
    replace hb2 := below_next hb1 hb2 (Nat.le_refl _)
    go_wp2_with fail
    refine (refTake_some ss ys _ (by omega) hT).mono ?_
    rintro e w3 ⟨⟨p3, c3, rfl, hz3⟩, hb3⟩
    have hx3 := hx2.mono hb3
    have hD3 := hD2.mono hb3
    have hy3 := hy2.mono hb3
    replace hb3 := below_next hb2 hb3 (Nat.le_refl _)
    go_wp2_with fail
    refine (digit_any cc _ hD3).mono ?_
    rintro e w3' ⟨rfl, rfl⟩
    go_wp2_with fail
    refine (refDigit_any cc _).mono ?_
    rintro e w3' ⟨rfl, rfl⟩
    go_wp2_with fail
    refine (put_any _ _ _ _ _ hx3 hD3 (by omega)).mono ?_
    rintro e w4 ⟨rfl, hb4⟩
    have hx4 := hx3.mono hb4
    have hy4 := hy3.mono hb4
    have hz4 := hz3.mono hb4
    replace hb4 := below_next hb3 hb4 (Nat.le_refl _)
    go_wp2_with fail
    refine (refPut_any _ _ _ _ _ hx4 (by omega)).mono ?_
    rintro e w5 ⟨rfl, hb5⟩
    have hy5 := hy4.mono hb5
    have hz5 := hz4.mono hb5
    replace hb5 := below_next hb4 hb5 (Nat.le_refl _)
    go_wp2_with fail
    refine (same_any _ _ _ _ _ _ _ _ _ hy5 hz5).mono ?_
    rintro e w6 ⟨rfl, rfl⟩
    rw [show decide (ys = ys) = true by simp]
    go_wp2
    go_ret
    exact ⟨rfl, hb5⟩

/-! ### THE ROW's STEP: WRITTEN OUT: LEAVE IT -/
set_option maxRecDepth 100000 in
theorem lifted (os : Os) (started : os.Started) (H : Type) (enc : TypeId × Value → H) :
    ReturnsInHanded {} Tryd.checked os 3 .any (fun w args => (Rows.hexaTellsSpec.pre enc Tryd.prog Tryd.f3 [] false w args ∧ laidMetH Tryd.prog laidL w) ∧ sizedMet enc Tryd.prog Tryd.f3 (OpenSpec.ofChange Rows.hexaTellsSpec) false w args) (Rows.hexaTellsSpec.post enc Tryd.prog Tryd.f3 false true false false) := by
  refine returnsInHanded_of_change_and (C := Tryd.checked) (X := fun w _ => laidMetH Tryd.prog laidL w) (fun _ _ _ hh h => h.of_heap hh) own started (by kernel_rfl) Tryd.func3
    (ChangeSpec.witness_shaped (enc := enc) (C := Tryd.checked) (os := os) (X := fun w _ => laidMetH Tryd.prog laidL w) false (World.doorLaid Tryd.prog 400 os) #[.int .u8 0, .slice none 0 0, .string ByteArray.empty] 8 rfl (World.shaped_of_RefB (by kernel_rfl) (by kernel_rfl)) (by kernel_rfl) (by kernel_rfl) (by kernel_rfl) (door_met os _)) ?_
  intro W base args ds gs before hval0 hW _ _ hL _
  have hval : ∀ (j : Nat) t v, Tryd.f3.params[j]? = some t → args[j]? = some v → Value.okWide Tryd.prog W .any base t v := hval0
  have hW' := hW
  obtain ⟨p, q, hA0, hV, rfl, hfz, hnd⟩ := hW
  have hA : DataW.TrodAll enc Tryd.prog W 0 (fun _ => true) true Tryd.f3.params.toList args.toList ds p := hA0
  rw [Tryd.params3] at hA hval
  obtain ⟨v0, vs0, d0, ds0, p0, q0, hargs, rfl, rfl, h0, r0⟩ := trodAll_cons hA
  obtain ⟨v1, vs1, d1, ds1, p1, q1, rfl, rfl, rfl, h1, r1⟩ := trodAll_cons r0
  obtain ⟨v2, vs2, d2, ds2, p2, q2, rfl, rfl, rfl, h2, r2⟩ := trodAll_cons r1
  obtain ⟨rfl, rfl, rfl⟩ := trodAll_nil r2
  obtain rfl : args = #[v0, v1, v2] := by cases args; simp_all
  obtain ⟨rfl, rfl⟩ := trodVars_none hV
  obtain ⟨a0, rfl, rfl, rfl, w0⟩ := open_int Tryd.underlying5 (hval 0 5 v0 rfl rfl) h0
  obtain ⟨a1, len1, cap1, rfl⟩ := okWide_slice Tryd.underlying22 (hval 1 22 v1 rfl rfl)
  have k1 := h1
  have lt1 : ∀ x ∈ p1, x.block < W.heap.size := by obtain ⟨m, hm⟩ := k1; exact DataW.trod_lt m _ _ _ hm
  obtain ⟨z1, w1⟩ : ∃ zs, IsRow .u8 W a1 len1 cap1 zs := by
    obtain ⟨fuel, hf⟩ := h1
    rcases open_ints Tryd.underlying22 Tryd.underlying5 (by kernel_rfl) hf with ⟨hcs, _⟩ | ⟨x, l, c, zs, hcs, _, hl, hm, hz, _, hcell, hwz⟩
    · simp [Value.cells] at hcs
      obtain ⟨rfl, rfl, rfl⟩ := hcs
      exact ⟨[], .inl ⟨rfl, rfl, rfl, rfl⟩⟩
    · simp [Value.cells] at hcs
      obtain ⟨rfl, rfl, rfl⟩ := hcs
      exact ⟨zs, .inr ⟨_, rfl, hl, hm, by simpa using hz, hcell, hwz⟩⟩
  obtain ⟨a2, rfl, rfl, rfl, w2⟩ := open_string Tryd.underlying9 (hval 2 9 v2 rfl rfl) h2
  clear hA0 hval0
  refine (walk a0 a1 len1 cap1 z1 a2 W w0 w1 w2 (laid_of_met hL)).mono fun e W' ⟨he, bel⟩ => ?_
  subst he
  exact ⟨_, rfl, _, _, _, [], _, [], hW', trodAll_mk1 (shut_bool Tryd.underlying4 _), (trodAll_cons_mk (shut_int Tryd.underlying5 w0) (trodAll_cons_mk (Below.trod laidOut (by kernel_rfl) (of_decide_eq_true (by kernel_rfl)) k1 bel lt1) (trodAll_cons_mk (shut_string Tryd.underlying9 w2) trodAll_mk0))), rfl, bel.frame _, fun h => by cases h⟩

theorem over : Rows.hexaTellsRow.holds Tryd.pinned (OpenSpec.ofChange Rows.hexaTellsSpec) :=
  OpenClaim.holds_of_wide 3 Tryd.f3 rfl rfl rfl rfl rfl rfl rfl ⟨rfl, rfl, rfl, rfl, rfl⟩ rfl rfl rfl rfl rfl (by kernel_rfl) Tryd.func3 (by kernel_rfl)
    (of_decide_eq_true (by kernel_rfl)) (by unfold Func.isWrapper; first | (rw [if_pos (by decide +kernel)]; kernel_rfl) | (rw [if_neg (by decide +kernel)]; exact ⟨rfl, rfl⟩))
    (fun os started H enc _ => lifted os started H enc)

/-- ████ THE STATEMENT: the tied card ████ -/
theorem proved : Rows.HexaTellsCardSaid :=
  Claim7.holds_tied_plain_at .later [] [.data] true (true, "ceb72e2ecee2712e2ed1fd54dbaa7e15a36d8d3844131c62eb4b2152d09d1dc8") false
    over (fun _ h => by cases h) (by kernel_rfl) (fun _ h => by cases h) hexaTells_row_tie rfl ⟨rfl, rfl⟩ (by kernel_rfl) rfl
    (fun f fn hf hfn => by
      obtain rfl : f = 3 := Option.some.inj ((show Tryd.prog.funcNamed "busbar/busbarlaw03.HexaTells" = some 3 by kernel_rfl).symm.trans hf) |>.symm
      obtain rfl : fn = Tryd.f3 := (Option.some.inj (Tryd.func3.symm.trans hfn)).symm
      exact ⟨by kernel_rfl, fun j t ht => by
        rw [Tryd.params3] at ht
        have hm : t ∈ [5, 22, 9] := by simpa using Array.mem_of_getElem? ht
        have hall : ([5, 22, 9].all fun u => !Tryd.prog.wantsStandIn u) = true := by kernel_rfl
        exact (show Tryd.prog.wantsStandIn t = false by simpa using List.all_eq_true.1 hall t hm)⟩)
    (by kernel_rfl)
#print axioms proved
end Go.Proofs.YtjidokjajkoneaaDoor.hexaTells
