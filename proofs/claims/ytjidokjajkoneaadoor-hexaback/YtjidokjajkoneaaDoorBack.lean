/-
  Proved: for every input the law HexaBack answers true, and each argument reads behind the call as it read before, where the listed package-level variables (busbar/hexa.digits) hold, when the call begins, what the program's text lays; the card ties that to the text.
  Conditions: 'laid' alone, as the given statement Rows.HexaBackCardSaid has it; the tie speaks of the pruned copy of the project that was translated, not of other packages or tests.
-/
import Derived.Test.YtjidokjajkoneaaDoorRows
import Derived.WalkKit
import Derived.ProofKit
import Derived.OpenShut
import Derived.ShutString
import Derived.ChangeOld
import Derived.Below
import Derived.Test.YtjidokjajkoneaaDoorTie
import Derived.Test.YtjidokjajkoneaaDoorCards
import Derived.SevenTiedAt
import Derived.Test.YtjidokjajkoneaaDoorHexaLaid
import Derived.Test.YtjidokjajkoneaaDoorHexaAwake
import Derived.Test.YtjidokjajkoneaaDoorHexaRef
namespace Go.Proofs.YtjidokjajkoneaaDoor.hexaBack
open Go.ChangeShapes Go.WideShapes Go.ChangeAt Go.RowKit
open Go.ChangeMaps (open_string shut_string)
set_option linter.unusedVariables false

open Hexa
theorem own : ownKnob Tryd.prog.godebug = none := by kernel_rfl
theorem laidOut : laidOutB Tryd.prog = true := by kernel_rfl

/-- WHAT THE WALK IS TOLD OF A SLICE OF INTEGERS THAT CAME IN: it is nil; or it leads to a row of 'cap' cells, the numbers 'zs' (the first 'len' are its elements, the rest its spare room), each fitting its kind. -/
def IsRow (k : IntKind) (w : World) (a : Option Addr) (len cap : Nat) (zs : List Int) : Prop :=
  (a = none ∧ len = 0 ∧ cap = 0 ∧ zs = []) ∨
  ∃ x, a = some x ∧ len ≤ cap ∧ cap ≤ maxLen ∧ zs.length = cap ∧ (∀ i, i < zs.length → w.cell? (x.add i) = some (.int k (zs.getD i 0))) ∧ ∀ n ∈ zs, (Lit.int k n).wf = true

/-! ### STEP 1: THE WALK: the Go text returns true, AND WRITES NOTHING THAT WAS THERE: 'Below w.heap.size w w'' (Derived/Below.lean: '.refl', '.alloc', '.drew', '.setCell' at a new block, '.trans'). Open each 'IsRow' by 'rcases' AHEAD of 'go_enter'; part every test ahead of the walk. -/
set_option maxHeartbeats 2000000 in
theorem walk (a0 : Option Addr) (len0 cap0 : Nat) (z0 : List Int) (a1 : ByteArray) (w : World) (w0 : IsRow .u8 w a0 len0 cap0 z0) (w1 : a1.size ≤ maxLen) (hD : Laid w) :
    Calls Tryd.prog 4 #[.slice a0 len0 cap0, .string a1] w fun e w' => e = .returned (.bool true) ∧ Below w.heap.size w w' := by
  obtain ⟨xs, hx⟩ := Bs.ofRow w0
  obtain ⟨ss, rfl⟩ : ∃ ss, a1 = strOf ss := ⟨a1.toList, (strOf_of a1).symm⟩
  have hml := hide hx.hlen
  have hm := hx.hle
  have hm2 := hx.hmax
  unfold maxLen at hm2
  have hst := strOf_toList
  have hsz := strOf_size ss
  have hpl : (strOf (putL xs)).size = 2 * len0 := by rw [strOf_size, putL_length, hml.out]
  go_enter Tryd.func4, Tryd.ntmps4
  go_wp2_with fail
  refine (awake_any w hD).mono ?_
  rintro e w1 ⟨rfl, hb1⟩
  by_cases hbig : 300 < len0
  · go_wp2
    go_ret
    exact ⟨rfl, hb1⟩
  by_cases hbig2 : 600 < ss.length
  · go_wp2
    go_ret
    exact ⟨rfl, hb1⟩
  have hx1 := hx.mono hb1
  have hD1 := hD.mono hb1
  go_wp2_with fail
  refine (put_any _ _ _ _ _ hx1 hD1 (by omega)).mono ?_
  rintro e w2 ⟨rfl, hb2⟩
  have hx2 := hx1.mono hb2
  have hD2 := hD1.mono hb2
  replace hb2 := below_next hb1 hb2 (Nat.le_refl _)
  go_wp2_with fail
  refine (take_some (putL xs) xs _ hD2 (by rw [putL_length, hml.out]; omega) (takeL_putL xs)).mono ?_
  rintro e w3 ⟨⟨p3, c3, rfl, hy3⟩, hb3⟩
  have hx3 := hx2.mono hb3
  have hD3 := hD2.mono hb3
  replace hb3 := below_next hb2 hb3 (Nat.le_refl _)
  rw [hml.out] at hy3 ⊢
  cases hT : takeL ss with
  | none =>
    go_wp2_with fail
    refine (take_none ss _ hD3 (by omega) hT).mono ?_
    rintro e w4 ⟨rfl, hb4⟩
    have hx4 := hx3.mono hb4
    have hD4 := hD3.mono hb4
    have hy4 := hy3.mono hb4
    replace hb4 := below_next hb3 hb4 (Nat.le_refl _)
    go_wp2_with fail
    refine (same_any _ _ _ _ _ _ _ _ _ hy4 hx4).mono ?_
    rintro e w5 ⟨rfl, rfl⟩
    rw [show decide (xs = xs) = true by simp]
    go_wp2_with fail
    refine (put_any _ _ _ _ _ hx4 hD4 (by omega)).mono ?_
    rintro e w6 ⟨rfl, hb6⟩
    go_wp2
    go_ret
    exact ⟨rfl, below_next hb4 hb6 (Nat.le_refl _)⟩
  | some ys =>
    have hyl := takeL_length ss ys hT
    have HP := hide (putL_takeL ss ys hT)
    go_wp2_with fail
    refine (take_some ss ys _ hD3 (by omega) hT).mono ?_
    rintro e w4 ⟨⟨p4, c4, rfl, hz4⟩, hb4⟩
    have hx4 := hx3.mono hb4
    have hD4 := hD3.mono hb4
    have hy4 := hy3.mono hb4
    replace hb4 := below_next hb3 hb4 (Nat.le_refl _)
    go_wp2_with fail
    refine (put_any _ _ _ _ _ hz4 hD4 (by omega)).mono ?_
    rintro e w5 ⟨rfl, hb5⟩
    rw [HP.out]
    have hx5 := hx4.mono hb5
    have hD5 := hD4.mono hb5
    have hy5 := hy4.mono hb5
    replace hb5 := below_next hb4 hb5 (Nat.le_refl _)
    go_wp2_with fail
    refine (same_any _ _ _ _ _ _ _ _ _ hy5 hx5).mono ?_
    rintro e w6 ⟨rfl, rfl⟩
    rw [show decide (xs = xs) = true by simp]
    go_wp2_with fail
    refine (put_any _ _ _ _ _ hx5 hD5 (by omega)).mono ?_
    rintro e w7 ⟨rfl, hb7⟩
    go_wp2
    go_ret
    exact ⟨rfl, below_next hb5 hb7 (Nat.le_refl _)⟩

/-! ### THE ROW's STEP: WRITTEN OUT: LEAVE IT -/
set_option maxRecDepth 100000 in
theorem lifted (os : Os) (started : os.Started) (H : Type) (enc : TypeId × Value → H) :
    ReturnsInHanded {} Tryd.checked os 4 .any (fun w args => (Rows.hexaBackSpec.pre enc Tryd.prog Tryd.f4 [] false w args ∧ laidMetH Tryd.prog laidL w) ∧ sizedMet enc Tryd.prog Tryd.f4 (OpenSpec.ofChange Rows.hexaBackSpec) false w args) (Rows.hexaBackSpec.post enc Tryd.prog Tryd.f4 false true false false) := by
  refine returnsInHanded_of_change_and (C := Tryd.checked) (X := fun w _ => laidMetH Tryd.prog laidL w) (fun _ _ _ hh h => h.of_heap hh) own started (by kernel_rfl) Tryd.func4
    (ChangeSpec.witness_shaped (enc := enc) (C := Tryd.checked) (os := os) (X := fun w _ => laidMetH Tryd.prog laidL w) false (World.doorLaid Tryd.prog 400 os) #[.slice none 0 0, .string ByteArray.empty] 8 rfl (World.shaped_of_RefB (by kernel_rfl) (by kernel_rfl)) (by kernel_rfl) (by kernel_rfl) (by kernel_rfl) (door_met os _)) ?_
  intro W base args ds gs before hval0 hW _ _ hL _
  have hval : ∀ (j : Nat) t v, Tryd.f4.params[j]? = some t → args[j]? = some v → Value.okWide Tryd.prog W .any base t v := hval0
  have hW' := hW
  obtain ⟨p, q, hA0, hV, rfl, hfz, hnd⟩ := hW
  have hA : DataW.TrodAll enc Tryd.prog W 0 (fun _ => true) true Tryd.f4.params.toList args.toList ds p := hA0
  rw [Tryd.params4] at hA hval
  obtain ⟨v0, vs0, d0, ds0, p0, q0, hargs, rfl, rfl, h0, r0⟩ := trodAll_cons hA
  obtain ⟨v1, vs1, d1, ds1, p1, q1, rfl, rfl, rfl, h1, r1⟩ := trodAll_cons r0
  obtain ⟨rfl, rfl, rfl⟩ := trodAll_nil r1
  obtain rfl : args = #[v0, v1] := by cases args; simp_all
  obtain ⟨rfl, rfl⟩ := trodVars_none hV
  obtain ⟨a0, len0, cap0, rfl⟩ := okWide_slice Tryd.underlying22 (hval 0 22 v0 rfl rfl)
  have k0 := h0
  have lt0 : ∀ x ∈ p0, x.block < W.heap.size := by obtain ⟨m, hm⟩ := k0; exact DataW.trod_lt m _ _ _ hm
  obtain ⟨z0, w0⟩ : ∃ zs, IsRow .u8 W a0 len0 cap0 zs := by
    obtain ⟨fuel, hf⟩ := h0
    rcases open_ints Tryd.underlying22 Tryd.underlying5 (by kernel_rfl) hf with ⟨hcs, _⟩ | ⟨x, l, c, zs, hcs, _, hl, hm, hz, _, hcell, hwz⟩
    · simp [Value.cells] at hcs
      obtain ⟨rfl, rfl, rfl⟩ := hcs
      exact ⟨[], .inl ⟨rfl, rfl, rfl, rfl⟩⟩
    · simp [Value.cells] at hcs
      obtain ⟨rfl, rfl, rfl⟩ := hcs
      exact ⟨zs, .inr ⟨_, rfl, hl, hm, by simpa using hz, hcell, hwz⟩⟩
  obtain ⟨a1, rfl, rfl, rfl, w1⟩ := open_string Tryd.underlying9 (hval 1 9 v1 rfl rfl) h1
  clear hA0 hval0
  refine (walk a0 len0 cap0 z0 a1 W w0 w1 (laid_of_met hL)).mono fun e W' ⟨he, bel⟩ => ?_
  subst he
  exact ⟨_, rfl, _, _, _, [], _, [], hW', trodAll_mk1 (shut_bool Tryd.underlying4 _), (trodAll_cons_mk (Below.trod laidOut (by kernel_rfl) (of_decide_eq_true (by kernel_rfl)) k0 bel lt0) (trodAll_cons_mk (shut_string Tryd.underlying9 w1) trodAll_mk0)), rfl, bel.frame _, fun h => by cases h⟩

theorem over : Rows.hexaBackRow.holds Tryd.pinned (OpenSpec.ofChange Rows.hexaBackSpec) :=
  OpenClaim.holds_of_wide 4 Tryd.f4 rfl rfl rfl rfl rfl rfl rfl ⟨rfl, rfl, rfl, rfl, rfl⟩ rfl rfl rfl rfl rfl (by kernel_rfl) Tryd.func4 (by kernel_rfl)
    (of_decide_eq_true (by kernel_rfl)) (by unfold Func.isWrapper; first | (rw [if_pos (by decide +kernel)]; kernel_rfl) | (rw [if_neg (by decide +kernel)]; exact ⟨rfl, rfl⟩))
    (fun os started H enc _ => lifted os started H enc)

/-- ████ THE STATEMENT: the tied card ████ -/
theorem proved : Rows.HexaBackCardSaid :=
  Claim7.holds_tied_plain_at .later [] [.data] true (true, "ceb72e2ecee2712e2ed1fd54dbaa7e15a36d8d3844131c62eb4b2152d09d1dc8") false
    over (fun _ h => by cases h) (by kernel_rfl) (fun _ h => by cases h) hexaBack_row_tie rfl ⟨rfl, rfl⟩ (by kernel_rfl) rfl
    (fun f fn hf hfn => by
      obtain rfl : f = 4 := Option.some.inj ((show Tryd.prog.funcNamed "busbar/busbarlaw03.HexaBack" = some 4 by kernel_rfl).symm.trans hf) |>.symm
      obtain rfl : fn = Tryd.f4 := (Option.some.inj (Tryd.func4.symm.trans hfn)).symm
      exact ⟨by kernel_rfl, fun j t ht => by
        rw [Tryd.params4] at ht
        have hm : t ∈ [22, 9] := by simpa using Array.mem_of_getElem? ht
        have hall : ([22, 9].all fun u => !Tryd.prog.wantsStandIn u) = true := by kernel_rfl
        exact (show Tryd.prog.wantsStandIn t = false by simpa using List.all_eq_true.1 hall t hm)⟩)
    (by kernel_rfl)
#print axioms proved
end Go.Proofs.YtjidokjajkoneaaDoor.hexaBack
