/-
  Proved: for every input the law HexaBad answers true, and each argument reads behind the call as it read before, where the listed package-level variables (busbar/hexa.digits) hold, when the call begins, what the program's text lays; the card ties that to the text.
  Conditions: 'laid' alone, as the given statement Rows.HexaBadCardSaid has it; the tie speaks of the pruned copy of the project that was translated, not of other packages or tests.
-/
import Derived.Test.YtjidokjajkoneaaDoorRows
import Derived.WalkKit
import Derived.ProofKit
import Derived.OpenShut
import Derived.ShutString
import Derived.ChangeOld
import Derived.Below
import Derived.Test.YtjidokjajkoneaaDoorTie
import Derived.Test.YtjidokjajkoneaaDoorCards
import Derived.SevenTiedAt
import Derived.Test.YtjidokjajkoneaaDoorHexaLaid
import Derived.Test.YtjidokjajkoneaaDoorHexaAwake
import Derived.Test.YtjidokjajkoneaaDoorHexaText
namespace Go.Proofs.YtjidokjajkoneaaDoor.hexaBad
open Go.ChangeShapes Go.WideShapes Go.ChangeAt Go.RowKit
open Go.ChangeMaps (open_string shut_string)
set_option linter.unusedVariables false

open Hexa
theorem own : ownKnob Tryd.prog.godebug = none := by kernel_rfl
theorem laidOut : laidOutB Tryd.prog = true := by kernel_rfl

/-- WHAT THE WALK IS TOLD OF A SLICE OF INTEGERS THAT CAME IN: it is nil; or it leads to a row of 'cap' cells, the numbers 'zs' (the first 'len' are its elements, the rest its spare room), each fitting its kind. -/
def IsRow (k : IntKind) (w : World) (a : Option Addr) (len cap : Nat) (zs : List Int) : Prop :=
  (a = none ∧ len = 0 ∧ cap = 0 ∧ zs = []) ∨
  ∃ x, a = some x ∧ len ≤ cap ∧ cap ≤ maxLen ∧ zs.length = cap ∧ (∀ i, i < zs.length → w.cell? (x.add i) = some (.int k (zs.getD i 0))) ∧ ∀ n ∈ zs, (Lit.int k n).wf = true

/-! ### STEP 1: THE WALK: the Go text returns true, AND WRITES NOTHING THAT WAS THERE: 'Below w.heap.size w w'' (Derived/Below.lean: '.refl', '.alloc', '.drew', '.setCell' at a new block, '.trans'). Open each 'IsRow' by 'rcases' AHEAD of 'go_enter'; part every test ahead of the walk. -/
set_option maxHeartbeats 2000000 in
theorem walk (a0 : Option Addr) (len0 cap0 : Nat) (z0 : List Int) (a1 : Int) (a2 : Int) (w : World) (w0 : IsRow .u8 w a0 len0 cap0 z0) (w1 : (Lit.int .u16 a1).wf = true) (w2 : (Lit.int .u8 a2).wf = true) (hD : Laid w) :
    Calls Tryd.prog 5 #[.slice a0 len0 cap0, .int .u16 a1, .int .u8 a2] w fun e w' => e = .returned (.bool true) ∧ Below w.heap.size w w' := by
  obtain ⟨xs, hx⟩ := Bs.ofRow w0
  obtain ⟨at', rfl, hat⟩ : ∃ s : Nat, a1 = s ∧ s < 65536 := nat_u16 w1
  obtain ⟨cc, rfl, hcc⟩ : ∃ s : Nat, a2 = s ∧ s < 256 := nat_u8 w2
  have hml := hide hx.hlen
  have hm := hx.hle
  have hm2 := hx.hmax
  unfold maxLen at hm2
  have hpl : (strOf (putL xs)).size = 2 * len0 := by rw [strOf_size, putL_length, hml.out]
  go_enter Tryd.func5, Tryd.ntmps5
  go_wp2_with fail
  refine (awake_any w hD).mono ?_
  rintro e w1 ⟨rfl, hb1⟩
  by_cases hbig : 300 < len0
  · go_wp2
    go_ret
    exact ⟨rfl, hb1⟩
  by_cases h0 : len0 = 0
  · subst h0
    go_wp2
    go_ret
    exact ⟨rfl, hb1⟩
  have h0b : ((len0 : Int) == 0) = false := by rw [show ((len0 : Int) == 0) = decide (len0 = 0) from beq_cast len0 0]; simpa using h0
  have hx1 := hx.mono hb1
  have hD1 := hD.mono hb1
  go_wp2_with fail
  refine (put_any _ _ _ _ _ hx1 hD1 (by omega)).mono ?_
  rintro e w2 ⟨rfl, hb2⟩
  have hD2 := hD1.mono hb2
  replace hb2 := below_next hb1 hb2 (Nat.le_refl _)
  obtain ⟨k, hk⟩ : ∃ k, k = at' % (2 * len0) := ⟨_, rfl⟩
  have hkl : k < 2 * len0 := by rw [hk]; exact Nat.mod_lt _ (by omega)
  have hkz : (at' : Int) % (2 * (len0 : Int)) = (k : Int) := by rw [hk]; simp
  clear hk
  have hlen : (putL xs).length = 2 * len0 := by rw [putL_length, hml.out]
  have HS := hide (one_sign xs k (by rw [hml.out]; exact hkl) (UInt8.ofNat cc))
  have HO := hide (one_less xs k (by rw [hml.out]; exact hkl))
  generalize putL xs = ps at *
  have hwr : IntKind.i64.wrap ((k : Int) + 1) = (k : Int) + 1 := by rw [IntKind.wrap_i64]; omega
  have s1 := slice_to ps k (k : Int) rfl (by omega)
  have s2 := slice_from ps (k + 1) ((k : Int) + 1) (by omega) (by omega)
  have hlit := one_own w2 (cc : Int) cc rfl hcc 5
  have hcv := Bs.conv (P := Tryd.prog) hlit.sl.drew 22 5 Tryd.underlying22 Tryd.underlying5 9 Tryd.underlying9
  have ad1 := add_str (ps.take k) [UInt8.ofNat cc] (by simp; omega)
  have ad2 := add_str (ps.take k ++ [UInt8.ofNat cc]) (ps.drop (k + 1)) (by simp; omega)
  have ad3 := add_str (ps.take k) (ps.drop (k + 1)) (by simp; omega)
  have hal := ((Below.refl w2.heap.size w2).alloc (Nat.le_refl _) (.cells #[.int .u8 (cc : Int)] 5)).drew
  have hDA := hD2.mono hal
  have HLA : Hid (((ps.take k ++ [UInt8.ofNat cc]) ++ ps.drop (k + 1)).length ≤ 600) := hide (by simp; omega)
  have HLB : Hid ((ps.take k ++ ps.drop (k + 1)).length ≤ 600) := hide (by simp; omega)
  have hu : (UInt8.ofNat cc).toNat = cc := by rw [UInt8.toNat_ofNat']; omega
  rw [hu] at HS
  clear hu hlit hx hx1 hml w0 hlen
  generalize ps.take k ++ [UInt8.ofNat cc] ++ ps.drop (k + 1) = q2 at *
  generalize ps.take k ++ [UInt8.ofNat cc] = q1 at *
  generalize ps.take k ++ ps.drop (k + 1) = q3 at *
  generalize ps.take k = qa at *
  generalize ps.drop (k + 1) = qb at *
  generalize strOf [UInt8.ofNat cc] = tc at *
  by_cases hz : 0 ≤ digZ cc
  · obtain ⟨ys, hys⟩ : ∃ ys, takeL q2 = some ys := Option.isSome_iff_exists.1 (HS.out.trans (by simpa using hz))
    have HY := hide hys
    clear hys HS
    go_wp2
    go_region_held (fun _ => True) (trivial) (first | (go_at_call 9; refine (take_some q2 ys _ hDA HLA.out HY.out).mono ?_; rintro e w3 ⟨⟨p3, c3, rfl, hy3⟩, hb3⟩))
    have hD3 := hDA.mono hb3
    replace hb3 := below_next (hb2.trans (hal.mono hb2.size)) hb3 (Nat.le_refl _)
    go_wp2
    go_region_held (fun _ => True) (trivial) (first | (go_at_call 9; refine (take_none q3 _ (hD3.mono ((Below.refl _ _).drew)) HLB.out HO.out).mono ?_; rintro e w4 ⟨rfl, hb4⟩))
    have hD4 := hD3.mono (((Below.refl w3.heap.size w3).drew).trans hb4)
    replace hb4 := below_next hb3 (((Below.refl w3.heap.size w3).drew).trans hb4) (Nat.le_refl _)
    go_wp2_with fail
    refine (digit_any cc _ hD4).mono ?_
    rintro e w5 ⟨rfl, rfl⟩
    go_wp2
    go_ret
    exact ⟨rfl, hb4⟩
  · have hys : takeL q2 = none := by
      cases h : takeL q2 with
      | none => rfl
      | some ys => have := HS.out; rw [h] at this; simp [hz] at this
    have HY := hide hys
    clear hys HS
    go_wp2
    go_region_held (fun _ => True) (trivial) (first | (go_at_call 9; refine (take_none q2 _ hDA HLA.out HY.out).mono ?_; rintro e w3 ⟨rfl, hb3⟩))
    have hD3 := hDA.mono hb3
    replace hb3 := below_next (hb2.trans (hal.mono hb2.size)) hb3 (Nat.le_refl _)
    go_wp2
    go_region_held (fun _ => True) (trivial) (first | (go_at_call 9; refine (take_none q3 _ (hD3.mono ((Below.refl _ _).drew)) HLB.out HO.out).mono ?_; rintro e w4 ⟨rfl, hb4⟩))
    have hD4 := hD3.mono (((Below.refl w3.heap.size w3).drew).trans hb4)
    replace hb4 := below_next hb3 (((Below.refl w3.heap.size w3).drew).trans hb4) (Nat.le_refl _)
    go_wp2_with fail
    refine (digit_any cc _ hD4).mono ?_
    rintro e w5 ⟨rfl, rfl⟩
    go_wp2
    go_ret
    exact ⟨ret_bool (by simp [hz]), hb4⟩

/-! ### THE ROW's STEP: WRITTEN OUT: LEAVE IT -/
set_option maxRecDepth 100000 in
theorem lifted (os : Os) (started : os.Started) (H : Type) (enc : TypeId × Value → H) :
    ReturnsInHanded {} Tryd.checked os 5 .any (fun w args => (Rows.hexaBadSpec.pre enc Tryd.prog Tryd.f5 [] false w args ∧ laidMetH Tryd.prog laidL w) ∧ sizedMet enc Tryd.prog Tryd.f5 (OpenSpec.ofChange Rows.hexaBadSpec) false w args) (Rows.hexaBadSpec.post enc Tryd.prog Tryd.f5 false true false false) := by
  refine returnsInHanded_of_change_and (C := Tryd.checked) (X := fun w _ => laidMetH Tryd.prog laidL w) (fun _ _ _ hh h => h.of_heap hh) own started (by kernel_rfl) Tryd.func5
    (ChangeSpec.witness_shaped (enc := enc) (C := Tryd.checked) (os := os) (X := fun w _ => laidMetH Tryd.prog laidL w) false (World.doorLaid Tryd.prog 400 os) #[.slice none 0 0, .int .u16 0, .int .u8 0] 8 rfl (World.shaped_of_RefB (by kernel_rfl) (by kernel_rfl)) (by kernel_rfl) (by kernel_rfl) (by kernel_rfl) (door_met os _)) ?_
  intro W base args ds gs before hval0 hW _ _ hL _
  have hval : ∀ (j : Nat) t v, Tryd.f5.params[j]? = some t → args[j]? = some v → Value.okWide Tryd.prog W .any base t v := hval0
  have hW' := hW
  obtain ⟨p, q, hA0, hV, rfl, hfz, hnd⟩ := hW
  have hA : DataW.TrodAll enc Tryd.prog W 0 (fun _ => true) true Tryd.f5.params.toList args.toList ds p := hA0
  rw [Tryd.params5] at hA hval
  obtain ⟨v0, vs0, d0, ds0, p0, q0, hargs, rfl, rfl, h0, r0⟩ := trodAll_cons hA
  obtain ⟨v1, vs1, d1, ds1, p1, q1, rfl, rfl, rfl, h1, r1⟩ := trodAll_cons r0
  obtain ⟨v2, vs2, d2, ds2, p2, q2, rfl, rfl, rfl, h2, r2⟩ := trodAll_cons r1
  obtain ⟨rfl, rfl, rfl⟩ := trodAll_nil r2
  obtain rfl : args = #[v0, v1, v2] := by cases args; simp_all
  obtain ⟨rfl, rfl⟩ := trodVars_none hV
  obtain ⟨a0, len0, cap0, rfl⟩ := okWide_slice Tryd.underlying22 (hval 0 22 v0 rfl rfl)
  have k0 := h0
  have lt0 : ∀ x ∈ p0, x.block < W.heap.size := by obtain ⟨m, hm⟩ := k0; exact DataW.trod_lt m _ _ _ hm
  obtain ⟨z0, w0⟩ : ∃ zs, IsRow .u8 W a0 len0 cap0 zs := by
    obtain ⟨fuel, hf⟩ := h0
    rcases open_ints Tryd.underlying22 Tryd.underlying5 (by kernel_rfl) hf with ⟨hcs, _⟩ | ⟨x, l, c, zs, hcs, _, hl, hm, hz, _, hcell, hwz⟩
    · simp [Value.cells] at hcs
      obtain ⟨rfl, rfl, rfl⟩ := hcs
      exact ⟨[], .inl ⟨rfl, rfl, rfl, rfl⟩⟩
    · simp [Value.cells] at hcs
      obtain ⟨rfl, rfl, rfl⟩ := hcs
      exact ⟨zs, .inr ⟨_, rfl, hl, hm, by simpa using hz, hcell, hwz⟩⟩
  obtain ⟨a1, rfl, rfl, rfl, w1⟩ := open_int Tryd.underlying32 (hval 1 32 v1 rfl rfl) h1
  obtain ⟨a2, rfl, rfl, rfl, w2⟩ := open_int Tryd.underlying5 (hval 2 5 v2 rfl rfl) h2
  clear hA0 hval0
  refine (walk a0 len0 cap0 z0 a1 a2 W w0 w1 w2 (laid_of_met hL)).mono fun e W' ⟨he, bel⟩ => ?_
  subst he
  exact ⟨_, rfl, _, _, _, [], _, [], hW', trodAll_mk1 (shut_bool Tryd.underlying4 _), (trodAll_cons_mk (Below.trod laidOut (by kernel_rfl) (of_decide_eq_true (by kernel_rfl)) k0 bel lt0) (trodAll_cons_mk (shut_int Tryd.underlying32 w1) (trodAll_cons_mk (shut_int Tryd.underlying5 w2) trodAll_mk0))), rfl, bel.frame _, fun h => by cases h⟩

theorem over : Rows.hexaBadRow.holds Tryd.pinned (OpenSpec.ofChange Rows.hexaBadSpec) :=
  OpenClaim.holds_of_wide 5 Tryd.f5 rfl rfl rfl rfl rfl rfl rfl ⟨rfl, rfl, rfl, rfl, rfl⟩ rfl rfl rfl rfl rfl (by kernel_rfl) Tryd.func5 (by kernel_rfl)
    (of_decide_eq_true (by kernel_rfl)) (by unfold Func.isWrapper; first | (rw [if_pos (by decide +kernel)]; kernel_rfl) | (rw [if_neg (by decide +kernel)]; exact ⟨rfl, rfl⟩))
    (fun os started H enc _ => lifted os started H enc)

/-- ████ THE STATEMENT: the tied card ████ -/
theorem proved : Rows.HexaBadCardSaid :=
  Claim7.holds_tied_plain_at .later [] [.data] true (true, "ceb72e2ecee2712e2ed1fd54dbaa7e15a36d8d3844131c62eb4b2152d09d1dc8") false
    over (fun _ h => by cases h) (by kernel_rfl) (fun _ h => by cases h) hexaBad_row_tie rfl ⟨rfl, rfl⟩ (by kernel_rfl) rfl
    (fun f fn hf hfn => by
      obtain rfl : f = 5 := Option.some.inj ((show Tryd.prog.funcNamed "busbar/busbarlaw03.HexaBad" = some 5 by kernel_rfl).symm.trans hf) |>.symm
      obtain rfl : fn = Tryd.f5 := (Option.some.inj (Tryd.func5.symm.trans hfn)).symm
      exact ⟨by kernel_rfl, fun j t ht => by
        rw [Tryd.params5] at ht
        have hm : t ∈ [22, 32, 5] := by simpa using Array.mem_of_getElem? ht
        have hall : ([22, 32, 5].all fun u => !Tryd.prog.wantsStandIn u) = true := by kernel_rfl
        exact (show Tryd.prog.wantsStandIn t = false by simpa using List.all_eq_true.1 hall t hm)⟩)
    (by kernel_rfl)
#print axioms proved
end Go.Proofs.YtjidokjajkoneaaDoor.hexaBad
