/-
  Proved: for every input the law HexaEach answers true, and each argument reads behind the call as it read before, where the listed package-level variables (busbar/hexa.digits) hold, when the call begins, what the program's text lays; the card ties that to the text.
  Conditions: 'laid' alone, as the given statement Rows.HexaEachCardSaid has it; the tie speaks of the pruned copy of the project that was translated, not of other packages or tests.
-/
import Derived.Test.YtjidokjajkoneaaDoorRows
import Derived.WalkKit
import Derived.ProofKit
import Derived.OpenShut
import Derived.ShutString
import Derived.ChangeOld
import Derived.Below
import Derived.Test.YtjidokjajkoneaaDoorTie
import Derived.Test.YtjidokjajkoneaaDoorCards
import Derived.SevenTiedAt
import Derived.Test.YtjidokjajkoneaaDoorHexaLaid
import Derived.Test.YtjidokjajkoneaaDoorHexaAwake
import Derived.Test.YtjidokjajkoneaaDoorHexaText
namespace Go.Proofs.YtjidokjajkoneaaDoor.hexaEach
open Go.ChangeShapes Go.WideShapes Go.ChangeAt Go.RowKit
open Go.ChangeMaps (open_string shut_string)
set_option linter.unusedVariables false

open Hexa
theorem putL_at (xs : List UInt8) (k : Nat) (h : k < xs.length) : ((putL xs).drop (2 * k)).take 2 = putL [xs[k]] := by
  have e : putL xs = putL (xs.take k) ++ putL (xs.drop k) := by rw [← putL_append, List.take_append_drop]
  have hl : (putL (xs.take k)).length = 2 * k := by rw [putL_length, List.length_take]; omega
  rw [e, ← hl, List.drop_left, List.drop_eq_getElem_cons h]
  simp [putL]
theorem putL_hi (xs : List UInt8) (k : Nat) (h : k < xs.length) (h' : 2 * k < (putL xs).length) : (putL xs)[2 * k] = hexB (xs[k].toNat / 16) := by
  have := congrArg (fun l => l[0]?) (putL_at xs k h)
  simpa [putL, List.getElem?_take, List.getElem?_drop, List.getElem?_eq_getElem h'] using this
theorem putL_lo (xs : List UInt8) (k : Nat) (h : k < xs.length) (h' : 2 * k + 1 < (putL xs).length) : (putL xs)[2 * k + 1] = hexB (xs[k].toNat % 16) := by
  have := congrArg (fun l => l[1]?) (putL_at xs k h)
  simpa [putL, List.getElem?_take, List.getElem?_drop, List.getElem?_eq_getElem h'] using this
theorem one_cell {w : World} {b o c : Nat} {x : UInt8} (h : w.cell? ⟨b, o, none⟩ = some (.int .u8 (x.toNat : Int))) (h1 : 1 ≤ c) (h2 : c ≤ maxLen) : Bs w (some ⟨b, o, none⟩) 1 c [x] :=
  Sl.of rfl h1 h2 (World.block_lt_of_cell? w _ h) fun i hi => by
    have : i = 0 := by simpa using hi
    subst this
    exact h
theorem own : ownKnob Tryd.prog.godebug = none := by kernel_rfl
theorem laidOut : laidOutB Tryd.prog = true := by kernel_rfl

/-- WHAT THE WALK IS TOLD OF A SLICE OF INTEGERS THAT CAME IN: it is nil; or it leads to a row of 'cap' cells, the numbers 'zs' (the first 'len' are its elements, the rest its spare room), each fitting its kind. -/
def IsRow (k : IntKind) (w : World) (a : Option Addr) (len cap : Nat) (zs : List Int) : Prop :=
  (a = none ∧ len = 0 ∧ cap = 0 ∧ zs = []) ∨
  ∃ x, a = some x ∧ len ≤ cap ∧ cap ≤ maxLen ∧ zs.length = cap ∧ (∀ i, i < zs.length → w.cell? (x.add i) = some (.int k (zs.getD i 0))) ∧ ∀ n ∈ zs, (Lit.int k n).wf = true

/-! ### STEP 1: THE WALK: the Go text returns true, AND WRITES NOTHING THAT WAS THERE: 'Below w.heap.size w w'' (Derived/Below.lean: '.refl', '.alloc', '.drew', '.setCell' at a new block, '.trans'). Open each 'IsRow' by 'rcases' AHEAD of 'go_enter'; part every test ahead of the walk. -/
set_option maxHeartbeats 2000000 in
theorem walk (a0 : Option Addr) (len0 cap0 : Nat) (z0 : List Int) (a1 : Int) (w : World) (w0 : IsRow .u8 w a0 len0 cap0 z0) (w1 : (Lit.int .u16 a1).wf = true) (hD : Laid w) :
    Calls Tryd.prog 7 #[.slice a0 len0 cap0, .int .u16 a1] w fun e w' => e = .returned (.bool true) ∧ Below w.heap.size w w' := by
  obtain ⟨xs, hx⟩ := Bs.ofRow w0
  obtain ⟨at', rfl, hat⟩ : ∃ s : Nat, a1 = s ∧ s < 65536 := nat_u16 w1
  have hml := hide hx.hlen
  have hm := hx.hle
  have hm2 := hx.hmax
  unfold maxLen at hm2
  have hpl : (strOf (putL xs)).size = 2 * len0 := by rw [strOf_size, putL_length, hml.out]
  have hst := strOf_toList
  go_enter Tryd.func7, Tryd.ntmps7
  go_wp2_with fail
  refine (awake_any w hD).mono ?_
  rintro e w1 ⟨rfl, hb1⟩
  by_cases hbig : 300 < len0
  · go_wp2
    go_ret
    exact ⟨rfl, hb1⟩
  by_cases h0 : len0 = 0
  · subst h0
    go_wp2
    go_ret
    exact ⟨rfl, hb1⟩
  have h0b : ((len0 : Int) == 0) = false := by rw [show ((len0 : Int) == 0) = decide (len0 = 0) from beq_cast len0 0]; simpa using h0
  have hx1 := hx.mono hb1
  have hD1 := hD.mono hb1
  obtain ⟨k, hk⟩ : ∃ k, k = at' % len0 := ⟨_, rfl⟩
  have hkl : k < len0 := by rw [hk]; exact Nat.mod_lt _ (by omega)
  have hkz : (at' : Int) % (len0 : Int) = (k : Int) := by rw [hk]; simp
  clear hk
  go_wp2_with fail
  refine (put_any _ _ _ _ _ hx1 hD1 (by omega)).mono ?_
  rintro e w2 ⟨rfl, hb2⟩
  have hx2 := hx1.mono hb2
  have hD2 := hD1.mono hb2
  replace hb2 := below_next hb1 hb2 (Nat.le_refl _)
  have hkx : k < xs.length := by rw [hml.out]; exact hkl
  obtain ⟨b, off, rfl, hbl, hc0⟩ := hx.hcell k hkx
  have hc : w2.cell? ⟨b, off + k, none⟩ = some (.int .u8 (xs[k].toNat : Int)) := (hb2.cell (p := ⟨b, off + k, none⟩) hbl).trans hc0
  have hlen : (putL xs).length = 2 * len0 := by rw [putL_length, hml.out]
  have sm : ∀ w, (Instr.slice 9 (.string (strOf (putL xs))) (some (.int .i64 (2 * (k : Int)))) (some (.int .i64 (2 * (k : Int) + 2))) none).run Tryd.prog w = .ok (.string (strOf (putL [xs[k]]))) w := fun w => by
    rw [slice_mid (putL xs) (2 * k) (2 * k + 2) (2 * (k : Int)) (2 * (k : Int) + 2) (by omega) (by omega) (by omega) (by omega) w, show 2 * k + 2 - 2 * k = 2 by omega, putL_at xs k hkx]
  have hlt1 : xs[k].toNat / 16 < 16 := by have := byte_lt xs[k]; omega
  have hlt2 : xs[k].toNat % 16 < 16 := by omega
  have i0 : ∀ w, (Instr.index 9 (.string (strOf (putL xs))) (.int .i64 (2 * (k : Int)))).run Tryd.prog w = .ok (.int .u8 (hexN (xs[k].toNat / 16) : Int)) w := fun w => by
    rw [index_str (putL xs) (2 * k) (by omega) (2 * (k : Int)) (by omega) w, putL_hi xs k hkx, hexB_toNat _ hlt1]
  have i1 : ∀ w, (Instr.index 9 (.string (strOf (putL xs))) (.int .i64 (2 * (k : Int) + 1))).run Tryd.prog w = .ok (.int .u8 (hexN (xs[k].toNat % 16) : Int)) w := fun w => by
    rw [index_str (putL xs) (2 * k + 1) (by omega) (2 * (k : Int) + 1) (by omega) w, putL_lo xs k hkx, hexB_toNat _ hlt2]
  have HC1 := fun (w' : World) (h : w'.cell? ⟨b, off + k, none⟩ = some (.int .u8 (xs[k].toNat : Int))) (c : Nat) (h1 : 1 ≤ c) (h2 : c ≤ maxLen) => one_cell h h1 h2
  have hd1 := digZ_hexN _ hlt1
  have hd2 := digZ_hexN _ hlt2
  generalize xs[k] = x at *
  generalize putL xs = ps at *
  generalize hq : putL [x] = qs at *
  have HQ := hide hq
  have HH := hide HC1
  clear hq HC1 hx hx1 hx2 w0 hml hkx hlen hc0
  obtain ⟨n, hn⟩ : ∃ n, n = x.toNat := ⟨_, rfl⟩
  rw [← hn] at hc i0 i1 hd1 hd2 hlt1 hlt2 HH
  obtain ⟨p, hp⟩ : ∃ p, p = n / 16 := ⟨_, rfl⟩
  obtain ⟨q, hq⟩ : ∃ q, q = n % 16 := ⟨_, rfl⟩
  have hnn : n = 16 * p + q := by omega
  rw [← hp] at i0 hd1 hlt1
  rw [← hq] at i1 hd2 hlt2
  clear hp hq hn
  have hw1 : IntKind.i64.wrap (2 * (k : Int)) = 2 * (k : Int) := by rw [IntKind.wrap_i64]; omega
  have hw2 : IntKind.i64.wrap (2 * (k : Int) + 2) = 2 * (k : Int) + 2 := by rw [IntKind.wrap_i64]; omega
  have hw3 : IntKind.i64.wrap (2 * (k : Int) + 1) = 2 * (k : Int) + 1 := by rw [IntKind.wrap_i64]; omega
  have hw4 : IntKind.i64.wrap ((k : Int) + 1) = (k : Int) + 1 := by rw [IntKind.wrap_i64]; omega
  have hw5 : IntKind.i64.wrap (16 * (p : Int)) = 16 * (p : Int) := by rw [IntKind.wrap_i64]; omega
  have hw6 : IntKind.i64.wrap (16 * (p : Int) + (q : Int)) = 16 * (p : Int) + (q : Int) := by rw [IntKind.wrap_i64]; omega
  have hcne : ¬ cap0 = k := by omega
  have l0 : (0 : Int) ≤ (k : Int) := by omega
  have l1 : (k : Int) < (len0 : Int) := by omega
  have l2 : (k : Int) + 1 ≤ (cap0 : Int) := by omega
  have l3 : (k : Int) ≤ (k : Int) + 1 := by omega
  have l4 : (0 : Int) ≤ (k : Int) + 1 := by omega
  go_wp2
  go_region_held3 (fun w' => w'.cell? ⟨b, off + k, none⟩ = some (.int .u8 (n : Int)) ∧ Laid w' ∧ Below w.heap.size w w')
    (first
      | (go_split_ands; exact ⟨by assumption, by assumption, by assumption⟩)
      | (go_split_ands; exact ⟨by assumption, Laid.mono (by assumption) ((Below.refl _ _).drew), Below.drew (by assumption)⟩)
      | (go_split_ands; exact ⟨(hb5.cell (p := ⟨b, off + k, none⟩) (World.block_lt_of_cell? _ _ (by assumption))).trans (by assumption), Laid.mono (by assumption) hb5, below_next (by assumption) hb5 (Nat.le_refl _)⟩))
    (first
      | (go_at_call 11; go_split_ands; refine (digit_any _ _ (by assumption)).mono ?_; rintro e w' ⟨rfl, rfl⟩)
      | (go_at_call 13; go_split_ands; refine (put_any _ _ _ _ _ (HH.out _ (by assumption) _ (by omega) (by unfold maxLen; omega)) (by assumption) (by omega)).mono ?_; rintro e w5 ⟨rfl, hb5⟩; rw [HQ.out]))
  all_goals (go_wp2; go_ret; exact ⟨ret_bool (by first | rfl | (simp; done) | (simp; omega)), by (go_split_ands; assumption)⟩)

/-! ### THE ROW's STEP: WRITTEN OUT: LEAVE IT -/
set_option maxRecDepth 100000 in
theorem lifted (os : Os) (started : os.Started) (H : Type) (enc : TypeId × Value → H) :
    ReturnsInHanded {} Tryd.checked os 7 .any (fun w args => (Rows.hexaEachSpec.pre enc Tryd.prog Tryd.f7 [] false w args ∧ laidMetH Tryd.prog laidL w) ∧ sizedMet enc Tryd.prog Tryd.f7 (OpenSpec.ofChange Rows.hexaEachSpec) false w args) (Rows.hexaEachSpec.post enc Tryd.prog Tryd.f7 false true false false) := by
  refine returnsInHanded_of_change_and (C := Tryd.checked) (X := fun w _ => laidMetH Tryd.prog laidL w) (fun _ _ _ hh h => h.of_heap hh) own started (by kernel_rfl) Tryd.func7
    (ChangeSpec.witness_shaped (enc := enc) (C := Tryd.checked) (os := os) (X := fun w _ => laidMetH Tryd.prog laidL w) false (World.doorLaid Tryd.prog 400 os) #[.slice none 0 0, .int .u16 0] 8 rfl (World.shaped_of_RefB (by kernel_rfl) (by kernel_rfl)) (by kernel_rfl) (by kernel_rfl) (by kernel_rfl) (door_met os _)) ?_
  intro W base args ds gs before hval0 hW _ _ hL _
  have hval : ∀ (j : Nat) t v, Tryd.f7.params[j]? = some t → args[j]? = some v → Value.okWide Tryd.prog W .any base t v := hval0
  have hW' := hW
  obtain ⟨p, q, hA0, hV, rfl, hfz, hnd⟩ := hW
  have hA : DataW.TrodAll enc Tryd.prog W 0 (fun _ => true) true Tryd.f7.params.toList args.toList ds p := hA0
  rw [Tryd.params7] at hA hval
  obtain ⟨v0, vs0, d0, ds0, p0, q0, hargs, rfl, rfl, h0, r0⟩ := trodAll_cons hA
  obtain ⟨v1, vs1, d1, ds1, p1, q1, rfl, rfl, rfl, h1, r1⟩ := trodAll_cons r0
  obtain ⟨rfl, rfl, rfl⟩ := trodAll_nil r1
  obtain rfl : args = #[v0, v1] := by cases args; simp_all
  obtain ⟨rfl, rfl⟩ := trodVars_none hV
  obtain ⟨a0, len0, cap0, rfl⟩ := okWide_slice Tryd.underlying22 (hval 0 22 v0 rfl rfl)
  have k0 := h0
  have lt0 : ∀ x ∈ p0, x.block < W.heap.size := by obtain ⟨m, hm⟩ := k0; exact DataW.trod_lt m _ _ _ hm
  obtain ⟨z0, w0⟩ : ∃ zs, IsRow .u8 W a0 len0 cap0 zs := by
    obtain ⟨fuel, hf⟩ := h0
    rcases open_ints Tryd.underlying22 Tryd.underlying5 (by kernel_rfl) hf with ⟨hcs, _⟩ | ⟨x, l, c, zs, hcs, _, hl, hm, hz, _, hcell, hwz⟩
    · simp [Value.cells] at hcs
      obtain ⟨rfl, rfl, rfl⟩ := hcs
      exact ⟨[], .inl ⟨rfl, rfl, rfl, rfl⟩⟩
    · simp [Value.cells] at hcs
      obtain ⟨rfl, rfl, rfl⟩ := hcs
      exact ⟨zs, .inr ⟨_, rfl, hl, hm, by simpa using hz, hcell, hwz⟩⟩
  obtain ⟨a1, rfl, rfl, rfl, w1⟩ := open_int Tryd.underlying32 (hval 1 32 v1 rfl rfl) h1
  clear hA0 hval0
  refine (walk a0 len0 cap0 z0 a1 W w0 w1 (laid_of_met hL)).mono fun e W' ⟨he, bel⟩ => ?_
  subst he
  exact ⟨_, rfl, _, _, _, [], _, [], hW', trodAll_mk1 (shut_bool Tryd.underlying4 _), (trodAll_cons_mk (Below.trod laidOut (by kernel_rfl) (of_decide_eq_true (by kernel_rfl)) k0 bel lt0) (trodAll_cons_mk (shut_int Tryd.underlying32 w1) trodAll_mk0)), rfl, bel.frame _, fun h => by cases h⟩

theorem over : Rows.hexaEachRow.holds Tryd.pinned (OpenSpec.ofChange Rows.hexaEachSpec) :=
  OpenClaim.holds_of_wide 7 Tryd.f7 rfl rfl rfl rfl rfl rfl rfl ⟨rfl, rfl, rfl, rfl, rfl⟩ rfl rfl rfl rfl rfl (by kernel_rfl) Tryd.func7 (by kernel_rfl)
    (of_decide_eq_true (by kernel_rfl)) (by unfold Func.isWrapper; first | (rw [if_pos (by decide +kernel)]; kernel_rfl) | (rw [if_neg (by decide +kernel)]; exact ⟨rfl, rfl⟩))
    (fun os started H enc _ => lifted os started H enc)

/-- ████ THE STATEMENT: the tied card ████ -/
theorem proved : Rows.HexaEachCardSaid :=
  Claim7.holds_tied_plain_at .later [] [.data] true (true, "ceb72e2ecee2712e2ed1fd54dbaa7e15a36d8d3844131c62eb4b2152d09d1dc8") false
    over (fun _ h => by cases h) (by kernel_rfl) (fun _ h => by cases h) hexaEach_row_tie rfl ⟨rfl, rfl⟩ (by kernel_rfl) rfl
    (fun f fn hf hfn => by
      obtain rfl : f = 7 := Option.some.inj ((show Tryd.prog.funcNamed "busbar/busbarlaw03.HexaEach" = some 7 by kernel_rfl).symm.trans hf) |>.symm
      obtain rfl : fn = Tryd.f7 := (Option.some.inj (Tryd.func7.symm.trans hfn)).symm
      exact ⟨by kernel_rfl, fun j t ht => by
        rw [Tryd.params7] at ht
        have hm : t ∈ [22, 32] := by simpa using Array.mem_of_getElem? ht
        have hall : ([22, 32].all fun u => !Tryd.prog.wantsStandIn u) = true := by kernel_rfl
        exact (show Tryd.prog.wantsStandIn t = false by simpa using List.all_eq_true.1 hall t hm)⟩)
    (by kernel_rfl)
#print axioms proved
end Go.Proofs.YtjidokjajkoneaaDoor.hexaEach
