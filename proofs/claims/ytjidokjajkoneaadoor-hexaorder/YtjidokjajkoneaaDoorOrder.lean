/-
  Proved: for every input the law HexaOrder answers true, and each argument reads behind the call as it read before, where the listed package-level variables (busbar/hexa.digits) hold, when the call begins, what the program's text lays; the card ties that to the text.
  Conditions: 'laid' alone, as the given statement Rows.HexaOrderCardSaid has it; the tie speaks of the pruned copy of the project that was translated, not of other packages or tests.
-/
import Derived.Test.YtjidokjajkoneaaDoorRows
import Derived.WalkKit
import Derived.ProofKit
import Derived.OpenShut
import Derived.ShutString
import Derived.ChangeOld
import Derived.Below
import Derived.Test.YtjidokjajkoneaaDoorTie
import Derived.Test.YtjidokjajkoneaaDoorCards
import Derived.SevenTiedAt
import Derived.Test.YtjidokjajkoneaaDoorHexaLaid
import Derived.Test.YtjidokjajkoneaaDoorHexaAwake
import Derived.Test.YtjidokjajkoneaaDoorHexaText
namespace Go.Proofs.YtjidokjajkoneaaDoor.hexaOrder
open Go.ChangeShapes Go.WideShapes Go.ChangeAt Go.RowKit
open Go.ChangeMaps (open_string shut_string)
set_option linter.unusedVariables false

open Hexa
theorem hexB_lt (m n : Nat) (hm : m < 16) (hn : n < 16) : (hexB m < hexB n) ↔ m < n := by
  rw [UInt8.lt_iff_toNat_lt, hexB_toNat m hm, hexB_toNat n hn]
  unfold hexN
  split <;> split <;> omega
theorem hexB_eq (m n : Nat) (hm : m < 16) (hn : n < 16) : (hexB m = hexB n) ↔ m = n := by
  rw [← UInt8.toNat_inj, hexB_toNat m hm, hexB_toNat n hn]
  unfold hexN
  split <;> split <;> omega
theorem less_putL : ∀ (xs ys : List UInt8), xs.length = ys.length → Op.bytesLess (putL xs) (putL ys) = Op.bytesLess xs ys
  | [], [], _ => rfl
  | [], _ :: _, h => by simp at h
  | _ :: _, [], h => by simp at h
  | x :: xs, y :: ys, h => by
    have ih := less_putL xs ys (by simpa using h)
    have hx := byte_lt x
    have hy := byte_lt y
    have l1 : x.toNat / 16 < 16 := by omega
    have l2 : y.toNat / 16 < 16 := by omega
    have l3 : x.toNat % 16 < 16 := by omega
    have l4 : y.toNat % 16 < 16 := by omega
    simp only [putL, Op.bytesLess, ih]
    rw [Bool.eq_iff_iff]
    simp only [Bool.or_eq_true, Bool.and_eq_true, decide_eq_true_eq, beq_iff_eq, hexB_lt _ _ l1 l2, hexB_eq _ _ l1 l2, hexB_lt _ _ l3 l4, hexB_eq _ _ l3 l4, UInt8.lt_iff_toNat_lt, ← UInt8.toNat_inj]
    generalize Op.bytesLess xs ys = b
    constructor
    · rintro (h | ⟨h1, h | ⟨h2, h⟩⟩)
      · exact .inl (by omega)
      · exact .inl (by omega)
      · exact .inr ⟨by omega, h⟩
    · rintro (h | ⟨h1, h⟩)
      · by_cases e : x.toNat / 16 = y.toNat / 16
        · exact .inr ⟨e, .inl (by omega)⟩
        · exact .inl (by omega)
      · exact .inr ⟨by omega, .inr ⟨by omega, h⟩⟩
theorem own : ownKnob Tryd.prog.godebug = none := by kernel_rfl
theorem laidOut : laidOutB Tryd.prog = true := by kernel_rfl

/-- WHAT THE WALK IS TOLD OF A SLICE OF INTEGERS THAT CAME IN: it is nil; or it leads to a row of 'cap' cells, the numbers 'zs' (the first 'len' are its elements, the rest its spare room), each fitting its kind. -/
def IsRow (k : IntKind) (w : World) (a : Option Addr) (len cap : Nat) (zs : List Int) : Prop :=
  (a = none ∧ len = 0 ∧ cap = 0 ∧ zs = []) ∨
  ∃ x, a = some x ∧ len ≤ cap ∧ cap ≤ maxLen ∧ zs.length = cap ∧ (∀ i, i < zs.length → w.cell? (x.add i) = some (.int k (zs.getD i 0))) ∧ ∀ n ∈ zs, (Lit.int k n).wf = true

/-! ### STEP 1: THE WALK: the Go text returns true, AND WRITES NOTHING THAT WAS THERE: 'Below w.heap.size w w'' (Derived/Below.lean: '.refl', '.alloc', '.drew', '.setCell' at a new block, '.trans'). Open each 'IsRow' by 'rcases' AHEAD of 'go_enter'; part every test ahead of the walk. -/
set_option maxHeartbeats 2000000 in
theorem walk (a0 : Option Addr) (len0 cap0 : Nat) (z0 : List Int) (a1 : Option Addr) (len1 cap1 : Nat) (z1 : List Int) (a2 : Int) (w : World) (w0 : IsRow .u8 w a0 len0 cap0 z0) (w1 : IsRow .u8 w a1 len1 cap1 z1) (w2 : (Lit.int .u8 a2).wf = true) (hD : Laid w) :
    Calls Tryd.prog 6 #[.slice a0 len0 cap0, .slice a1 len1 cap1, .int .u8 a2] w fun e w' => e = .returned (.bool true) ∧ Below w.heap.size w w' := by
  obtain ⟨xa, hx⟩ := Bs.ofRow w0
  obtain ⟨xb, hy⟩ := Bs.ofRow w1
  obtain ⟨n, rfl, hn⟩ : ∃ s : Nat, a2 = s ∧ s < 256 := nat_u8 w2
  have hm := hx.hle
  have hm2 := hx.hmax
  have hm3 := hy.hle
  have hm4 := hy.hmax
  unfold maxLen at hm2 hm4
  have hst := strOf_toList
  obtain ⟨k, hmin, hk0, hk1⟩ : ∃ k : Nat, (∀ ts t w, (Builtin.min_ ts t #[.int .i64 (len0 : Int), .int .i64 (len1 : Int)]).run Tryd.prog w = .ok (.int .i64 (k : Int)) w) ∧ k ≤ len0 ∧ k ≤ len1 := by
    refine ⟨min len0 len1, fun ts t w => ?_, by omega, by omega⟩
    rw [run_min_int2]
    congr 2
    split <;> omega
  go_enter Tryd.func6, Tryd.ntmps6
  go_wp2_with fail
  refine (awake_any w hD).mono ?_
  rintro e w1 ⟨rfl, hb1⟩
  by_cases hbig : 300 < k
  · go_wp2
    go_ret
    exact ⟨rfl, hb1⟩
  have hx1 := (hx.take k hk0).mono hb1
  have hy1 := (hy.take k hk1).mono hb1
  have HLL := hide (less_putL (xa.take k) (xb.take k) (by rw [hx1.hlen, hy1.hlen]))
  generalize xa.take k = xs at *
  generalize xb.take k = ys at *
  have hD1 := hD.mono hb1
  clear hx hy w0
  have hD1a := hD1.mono ((Below.refl w1.heap.size w1).alloc (Nat.le_refl _) (.cells #[.int .u8 ((n : Int) % 16)] 5))
  have hsz : (strOf (putL [UInt8.ofNat (n % 16)])).size = 2 := rfl
  have e1 : putL [UInt8.ofNat (n % 16)] = [hexB 0, hexB (n % 16)] := by
    have : (UInt8.ofNat (n % 16)).toNat = n % 16 := by rw [UInt8.toNat_ofNat']; omega
    simp only [putL, this]
    rw [show n % 16 / 16 = 0 by omega, show n % 16 % 16 = n % 16 by omega]
  have i0 : ∀ w, (Instr.index 9 (.string (strOf (putL [UInt8.ofNat (n % 16)]))) (.int .i64 0)).run Tryd.prog w = .ok (.int .u8 48) w := fun w => by
    rw [e1, index_str [hexB 0, hexB (n % 16)] 0 (by simp) 0 (by rfl) w]; rfl
  have i1 : ∀ w, (Instr.index 9 (.string (strOf (putL [UInt8.ofNat (n % 16)]))) (.int .i64 1)).run Tryd.prog w = .ok (.int .u8 (hexN (n % 16) : Int)) w := fun w => by
    rw [e1, index_str [hexB 0, hexB (n % 16)] 1 (by simp) 1 (by rfl) w]
    have := hexB_toNat (n % 16) (by omega)
    simp [this]
  clear e1
  go_wp2_with fail
  refine (put_any _ _ _ _ _ (one_own w1 _ (n % 16) (by omega) (by omega) 5).sl hD1a (by omega)).mono ?_
  rintro e w2 ⟨rfl, hb2⟩
  replace hb2 := below_next ((Below.refl w1.heap.size w1).alloc (Nat.le_refl _) _) hb2 (Nat.le_refl _)
  have hx2 := hx1.mono hb2
  have hy2 := hy1.mono hb2
  have hD2 := hD1.mono hb2
  replace hb2 := below_next hb1 hb2 (Nat.le_refl _)
  clear hx1 hy1 hD1 hD1a
  generalize strOf (putL [UInt8.ofNat (n % 16)]) = S at *
  have t3 : IntKind.i64.wrap ((n : Int) % 16) = (n : Int) % 16 := by rw [IntKind.wrap_i64]; omega
  have t2 : (n : Int).tmod 16 = (n : Int) % 16 := Int.tmod_eq_emod_of_nonneg (by omega)
  have hd := digZ_hexN (n % 16) (by omega)
  have l0 : (0 : Int) ≤ (k : Int) := by omega
  have l1 : (k : Int) ≤ (cap0 : Int) := by omega
  have l2 : (k : Int) ≤ (cap1 : Int) := by omega
  have cx := fun (w' : World) (h : Bs w' a0 k cap0 xs) => Bs.conv (P := Tryd.prog) h 22 5 Tryd.underlying22 Tryd.underlying5 9 Tryd.underlying9
  have cy := fun (w' : World) (h : Bs w' a1 k cap1 ys) => Bs.conv (P := Tryd.prog) h 22 5 Tryd.underlying22 Tryd.underlying5 9 Tryd.underlying9
  obtain ⟨bl, hbl⟩ : ∃ bl, Op.bytesLess xs ys = bl := ⟨_, rfl⟩
  have hless : Op.bytesLess (putL xs) (putL ys) = bl := HLL.out.trans hbl
  have CX := hide cx
  have CY := hide cy
  clear cx cy HLL
  have cx2 := CX.out _ hx2.drew
  have cy2 := CY.out _ hy2.drew
  go_wp2
  go_region_held3 (fun w' => (convert 22 9 (.slice a0 k cap0)).run Tryd.prog w' = .ok (.string (strOf xs)) w' ∧ (convert 22 9 (.slice a1 k cap1)).run Tryd.prog w' = .ok (.string (strOf ys)) w' ∧ Bs w' a0 k cap0 xs ∧ Bs w' a1 k cap1 ys ∧ Laid w' ∧ Below w.heap.size w w')
    (first
      | (go_split_ands; exact ⟨by assumption, by assumption, by assumption, by assumption, by assumption, by assumption⟩)
      | (exact ⟨cx2, cy2, hx2.drew, hy2.drew, hD2.mono ((Below.refl _ _).drew), hb2.drew⟩)
      | (go_split_ands; exact ⟨CX.out _ (Sl.mono (by assumption) hb6), CY.out _ (Sl.mono (by assumption) hb6), Sl.mono (by assumption) hb6, Sl.mono (by assumption) hb6, Laid.mono (by assumption) hb6, below_next (by assumption) hb6 (Nat.le_refl _)⟩)
      | (go_split_ands; exact ⟨CX.out _ (Sl.mono (by assumption) hb5), CY.out _ (Sl.mono (by assumption) hb5), Sl.mono (by assumption) hb5, Sl.mono (by assumption) hb5, Laid.mono (by assumption) hb5, below_next (by assumption) hb5 (Nat.le_refl _)⟩))
    (first
      | (go_at_call 11; go_split_ands; refine (digit_any _ _ (by assumption)).mono ?_; rintro e w' ⟨rfl, rfl⟩)
      | (go_at_call_of 13 a0; go_split_ands; refine (put_any a0 k cap0 xs _ (by assumption) (by assumption) (by omega)).mono ?_; rintro e w5 ⟨rfl, hb5⟩)
      | (go_at_call_of 13 a1; go_split_ands; refine (put_any a1 k cap1 ys _ (by assumption) (by assumption) (by omega)).mono ?_; rintro e w6 ⟨rfl, hb6⟩))
  all_goals (go_wp2; go_ret; exact ⟨ret_bool (by first | rfl | (simp; done) | (simp; omega)), by (go_split_ands; assumption)⟩)

/-! ### THE ROW's STEP: WRITTEN OUT: LEAVE IT -/
set_option maxRecDepth 100000 in
theorem lifted (os : Os) (started : os.Started) (H : Type) (enc : TypeId × Value → H) :
    ReturnsInHanded {} Tryd.checked os 6 .any (fun w args => (Rows.hexaOrderSpec.pre enc Tryd.prog Tryd.f6 [] false w args ∧ laidMetH Tryd.prog laidL w) ∧ sizedMet enc Tryd.prog Tryd.f6 (OpenSpec.ofChange Rows.hexaOrderSpec) false w args) (Rows.hexaOrderSpec.post enc Tryd.prog Tryd.f6 false true false false) := by
  refine returnsInHanded_of_change_and (C := Tryd.checked) (X := fun w _ => laidMetH Tryd.prog laidL w) (fun _ _ _ hh h => h.of_heap hh) own started (by kernel_rfl) Tryd.func6
    (ChangeSpec.witness_shaped (enc := enc) (C := Tryd.checked) (os := os) (X := fun w _ => laidMetH Tryd.prog laidL w) false (World.doorLaid Tryd.prog 400 os) #[.slice none 0 0, .slice none 0 0, .int .u8 0] 8 rfl (World.shaped_of_RefB (by kernel_rfl) (by kernel_rfl)) (by kernel_rfl) (by kernel_rfl) (by kernel_rfl) (door_met os _)) ?_
  intro W base args ds gs before hval0 hW _ _ hL _
  have hval : ∀ (j : Nat) t v, Tryd.f6.params[j]? = some t → args[j]? = some v → Value.okWide Tryd.prog W .any base t v := hval0
  have hW' := hW
  obtain ⟨p, q, hA0, hV, rfl, hfz, hnd⟩ := hW
  have hA : DataW.TrodAll enc Tryd.prog W 0 (fun _ => true) true Tryd.f6.params.toList args.toList ds p := hA0
  rw [Tryd.params6] at hA hval
  obtain ⟨v0, vs0, d0, ds0, p0, q0, hargs, rfl, rfl, h0, r0⟩ := trodAll_cons hA
  obtain ⟨v1, vs1, d1, ds1, p1, q1, rfl, rfl, rfl, h1, r1⟩ := trodAll_cons r0
  obtain ⟨v2, vs2, d2, ds2, p2, q2, rfl, rfl, rfl, h2, r2⟩ := trodAll_cons r1
  obtain ⟨rfl, rfl, rfl⟩ := trodAll_nil r2
  obtain rfl : args = #[v0, v1, v2] := by cases args; simp_all
  obtain ⟨rfl, rfl⟩ := trodVars_none hV
  obtain ⟨a0, len0, cap0, rfl⟩ := okWide_slice Tryd.underlying22 (hval 0 22 v0 rfl rfl)
  have k0 := h0
  have lt0 : ∀ x ∈ p0, x.block < W.heap.size := by obtain ⟨m, hm⟩ := k0; exact DataW.trod_lt m _ _ _ hm
  obtain ⟨z0, w0⟩ : ∃ zs, IsRow .u8 W a0 len0 cap0 zs := by
    obtain ⟨fuel, hf⟩ := h0
    rcases open_ints Tryd.underlying22 Tryd.underlying5 (by kernel_rfl) hf with ⟨hcs, _⟩ | ⟨x, l, c, zs, hcs, _, hl, hm, hz, _, hcell, hwz⟩
    · simp [Value.cells] at hcs
      obtain ⟨rfl, rfl, rfl⟩ := hcs
      exact ⟨[], .inl ⟨rfl, rfl, rfl, rfl⟩⟩
    · simp [Value.cells] at hcs
      obtain ⟨rfl, rfl, rfl⟩ := hcs
      exact ⟨zs, .inr ⟨_, rfl, hl, hm, by simpa using hz, hcell, hwz⟩⟩
  obtain ⟨a1, len1, cap1, rfl⟩ := okWide_slice Tryd.underlying22 (hval 1 22 v1 rfl rfl)
  have k1 := h1
  have lt1 : ∀ x ∈ p1, x.block < W.heap.size := by obtain ⟨m, hm⟩ := k1; exact DataW.trod_lt m _ _ _ hm
  obtain ⟨z1, w1⟩ : ∃ zs, IsRow .u8 W a1 len1 cap1 zs := by
    obtain ⟨fuel, hf⟩ := h1
    rcases open_ints Tryd.underlying22 Tryd.underlying5 (by kernel_rfl) hf with ⟨hcs, _⟩ | ⟨x, l, c, zs, hcs, _, hl, hm, hz, _, hcell, hwz⟩
    · simp [Value.cells] at hcs
      obtain ⟨rfl, rfl, rfl⟩ := hcs
      exact ⟨[], .inl ⟨rfl, rfl, rfl, rfl⟩⟩
    · simp [Value.cells] at hcs
      obtain ⟨rfl, rfl, rfl⟩ := hcs
      exact ⟨zs, .inr ⟨_, rfl, hl, hm, by simpa using hz, hcell, hwz⟩⟩
  obtain ⟨a2, rfl, rfl, rfl, w2⟩ := open_int Tryd.underlying5 (hval 2 5 v2 rfl rfl) h2
  clear hA0 hval0
  refine (walk a0 len0 cap0 z0 a1 len1 cap1 z1 a2 W w0 w1 w2 (laid_of_met hL)).mono fun e W' ⟨he, bel⟩ => ?_
  subst he
  exact ⟨_, rfl, _, _, _, [], _, [], hW', trodAll_mk1 (shut_bool Tryd.underlying4 _), (trodAll_cons_mk (Below.trod laidOut (by kernel_rfl) (of_decide_eq_true (by kernel_rfl)) k0 bel lt0) (trodAll_cons_mk (Below.trod laidOut (by kernel_rfl) (of_decide_eq_true (by kernel_rfl)) k1 bel lt1) (trodAll_cons_mk (shut_int Tryd.underlying5 w2) trodAll_mk0))), rfl, bel.frame _, fun h => by cases h⟩

theorem over : Rows.hexaOrderRow.holds Tryd.pinned (OpenSpec.ofChange Rows.hexaOrderSpec) :=
  OpenClaim.holds_of_wide 6 Tryd.f6 rfl rfl rfl rfl rfl rfl rfl ⟨rfl, rfl, rfl, rfl, rfl⟩ rfl rfl rfl rfl rfl (by kernel_rfl) Tryd.func6 (by kernel_rfl)
    (of_decide_eq_true (by kernel_rfl)) (by unfold Func.isWrapper; first | (rw [if_pos (by decide +kernel)]; kernel_rfl) | (rw [if_neg (by decide +kernel)]; exact ⟨rfl, rfl⟩))
    (fun os started H enc _ => lifted os started H enc)

/-- ████ THE STATEMENT: the tied card ████ -/
theorem proved : Rows.HexaOrderCardSaid :=
  Claim7.holds_tied_plain_at .later [] [.data] true (true, "ceb72e2ecee2712e2ed1fd54dbaa7e15a36d8d3844131c62eb4b2152d09d1dc8") false
    over (fun _ h => by cases h) (by kernel_rfl) (fun _ h => by cases h) hexaOrder_row_tie rfl ⟨rfl, rfl⟩ (by kernel_rfl) rfl
    (fun f fn hf hfn => by
      obtain rfl : f = 6 := Option.some.inj ((show Tryd.prog.funcNamed "busbar/busbarlaw03.HexaOrder" = some 6 by kernel_rfl).symm.trans hf) |>.symm
      obtain rfl : fn = Tryd.f6 := (Option.some.inj (Tryd.func6.symm.trans hfn)).symm
      exact ⟨by kernel_rfl, fun j t ht => by
        rw [Tryd.params6] at ht
        have hm : t ∈ [22, 22, 5] := by simpa using Array.mem_of_getElem? ht
        have hall : ([22, 22, 5].all fun u => !Tryd.prog.wantsStandIn u) = true := by kernel_rfl
        exact (show Tryd.prog.wantsStandIn t = false by simpa using List.all_eq_true.1 hall t hm)⟩)
    (by kernel_rfl)
#print axioms proved
end Go.Proofs.YtjidokjajkoneaaDoor.hexaOrder
