/-
  Proved: for every input the law CoilsSets answers true, and each argument reads behind the call as it read before.
  Conditions: none (the statement Rows.CoilsSetsSaid as it is given).
-/
import Derived.Test.YtgacfocbdeohaaaRows
import Derived.WalkKit
import Derived.ProofKit
import Derived.OpenShut
import Derived.ShutString
import Derived.ChangeOld
import Derived.Below
import Derived.Test.YtgacfocbdeohaaaCoilFacts
namespace Go.Proofs.Ytgacfocbdeohaaa.coilsSets
open Go.ChangeShapes Go.WideShapes Go.ChangeAt Go.RowKit
open Go.ChangeMaps (open_string shut_string)
set_option linter.unusedVariables false

theorem own : ownKnob Try.prog.godebug = none := by kernel_rfl
theorem laidOut : laidOutB Try.prog = true := by kernel_rfl

/-- WHAT THE WALK IS TOLD OF A SLICE OF INTEGERS THAT CAME IN: it is nil; or it leads to a row of 'cap' cells, the numbers 'zs' (the first 'len' are its elements, the rest its spare room), each fitting its kind. -/
def IsRow (k : IntKind) (w : World) (a : Option Addr) (len cap : Nat) (zs : List Int) : Prop :=
  (a = none ∧ len = 0 ∧ cap = 0 ∧ zs = []) ∨
  ∃ x, a = some x ∧ len ≤ cap ∧ cap ≤ maxLen ∧ zs.length = cap ∧ (∀ i, i < zs.length → w.cell? (x.add i) = some (.int k (zs.getD i 0))) ∧ ∀ n ∈ zs, (Lit.int k n).wf = true

/-! ### STEP 1: THE WALK: the Go text returns true, AND WRITES NOTHING THAT WAS THERE: 'Below w.heap.size w w'' (Derived/Below.lean: '.refl', '.alloc', '.drew', '.setCell' at a new block, '.trans'). Open each 'IsRow' by 'rcases' AHEAD of 'go_enter'; part every test ahead of the walk. -/
set_option maxRecDepth 20000 in
set_option maxHeartbeats 2000000 in
theorem walk (a0 : Int) (a1 : Option Addr) (len1 cap1 : Nat) (z1 : List Bool) (w : World) (w0 : (Lit.int .u16 a0).wf = true) (w1 : Ls w a1 len1 cap1 z1) :
    Calls Try.prog 7 #[.int .u16 a0, .slice a1 len1 cap1] w fun e w' => e = .returned (.bool true) ∧ Below w.heap.size w w' := by
  obtain ⟨a, rfl⟩ := word_arg w0
  have ba := word_lt a
  have hlen := w1.hlen
  have hm := w1.hle
  have hm2 := w1.hmax
  unfold maxLen at hm2
  have HX := hide w1
  clear w0 w1
  go_enter Try.func7, Try.ntmps7
  go_wp2_with fail
  refine (awake_any w).mono ?_
  rintro e u1 ⟨rfl, hb1⟩
  replace HX := hide (HX.out.mono hb1)
  by_cases hl : len1 ≤ 400
  rotate_left
  · have hl' : (400 : Int) < (len1 : Int) := by omega
    clear hlen
    go_wp2
    go_ret
    exact ⟨rfl, hb1⟩
  have hl' : ¬ (400 : Int) < (len1 : Int) := by omega
  by_cases h0 : len1 = 0
  · have h0' : ((len1 : Int) == 0) = true := by simp; omega
    clear hlen h0
    go_wp2
    go_ret
    exact ⟨rfl, hb1⟩
  have h0' : ((len1 : Int) == 0) = false := by simp; omega
  have hwr : IntKind.i64.wrap ((a.toNat : Int) + (len1 : Int)) = (a.toNat : Int) + (len1 : Int) := by rw [IntKind.wrap_i64]; omega
  by_cases h3 : a.toNat + len1 ≤ 65536
  rotate_left
  · have h3' : (65536 : Int) < (a.toNat : Int) + (len1 : Int) := by omega
    clear hlen h0
    go_wp2
    go_ret
    exact ⟨rfl, hb1⟩
  have h3' : ¬ (65536 : Int) < (a.toNat : Int) + (len1 : Int) := by omega
  obtain ⟨k, hk⟩ : ∃ k : UInt16, len1 = k.toNat := ⟨UInt16.ofNat len1, by rw [UInt16.toNat_ofNat']; omega⟩
  subst hk
  have hmod : (k.toNat : Int) % 65536 = (k.toNat : Int) := by omega
  have W : Hid (Coils.write 0 (Coils.setM a k z1) = some (Coils.counted (Word.putW [a, k]) (Bits.packB z1))) := hide (Coils.write_some a k z1 (by omega) (by omega) h3 hlen)
  have HN := hide hlen
  clear hlen
  go_wp2_with fail
  refine (Coils.code_write 0 _ (Coils.setM a k z1) u1 (Coils.set_at a k HX.out) (Coils.set_small a k z1 (by rw [HN.out]; omega))).mono ?_
  rintro e u2 ⟨⟨a2, l2, c2, rfl, hx2⟩, b2⟩
  replace hb1 := below_next hb1 b2 (Nat.le_refl _)
  replace HX := hide (HX.out.mono b2)
  rw [W.out] at hx2 ⊢
  replace hx2 : Bs u2 a2 l2 c2 (Coils.counted (Word.putW [a, k]) (Bits.packB z1)) := hx2
  have q0 : Coils.errW (some (Coils.counted (Word.putW [a, k]) (Bits.packB z1))) = 0 := rfl
  rw [q0]
  have hl2 : l2 = 5 + (k.toNat + 7) / 8 := by
    rw [← hx2.hlen]; simp [Coils.counted, Word.putW_length, Bits.packB_length, HN.out]; unfold Bits.many; omega
  have HL2 := hide hl2
  have HX2 := hide hx2
  have hm3 := hx2.hle
  have hm4 := hx2.hmax
  unfold maxLen at hm4
  clear q0 b2 hx2 W hl2
  have HBits : Hid (∀ j (hj : j < k.toNat), ∃ x : UInt8, (Coils.counted (Word.putW [a, k]) (Bits.packB z1))[5 + j / 8]? = some x ∧ z1[j]? = some (decide (x.toNat / 2 ^ (j % 8) % 2 = 1))) := hide (fun j hj => by
    have hjl : j < z1.length := by rw [HN.out]; exact hj
    have h8 : j / 8 < (Bits.packB z1).length := by rw [Bits.packB_length]; unfold Bits.many; omega
    refine ⟨(Bits.packB z1)[j / 8], ?_, ?_⟩
    · unfold Coils.counted
      rw [List.getElem?_append_right (by simp [Word.putW_length])]
      simp [Word.putW_length, h8]
    · rw [List.getElem?_eq_getElem hjl, ← Bits.bitAt_packB z1 j hjl, Bits.bitAt_div]
      simp [List.getD, h8])
  have HFour : Hid ((Coils.counted (Word.putW [a, k]) (Bits.packB z1))[4]? = some (UInt8.ofNat (Bits.packB z1).length)) := hide (by unfold Coils.counted; simp [Word.putW])
  have HPL : Hid ((UInt8.ofNat (Bits.packB z1).length).toNat = (k.toNat + 7) / 8) := hide (by rw [UInt8.toNat_ofNat', Bits.packB_length, HN.out]; unfold Bits.many; omega)
  generalize Coils.counted (Word.putW [a, k]) (Bits.packB z1) = bs at *
  generalize UInt8.ofNat (Bits.packB z1).length = x4 at *
  generalize a.toNat = p at *
  generalize k.toNat = n at *
  have hne : ((l2 : Int) != 5 + ((n : Int) + 7) / 8) = false := by simp [HL2.out]
  go_wp2_with fail
  go_loopw [8] (fun i wr => ∃ j : Nat, j ≤ n ∧ i = .int .i64 j ∧ Below u2.heap.size u2 wr) (fun i _ => n - (intOf i).toNat)
  case atStart => exact ⟨0, Nat.zero_le _, rfl, Below.refl _ _⟩
  case round =>
    obtain ⟨j, hj, rfl, hbr⟩ := hrel
    by_cases hlt : j < n
    · obtain ⟨x, hx1, hx2⟩ := HBits.out j hlt
      have hl2 := HL2.out
      obtain ⟨hb5, hg5⟩ := List.getElem?_eq_some_iff.1 hx1
      obtain ⟨hb6, hg6⟩ := List.getElem?_eq_some_iff.1 hx2
      obtain ⟨bb, ob, rfl, _, hcb0⟩ := (HX2.out.mono hbr).hcell (5 + j / 8) hb5
      obtain ⟨bc, oc, rfl, _, hcc0⟩ := (HX.out.mono hbr).hcell j hb6
      rw [hg5] at hcb0
      rw [hg6] at hcc0
      have hcb : wr.cell? ⟨bb, ob + (5 + j / 8), none⟩ = some (.int .u8 (x.toNat : Int)) := hcb0
      have hcc : wr.cell? ⟨bc, oc + j, none⟩ = some (.bool (decide (x.toNat / 2 ^ (j % 8) % 2 = 1))) := hcc0
      have hx8 := byte_lt x
      have hba := bit_one x.toNat (j % 8) hx8
      have hbq := quo_odd x.toNat (j % 8)
      generalize x.toNat = y at *
      have l0 : (0 : Int) ≤ (j : Int) := by omega
      have l1 : (j : Int) < (n : Int) := by omega
      have l2' : (0 : Int) ≤ 5 + (j : Int) / 8 := by omega
      have l3 : 5 + (j : Int) / 8 < (l2 : Int) := by omega
      have t1 : ((5 : Int) + (j : Int) / 8).toNat = 5 + j / 8 := by omega
      have hw1 : IntKind.i64.wrap (5 + (j : Int) / 8) = 5 + (j : Int) / 8 := by rw [IntKind.wrap_i64]; omega
      clear hcb0 hcc0 hx1 hx2 hg5 hg6 hb5 hb6 hl2
      go_wp2
      go_quiet (fail)
      go_wp2
      go_roundw
      case rel => exact ⟨j + 1, by omega, by go_num, below_draws hbr _⟩
      case measure => simp [intOf]; omega
    · obtain rfl : j = n := by omega
      obtain ⟨hb4, hg4⟩ := List.getElem?_eq_some_iff.1 HFour.out
      obtain ⟨bb, ob, rfl, _, hcb0⟩ := (HX2.out.mono hbr).hcell 4 hb4
      rw [hg4] at hcb0
      have hcb : wr.cell? ⟨bb, ob + 4, none⟩ = some (.int .u8 (x4.toNat : Int)) := hcb0
      have hl2 := HL2.out
      have hx4 := HPL.out
      have l4 : (4 : Int) < (l2 : Int) := by omega
      have hfin : ((x4.toNat : Int) == (l2 : Int) - 5) = true := by rw [beq_iff_eq]; omega
      have hx4b := byte_lt x4
      clear hcb0 hl2 hx4 hg4 hb4 HFour HPL
      generalize x4.toNat = y4 at *
      go_wp2
      go_ret
      exact ⟨by first | rfl | (simp [hfin]; done), below_next hb1 hbr (Nat.le_refl _)⟩

/-! ### THE ROW's STEP: WRITTEN OUT: LEAVE IT -/
set_option maxRecDepth 100000 in
theorem lifted (os : Os) (started : os.Started) (H : Type) (enc : TypeId × Value → H) :
    ReturnsInHanded {} Try.checked os 7 .any (Rows.coilsSetsSpec.pre6 enc Try.prog Try.f7 Rows.coilsSetsRow.domain false) (Rows.coilsSetsSpec.post enc Try.prog Try.f7 false true false false) := by
  refine returnsInHanded_of_change (C := Try.checked) own started (by kernel_rfl) Try.func7
    (ChangeSpec.witness6 (enc := enc) (C := Try.checked) false ⟨#[], #[.int .u16 0, .slice none 0 0], []⟩ 8 (by kernel_rfl) (by kernel_rfl) (by kernel_rfl) (by kernel_rfl)) ?_
  intro W base args ds gs before hval0 hW hcnd _
  have hval : ∀ (j : Nat) t v, Try.f7.params[j]? = some t → args[j]? = some v → Value.okWide Try.prog W .any base t v := hval0
  have hW' := hW
  obtain ⟨p, q, hA0, hV, rfl, hfz, hnd⟩ := hW
  have hA : DataW.TrodAll enc Try.prog W 0 (fun _ => true) true Try.f7.params.toList args.toList ds p := hA0
  rw [Try.params7] at hA hval
  obtain ⟨v0, vs0, d0, ds0, p0, q0, hargs, rfl, rfl, h0, r0⟩ := trodAll_cons hA
  obtain ⟨v1, vs1, d1, ds1, p1, q1, rfl, rfl, rfl, h1, r1⟩ := trodAll_cons r0
  obtain ⟨rfl, rfl, rfl⟩ := trodAll_nil r1
  obtain rfl : args = #[v0, v1] := by cases args; simp_all
  obtain ⟨rfl, rfl⟩ := trodVars_none hV
  obtain ⟨a0, rfl, rfl, rfl, w0⟩ := open_int Try.underlying24 (hval 0 24 v0 rfl rfl) h0
  obtain ⟨a1, len1, cap1, rfl⟩ := okWide_slice Try.underlying26 (hval 1 26 v1 rfl rfl)
  have k1 := h1
  have lt1 : ∀ x ∈ p1, x.block < W.heap.size := by obtain ⟨m, hm⟩ := k1; exact DataW.trod_lt m _ _ _ hm
  obtain ⟨z1, w1⟩ : ∃ zs, Ls W a1 len1 cap1 zs := by
    obtain ⟨fuel, hf⟩ := h1
    rcases Go.Deep.open_bools Try.underlying26 Try.underlying4 (by kernel_rfl) hf with ⟨hcs, _⟩ | ⟨x, l, c, zs, hcs, _, hl, hm, _, hcell⟩
    · simp [Value.cells] at hcs
      obtain ⟨rfl, rfl, rfl⟩ := hcs
      exact ⟨[], Ls.ofNone _⟩
    · simp [Value.cells] at hcs
      obtain ⟨rfl, rfl, rfl⟩ := hcs
      exact ⟨_, Ls.ofCells hl hm hcell⟩
  clear hA0 hval0
  refine (walk a0 a1 len1 cap1 z1 W w0 w1).mono fun e W' ⟨he, bel⟩ => ?_
  subst he
  exact ⟨_, rfl, _, _, _, [], _, [], hW', trodAll_mk1 (shut_bool Try.underlying4 _), (trodAll_cons_mk (shut_int Try.underlying24 w0) (trodAll_cons_mk (Below.trod laidOut (by kernel_rfl) (of_decide_eq_true (by kernel_rfl)) k1 bel lt1) trodAll_mk0)), rfl, bel.frame _, fun h => by cases h⟩

theorem over : Rows.coilsSetsRow.holds Try.pinned (OpenSpec.ofChange Rows.coilsSetsSpec) :=
  OpenClaim.holds_of_wide 7 Try.f7 rfl rfl rfl rfl rfl rfl rfl ⟨rfl, rfl, rfl, rfl, rfl⟩ rfl rfl rfl rfl rfl (by kernel_rfl) Try.func7 (by kernel_rfl)
    (of_decide_eq_true (by kernel_rfl)) (by unfold Func.isWrapper; first | (rw [if_pos (by decide +kernel)]; kernel_rfl) | (rw [if_neg (by decide +kernel)]; exact ⟨rfl, rfl⟩))
    (fun os started H enc _ => lifted os started H enc)

/-- ████ THE STATEMENT ████ -/
theorem proved : Rows.CoilsSetsSaid := over
#print axioms proved
end Go.Proofs.Ytgacfocbdeohaaa.coilsSets
