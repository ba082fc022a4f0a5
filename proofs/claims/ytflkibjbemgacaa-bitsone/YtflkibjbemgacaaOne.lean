/-
  Proved: for every input the law BitsOne answers true, and each argument reads behind the call as it read before.
  Conditions: none (the statement Rows.BitsOneSaid as it is given).
-/
import Derived.Test.YtflkibjbemgacaaRows
import Derived.WalkKit
import Derived.ProofKit
import Derived.OpenShut
import Derived.ShutString
import Derived.ChangeOld
import Derived.Below
import Derived.Test.YtflkibjbemgacaaBitAwake
namespace Go.Proofs.Ytflkibjbemgacaa.bitsOne
open Go.ChangeShapes Go.WideShapes Go.ChangeAt Go.RowKit
open Go.ChangeMaps (open_string shut_string)
set_option linter.unusedVariables false

open Bits
theorem own : ownKnob Try.prog.godebug = none := by kernel_rfl
theorem laidOut : laidOutB Try.prog = true := by kernel_rfl

/-- WHAT THE WALK IS TOLD OF A SLICE OF INTEGERS THAT CAME IN: it is nil; or it leads to a row of 'cap' cells, the numbers 'zs' (the first 'len' are its elements, the rest its spare room), each fitting its kind. -/
def IsRow (k : IntKind) (w : World) (a : Option Addr) (len cap : Nat) (zs : List Int) : Prop :=
  (a = none ∧ len = 0 ∧ cap = 0 ∧ zs = []) ∨
  ∃ x, a = some x ∧ len ≤ cap ∧ cap ≤ maxLen ∧ zs.length = cap ∧ (∀ i, i < zs.length → w.cell? (x.add i) = some (.int k (zs.getD i 0))) ∧ ∀ n ∈ zs, (Lit.int k n).wf = true

/-! ### STEP 1: THE WALK: the Go text returns true, AND WRITES NOTHING THAT WAS THERE: 'Below w.heap.size w w'' (Derived/Below.lean: '.refl', '.alloc', '.drew', '.setCell' at a new block, '.trans'). Open each 'IsRow' by 'rcases' AHEAD of 'go_enter'; part every test ahead of the walk. -/
set_option maxHeartbeats 2000000 in
theorem walk (a0 : Option Addr) (len0 cap0 : Nat) (z0 : List Bool) (a1 : Int) (w : World) (w0 : Ls w a0 len0 cap0 z0) (w1 : (Lit.int .u16 a1).wf = true) :
    Calls Try.prog 5 #[.slice a0 len0 cap0, .int .u16 a1] w fun e w' => e = .returned (.bool true) ∧ Below w.heap.size w w' := by
  obtain ⟨n, rfl, hn16⟩ : ∃ s : Nat, a1 = s ∧ s < 65536 := nat_u16 w1
  have hx := w0
  have hm := hx.hle
  have hm2 := hx.hmax
  unfold maxLen at hm2
  have HL := hide hx.hlen
  clear w0 w1
  go_enter Try.func5, Try.ntmps5
  go_wp2_with fail
  refine (awake_any w).mono ?_
  rintro e w1 ⟨rfl, hb1⟩
  by_cases hbig : 300 < len0
  · go_wp2
    go_ret
    exact ⟨rfl, hb1⟩
  by_cases hzero : len0 = 0
  · subst hzero
    go_wp2
    go_ret
    exact ⟨rfl, hb1⟩
  have hzi : ((len0 : Int) == 0) = false := by simp; omega
  have hzj : (decide ((300 : Int) < (len0 : Int)) || ((len0 : Int) == 0)) = false := by simp; omega
  have HW : Hid ((Lit.int .i64 (len0 : Int)).wf = true) := hide (by simp [Lit.wf, IntKind.min, IntKind.max, IntKind.bits, IntKind.signed]; omega)
  have hx1 := hx.mono hb1
  clear hx
  obtain ⟨k, hk⟩ : ∃ k, k = n % len0 := ⟨_, rfl⟩
  have hkl : k < len0 := by rw [hk]; exact Nat.mod_lt _ (by omega)
  have hki : (n : Int) % (len0 : Int) = (k : Int) := by rw [hk]; simp
  clear hk
  have hkz : k < z0.length := by have := HL.out; omega
  have hM1 : len0 ≤ 8 * many len0 := by unfold many; omega
  have hM2 : 8 * many len0 < len0 + 8 := by unfold many; omega
  have HPL : Hid ((packB z0).length = many len0) := hide (by rw [packB_length, HL.out])
  have HPS : Hid ((packB (z0.set k (!z0[k]))).length = many len0) := hide (by rw [packB_length, List.length_set, HL.out])
  have HD := hide fun j h1 h2 => packB_set z0 k hkz j h1 h2
  have HN := hide fun (x : UInt8) (h8 : len0 % 8 ≠ 0) (hx : 128 ≤ x.toNat) => not_good (packB z0) len0 x h8 (by have := HPL.out; omega) hx
  go_wp2_with fail
  refine (pack_any _ _ _ _ _ hx1 (by omega)).mono ?_
  rintro e w2 ⟨⟨p2, c2, rfl, ho2⟩, hb2⟩
  have hx2 := hx1.mono hb2
  replace hb2 := below_next hb1 hb2 (Nat.le_refl _)
  clear hx1
  generalize hM : many len0 = M at *
  have HM := hide hM
  clear hM
  rw [HPL.out] at HN
  have hMi : ((len0 : Int) + 7) / 8 = (M : Int) := by omega
  go_wp2_with (at_builtin; refine appL (by rfl) _ _ rfl w2.heap.size rfl (Own.empty _ _ _) rfl (hx2.alloc _) (by omega) (by simp) ?_)
  intro p3 c3 w3 ho3 hb3
  replace hb3 := ((Below.refl w2.heap.size w2).alloc (Nat.le_refl _) _).trans hb3
  clear hx2
  obtain ⟨b3, o3, rfl, hlt3, hcs⟩ := ho3.sl.at (by omega)
  have hc3 : w3.cell? ⟨b3, o3 + k, none⟩ = some (.bool z0[k]) := hcs k hkz
  obtain ⟨_, _, hh, hB3, _, _, hf3⟩ := ho3.room k (by have := ho3.sl.hle; omega)
  cases hh
  have hle3 := ho3.sl.hle
  have hmx3 := ho3.sl.hmax
  unfold maxLen at hmx3
  have ho4 := ho3.set k hkz (!z0[k])
  have hb4 := hb3.setCell (p := ⟨b3, o3 + k, none⟩) hB3 (boolV (!z0[k]))
  simp only [boolV] at ho4 hb4
  clear hcs ho3 hb3
  have hk0 : (k : Int) < (len0 : Int) := by omega
  go_wp2_with fail
  generalize w3.setCell ⟨b3, o3 + k, none⟩ (.bool (!z0[k])) = w4 at *
  clear hc3 hf3
  have ho24 := ho2.mono hb4
  refine (pack_any _ _ _ _ _ ho4.sl (by omega)).mono ?_
  rintro e w5 ⟨⟨p5, c5, rfl, ho5⟩, hb5⟩
  rw [HM.out] at ho5
  rw [HM.out]
  have ho25 := ho24.mono hb5
  have hz5 := ho5.sl
  replace hb5 := below_next (below_next hb2 hb4 (Nat.le_refl _)) hb5 (Nat.le_refl _)
  clear ho24 ho2 ho5 ho4 hb4
  generalize packB (z0.set k (!z0[k])) = qs at *
  generalize packB z0 = ps at *
  obtain ⟨kq, hkq⟩ : ∃ kq, kq = k / 8 := ⟨_, rfl⟩
  rw [← hkq] at HD
  have hkqi : (k : Int) / 8 = (kq : Int) := by omega
  have hkq2 : kq < M := by omega
  clear hkq
  go_wp2
  go_loopw [10] (fun i wr => ∃ j : Nat, j ≤ M ∧ i = .int .i64 j ∧ Below w5.heap.size w5 wr) (fun i _ => M - (intOf i).toNat)
  case atStart => exact ⟨0, Nat.zero_le _, rfl, Below.refl _ _⟩
  case round =>
    obtain ⟨j, hj, rfl, hbr⟩ := hrel
    by_cases hlt : j < M
    · have hj1 : j < ps.length := by have := HPL.out; omega
      have hj2 : j < qs.length := by have := HPS.out; omega
      obtain ⟨bb, ob, rfl, _, hcb0⟩ := (ho25.sl.mono hbr).hcell j hj1
      obtain ⟨bc, oc, rfl, _, hcc0⟩ := (hz5.mono hbr).hcell j hj2
      have hcb : wr.cell? ⟨bb, ob + j, none⟩ = some (.int .u8 (ps[j].toNat : Int)) := hcb0
      have hcc : wr.cell? ⟨bc, oc + j, none⟩ = some (.int .u8 (qs[j].toNat : Int)) := hcc0
      have hd := HD.out j hj1 hj2
      have HX : Hid (((ps[j].toNat : Int) == (qs[j].toNat : Int)) = !decide (j = kq)) := hide (by
        rw [beq_cast, ← hd]
        congr 1
        rw [eq_iff_iff]
        exact ⟨fun h => UInt8.toNat.inj h, fun h => by rw [h]⟩)
      have hle2 := ho25.sl.hle
      have hmx2 := ho25.sl.hmax
      have hle5 := hz5.hle
      have hmx5 := hz5.hmax
      unfold maxLen at hmx2 hmx5
      have hx8 := byte_lt ps[j]
      have hy8 := byte_lt qs[j]
      clear hcb0 hcc0 hd
      generalize ps[j].toNat = x at *
      generalize qs[j].toNat = y at *
      have l0 : (0 : Int) ≤ (j : Int) := by omega
      have l1 : (j : Int) < (M : Int) := by omega
      by_cases hjk : j = kq
      · have h1 : ((x : Int) == (y : Int)) = false := by rw [HX.out]; simp [hjk]
        have h2 : ((j : Int) == (kq : Int)) = true := by simp [hjk]
        clear HX hjk
        go_wp2
        go_quiet (fail)
        go_wp2
        go_roundw
        case rel => exact ⟨j + 1, by omega, by go_num, below_draws hbr _⟩
        case measure => simp [intOf]; omega
      · have h1 : ((x : Int) == (y : Int)) = true := by rw [HX.out]; simp [hjk]
        have h2 : ((j : Int) == (kq : Int)) = false := by simp; omega
        clear HX hjk
        go_wp2
        go_quiet (fail)
        go_wp2
        go_roundw
        case rel => exact ⟨j + 1, by omega, by go_num, below_draws hbr _⟩
        case measure => simp [intOf]; omega
    · obtain rfl : j = M := by omega
      by_cases h8 : len0 % 8 = 0
      · go_wp2
        go_ret
        exact ⟨rfl, below_next hb5 hbr (Nat.le_refl _)⟩
      · have hor := ho25.mono hbr
        have hle2 := hor.sl.hle
        have hmx2 := hor.sl.hmax
        unfold maxLen at hmx2
        have hj1 : j - 1 < ps.length := by have := HPL.out; omega
        obtain ⟨bb, ob, rfl, hbb, hcb0⟩ := hor.sl.hcell (j - 1) hj1
        have hcb : wr.cell? ⟨bb, ob + (j - 1), none⟩ = some (.int .u8 (ps[j - 1].toNat : Int)) := hcb0
        obtain ⟨_, _, hh, hBb, _, _, hfb⟩ := hor.room (j - 1) (by omega)
        cases hh
        have hx8 := byte_lt ps[j - 1]
        have hor8 := Nat.or_lt_two_pow (n := 8) hx8 (show 128 < 2 ^ 8 by omega)
        have ev : bits .or .u8 (ps[j - 1].toNat : Int) 128 = ((UInt8.ofNat (ps[j - 1].toNat ||| 128)).toNat : Int) := by
          rw [UInt8.toNat_ofNat', Nat.mod_eq_of_lt hor8]
          exact or_u8 _ 128 hx8 (by omega)
        have H128 : Hid (good (ps.set (j - 1) (UInt8.ofNat (ps[j - 1].toNat ||| 128))) len0 = false) := hide (HN.out _ h8 (by
          rw [UInt8.toNat_ofNat', Nat.mod_eq_of_lt hor8]; exact Nat.right_le_or))
        have hoA := (hor.set (j - 1) hj1 (UInt8.ofNat (ps[j - 1].toNat ||| 128))).sl
        have hbA := (below_next hb5 hbr (Nat.le_refl _)).setCell (p := ⟨bb, ob + (j - 1), none⟩) (Nat.le_trans hb1.size hBb) (byteV (UInt8.ofNat (ps[j - 1].toNat ||| 128)))
        simp only [byteV] at hoA hbA
        rw [← ev] at hoA hbA
        have h8i : ((len0 : Int) % 8 == 0) = false := by simp; omega
        clear hcb0 ev hor hor8 hb5 hbr ho25 hz5
        go_wp2_with fail
        generalize wr.setCell ⟨bb, ob + (j - 1), none⟩ (.int .u8 (bits .or .u8 (ps[j - 1].toNat : Int) 128)) = w6 at *
        refine (unpack_any _ _ _ _ _ HW.out _ hoA (by omega)).mono ?_
        rintro e w7 ⟨⟨p7, c7, rfl, _⟩, hb7⟩
        rw [H128.out]
        go_wp2
        go_ret
        exact ⟨rfl, below_next hbA hb7 (Nat.le_refl _)⟩

/-! ### THE ROW's STEP: WRITTEN OUT: LEAVE IT -/
set_option maxRecDepth 100000 in
theorem lifted (os : Os) (started : os.Started) (H : Type) (enc : TypeId × Value → H) :
    ReturnsInHanded {} Try.checked os 5 .any (Rows.bitsOneSpec.pre6 enc Try.prog Try.f5 Rows.bitsOneRow.domain false) (Rows.bitsOneSpec.post enc Try.prog Try.f5 false true false false) := by
  refine returnsInHanded_of_change (C := Try.checked) own started (by kernel_rfl) Try.func5
    (ChangeSpec.witness6 (enc := enc) (C := Try.checked) false ⟨#[], #[.slice none 0 0, .int .u16 0], []⟩ 8 (by kernel_rfl) (by kernel_rfl) (by kernel_rfl) (by kernel_rfl)) ?_
  intro W base args ds gs before hval0 hW hcnd _
  have hval : ∀ (j : Nat) t v, Try.f5.params[j]? = some t → args[j]? = some v → Value.okWide Try.prog W .any base t v := hval0
  have hW' := hW
  obtain ⟨p, q, hA0, hV, rfl, hfz, hnd⟩ := hW
  have hA : DataW.TrodAll enc Try.prog W 0 (fun _ => true) true Try.f5.params.toList args.toList ds p := hA0
  rw [Try.params5] at hA hval
  obtain ⟨v0, vs0, d0, ds0, p0, q0, hargs, rfl, rfl, h0, r0⟩ := trodAll_cons hA
  obtain ⟨v1, vs1, d1, ds1, p1, q1, rfl, rfl, rfl, h1, r1⟩ := trodAll_cons r0
  obtain ⟨rfl, rfl, rfl⟩ := trodAll_nil r1
  obtain rfl : args = #[v0, v1] := by cases args; simp_all
  obtain ⟨rfl, rfl⟩ := trodVars_none hV
  obtain ⟨a0, len0, cap0, rfl⟩ := okWide_slice Try.underlying22 (hval 0 22 v0 rfl rfl)
  have k0 := h0
  have lt0 : ∀ x ∈ p0, x.block < W.heap.size := by obtain ⟨m, hm⟩ := k0; exact DataW.trod_lt m _ _ _ hm
  obtain ⟨z0, w0⟩ : ∃ zs, Ls W a0 len0 cap0 zs := by
    obtain ⟨fuel, hf⟩ := h0
    rcases Go.Deep.open_bools Try.underlying22 Try.underlying4 (by kernel_rfl) hf with ⟨hcs, _⟩ | ⟨x, l, c, zs, hcs, _, hl, hm, _, hcell⟩
    · simp [Value.cells] at hcs
      obtain ⟨rfl, rfl, rfl⟩ := hcs
      exact ⟨[], Ls.ofNone _⟩
    · simp [Value.cells] at hcs
      obtain ⟨rfl, rfl, rfl⟩ := hcs
      exact ⟨_, Ls.ofCells hl hm hcell⟩
  obtain ⟨a1, rfl, rfl, rfl, w1⟩ := open_int Try.underlying32 (hval 1 32 v1 rfl rfl) h1
  clear hA0 hval0
  refine (walk a0 len0 cap0 z0 a1 W w0 w1).mono fun e W' ⟨he, bel⟩ => ?_
  subst he
  exact ⟨_, rfl, _, _, _, [], _, [], hW', trodAll_mk1 (shut_bool Try.underlying4 _), (trodAll_cons_mk (Below.trod laidOut (by kernel_rfl) (of_decide_eq_true (by kernel_rfl)) k0 bel lt0) (trodAll_cons_mk (shut_int Try.underlying32 w1) trodAll_mk0)), rfl, bel.frame _, fun h => by cases h⟩

theorem over : Rows.bitsOneRow.holds Try.pinned (OpenSpec.ofChange Rows.bitsOneSpec) :=
  OpenClaim.holds_of_wide 5 Try.f5 rfl rfl rfl rfl rfl rfl rfl ⟨rfl, rfl, rfl, rfl, rfl⟩ rfl rfl rfl rfl rfl (by kernel_rfl) Try.func5 (by kernel_rfl)
    (of_decide_eq_true (by kernel_rfl)) (by unfold Func.isWrapper; first | (rw [if_pos (by decide +kernel)]; kernel_rfl) | (rw [if_neg (by decide +kernel)]; exact ⟨rfl, rfl⟩))
    (fun os started H enc _ => lifted os started H enc)

/-- ████ THE STATEMENT ████ -/
theorem proved : Rows.BitsOneSaid := over
#print axioms proved
end Go.Proofs.Ytflkibjbemgacaa.bitsOne
