/-
  Proved: for every input the law RegsWords answers true, and each argument reads behind the call as it read before.
  Conditions: none (the statement Rows.RegsWordsSaid as it is given).
-/
import Derived.Test.YtaccebkgmjiaaaaRows
import Derived.WalkKit
import Derived.ProofKit
import Derived.OpenShut
import Derived.ShutString
import Derived.ChangeOld
import Derived.Below
import Derived.Test.YtaccebkgmjiaaaaRegFacts
import Derived.Test.YtaccebkgmjiaaaaRegEnds
namespace Go.Proofs.Ytaccebkgmjiaaaa.regsWords
open Go.ChangeShapes Go.WideShapes Go.ChangeAt Go.RowKit
open Go.ChangeMaps (open_string shut_string)
set_option linter.unusedVariables false

theorem own : ownKnob Try.prog.godebug = none := by kernel_rfl
theorem laidOut : laidOutB Try.prog = true := by kernel_rfl

/-- WHAT THE WALK IS TOLD OF A SLICE OF INTEGERS THAT CAME IN: it is nil; or it leads to a row of 'cap' cells, the numbers 'zs' (the first 'len' are its elements, the rest its spare room), each fitting its kind. -/
def IsRow (k : IntKind) (w : World) (a : Option Addr) (len cap : Nat) (zs : List Int) : Prop :=
  (a = none ∧ len = 0 ∧ cap = 0 ∧ zs = []) ∨
  ∃ x, a = some x ∧ len ≤ cap ∧ cap ≤ maxLen ∧ zs.length = cap ∧ (∀ i, i < zs.length → w.cell? (x.add i) = some (.int k (zs.getD i 0))) ∧ ∀ n ∈ zs, (Lit.int k n).wf = true

/-! ### STEP 1: THE WALK: the Go text returns true, AND WRITES NOTHING THAT WAS THERE: 'Below w.heap.size w w'' (Derived/Below.lean: '.refl', '.alloc', '.drew', '.setCell' at a new block, '.trans'). Open each 'IsRow' by 'rcases' AHEAD of 'go_enter'; part every test ahead of the walk. -/
set_option maxRecDepth 20000 in
set_option maxHeartbeats 2000000 in
theorem walk (a0 : Option Addr) (len0 cap0 : Nat) (z0 : List Int) (w : World) (w0 : IsRow .u16 w a0 len0 cap0 z0) :
    Calls Try.prog 7 #[.slice a0 len0 cap0] w fun e w' => e = .returned (.bool true) ∧ Below w.heap.size w w' := by
  obtain ⟨xs, hx⟩ := Ws.ofRow w0
  have hm := hx.hle
  have hm2 := hx.hmax
  unfold maxLen at hm2
  have HL := hide hx.hlen
  have HX := hide hx
  clear w0 hx
  go_enter Try.func7, Try.ntmps7
  go_wp2_with fail
  refine (awake_any w).mono ?_
  rintro e u1 ⟨rfl, hb1⟩
  replace HX := hide (HX.out.mono hb1)
  by_cases hl : len0 ≤ 400
  rotate_left
  · have hl' : (400 : Int) < (len0 : Int) := by omega
    go_wp2
    go_ret
    exact ⟨rfl, hb1⟩
  have hl' : ¬ (400 : Int) < (len0 : Int) := by omega
  have hwn : IntKind.u16.wrap (len0 : Int) = (len0 : Int) := by rw [IntKind.wrap_u16]; omega
  have hN : Hid ((UInt16.ofNat len0).toNat = len0) := hide (by rw [UInt16.toNat_ofNat', Nat.mod_eq_of_lt (by omega)])
  obtain ⟨kn, hkn⟩ : ∃ x : UInt16, x = UInt16.ofNat len0 := ⟨_, rfl⟩
  have HKN : Hid (kn.toNat = len0) := hide (by rw [hkn]; exact hN.out)
  have hv : Hid ((.int .u16 (len0 : Int) : Value) = wordV kn) := hide (by show _ = Value.int .u16 (kn.toNat : Int); rw [HKN.out])
  clear hkn hN
  obtain ⟨R1, E1, F1⟩ : ∃ R, Hid (Regs.write 1 (Regs.toldM xs) = R) ∧ Hid (R = if 1 ≤ len0 ∧ len0 ≤ 125 then some (Regs.counted xs) else none) := ⟨_, hide rfl, hide (by rw [Regs.write_told, HL.out])⟩
  obtain ⟨R2, E2, F2⟩ : ∃ R, Hid (Regs.write 0 (Regs.someM 0 kn xs) = R) ∧ Hid (R = if 1 ≤ len0 ∧ len0 ≤ 123 then some (Word.putW [0, kn] ++ Regs.counted xs) else none) := ⟨_, hide rfl, hide (by
    rw [Regs.write_some', HL.out, HKN.out]
    by_cases h : 1 ≤ len0 ∧ len0 ≤ 123
    · rw [if_pos h, if_pos ⟨⟨h.1, h.2, by show 0 + len0 ≤ 65536; omega⟩, rfl⟩]
    · rw [if_neg h, if_neg (fun g => h ⟨g.1.1, g.1.2.1⟩)])⟩
  obtain ⟨R3, E3, F3⟩ : ∃ R, Hid (Regs.write 1 (Regs.listM xs) = R) ∧ Hid (R = if len0 ≤ 31 then some (Word.putW [UInt16.ofNat (2 * xs.length + 2), UInt16.ofNat xs.length] ++ Word.putW xs) else none) := ⟨_, hide rfl, hide (by rw [Regs.write_list, HL.out])⟩
  go_wp2_with fail
  refine (Regs.code_write 1 _ (Regs.toldM xs) u1 (Regs.m_at (m := Regs.toldM xs) HX.out rfl) (Regs.small_of (by show xs.length ≤ _; rw [HL.out]; omega) rfl rfl rfl rfl)).mono ?_
  rintro e u2 ⟨⟨a2, l2, c2, rfl, hx2⟩, b2⟩
  replace hb1 := below_next hb1 b2 (Nat.le_refl _)
  replace HX := hide (HX.out.mono b2)
  rw [E1.out] at hx2 ⊢
  have HX2 := hide hx2
  clear b2 hx2 E1
  go_wp2_with fail
  refine (Regs.code_write 0 _ (Regs.someM 0 kn xs) u2 (by rw [hv.out]; exact Regs.m_at (m := Regs.someM 0 kn xs) HX.out rfl) (Regs.small_of (by show xs.length ≤ _; rw [HL.out]; omega) rfl rfl rfl rfl)).mono ?_
  rintro e u3 ⟨⟨a3, l3, c3, rfl, hx3⟩, b3⟩
  replace hb1 := below_next hb1 b3 (Nat.le_refl _)
  replace HX := hide (HX.out.mono b3)
  replace HX2 := hide (HX2.out.mono b3)
  rw [E2.out] at hx3 ⊢
  have HX3 := hide hx3
  clear b3 hx3 E2 hv
  go_wp2_with fail
  refine (Regs.code_write 1 _ (Regs.listM xs) u3 (Regs.m_at (m := Regs.listM xs) HX.out rfl) (Regs.small_of (by show xs.length ≤ _; rw [HL.out]; omega) rfl rfl rfl rfl)).mono ?_
  rintro e u4 ⟨⟨a4, l4, c4, rfl, hx4⟩, b4⟩
  replace hb1 := below_next hb1 b4 (Nat.le_refl _)
  replace HX := hide (HX.out.mono b4)
  replace HX2 := hide (HX2.out.mono b4)
  replace HX3 := hide (HX3.out.mono b4)
  rw [E3.out] at hx4 ⊢
  have HX4 := hide hx4
  clear b4 hx4 E3
  have e1 : IntKind.i64.wrap (2 * (len0 : Int)) = 2 * (len0 : Int) := by rw [IntKind.wrap_i64]; omega
  have e2 : IntKind.i64.wrap (1 + 2 * (len0 : Int)) = 1 + 2 * (len0 : Int) := by rw [IntKind.wrap_i64]; omega
  have e3 : IntKind.i64.wrap (5 + 2 * (len0 : Int)) = 5 + 2 * (len0 : Int) := by rw [IntKind.wrap_i64]; omega
  have e4 : IntKind.i64.wrap (4 + 2 * (len0 : Int)) = 4 + 2 * (len0 : Int) := by rw [IntKind.wrap_i64]; omega
  rcases (show len0 = 0 ∨ (1 ≤ len0 ∧ len0 ≤ 31) ∨ (32 ≤ len0 ∧ len0 ≤ 123) ∨ (124 ≤ len0 ∧ len0 ≤ 125) ∨ 126 ≤ len0 by omega) with hc | hc | hc | hc | hc
  · subst hc
    clear e1 e2 e3 e4
    have f1 := F1.out
    rw [if_neg (by omega)] at f1
    have f2 := F2.out
    rw [if_neg (by omega)] at f2
    have f3 := F3.out
    rw [if_pos (by omega)] at f3
    subst f1 f2 f3
    clear F1 F2 F3
    clear HX2
    clear HX3
    replace HX4 : Hid (Bs u4 a4 l4 c4 (Word.putW [UInt16.ofNat (2 * xs.length + 2), UInt16.ofNat xs.length] ++ Word.putW xs)) := HX4
    have n4 : (l4 : Int) = 4 := by have := HX4.out.hlen; simp [Word.putW_length, HL.out] at this; omega
    have z4 : l4 ≤ 1000 := by omega
    rw [show Regs.errW (some (Word.putW [UInt16.ofNat (2 * xs.length + 2), UInt16.ofNat xs.length] ++ Word.putW xs)) = 0 from rfl]
    generalize Word.putW [UInt16.ofNat (2 * xs.length + 2), UInt16.ofNat xs.length] = P4 at HX4
    rw [show Regs.errW none = 1 from rfl]
    have i_a : decide ((1 : Int) ≤ ((0 : Nat) : Int)) = false := by decide
    have i_b : decide (((0 : Nat) : Int) ≤ 125) = true := by decide
    have i_c : decide (((0 : Nat) : Int) ≤ 123) = true := by decide
    have i_d : decide (((0 : Nat) : Int) ≤ 31) = true := by decide
    go_wp2_with fail
    refine (ends_any _ _ _ _ _ _ _ xs _ HX4.out HX.out (by omega) (by omega)).mono ?_
    rintro e u5 ⟨rfl, b5⟩
    replace hb1 := below_next hb1 b5 (Nat.le_refl _)
    replace HX := hide (HX.out.mono b5)
    clear b5
    go_wp2
    go_ret
    exact ⟨rfl, hb1⟩
  · have f1 := F1.out
    rw [if_pos (by omega)] at f1
    have f2 := F2.out
    rw [if_pos (by omega)] at f2
    have f3 := F3.out
    rw [if_pos (by omega)] at f3
    subst f1 f2 f3
    clear F1 F2 F3
    replace HX2 : Hid (Bs u4 a2 l2 c2 ([UInt8.ofNat (2 * xs.length)] ++ Word.putW xs)) := HX2
    have n2 : (l2 : Int) = 1 + 2 * (len0 : Int) := by have := HX2.out.hlen; simp [Word.putW_length, HL.out] at this; omega
    have z2 : l2 ≤ 1000 := by omega
    rw [show Regs.errW (some (Regs.counted xs)) = 0 from rfl]
    generalize [UInt8.ofNat (2 * xs.length)] = P2 at HX2
    replace HX3 : Hid (Bs u4 a3 l3 c3 ((Word.putW [0, kn] ++ [UInt8.ofNat (2 * xs.length)]) ++ Word.putW xs)) := hide (by rw [List.append_assoc]; exact HX3.out)
    have n3 : (l3 : Int) = 5 + 2 * (len0 : Int) := by have := HX3.out.hlen; simp [Word.putW_length, HL.out] at this; omega
    have z3 : l3 ≤ 1000 := by omega
    rw [show Regs.errW (some (Word.putW [0, kn] ++ Regs.counted xs)) = 0 from rfl]
    generalize Word.putW [0, kn] ++ [UInt8.ofNat (2 * xs.length)] = P3 at HX3
    replace HX4 : Hid (Bs u4 a4 l4 c4 (Word.putW [UInt16.ofNat (2 * xs.length + 2), UInt16.ofNat xs.length] ++ Word.putW xs)) := HX4
    have n4 : (l4 : Int) = 4 + 2 * (len0 : Int) := by have := HX4.out.hlen; simp [Word.putW_length, HL.out] at this; omega
    have z4 : l4 ≤ 1000 := by omega
    rw [show Regs.errW (some (Word.putW [UInt16.ofNat (2 * xs.length + 2), UInt16.ofNat xs.length] ++ Word.putW xs)) = 0 from rfl]
    generalize Word.putW [UInt16.ofNat (2 * xs.length + 2), UInt16.ofNat xs.length] = P4 at HX4
    have i_a : decide ((1 : Int) ≤ (len0 : Int)) = true := by simp; omega
    have i_b : decide ((len0 : Int) ≤ 125) = true := by simp; omega
    have i_c : decide ((len0 : Int) ≤ 123) = true := by simp; omega
    have i_d : decide ((len0 : Int) ≤ 31) = true := by simp; omega
    go_wp2_with fail
    refine (ends_any _ _ _ _ _ _ _ xs _ HX2.out HX.out (by omega) (by omega)).mono ?_
    rintro e u5 ⟨rfl, b5⟩
    replace hb1 := below_next hb1 b5 (Nat.le_refl _)
    replace HX := hide (HX.out.mono b5)
    replace HX3 := hide (HX3.out.mono b5)
    replace HX4 := hide (HX4.out.mono b5)
    clear b5
    go_wp2_with fail
    refine (ends_any _ _ _ _ _ _ _ xs _ HX3.out HX.out (by omega) (by omega)).mono ?_
    rintro e u6 ⟨rfl, b6⟩
    replace hb1 := below_next hb1 b6 (Nat.le_refl _)
    replace HX := hide (HX.out.mono b6)
    replace HX4 := hide (HX4.out.mono b6)
    clear b6
    go_wp2_with fail
    refine (ends_any _ _ _ _ _ _ _ xs _ HX4.out HX.out (by omega) (by omega)).mono ?_
    rintro e u7 ⟨rfl, b7⟩
    replace hb1 := below_next hb1 b7 (Nat.le_refl _)
    replace HX := hide (HX.out.mono b7)
    clear b7
    go_wp2
    go_ret
    exact ⟨rfl, hb1⟩
  · have f1 := F1.out
    rw [if_pos (by omega)] at f1
    have f2 := F2.out
    rw [if_pos (by omega)] at f2
    have f3 := F3.out
    rw [if_neg (by omega)] at f3
    subst f1 f2 f3
    clear F1 F2 F3
    replace HX2 : Hid (Bs u4 a2 l2 c2 ([UInt8.ofNat (2 * xs.length)] ++ Word.putW xs)) := HX2
    have n2 : (l2 : Int) = 1 + 2 * (len0 : Int) := by have := HX2.out.hlen; simp [Word.putW_length, HL.out] at this; omega
    have z2 : l2 ≤ 1000 := by omega
    rw [show Regs.errW (some (Regs.counted xs)) = 0 from rfl]
    generalize [UInt8.ofNat (2 * xs.length)] = P2 at HX2
    replace HX3 : Hid (Bs u4 a3 l3 c3 ((Word.putW [0, kn] ++ [UInt8.ofNat (2 * xs.length)]) ++ Word.putW xs)) := hide (by rw [List.append_assoc]; exact HX3.out)
    have n3 : (l3 : Int) = 5 + 2 * (len0 : Int) := by have := HX3.out.hlen; simp [Word.putW_length, HL.out] at this; omega
    have z3 : l3 ≤ 1000 := by omega
    rw [show Regs.errW (some (Word.putW [0, kn] ++ Regs.counted xs)) = 0 from rfl]
    generalize Word.putW [0, kn] ++ [UInt8.ofNat (2 * xs.length)] = P3 at HX3
    clear HX4
    rw [show Regs.errW none = 1 from rfl]
    have i_a : decide ((1 : Int) ≤ (len0 : Int)) = true := by simp; omega
    have i_b : decide ((len0 : Int) ≤ 125) = true := by simp; omega
    have i_c : decide ((len0 : Int) ≤ 123) = true := by simp; omega
    have i_d : decide ((len0 : Int) ≤ 31) = false := by simp; omega
    go_wp2_with fail
    refine (ends_any _ _ _ _ _ _ _ xs _ HX2.out HX.out (by omega) (by omega)).mono ?_
    rintro e u5 ⟨rfl, b5⟩
    replace hb1 := below_next hb1 b5 (Nat.le_refl _)
    replace HX := hide (HX.out.mono b5)
    replace HX3 := hide (HX3.out.mono b5)
    clear b5
    go_wp2_with fail
    refine (ends_any _ _ _ _ _ _ _ xs _ HX3.out HX.out (by omega) (by omega)).mono ?_
    rintro e u6 ⟨rfl, b6⟩
    replace hb1 := below_next hb1 b6 (Nat.le_refl _)
    replace HX := hide (HX.out.mono b6)
    clear b6
    go_wp2
    go_ret
    exact ⟨rfl, hb1⟩
  · have f1 := F1.out
    rw [if_pos (by omega)] at f1
    have f2 := F2.out
    rw [if_neg (by omega)] at f2
    have f3 := F3.out
    rw [if_neg (by omega)] at f3
    subst f1 f2 f3
    clear F1 F2 F3
    replace HX2 : Hid (Bs u4 a2 l2 c2 ([UInt8.ofNat (2 * xs.length)] ++ Word.putW xs)) := HX2
    have n2 : (l2 : Int) = 1 + 2 * (len0 : Int) := by have := HX2.out.hlen; simp [Word.putW_length, HL.out] at this; omega
    have z2 : l2 ≤ 1000 := by omega
    rw [show Regs.errW (some (Regs.counted xs)) = 0 from rfl]
    generalize [UInt8.ofNat (2 * xs.length)] = P2 at HX2
    clear HX3
    clear HX4
    rw [show Regs.errW none = 1 from rfl]
    have i_a : decide ((1 : Int) ≤ (len0 : Int)) = true := by simp; omega
    have i_b : decide ((len0 : Int) ≤ 125) = true := by simp; omega
    have i_c : decide ((len0 : Int) ≤ 123) = false := by simp; omega
    have i_d : decide ((len0 : Int) ≤ 31) = false := by simp; omega
    go_wp2_with fail
    refine (ends_any _ _ _ _ _ _ _ xs _ HX2.out HX.out (by omega) (by omega)).mono ?_
    rintro e u5 ⟨rfl, b5⟩
    replace hb1 := below_next hb1 b5 (Nat.le_refl _)
    replace HX := hide (HX.out.mono b5)
    clear b5
    go_wp2
    go_ret
    exact ⟨rfl, hb1⟩
  · have f1 := F1.out
    rw [if_neg (by omega)] at f1
    have f2 := F2.out
    rw [if_neg (by omega)] at f2
    have f3 := F3.out
    rw [if_neg (by omega)] at f3
    subst f1 f2 f3
    clear F1 F2 F3
    clear HX2
    clear HX3
    clear HX4
    rw [show Regs.errW none = 1 from rfl]
    have i_a : decide ((1 : Int) ≤ (len0 : Int)) = true := by simp; omega
    have i_b : decide ((len0 : Int) ≤ 125) = false := by simp; omega
    have i_c : decide ((len0 : Int) ≤ 123) = false := by simp; omega
    have i_d : decide ((len0 : Int) ≤ 31) = false := by simp; omega
    go_wp2
    go_ret
    exact ⟨rfl, hb1⟩

/-! ### THE ROW's STEP: WRITTEN OUT: LEAVE IT -/
set_option maxRecDepth 100000 in
theorem lifted (os : Os) (started : os.Started) (H : Type) (enc : TypeId × Value → H) :
    ReturnsInHanded {} Try.checked os 7 .any (Rows.regsWordsSpec.pre6 enc Try.prog Try.f7 Rows.regsWordsRow.domain false) (Rows.regsWordsSpec.post enc Try.prog Try.f7 false true false false) := by
  refine returnsInHanded_of_change (C := Try.checked) own started (by kernel_rfl) Try.func7
    (ChangeSpec.witness6 (enc := enc) (C := Try.checked) false ⟨#[], #[.slice none 0 0], []⟩ 8 (by kernel_rfl) (by kernel_rfl) (by kernel_rfl) (by kernel_rfl)) ?_
  intro W base args ds gs before hval0 hW hcnd _
  have hval : ∀ (j : Nat) t v, Try.f7.params[j]? = some t → args[j]? = some v → Value.okWide Try.prog W .any base t v := hval0
  have hW' := hW
  obtain ⟨p, q, hA0, hV, rfl, hfz, hnd⟩ := hW
  have hA : DataW.TrodAll enc Try.prog W 0 (fun _ => true) true Try.f7.params.toList args.toList ds p := hA0
  rw [Try.params7] at hA hval
  obtain ⟨v0, vs0, d0, ds0, p0, q0, hargs, rfl, rfl, h0, r0⟩ := trodAll_cons hA
  obtain ⟨rfl, rfl, rfl⟩ := trodAll_nil r0
  obtain rfl : args = #[v0] := by cases args; simp_all
  obtain ⟨rfl, rfl⟩ := trodVars_none hV
  obtain ⟨a0, len0, cap0, rfl⟩ := okWide_slice Try.underlying25 (hval 0 25 v0 rfl rfl)
  have k0 := h0
  have lt0 : ∀ x ∈ p0, x.block < W.heap.size := by obtain ⟨m, hm⟩ := k0; exact DataW.trod_lt m _ _ _ hm
  obtain ⟨z0, w0⟩ : ∃ zs, IsRow .u16 W a0 len0 cap0 zs := by
    obtain ⟨fuel, hf⟩ := h0
    rcases open_ints Try.underlying25 Try.underlying24 (by kernel_rfl) hf with ⟨hcs, _⟩ | ⟨x, l, c, zs, hcs, _, hl, hm, hz, _, hcell, hwz⟩
    · simp [Value.cells] at hcs
      obtain ⟨rfl, rfl, rfl⟩ := hcs
      exact ⟨[], .inl ⟨rfl, rfl, rfl, rfl⟩⟩
    · simp [Value.cells] at hcs
      obtain ⟨rfl, rfl, rfl⟩ := hcs
      exact ⟨zs, .inr ⟨_, rfl, hl, hm, by simpa using hz, hcell, hwz⟩⟩
  clear hA0 hval0
  refine (walk a0 len0 cap0 z0 W w0).mono fun e W' ⟨he, bel⟩ => ?_
  subst he
  exact ⟨_, rfl, _, _, _, [], _, [], hW', trodAll_mk1 (shut_bool Try.underlying4 _), (trodAll_cons_mk (Below.trod laidOut (by kernel_rfl) (of_decide_eq_true (by kernel_rfl)) k0 bel lt0) trodAll_mk0), rfl, bel.frame _, fun h => by cases h⟩

theorem over : Rows.regsWordsRow.holds Try.pinned (OpenSpec.ofChange Rows.regsWordsSpec) :=
  OpenClaim.holds_of_wide 7 Try.f7 rfl rfl rfl rfl rfl rfl rfl ⟨rfl, rfl, rfl, rfl, rfl⟩ rfl rfl rfl rfl rfl (by kernel_rfl) Try.func7 (by kernel_rfl)
    (of_decide_eq_true (by kernel_rfl)) (by unfold Func.isWrapper; first | (rw [if_pos (by decide +kernel)]; kernel_rfl) | (rw [if_neg (by decide +kernel)]; exact ⟨rfl, rfl⟩))
    (fun os started H enc _ => lifted os started H enc)

/-- ████ THE STATEMENT ████ -/
theorem proved : Rows.RegsWordsSaid := over
#print axioms proved
end Go.Proofs.Ytaccebkgmjiaaaa.regsWords
