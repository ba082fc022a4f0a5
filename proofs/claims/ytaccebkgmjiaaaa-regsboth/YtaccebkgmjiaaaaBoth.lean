/-
  Proved: for every input the law RegsBoth answers true, and each argument reads behind the call as it read before.
  Conditions: none (the statement Rows.RegsBothSaid as it is given).
-/
import Derived.Test.YtaccebkgmjiaaaaRows
import Derived.WalkKit
import Derived.ProofKit
import Derived.OpenShut
import Derived.ShutString
import Derived.ChangeOld
import Derived.Below
import Derived.Test.YtaccebkgmjiaaaaRegFacts
namespace Go.Proofs.Ytaccebkgmjiaaaa.regsBoth
open Go.ChangeShapes Go.WideShapes Go.ChangeAt Go.RowKit
open Go.ChangeMaps (open_string shut_string)
set_option linter.unusedVariables false

theorem own : ownKnob Try.prog.godebug = none := by kernel_rfl
theorem laidOut : laidOutB Try.prog = true := by kernel_rfl

/-- WHAT THE WALK IS TOLD OF A SLICE OF INTEGERS THAT CAME IN: it is nil; or it leads to a row of 'cap' cells, the numbers 'zs' (the first 'len' are its elements, the rest its spare room), each fitting its kind. -/
def IsRow (k : IntKind) (w : World) (a : Option Addr) (len cap : Nat) (zs : List Int) : Prop :=
  (a = none ∧ len = 0 ∧ cap = 0 ∧ zs = []) ∨
  ∃ x, a = some x ∧ len ≤ cap ∧ cap ≤ maxLen ∧ zs.length = cap ∧ (∀ i, i < zs.length → w.cell? (x.add i) = some (.int k (zs.getD i 0))) ∧ ∀ n ∈ zs, (Lit.int k n).wf = true

/-! ### STEP 1: THE WALK: the Go text returns true, AND WRITES NOTHING THAT WAS THERE: 'Below w.heap.size w w'' (Derived/Below.lean: '.refl', '.alloc', '.drew', '.setCell' at a new block, '.trans'). Open each 'IsRow' by 'rcases' AHEAD of 'go_enter'; part every test ahead of the walk. -/
set_option maxRecDepth 20000 in
set_option maxHeartbeats 2000000 in
theorem walk (a0 : Int) (a1 : Int) (a2 : Int) (a3 : Option Addr) (len3 cap3 : Nat) (z3 : List Int) (w : World) (w0 : (Lit.int .u16 a0).wf = true) (w1 : (Lit.int .u16 a1).wf = true) (w2 : (Lit.int .u16 a2).wf = true) (w3 : IsRow .u16 w a3 len3 cap3 z3) :
    Calls Try.prog 10 #[.int .u16 a0, .int .u16 a1, .int .u16 a2, .slice a3 len3 cap3] w fun e w' => e = .returned (.bool true) ∧ Below w.heap.size w w' := by
  obtain ⟨a, rfl⟩ := word_arg w0
  obtain ⟨k, rfl⟩ := word_arg w1
  obtain ⟨t, rfl⟩ := word_arg w2
  obtain ⟨xs, hx⟩ := Ws.ofRow w3
  have hm := hx.hle
  have hm2 := hx.hmax
  unfold maxLen at hm2
  have HL := hide hx.hlen
  have HX := hide hx
  clear w0 w1 w2 w3 hx
  go_enter Try.func10, Try.ntmps10
  go_wp2_with fail
  refine (awake_any w).mono ?_
  rintro e u1 ⟨rfl, hb1⟩
  replace HX := hide (HX.out.mono hb1)
  by_cases hl : len3 ≤ 400
  rotate_left
  · have hl' : (400 : Int) < (len3 : Int) := by omega
    go_wp2
    go_ret
    exact ⟨rfl, hb1⟩
  have hl' : ¬ (400 : Int) < (len3 : Int) := by omega
  have hwn : IntKind.u16.wrap (len3 : Int) = (len3 : Int) := by rw [IntKind.wrap_u16]; omega
  have hN : Hid ((UInt16.ofNat len3).toNat = len3) := hide (by rw [UInt16.toNat_ofNat', Nat.mod_eq_of_lt (by omega)])
  obtain ⟨kn, hkn⟩ : ∃ x : UInt16, x = UInt16.ofNat len3 := ⟨_, rfl⟩
  have HKE := hide hkn
  have HKN : Hid (kn.toNat = len3) := hide (by rw [hkn]; exact hN.out)
  have hv : Hid ((.int .u16 (len3 : Int) : Value) = wordV kn) := hide (by show _ = Value.int .u16 (kn.toNat : Int); rw [HKN.out])
  clear hkn hN
  obtain ⟨pA, hpA⟩ : ∃ p : Prop, p = (1 ≤ k.toNat ∧ k.toNat ≤ 125 ∧ a.toNat + k.toNat ≤ 65536) := ⟨_, rfl⟩
  obtain ⟨pB, hpB⟩ : ∃ p : Prop, p = (1 ≤ len3 ∧ len3 ≤ 123 ∧ t.toNat + len3 ≤ 65536) := ⟨_, rfl⟩
  obtain ⟨R1, E1, F1⟩ : ∃ R, Hid (Regs.write 0 (Regs.askM 3 a k) = R) ∧ Hid ((pA → R = some (Word.putW [a, k])) ∧ (¬ pA → R = none)) := ⟨_, hide rfl, hide (by
    rw [Regs.write_ask (.inl rfl), hpA]
    exact ⟨fun h => if_pos h, fun h => if_neg h⟩)⟩
  obtain ⟨R2, E2, F2⟩ : ∃ R, Hid (Regs.write 0 (Regs.someM t kn xs) = R) ∧ Hid ((pB → R = some (Word.putW [t, kn] ++ Regs.counted xs)) ∧ (¬ pB → R = none)) := ⟨_, hide rfl, hide (by
    rw [Regs.write_some', HL.out, HKN.out, hpB]
    exact ⟨fun h => if_pos ⟨h, rfl⟩, fun h => if_neg (fun g => h g.1)⟩)⟩
  obtain ⟨R3, E3, F3⟩ : ∃ R, Hid (Regs.write 0 (Regs.bothM a k t xs) = R) ∧ Hid ((pA → pB → len3 ≤ 121 → R = some (Word.putW [a, k, t, kn] ++ Regs.counted xs)) ∧ (¬ (pA ∧ pB ∧ len3 ≤ 121) → R = none)) := ⟨_, hide rfl, hide (by
    rw [Regs.write_both, HL.out, hpA, hpB, HKE.out]
    refine ⟨fun h1 h2 h3 => if_pos ⟨h1, h2.1, h3, h2.2.2⟩, fun h => if_neg (fun g => h ⟨g.1, ⟨g.2.1, by omega, g.2.2.2⟩, g.2.2.1⟩)⟩)⟩
  clear hpA hpB HKE
  go_wp2_with fail
  refine (Regs.code_write 0 _ (Regs.askM 3 a k) u1 (Regs.m_at (m := Regs.askM 3 a k) (Sl.nil u1 none (Nat.zero_le _)) rfl) (Regs.small_of (Nat.zero_le _) rfl rfl rfl rfl)).mono ?_
  rintro e u2 ⟨⟨a2, l2, c2, rfl, hx2⟩, b2⟩
  replace hb1 := below_next hb1 b2 (Nat.le_refl _)
  replace HX := hide (HX.out.mono b2)
  rw [E1.out] at hx2 ⊢
  have HX2 := hide hx2
  clear b2 hx2 E1
  go_wp2_with fail
  refine (Regs.code_write 0 _ (Regs.someM t kn xs) u2 (by rw [hv.out]; exact Regs.m_at (m := Regs.someM t kn xs) HX.out rfl) (Regs.small_of (by show xs.length ≤ _; rw [HL.out]; omega) rfl rfl rfl rfl)).mono ?_
  rintro e u3 ⟨⟨a3, l3, c3, rfl, hx3⟩, b3⟩
  replace hb1 := below_next hb1 b3 (Nat.le_refl _)
  replace HX := hide (HX.out.mono b3)
  replace HX2 := hide (HX2.out.mono b3)
  rw [E2.out] at hx3 ⊢
  have HX3 := hide hx3
  clear b3 hx3 E2 hv
  go_wp2_with fail
  refine (Regs.code_write 0 _ (Regs.bothM a k t xs) u3 (Regs.m_at (m := Regs.bothM a k t xs) HX.out rfl) (Regs.small_of (by show xs.length ≤ _; rw [HL.out]; omega) rfl rfl rfl rfl)).mono ?_
  rintro e u4 ⟨⟨a4, l4, c4, rfl, hx4⟩, b4⟩
  replace hb1 := below_next hb1 b4 (Nat.le_refl _)
  replace HX2 := hide (HX2.out.mono b4)
  replace HX3 := hide (HX3.out.mono b4)
  rw [E3.out] at hx4 ⊢
  have HX4 := hide hx4
  clear b4 hx4 E3 HX
  by_cases hA : pA
  rotate_left
  · have f1 := F1.out.2 hA
    have f3 := F3.out.2 (fun h => hA h.1)
    subst f1 f3
    clear F1 F2 F3 HX2 HX3 HX4
    rw [show Regs.errW none = 1 from rfl]
    go_wp2
    go_ret
    exact ⟨rfl, hb1⟩
  have f1 := F1.out.1 hA
  subst f1
  rw [show Regs.errW (some (Word.putW [a, k])) = 0 from rfl]
  clear F1
  by_cases hB : pB
  rotate_left
  · have f2 := F2.out.2 hB
    have f3 := F3.out.2 (fun h => hB h.2.1)
    subst f2 f3
    clear F2 F3 HX2 HX3 HX4
    rw [show Regs.errW none = 1 from rfl]
    go_wp2
    go_ret
    exact ⟨rfl, hb1⟩
  have f2 := F2.out.1 hB
  subst f2
  rw [show Regs.errW (some (Word.putW [t, kn] ++ Regs.counted xs)) = 0 from rfl]
  clear F2
  by_cases hC : len3 ≤ 121
  rotate_left
  · have f3 := F3.out.2 (fun h => hC h.2.2)
    subst f3
    clear F3 HX2 HX3 HX4
    rw [show Regs.errW none = 1 from rfl]
    have hC' : ¬ (len3 : Int) ≤ 121 := by omega
    have hC'' : decide ((len3 : Int) ≤ 121) = false := by simp; omega
    go_wp2
    go_ret
    exact ⟨rfl, hb1⟩
  have f3 := F3.out.1 hA hB hC
  subst f3
  rw [show Regs.errW (some (Word.putW [a, k, t, kn] ++ Regs.counted xs)) = 0 from rfl]
  clear F3
  replace HX2 : Hid (Bs u4 a2 l2 c2 (Word.putW [a, k])) := HX2
  replace HX3 : Hid (Bs u4 a3 l3 c3 (Word.putW [t, kn] ++ Regs.counted xs)) := HX3
  replace HX4 : Hid (Bs u4 a4 l4 c4 (Word.putW [a, k, t, kn] ++ Regs.counted xs)) := HX4
  have z2 : l2 ≤ 1000 := by rw [← HX2.out.hlen]; simp [Word.putW_length]
  have z3 : l3 ≤ 1000 := by rw [← HX3.out.hlen]; simp [Regs.counted, Word.putW_length, HL.out]; omega
  have HQ : Hid (Word.putW [a, k, t, kn] ++ Regs.counted xs = Word.putW [a, k] ++ (Word.putW [t, kn] ++ Regs.counted xs)) := hide rfl
  generalize Word.putW [a, k, t, kn] ++ Regs.counted xs = B4 at *
  generalize Word.putW [t, kn] ++ Regs.counted xs = B3 at *
  generalize Word.putW [a, k] = B2 at *
  have hC' : (len3 : Int) ≤ 121 := by omega
  go_wp2_with (at_builtin; first | (refine app (by rfl) _ _ rfl u4.heap.size rfl (Own.empty _ _ _) rfl HX2.out (by omega) (by first | exact Nat.le_refl _ | simp) ?_) | (refine app (by rfl) _ _ rfl u4.heap.size rfl (Own.empty _ _ _) rfl (HX2.out.alloc _) (by omega) (by first | exact Nat.le_refl _ | simp) ?_))
  intro a5 c5 u5 ho5 hb5
  have b5 := ((Below.refl u4.heap.size u4).alloc (Nat.le_refl _) (.cells #[] 5 (0, 0))).trans hb5
  have HX3' := hide (HX3.out.mono b5)
  have HO5 := hide ho5
  clear ho5 hb5 HX3 HX2
  go_wp2_with (at_builtin; refine app (by rfl) _ _ rfl u4.heap.size rfl HO5.out rfl HX3'.out (by omega) b5.size ?_)
  intro a6 c6 u6 ho6 hb6
  have b6 := b5.trans hb6
  replace HX4 := hide (HX4.out.mono b6)
  have HO6 := hide ho6.sl
  replace hb1 := below_next hb1 b6 (Nat.le_refl _)
  clear ho6 hb6 b5 b6 HX3' HO5
  go_wp2_with fail
  refine (same_any _ _ _ _ _ _ _ _ _ HX4.out HO6.out).mono ?_
  rintro e u7 ⟨rfl, rfl⟩
  rw [decide_eq_true HQ.out]
  go_wp2
  go_ret
  exact ⟨rfl, hb1⟩

/-! ### THE ROW's STEP: WRITTEN OUT: LEAVE IT -/
set_option maxRecDepth 100000 in
theorem lifted (os : Os) (started : os.Started) (H : Type) (enc : TypeId × Value → H) :
    ReturnsInHanded {} Try.checked os 10 .any (Rows.regsBothSpec.pre6 enc Try.prog Try.f10 Rows.regsBothRow.domain false) (Rows.regsBothSpec.post enc Try.prog Try.f10 false true false false) := by
  refine returnsInHanded_of_change (C := Try.checked) own started (by kernel_rfl) Try.func10
    (ChangeSpec.witness6 (enc := enc) (C := Try.checked) false ⟨#[], #[.int .u16 0, .int .u16 0, .int .u16 0, .slice none 0 0], []⟩ 8 (by kernel_rfl) (by kernel_rfl) (by kernel_rfl) (by kernel_rfl)) ?_
  intro W base args ds gs before hval0 hW hcnd _
  have hval : ∀ (j : Nat) t v, Try.f10.params[j]? = some t → args[j]? = some v → Value.okWide Try.prog W .any base t v := hval0
  have hW' := hW
  obtain ⟨p, q, hA0, hV, rfl, hfz, hnd⟩ := hW
  have hA : DataW.TrodAll enc Try.prog W 0 (fun _ => true) true Try.f10.params.toList args.toList ds p := hA0
  rw [Try.params10] at hA hval
  obtain ⟨v0, vs0, d0, ds0, p0, q0, hargs, rfl, rfl, h0, r0⟩ := trodAll_cons hA
  obtain ⟨v1, vs1, d1, ds1, p1, q1, rfl, rfl, rfl, h1, r1⟩ := trodAll_cons r0
  obtain ⟨v2, vs2, d2, ds2, p2, q2, rfl, rfl, rfl, h2, r2⟩ := trodAll_cons r1
  obtain ⟨v3, vs3, d3, ds3, p3, q3, rfl, rfl, rfl, h3, r3⟩ := trodAll_cons r2
  obtain ⟨rfl, rfl, rfl⟩ := trodAll_nil r3
  obtain rfl : args = #[v0, v1, v2, v3] := by cases args; simp_all
  obtain ⟨rfl, rfl⟩ := trodVars_none hV
  obtain ⟨a0, rfl, rfl, rfl, w0⟩ := open_int Try.underlying24 (hval 0 24 v0 rfl rfl) h0
  obtain ⟨a1, rfl, rfl, rfl, w1⟩ := open_int Try.underlying24 (hval 1 24 v1 rfl rfl) h1
  obtain ⟨a2, rfl, rfl, rfl, w2⟩ := open_int Try.underlying24 (hval 2 24 v2 rfl rfl) h2
  obtain ⟨a3, len3, cap3, rfl⟩ := okWide_slice Try.underlying25 (hval 3 25 v3 rfl rfl)
  have k3 := h3
  have lt3 : ∀ x ∈ p3, x.block < W.heap.size := by obtain ⟨m, hm⟩ := k3; exact DataW.trod_lt m _ _ _ hm
  obtain ⟨z3, w3⟩ : ∃ zs, IsRow .u16 W a3 len3 cap3 zs := by
    obtain ⟨fuel, hf⟩ := h3
    rcases open_ints Try.underlying25 Try.underlying24 (by kernel_rfl) hf with ⟨hcs, _⟩ | ⟨x, l, c, zs, hcs, _, hl, hm, hz, _, hcell, hwz⟩
    · simp [Value.cells] at hcs
      obtain ⟨rfl, rfl, rfl⟩ := hcs
      exact ⟨[], .inl ⟨rfl, rfl, rfl, rfl⟩⟩
    · simp [Value.cells] at hcs
      obtain ⟨rfl, rfl, rfl⟩ := hcs
      exact ⟨zs, .inr ⟨_, rfl, hl, hm, by simpa using hz, hcell, hwz⟩⟩
  clear hA0 hval0
  refine (walk a0 a1 a2 a3 len3 cap3 z3 W w0 w1 w2 w3).mono fun e W' ⟨he, bel⟩ => ?_
  subst he
  exact ⟨_, rfl, _, _, _, [], _, [], hW', trodAll_mk1 (shut_bool Try.underlying4 _), (trodAll_cons_mk (shut_int Try.underlying24 w0) (trodAll_cons_mk (shut_int Try.underlying24 w1) (trodAll_cons_mk (shut_int Try.underlying24 w2) (trodAll_cons_mk (Below.trod laidOut (by kernel_rfl) (of_decide_eq_true (by kernel_rfl)) k3 bel lt3) trodAll_mk0)))), rfl, bel.frame _, fun h => by cases h⟩

theorem over : Rows.regsBothRow.holds Try.pinned (OpenSpec.ofChange Rows.regsBothSpec) :=
  OpenClaim.holds_of_wide 10 Try.f10 rfl rfl rfl rfl rfl rfl rfl ⟨rfl, rfl, rfl, rfl, rfl⟩ rfl rfl rfl rfl rfl (by kernel_rfl) Try.func10 (by kernel_rfl)
    (of_decide_eq_true (by kernel_rfl)) (by unfold Func.isWrapper; first | (rw [if_pos (by decide +kernel)]; kernel_rfl) | (rw [if_neg (by decide +kernel)]; exact ⟨rfl, rfl⟩))
    (fun os started H enc _ => lifted os started H enc)

/-- ████ THE STATEMENT ████ -/
theorem proved : Rows.RegsBothSaid := over
#print axioms proved
end Go.Proofs.Ytaccebkgmjiaaaa.regsBoth
