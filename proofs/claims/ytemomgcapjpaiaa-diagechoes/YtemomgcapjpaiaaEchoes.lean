/-
  Proved: for every input the law DiagEchoes answers true, and each argument reads behind the call as it read before.
  Conditions: none (the statement Rows.DiagEchoesSaid as it is given).
-/
import Derived.Test.YtemomgcapjpaiaaRows
import Derived.WalkKit
import Derived.ProofKit
import Derived.OpenShut
import Derived.ShutString
import Derived.ChangeOld
import Derived.Below
import Derived.Test.YtemomgcapjpaiaaDiagFacts
namespace Go.Proofs.Ytemomgcapjpaiaa.diagEchoes
open Go.ChangeShapes Go.WideShapes Go.ChangeAt Go.RowKit
open Go.ChangeMaps (open_string shut_string)
set_option linter.unusedVariables false

theorem may_mono (n v : Nat) (h : Diag.may 0 n v = true) : Diag.may 1 n v = true := by
  unfold Diag.may at h ⊢
  rw [if_neg (show ¬ ((0 : Int) = 1 ∧ _) by omega)] at h
  by_cases h1 : n = 1
  · rw [if_pos h1] at h ⊢; exact h
  · rw [if_neg h1] at h ⊢
    by_cases h3 : n = 3
    · rw [if_pos h3] at h ⊢; exact h
    · rw [if_neg h3] at h ⊢
      split
      · rfl
      · exact h
theorem may_same (n v : Nat) (h1 : n ≠ 2) (h2 : ¬ (11 ≤ n ∧ n ≤ 18)) : Diag.may 0 n v = Diag.may 1 n v := by
  unfold Diag.may
  rw [if_neg (show ¬ ((0 : Int) = 1 ∧ _) by omega), if_neg (show ¬ ((1 : Int) = 1 ∧ (n = 2 ∨ 11 ≤ n ∧ n ≤ 18)) by omega)]
theorem end_mono (s : UInt16) : ∀ xs : List UInt16, Diag.okEndB 0 s xs = true → Diag.okEndB 1 s xs = true := fun xs h => by
  rw [Diag.okEndB_iff] at h ⊢
  unfold Diag.okEnd at h ⊢
  by_cases hz : s = 0
  · rw [if_pos hz] at h ⊢; exact h
  · rw [if_neg hz] at h ⊢
    obtain ⟨v, h1, h2⟩ := h
    exact ⟨v, h1, may_mono _ _ h2⟩
theorem end_same (s : UInt16) (h1 : s.toNat ≠ 2) (h2 : ¬ (11 ≤ s.toNat ∧ s.toNat ≤ 18)) (xs : List UInt16) : Diag.okEndB 0 s xs = Diag.okEndB 1 s xs := by
  rw [Bool.eq_iff_iff, Diag.okEndB_iff, Diag.okEndB_iff]
  unfold Diag.okEnd
  simp only [may_same _ _ h1 h2]
theorem sub_same (s : UInt16) (h : s.toNat ≠ 4) : Diag.okSub 0 s = Diag.okSub 1 s := by
  unfold Diag.okSub
  simp [h]
theorem own : ownKnob Try.prog.godebug = none := by kernel_rfl
theorem laidOut : laidOutB Try.prog = true := by kernel_rfl

/-- WHAT THE WALK IS TOLD OF A SLICE OF INTEGERS THAT CAME IN: it is nil; or it leads to a row of 'cap' cells, the numbers 'zs' (the first 'len' are its elements, the rest its spare room), each fitting its kind. -/
def IsRow (k : IntKind) (w : World) (a : Option Addr) (len cap : Nat) (zs : List Int) : Prop :=
  (a = none ∧ len = 0 ∧ cap = 0 ∧ zs = []) ∨
  ∃ x, a = some x ∧ len ≤ cap ∧ cap ≤ maxLen ∧ zs.length = cap ∧ (∀ i, i < zs.length → w.cell? (x.add i) = some (.int k (zs.getD i 0))) ∧ ∀ n ∈ zs, (Lit.int k n).wf = true

/-! ### STEP 1: THE WALK: the Go text returns true, AND WRITES NOTHING THAT WAS THERE: 'Below w.heap.size w w'' (Derived/Below.lean: '.refl', '.alloc', '.drew', '.setCell' at a new block, '.trans'). Open each 'IsRow' by 'rcases' AHEAD of 'go_enter'; part every test ahead of the walk. -/
set_option maxRecDepth 20000 in
set_option maxHeartbeats 2000000 in
theorem walk (a0 : Int) (a1 : Option Addr) (len1 cap1 : Nat) (z1 : List Int) (w : World) (w0 : (Lit.int .u16 a0).wf = true) (w1 : IsRow .u16 w a1 len1 cap1 z1) :
    Calls Try.prog 6 #[.int .u16 a0, .slice a1 len1 cap1] w fun e w' => e = .returned (.bool true) ∧ Below w.heap.size w w' := by
  obtain ⟨s, rfl⟩ := word_arg w0
  obtain ⟨xs, hx⟩ := Ws.ofRow w1
  have hm := hx.hle
  have hm2 := hx.hmax
  unfold maxLen at hm2
  have HX := hide hx
  have HL := hide hx.hlen
  have bs := word_lt s
  clear w0 w1 hx
  go_enter Try.func6, Try.ntmps6
  go_wp2_with fail
  refine (awake_any w).mono ?_
  rintro e u1 ⟨rfl, hb1⟩
  replace HX := hide (HX.out.mono hb1)
  by_cases hl : len1 ≤ 400
  rotate_left
  · have hl' : (400 : Int) < (len1 : Int) := by omega
    go_wp2
    go_ret
    exact ⟨rfl, hb1⟩
  have hl' : ¬ (400 : Int) < (len1 : Int) := by omega
  obtain ⟨R0, E0, F0⟩ : ∃ R, Hid (Diag.write 0 (Diag.subM s xs) = R) ∧ Hid (R = if Diag.okSub 0 s = true ∧ Diag.okEndB 0 s xs = true then some (Word.putW (s :: xs)) else none) := ⟨_, hide rfl, hide (Diag.write_asked s xs)⟩
  obtain ⟨R1, E1, F1⟩ : ∃ R, Hid (Diag.write 1 (Diag.subM s xs) = R) ∧ Hid (R = if Diag.okSub 1 s = true ∧ Diag.okEndB 1 s xs = true then some (Word.putW (s :: xs)) else none) := ⟨_, hide rfl, hide (Diag.write_answered s xs)⟩
  have hcw : ∀ u, Ws u a1 len1 cap1 xs → MsgAt u (.agg (Diag.mCells (.int .u8 8) Diag.z16 (wordV s) Diag.z16 Diag.z16 Diag.z16 (.slice a1 len1 cap1) Diag.nilS)) (Diag.subM s xs) := fun u h => Diag.m_at (m := Diag.subM s xs) h (Sl.nil u none (Nat.zero_le _)) rfl
  have HCW := hide hcw
  clear hcw
  go_wp2_with ((with_reducible (show wpList _ _ _ ({ dst := _, op := Op.store _ _ _, type := _, pos := _, after := _, guard := _ } :: _) _ _)); refine wpList_store_new rfl 30 _ _ rfl (Diag.mCells (.int .u8 8) Diag.z16 (wordV s) Diag.z16 Diag.z16 Diag.z16 (.slice a1 len1 cap1) Diag.nilS) rfl rfl (msg_size _ rfl) rfl (by simp [Value.oneCell']) ?_)
  intro u2 h2 b2
  replace HX := hide (HX.out.mono b2)
  replace hb1 := below_next hb1 b2 (Nat.le_refl _)
  clear b2
  generalize u1.heap.size = g1 at *
  have HSM : Hid (Diag.subM s xs).Small := hide (Diag.small_of (by show xs.length ≤ _; rw [HL.out]; omega) rfl (Nat.zero_le _) rfl rfl)
  go_wp2_with ((with_reducible (show wpList _ _ _ ({ dst := _, op := Op.load _ _, type := _, pos := _, after := _, guard := _ } :: _) _ _)); refine wpList_load_rowG (by rfl) 30 _ rfl g1 rfl _ (load_whole h2 rfl) ?_)
  refine (Diag.code_write 0 _ (Diag.subM s xs) u2 (HCW.out _ HX.out) HSM.out).mono ?_
  rintro e u3 ⟨⟨a3, l3, c3, rfl, hx3⟩, b3⟩
  replace hb1 := below_next hb1 b3 (Nat.le_refl _)
  replace HX := hide (HX.out.mono b3)
  replace h2 := (b3.block g1 (lt_of_block h2)).trans h2
  rw [E0.out] at hx3 ⊢
  have HX3 := hide hx3
  clear b3 hx3 E0
  go_wp2_with ((with_reducible (show wpList _ _ _ ({ dst := _, op := Op.load _ _, type := _, pos := _, after := _, guard := _ } :: _) _ _)); refine wpList_load_rowG (by rfl) 30 _ rfl g1 rfl _ (load_whole h2 rfl) ?_)
  refine (Diag.code_write 1 _ (Diag.subM s xs) u3 (HCW.out _ HX.out) HSM.out).mono ?_
  rintro e u4 ⟨⟨a4, l4, c4, rfl, hx4⟩, b4⟩
  replace hb1 := below_next hb1 b4 (Nat.le_refl _)
  replace HX3 := hide (HX3.out.mono b4)
  rw [E1.out] at hx4 ⊢
  have HX4 := hide hx4
  clear b4 hx4 E1 h2 HCW HSM HX
  obtain ⟨n, hn⟩ : ∃ n : Nat, n = s.toNat := ⟨_, rfl⟩
  have HN := hide hn
  rw [← hn] at bs ⊢
  have HSAME : Hid (n ≠ 2 → ¬ (11 ≤ n ∧ n ≤ 18) → n ≠ 4 → R0 = R1) := hide (fun h1 h2 h3 => by
    rw [hn] at h1 h2 h3
    rw [F0.out, F1.out, sub_same s h3, end_same s h1 h2 xs])
  have HFOUR : Hid (n = 4 → R1 = none) := hide (fun h => by
    rw [F1.out, if_neg (fun g => by have := g.1; unfold Diag.okSub at this; rw [← hn, h] at this; simp at this)])
  have HIMP : Hid (R0 = none ∨ n = 4 ∨ (R0 = some (Word.putW (s :: xs)) ∧ R1 = some (Word.putW (s :: xs)))) := hide (by
    rw [F0.out, F1.out]
    by_cases h4 : n = 4
    · exact .inr (.inl h4)
    by_cases h : Diag.okSub 0 s = true ∧ Diag.okEndB 0 s xs = true
    · exact .inr (.inr ⟨if_pos h, if_pos ⟨by rw [← sub_same s (by rw [← hn]; exact h4)]; exact h.1, end_mono s xs h.2⟩⟩)
    · exact .inl (if_neg h))
  have q1 : Diag.errW none = 1 := rfl
  have q2 : ∀ b : List UInt8, Diag.errW (some b) = 0 := fun _ => rfl
  have Q1 := hide q1
  have Q2 := hide q2
  clear hn HN F0 F1 q1 q2 HL
  by_cases n0 : n = 0
  · have hs := HSAME.out (by omega) (by omega) (by omega)
    subst hs
    clear HSAME HFOUR HIMP
    subst n0
    have HL4 := hide HX4.out.hlen
    have HL3 := hide HX3.out.hlen
    cases R0 with
    | none =>
      rw [Q1.out]
      obtain rfl : l3 = 0 := HL3.out.symm
      go_wp2_with fail
      refine (same_any _ _ _ _ _ _ _ _ _ HX3.out HX4.out).mono ?_
      rintro e u5 ⟨rfl, rfl⟩
      rw [decide_eq_true (rfl : Diag.outW none = Diag.outW none)]
      go_wp2
      go_ret
      exact ⟨rfl, hb1⟩
    | some b =>
      rw [Q2.out]
      go_wp2_with fail
      refine (same_any _ _ _ _ _ _ _ _ _ HX3.out HX4.out).mono ?_
      rintro e u5 ⟨rfl, rfl⟩
      rw [decide_eq_true (rfl : Diag.outW (some b) = Diag.outW (some b))]
      go_wp2
      go_ret
      exact ⟨rfl, hb1⟩
  have i0 : ((n : Int) == 0) = false := by simp; omega
  by_cases n1 : n = 1
  · have hs := HSAME.out (by omega) (by omega) (by omega)
    subst hs
    clear HSAME HFOUR HIMP
    subst n1
    have HL4 := hide HX4.out.hlen
    have HL3 := hide HX3.out.hlen
    cases R0 with
    | none =>
      rw [Q1.out]
      obtain rfl : l3 = 0 := HL3.out.symm
      go_wp2_with fail
      refine (same_any _ _ _ _ _ _ _ _ _ HX3.out HX4.out).mono ?_
      rintro e u5 ⟨rfl, rfl⟩
      rw [decide_eq_true (rfl : Diag.outW none = Diag.outW none)]
      go_wp2
      go_ret
      exact ⟨rfl, hb1⟩
    | some b =>
      rw [Q2.out]
      go_wp2_with fail
      refine (same_any _ _ _ _ _ _ _ _ _ HX3.out HX4.out).mono ?_
      rintro e u5 ⟨rfl, rfl⟩
      rw [decide_eq_true (rfl : Diag.outW (some b) = Diag.outW (some b))]
      go_wp2
      go_ret
      exact ⟨rfl, hb1⟩
  have i1 : ((n : Int) == 1) = false := by simp; omega
  by_cases n3 : n = 3
  · have hs := HSAME.out (by omega) (by omega) (by omega)
    subst hs
    clear HSAME HFOUR HIMP
    subst n3
    have HL4 := hide HX4.out.hlen
    have HL3 := hide HX3.out.hlen
    cases R0 with
    | none =>
      rw [Q1.out]
      obtain rfl : l3 = 0 := HL3.out.symm
      go_wp2_with fail
      refine (same_any _ _ _ _ _ _ _ _ _ HX3.out HX4.out).mono ?_
      rintro e u5 ⟨rfl, rfl⟩
      rw [decide_eq_true (rfl : Diag.outW none = Diag.outW none)]
      go_wp2
      go_ret
      exact ⟨rfl, hb1⟩
    | some b =>
      rw [Q2.out]
      go_wp2_with fail
      refine (same_any _ _ _ _ _ _ _ _ _ HX3.out HX4.out).mono ?_
      rintro e u5 ⟨rfl, rfl⟩
      rw [decide_eq_true (rfl : Diag.outW (some b) = Diag.outW (some b))]
      go_wp2
      go_ret
      exact ⟨rfl, hb1⟩
  have i3 : ((n : Int) == 3) = false := by simp; omega
  by_cases n10 : n = 10
  · have hs := HSAME.out (by omega) (by omega) (by omega)
    subst hs
    clear HSAME HFOUR HIMP
    subst n10
    have HL4 := hide HX4.out.hlen
    have HL3 := hide HX3.out.hlen
    cases R0 with
    | none =>
      rw [Q1.out]
      obtain rfl : l3 = 0 := HL3.out.symm
      go_wp2_with fail
      refine (same_any _ _ _ _ _ _ _ _ _ HX3.out HX4.out).mono ?_
      rintro e u5 ⟨rfl, rfl⟩
      rw [decide_eq_true (rfl : Diag.outW none = Diag.outW none)]
      go_wp2
      go_ret
      exact ⟨rfl, hb1⟩
    | some b =>
      rw [Q2.out]
      go_wp2_with fail
      refine (same_any _ _ _ _ _ _ _ _ _ HX3.out HX4.out).mono ?_
      rintro e u5 ⟨rfl, rfl⟩
      rw [decide_eq_true (rfl : Diag.outW (some b) = Diag.outW (some b))]
      go_wp2
      go_ret
      exact ⟨rfl, hb1⟩
  have i10 : ((n : Int) == 10) = false := by simp; omega
  by_cases n20 : n = 20
  · have hs := HSAME.out (by omega) (by omega) (by omega)
    subst hs
    clear HSAME HFOUR HIMP
    subst n20
    have HL4 := hide HX4.out.hlen
    have HL3 := hide HX3.out.hlen
    cases R0 with
    | none =>
      rw [Q1.out]
      obtain rfl : l3 = 0 := HL3.out.symm
      go_wp2_with fail
      refine (same_any _ _ _ _ _ _ _ _ _ HX3.out HX4.out).mono ?_
      rintro e u5 ⟨rfl, rfl⟩
      rw [decide_eq_true (rfl : Diag.outW none = Diag.outW none)]
      go_wp2
      go_ret
      exact ⟨rfl, hb1⟩
    | some b =>
      rw [Q2.out]
      go_wp2_with fail
      refine (same_any _ _ _ _ _ _ _ _ _ HX3.out HX4.out).mono ?_
      rintro e u5 ⟨rfl, rfl⟩
      rw [decide_eq_true (rfl : Diag.outW (some b) = Diag.outW (some b))]
      go_wp2
      go_ret
      exact ⟨rfl, hb1⟩
  have i20 : ((n : Int) == 20) = false := by simp; omega
  by_cases n4 : n = 4
  · have hs := HFOUR.out n4
    subst hs
    clear HSAME HFOUR HIMP n0 n1 n3 n10 n20
    subst n4
    rw [Q1.out]
    clear Q1 Q2
    go_wp2
    go_ret
    exact ⟨rfl, hb1⟩
  have i4 : ((n : Int) == 4) = false := by simp; omega
  rcases HIMP.out with h | h | ⟨h, h'⟩
  · subst h
    rw [Q1.out]
    generalize Diag.errW R1 = E1 at *
    clear HSAME HFOUR HIMP n0 n1 n3 n10 n20 n4
    go_wp2
    go_ret
    exact ⟨rfl, hb1⟩
  · exact absurd h n4
  · subst h h'
    rw [Q2.out]
    clear HSAME HFOUR HIMP n0 n1 n3 n10 n20 n4
    go_wp2_with fail
    refine (same_any _ _ _ _ _ _ _ _ _ HX3.out HX4.out).mono ?_
    rintro e u5 ⟨rfl, rfl⟩
    rw [decide_eq_true (rfl : Diag.outW (some (Word.putW (s :: xs))) = Diag.outW (some (Word.putW (s :: xs))))]
    go_wp2
    go_ret
    exact ⟨rfl, hb1⟩

/-! ### THE ROW's STEP: WRITTEN OUT: LEAVE IT -/
set_option maxRecDepth 100000 in
theorem lifted (os : Os) (started : os.Started) (H : Type) (enc : TypeId × Value → H) :
    ReturnsInHanded {} Try.checked os 6 .any (Rows.diagEchoesSpec.pre6 enc Try.prog Try.f6 Rows.diagEchoesRow.domain false) (Rows.diagEchoesSpec.post enc Try.prog Try.f6 false true false false) := by
  refine returnsInHanded_of_change (C := Try.checked) own started (by kernel_rfl) Try.func6
    (ChangeSpec.witness6 (enc := enc) (C := Try.checked) false ⟨#[], #[.int .u16 0, .slice none 0 0], []⟩ 8 (by kernel_rfl) (by kernel_rfl) (by kernel_rfl) (by kernel_rfl)) ?_
  intro W base args ds gs before hval0 hW hcnd _
  have hval : ∀ (j : Nat) t v, Try.f6.params[j]? = some t → args[j]? = some v → Value.okWide Try.prog W .any base t v := hval0
  have hW' := hW
  obtain ⟨p, q, hA0, hV, rfl, hfz, hnd⟩ := hW
  have hA : DataW.TrodAll enc Try.prog W 0 (fun _ => true) true Try.f6.params.toList args.toList ds p := hA0
  rw [Try.params6] at hA hval
  obtain ⟨v0, vs0, d0, ds0, p0, q0, hargs, rfl, rfl, h0, r0⟩ := trodAll_cons hA
  obtain ⟨v1, vs1, d1, ds1, p1, q1, rfl, rfl, rfl, h1, r1⟩ := trodAll_cons r0
  obtain ⟨rfl, rfl, rfl⟩ := trodAll_nil r1
  obtain rfl : args = #[v0, v1] := by cases args; simp_all
  obtain ⟨rfl, rfl⟩ := trodVars_none hV
  obtain ⟨a0, rfl, rfl, rfl, w0⟩ := open_int Try.underlying24 (hval 0 24 v0 rfl rfl) h0
  obtain ⟨a1, len1, cap1, rfl⟩ := okWide_slice Try.underlying25 (hval 1 25 v1 rfl rfl)
  have k1 := h1
  have lt1 : ∀ x ∈ p1, x.block < W.heap.size := by obtain ⟨m, hm⟩ := k1; exact DataW.trod_lt m _ _ _ hm
  obtain ⟨z1, w1⟩ : ∃ zs, IsRow .u16 W a1 len1 cap1 zs := by
    obtain ⟨fuel, hf⟩ := h1
    rcases open_ints Try.underlying25 Try.underlying24 (by kernel_rfl) hf with ⟨hcs, _⟩ | ⟨x, l, c, zs, hcs, _, hl, hm, hz, _, hcell, hwz⟩
    · simp [Value.cells] at hcs
      obtain ⟨rfl, rfl, rfl⟩ := hcs
      exact ⟨[], .inl ⟨rfl, rfl, rfl, rfl⟩⟩
    · simp [Value.cells] at hcs
      obtain ⟨rfl, rfl, rfl⟩ := hcs
      exact ⟨zs, .inr ⟨_, rfl, hl, hm, by simpa using hz, hcell, hwz⟩⟩
  clear hA0 hval0
  refine (walk a0 a1 len1 cap1 z1 W w0 w1).mono fun e W' ⟨he, bel⟩ => ?_
  subst he
  exact ⟨_, rfl, _, _, _, [], _, [], hW', trodAll_mk1 (shut_bool Try.underlying4 _), (trodAll_cons_mk (shut_int Try.underlying24 w0) (trodAll_cons_mk (Below.trod laidOut (by kernel_rfl) (of_decide_eq_true (by kernel_rfl)) k1 bel lt1) trodAll_mk0)), rfl, bel.frame _, fun h => by cases h⟩

theorem over : Rows.diagEchoesRow.holds Try.pinned (OpenSpec.ofChange Rows.diagEchoesSpec) :=
  OpenClaim.holds_of_wide 6 Try.f6 rfl rfl rfl rfl rfl rfl rfl ⟨rfl, rfl, rfl, rfl, rfl⟩ rfl rfl rfl rfl rfl (by kernel_rfl) Try.func6 (by kernel_rfl)
    (of_decide_eq_true (by kernel_rfl)) (by unfold Func.isWrapper; first | (rw [if_pos (by decide +kernel)]; kernel_rfl) | (rw [if_neg (by decide +kernel)]; exact ⟨rfl, rfl⟩))
    (fun os started H enc _ => lifted os started H enc)

/-- ████ THE STATEMENT ████ -/
theorem proved : Rows.DiagEchoesSaid := over
#print axioms proved
end Go.Proofs.Ytemomgcapjpaiaa.diagEchoes
