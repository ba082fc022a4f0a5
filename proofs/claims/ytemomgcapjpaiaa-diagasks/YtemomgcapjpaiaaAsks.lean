/-
  Proved: for every input the law DiagAsks answers true, and each argument reads behind the call as it read before.
  Conditions: none (the statement Rows.DiagAsksSaid as it is given).
-/
import Derived.Test.YtemomgcapjpaiaaRows
import Derived.WalkKit
import Derived.ProofKit
import Derived.OpenShut
import Derived.ShutString
import Derived.ChangeOld
import Derived.Below
import Derived.Test.YtemomgcapjpaiaaDiagFacts
namespace Go.Proofs.Ytemomgcapjpaiaa.diagAsks
open Go.ChangeShapes Go.WideShapes Go.ChangeAt Go.RowKit
open Go.ChangeMaps (open_string shut_string)
set_option linter.unusedVariables false

theorem own : ownKnob Try.prog.godebug = none := by kernel_rfl
theorem laidOut : laidOutB Try.prog = true := by kernel_rfl

/-- WHAT THE WALK IS TOLD OF A SLICE OF INTEGERS THAT CAME IN: it is nil; or it leads to a row of 'cap' cells, the numbers 'zs' (the first 'len' are its elements, the rest its spare room), each fitting its kind. -/
def IsRow (k : IntKind) (w : World) (a : Option Addr) (len cap : Nat) (zs : List Int) : Prop :=
  (a = none ∧ len = 0 ∧ cap = 0 ∧ zs = []) ∨
  ∃ x, a = some x ∧ len ≤ cap ∧ cap ≤ maxLen ∧ zs.length = cap ∧ (∀ i, i < zs.length → w.cell? (x.add i) = some (.int k (zs.getD i 0))) ∧ ∀ n ∈ zs, (Lit.int k n).wf = true

/-! ### STEP 1: THE WALK: the Go text returns true, AND WRITES NOTHING THAT WAS THERE: 'Below w.heap.size w w'' (Derived/Below.lean: '.refl', '.alloc', '.drew', '.setCell' at a new block, '.trans'). Open each 'IsRow' by 'rcases' AHEAD of 'go_enter'; part every test ahead of the walk. -/
set_option maxRecDepth 20000 in
set_option maxHeartbeats 2000000 in
theorem walk (a0 : Int) (a1 : Option Addr) (len1 cap1 : Nat) (z1 : List Int) (w : World) (w0 : (Lit.int .u8 a0).wf = true) (w1 : IsRow .u8 w a1 len1 cap1 z1) :
    Calls Try.prog 7 #[.int .u8 a0, .slice a1 len1 cap1] w fun e w' => e = .returned (.bool true) ∧ Below w.heap.size w w' := by
  obtain ⟨c, rfl⟩ := byte_arg w0
  obtain ⟨xs, hx⟩ := Bs.ofRow w1
  have hm := hx.hle
  have hm2 := hx.hmax
  unfold maxLen at hm2
  have HX := hide hx
  have bc := byte_lt c
  clear w0 w1 hx
  go_enter Try.func7, Try.ntmps7
  go_wp2_with fail
  refine (awake_any w).mono ?_
  rintro e u1 ⟨rfl, hb1⟩
  replace HX := hide (HX.out.mono hb1)
  by_cases hl : len1 ≤ 400
  rotate_left
  · have hl' : (400 : Int) < (len1 : Int) := by omega
    go_wp2
    go_ret
    exact ⟨rfl, hb1⟩
  have hl' : ¬ (400 : Int) < (len1 : Int) := by omega
  by_cases h7 : c = 7
  · subst h7
    have HP : Hid (Diag.parse 0 7 xs = if xs = [] then (MsgM.of 7, 0) else (MsgM.zero, 3)) := hide (Diag.parse_asks (by decide) xs)
    go_wp2_with fail
    refine (Diag.code_parse 0 7 _ _ _ xs _ HX.out (by omega)).mono ?_
    rintro e u2 ⟨⟨v2, rfl, hm2'⟩, b2⟩
    rw [HP.out] at hm2' ⊢
    obtain ⟨cs2, rfl, hs2, ho2, _⟩ := hm2'.agg
    have HM2 := hide hm2'
    replace hb1 := below_next hb1 b2 (Nat.le_refl _)
    clear hm2' b2 HP
    by_cases hz : len1 = 0
    · have hxs : xs = [] := List.eq_nil_of_length_eq_zero (by rw [HX.out.hlen, hz])
      rw [if_pos hxs] at HM2 ⊢
      subst hz
      go_wp2_with ((with_reducible (show wpList _ _ _ ({ dst := _, op := Op.store _ _ _, type := _, pos := _, after := _, guard := _ } :: _) _ _)); refine wpList_store_new rfl 30 _ _ rfl cs2 rfl rfl (msg_size cs2 hs2) hs2.symm ho2 ?_)
      intro u3 h3 b3
      replace HM2 := hide (HM2.out.mono b3)
      replace hb1 := below_next hb1 b3 (Nat.le_refl _)
      clear b3
      generalize u2.heap.size = g2 at *
      go_wp2_with ((with_reducible (show wpList _ _ _ ({ dst := _, op := Op.load _ _, type := _, pos := _, after := _, guard := _ } :: _) _ _)); refine wpList_load_rowG (by rfl) 30 _ rfl g2 rfl cs2 (load_whole h3 hs2) ?_)
      refine (refSame_any _ _ (MsgM.of 7) (MsgM.of 7) _ HM2.out (MsgAt.of _ 7)).mono ?_
      rintro e u6 ⟨rfl, hb6⟩
      rw [(MsgM.same_iff _ _).2 rfl]
      replace hb1 := below_next hb1 hb6 (Nat.le_refl _)
      go_wp2
      go_ret
      exact ⟨rfl, hb1⟩
    · have hxs : xs ≠ [] := fun h => hz (by rw [← HX.out.hlen, h]; rfl)
      rw [if_neg hxs] at HM2 ⊢
      have hp : (0 : Int) < (len1 : Int) := by omega
      clear hxs
      go_wp2_with ((with_reducible (show wpList _ _ _ ({ dst := _, op := Op.store _ _ _, type := _, pos := _, after := _, guard := _ } :: _) _ _)); refine wpList_store_new rfl 30 _ _ rfl cs2 rfl rfl (msg_size cs2 hs2) hs2.symm ho2 ?_)
      intro u3 h3 b3
      replace hb1 := below_next hb1 b3 (Nat.le_refl _)
      go_wp2
      go_ret
      exact ⟨rfl, hb1⟩
  have q7 : ((c.toNat : Int) != 7) = true := by
    have : c.toNat ≠ 7 := fun h => h7 (by apply UInt8.toNat_inj.1; rw [h]; rfl)
    simp; omega
  by_cases h11 : c = 11
  · subst h11
    have HP : Hid (Diag.parse 0 11 xs = if xs = [] then (MsgM.of 11, 0) else (MsgM.zero, 3)) := hide (Diag.parse_asks (by decide) xs)
    go_wp2_with fail
    refine (Diag.code_parse 0 11 _ _ _ xs _ HX.out (by omega)).mono ?_
    rintro e u2 ⟨⟨v2, rfl, hm2'⟩, b2⟩
    rw [HP.out] at hm2' ⊢
    obtain ⟨cs2, rfl, hs2, ho2, _⟩ := hm2'.agg
    have HM2 := hide hm2'
    replace hb1 := below_next hb1 b2 (Nat.le_refl _)
    clear hm2' b2 HP
    by_cases hz : len1 = 0
    · have hxs : xs = [] := List.eq_nil_of_length_eq_zero (by rw [HX.out.hlen, hz])
      rw [if_pos hxs] at HM2 ⊢
      subst hz
      go_wp2_with ((with_reducible (show wpList _ _ _ ({ dst := _, op := Op.store _ _ _, type := _, pos := _, after := _, guard := _ } :: _) _ _)); refine wpList_store_new rfl 30 _ _ rfl cs2 rfl rfl (msg_size cs2 hs2) hs2.symm ho2 ?_)
      intro u3 h3 b3
      replace HM2 := hide (HM2.out.mono b3)
      replace hb1 := below_next hb1 b3 (Nat.le_refl _)
      clear b3
      generalize u2.heap.size = g2 at *
      go_wp2_with ((with_reducible (show wpList _ _ _ ({ dst := _, op := Op.load _ _, type := _, pos := _, after := _, guard := _ } :: _) _ _)); refine wpList_load_rowG (by rfl) 30 _ rfl g2 rfl cs2 (load_whole h3 hs2) ?_)
      refine (refSame_any _ _ (MsgM.of 11) (MsgM.of 11) _ HM2.out (MsgAt.of _ 11)).mono ?_
      rintro e u6 ⟨rfl, hb6⟩
      rw [(MsgM.same_iff _ _).2 rfl]
      replace hb1 := below_next hb1 hb6 (Nat.le_refl _)
      go_wp2
      go_ret
      exact ⟨rfl, hb1⟩
    · have hxs : xs ≠ [] := fun h => hz (by rw [← HX.out.hlen, h]; rfl)
      rw [if_neg hxs] at HM2 ⊢
      have hp : (0 : Int) < (len1 : Int) := by omega
      clear hxs
      go_wp2_with ((with_reducible (show wpList _ _ _ ({ dst := _, op := Op.store _ _ _, type := _, pos := _, after := _, guard := _ } :: _) _ _)); refine wpList_store_new rfl 30 _ _ rfl cs2 rfl rfl (msg_size cs2 hs2) hs2.symm ho2 ?_)
      intro u3 h3 b3
      replace hb1 := below_next hb1 b3 (Nat.le_refl _)
      go_wp2
      go_ret
      exact ⟨rfl, hb1⟩
  have q11 : ((c.toNat : Int) != 11) = true := by
    have : c.toNat ≠ 11 := fun h => h11 (by apply UInt8.toNat_inj.1; rw [h]; rfl)
    simp; omega
  by_cases h12 : c = 12
  · subst h12
    have HP : Hid (Diag.parse 0 12 xs = if xs = [] then (MsgM.of 12, 0) else (MsgM.zero, 3)) := hide (Diag.parse_asks (by decide) xs)
    go_wp2_with fail
    refine (Diag.code_parse 0 12 _ _ _ xs _ HX.out (by omega)).mono ?_
    rintro e u2 ⟨⟨v2, rfl, hm2'⟩, b2⟩
    rw [HP.out] at hm2' ⊢
    obtain ⟨cs2, rfl, hs2, ho2, _⟩ := hm2'.agg
    have HM2 := hide hm2'
    replace hb1 := below_next hb1 b2 (Nat.le_refl _)
    clear hm2' b2 HP
    by_cases hz : len1 = 0
    · have hxs : xs = [] := List.eq_nil_of_length_eq_zero (by rw [HX.out.hlen, hz])
      rw [if_pos hxs] at HM2 ⊢
      subst hz
      go_wp2_with ((with_reducible (show wpList _ _ _ ({ dst := _, op := Op.store _ _ _, type := _, pos := _, after := _, guard := _ } :: _) _ _)); refine wpList_store_new rfl 30 _ _ rfl cs2 rfl rfl (msg_size cs2 hs2) hs2.symm ho2 ?_)
      intro u3 h3 b3
      replace HM2 := hide (HM2.out.mono b3)
      replace hb1 := below_next hb1 b3 (Nat.le_refl _)
      clear b3
      generalize u2.heap.size = g2 at *
      go_wp2_with ((with_reducible (show wpList _ _ _ ({ dst := _, op := Op.load _ _, type := _, pos := _, after := _, guard := _ } :: _) _ _)); refine wpList_load_rowG (by rfl) 30 _ rfl g2 rfl cs2 (load_whole h3 hs2) ?_)
      refine (refSame_any _ _ (MsgM.of 12) (MsgM.of 12) _ HM2.out (MsgAt.of _ 12)).mono ?_
      rintro e u6 ⟨rfl, hb6⟩
      rw [(MsgM.same_iff _ _).2 rfl]
      replace hb1 := below_next hb1 hb6 (Nat.le_refl _)
      go_wp2
      go_ret
      exact ⟨rfl, hb1⟩
    · have hxs : xs ≠ [] := fun h => hz (by rw [← HX.out.hlen, h]; rfl)
      rw [if_neg hxs] at HM2 ⊢
      have hp : (0 : Int) < (len1 : Int) := by omega
      clear hxs
      go_wp2_with ((with_reducible (show wpList _ _ _ ({ dst := _, op := Op.store _ _ _, type := _, pos := _, after := _, guard := _ } :: _) _ _)); refine wpList_store_new rfl 30 _ _ rfl cs2 rfl rfl (msg_size cs2 hs2) hs2.symm ho2 ?_)
      intro u3 h3 b3
      replace hb1 := below_next hb1 b3 (Nat.le_refl _)
      go_wp2
      go_ret
      exact ⟨rfl, hb1⟩
  have q12 : ((c.toNat : Int) != 12) = true := by
    have : c.toNat ≠ 12 := fun h => h12 (by apply UInt8.toNat_inj.1; rw [h]; rfl)
    simp; omega
  by_cases h17 : c = 17
  · subst h17
    have HP : Hid (Diag.parse 0 17 xs = if xs = [] then (MsgM.of 17, 0) else (MsgM.zero, 3)) := hide (Diag.parse_asks (by decide) xs)
    go_wp2_with fail
    refine (Diag.code_parse 0 17 _ _ _ xs _ HX.out (by omega)).mono ?_
    rintro e u2 ⟨⟨v2, rfl, hm2'⟩, b2⟩
    rw [HP.out] at hm2' ⊢
    obtain ⟨cs2, rfl, hs2, ho2, _⟩ := hm2'.agg
    have HM2 := hide hm2'
    replace hb1 := below_next hb1 b2 (Nat.le_refl _)
    clear hm2' b2 HP
    by_cases hz : len1 = 0
    · have hxs : xs = [] := List.eq_nil_of_length_eq_zero (by rw [HX.out.hlen, hz])
      rw [if_pos hxs] at HM2 ⊢
      subst hz
      go_wp2_with ((with_reducible (show wpList _ _ _ ({ dst := _, op := Op.store _ _ _, type := _, pos := _, after := _, guard := _ } :: _) _ _)); refine wpList_store_new rfl 30 _ _ rfl cs2 rfl rfl (msg_size cs2 hs2) hs2.symm ho2 ?_)
      intro u3 h3 b3
      replace HM2 := hide (HM2.out.mono b3)
      replace hb1 := below_next hb1 b3 (Nat.le_refl _)
      clear b3
      generalize u2.heap.size = g2 at *
      go_wp2_with ((with_reducible (show wpList _ _ _ ({ dst := _, op := Op.load _ _, type := _, pos := _, after := _, guard := _ } :: _) _ _)); refine wpList_load_rowG (by rfl) 30 _ rfl g2 rfl cs2 (load_whole h3 hs2) ?_)
      refine (refSame_any _ _ (MsgM.of 17) (MsgM.of 17) _ HM2.out (MsgAt.of _ 17)).mono ?_
      rintro e u6 ⟨rfl, hb6⟩
      rw [(MsgM.same_iff _ _).2 rfl]
      replace hb1 := below_next hb1 hb6 (Nat.le_refl _)
      go_wp2
      go_ret
      exact ⟨rfl, hb1⟩
    · have hxs : xs ≠ [] := fun h => hz (by rw [← HX.out.hlen, h]; rfl)
      rw [if_neg hxs] at HM2 ⊢
      have hp : (0 : Int) < (len1 : Int) := by omega
      clear hxs
      go_wp2_with ((with_reducible (show wpList _ _ _ ({ dst := _, op := Op.store _ _ _, type := _, pos := _, after := _, guard := _ } :: _) _ _)); refine wpList_store_new rfl 30 _ _ rfl cs2 rfl rfl (msg_size cs2 hs2) hs2.symm ho2 ?_)
      intro u3 h3 b3
      replace hb1 := below_next hb1 b3 (Nat.le_refl _)
      go_wp2
      go_ret
      exact ⟨rfl, hb1⟩
  have q17 : ((c.toNat : Int) != 17) = true := by
    have : c.toNat ≠ 17 := fun h => h17 (by apply UInt8.toNat_inj.1; rw [h]; rfl)
    simp; omega
  clear h7 h11 h12 h17
  generalize c.toNat = kc at *
  go_wp2
  go_ret
  exact ⟨rfl, hb1⟩

/-! ### THE ROW's STEP: WRITTEN OUT: LEAVE IT -/
set_option maxRecDepth 100000 in
theorem lifted (os : Os) (started : os.Started) (H : Type) (enc : TypeId × Value → H) :
    ReturnsInHanded {} Try.checked os 7 .any (Rows.diagAsksSpec.pre6 enc Try.prog Try.f7 Rows.diagAsksRow.domain false) (Rows.diagAsksSpec.post enc Try.prog Try.f7 false true false false) := by
  refine returnsInHanded_of_change (C := Try.checked) own started (by kernel_rfl) Try.func7
    (ChangeSpec.witness6 (enc := enc) (C := Try.checked) false ⟨#[], #[.int .u8 0, .slice none 0 0], []⟩ 8 (by kernel_rfl) (by kernel_rfl) (by kernel_rfl) (by kernel_rfl)) ?_
  intro W base args ds gs before hval0 hW hcnd _
  have hval : ∀ (j : Nat) t v, Try.f7.params[j]? = some t → args[j]? = some v → Value.okWide Try.prog W .any base t v := hval0
  have hW' := hW
  obtain ⟨p, q, hA0, hV, rfl, hfz, hnd⟩ := hW
  have hA : DataW.TrodAll enc Try.prog W 0 (fun _ => true) true Try.f7.params.toList args.toList ds p := hA0
  rw [Try.params7] at hA hval
  obtain ⟨v0, vs0, d0, ds0, p0, q0, hargs, rfl, rfl, h0, r0⟩ := trodAll_cons hA
  obtain ⟨v1, vs1, d1, ds1, p1, q1, rfl, rfl, rfl, h1, r1⟩ := trodAll_cons r0
  obtain ⟨rfl, rfl, rfl⟩ := trodAll_nil r1
  obtain rfl : args = #[v0, v1] := by cases args; simp_all
  obtain ⟨rfl, rfl⟩ := trodVars_none hV
  obtain ⟨a0, rfl, rfl, rfl, w0⟩ := open_int Try.underlying5 (hval 0 5 v0 rfl rfl) h0
  obtain ⟨a1, len1, cap1, rfl⟩ := okWide_slice Try.underlying22 (hval 1 22 v1 rfl rfl)
  have k1 := h1
  have lt1 : ∀ x ∈ p1, x.block < W.heap.size := by obtain ⟨m, hm⟩ := k1; exact DataW.trod_lt m _ _ _ hm
  obtain ⟨z1, w1⟩ : ∃ zs, IsRow .u8 W a1 len1 cap1 zs := by
    obtain ⟨fuel, hf⟩ := h1
    rcases open_ints Try.underlying22 Try.underlying5 (by kernel_rfl) hf with ⟨hcs, _⟩ | ⟨x, l, c, zs, hcs, _, hl, hm, hz, _, hcell, hwz⟩
    · simp [Value.cells] at hcs
      obtain ⟨rfl, rfl, rfl⟩ := hcs
      exact ⟨[], .inl ⟨rfl, rfl, rfl, rfl⟩⟩
    · simp [Value.cells] at hcs
      obtain ⟨rfl, rfl, rfl⟩ := hcs
      exact ⟨zs, .inr ⟨_, rfl, hl, hm, by simpa using hz, hcell, hwz⟩⟩
  clear hA0 hval0
  refine (walk a0 a1 len1 cap1 z1 W w0 w1).mono fun e W' ⟨he, bel⟩ => ?_
  subst he
  exact ⟨_, rfl, _, _, _, [], _, [], hW', trodAll_mk1 (shut_bool Try.underlying4 _), (trodAll_cons_mk (shut_int Try.underlying5 w0) (trodAll_cons_mk (Below.trod laidOut (by kernel_rfl) (of_decide_eq_true (by kernel_rfl)) k1 bel lt1) trodAll_mk0)), rfl, bel.frame _, fun h => by cases h⟩

theorem over : Rows.diagAsksRow.holds Try.pinned (OpenSpec.ofChange Rows.diagAsksSpec) :=
  OpenClaim.holds_of_wide 7 Try.f7 rfl rfl rfl rfl rfl rfl rfl ⟨rfl, rfl, rfl, rfl, rfl⟩ rfl rfl rfl rfl rfl (by kernel_rfl) Try.func7 (by kernel_rfl)
    (of_decide_eq_true (by kernel_rfl)) (by unfold Func.isWrapper; first | (rw [if_pos (by decide +kernel)]; kernel_rfl) | (rw [if_neg (by decide +kernel)]; exact ⟨rfl, rfl⟩))
    (fun os started H enc _ => lifted os started H enc)

/-- ████ THE STATEMENT ████ -/
theorem proved : Rows.DiagAsksSaid := over
#print axioms proved
end Go.Proofs.Ytemomgcapjpaiaa.diagAsks
