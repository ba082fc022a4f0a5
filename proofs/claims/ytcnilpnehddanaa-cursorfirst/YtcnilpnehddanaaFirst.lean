/-
  Proved: for every input the law CursorFirst answers true, and each argument reads behind the call as it read before.
  Conditions: none (the statement Rows.CursorFirstSaid as it is given).
-/
import Derived.Test.YtcnilpnehddanaaRows
import Derived.WalkKit
import Derived.ProofKit
import Derived.OpenShut
import Derived.ShutString
import Derived.ChangeOld
import Derived.Below
import Derived.Test.YtcnilpnehddanaaCursorAwake
namespace Go.Proofs.Ytcnilpnehddanaa.cursorFirst
open Go.ChangeShapes Go.WideShapes Go.ChangeAt Go.RowKit
open Go.ChangeMaps (open_string shut_string)
set_option linter.unusedVariables false

open Word Cursor
theorem lack_more (xs : List UInt8) (e : Int) (len : Nat) (h : xs.length = len) : St.next ⟨xs, false, e⟩ ((len : Int) + 1) 1 = ⟨[], true, if e = 0 then 2 else e⟩ := by
  unfold St.next
  rw [if_pos (by unfold St.lack; simp; omega)]
theorem end_done (s : Bool) (e : Int) : St.end_ ⟨[], s, e⟩ = ⟨[], s, e⟩ := by
  unfold St.end_ St.need
  simp
theorem need_first (xs : List UInt8) (v e : Int) (ok : Bool) : St.need ⟨xs, false, v⟩ ok e = ⟨xs, false, if v = 0 ∧ ok = false then e else v⟩ := by
  unfold St.need
  split <;> rfl
theorem own : ownKnob Try.prog.godebug = none := by kernel_rfl
theorem laidOut : laidOutB Try.prog = true := by kernel_rfl

/-- WHAT THE WALK IS TOLD OF A SLICE OF INTEGERS THAT CAME IN: it is nil; or it leads to a row of 'cap' cells, the numbers 'zs' (the first 'len' are its elements, the rest its spare room), each fitting its kind. -/
def IsRow (k : IntKind) (w : World) (a : Option Addr) (len cap : Nat) (zs : List Int) : Prop :=
  (a = none ∧ len = 0 ∧ cap = 0 ∧ zs = []) ∨
  ∃ x, a = some x ∧ len ≤ cap ∧ cap ≤ maxLen ∧ zs.length = cap ∧ (∀ i, i < zs.length → w.cell? (x.add i) = some (.int k (zs.getD i 0))) ∧ ∀ n ∈ zs, (Lit.int k n).wf = true

/-! ### STEP 1: THE WALK: the Go text returns true, AND WRITES NOTHING THAT WAS THERE: 'Below w.heap.size w w'' (Derived/Below.lean: '.refl', '.alloc', '.drew', '.setCell' at a new block, '.trans'). Open each 'IsRow' by 'rcases' AHEAD of 'go_enter'; part every test ahead of the walk. -/
set_option maxHeartbeats 2000000 in
theorem walk (a0 : Option Addr) (len0 cap0 : Nat) (z0 : List Int) (a1 : Int) (a2 : Int) (a3 : Bool) (w : World) (w0 : IsRow .u8 w a0 len0 cap0 z0) (w1 : (Lit.int .i64 a1).wf = true) (w2 : (Lit.int .i64 a2).wf = true) :
    Calls Try.prog 6 #[.slice a0 len0 cap0, .int .i64 a1, .int .i64 a2, .bool a3] w fun e w' => e = .returned (.bool true) ∧ Below w.heap.size w w' := by
  obtain ⟨xs, hx⟩ := Bs.ofRow w0
  have hm := hx.hle
  have hm2 := hx.hmax
  unfold maxLen at hm2
  have HL := hide hx.hlen
  clear w0 w1 w2
  go_enter Try.func6, Try.ntmps6
  go_wp2_with fail
  refine (awake_any w).mono ?_
  rintro e w1 ⟨rfl, hb1⟩
  by_cases hbig : 200 < len0
  · go_wp2
    go_ret
    exact ⟨rfl, hb1⟩
  have hx1 := hx.mono hb1
  clear hx
  go_wp2_with fail
  refine (new_any _ _ _ _ _ hx1 (by omega)).mono ?_
  rintro e w2 ⟨⟨g, rfl, hg, hc2⟩, hb2⟩
  replace hg : w.heap.size ≤ g := Nat.le_trans hb1.size hg
  replace hb2 := below_next hb1 hb2 (Nat.le_refl _)
  go_wp2_with fail
  refine (err_any g _ _ hc2).mono ?_
  rintro e w3 ⟨rfl, rfl⟩
  go_wp2_with fail
  refine (need_any g _ a3 a1 _ hc2).mono ?_
  rintro e w4 ⟨rfl, hc4, hb4⟩
  rw [show St.new xs = ⟨xs, false, 0⟩ from rfl, need_first] at hc4
  replace hb4 := But.next hb2 hb4 hg (Nat.le_refl _)
  obtain ⟨v1, H1⟩ : ∃ v, Hid (v = if (0 : Int) = 0 ∧ a3 = false then a1 else 0) := ⟨_, rfl⟩
  rw [← H1.out] at hc4
  go_wp2_with fail
  refine (err_any g _ _ hc4).mono ?_
  rintro e w5 ⟨rfl, rfl⟩
  go_wp2_with fail
  refine (need_any g _ false a2 _ hc4).mono ?_
  rintro e w6 ⟨rfl, hc6, hb6⟩
  rw [need_first] at hc6
  replace hb6 := But.next hb4 hb6 hg (Nat.le_refl _)
  obtain ⟨v2, H2⟩ : ∃ v, Hid (v = if v1 = 0 ∧ false = false then a2 else v1) := ⟨_, rfl⟩
  rw [← H2.out] at hc6
  go_wp2_with fail
  refine (err_any g _ _ hc6).mono ?_
  rintro e w7 ⟨rfl, rfl⟩
  go_wp2_with fail
  refine (bytes_any g _ _ _ hc6).mono ?_
  rintro e w8 ⟨⟨a8, c8, rfl, _⟩, hc8, hb8⟩
  rw [lack_more _ _ _ HL.out] at hc8
  replace hb8 := But.next hb6 hb8 hg (Nat.le_refl _)
  obtain ⟨v3, H3⟩ : ∃ v, Hid (v = if v2 = 0 then 2 else v2) := ⟨_, rfl⟩
  rw [← H3.out] at hc8
  go_wp2_with fail
  refine (end_any g _ _ hc8).mono ?_
  rintro e w9 ⟨rfl, hc9, hb9⟩
  rw [end_done] at hc9
  replace hb9 := But.next hb8 hb9 hg (Nat.le_refl _)
  clear hc2 hc4 hc6 hc8 hx1
  by_cases ha : a3 = true ∨ a1 = 0
  · have e1 : v1 = 0 := by
      rw [H1.out]
      rcases ha with rfl | rfl <;> simp
    subst e1
    obtain rfl : v2 = a2 := by rw [H2.out]; simp
    by_cases h0 : v2 = 0
    · subst h0
      obtain rfl : v3 = 2 := by rw [H3.out]; simp
      rcases ha with rfl | rfl
      · go_wp2_with fail
        refine (err_any g _ _ hc9).mono ?_
        rintro e w10 ⟨rfl, rfl⟩
        go_wp2_with fail
        refine (err_any g _ _ hc9).mono ?_
        rintro e w11 ⟨rfl, rfl⟩
        go_wp2
        go_ret
        exact ⟨rfl, hb9⟩
      · cases a3
        · go_wp2_with fail
          refine (err_any g _ _ hc9).mono ?_
          rintro e w10 ⟨rfl, rfl⟩
          go_wp2_with fail
          refine (err_any g _ _ hc9).mono ?_
          rintro e w11 ⟨rfl, rfl⟩
          go_wp2
          go_ret
          exact ⟨rfl, hb9⟩
        · go_wp2_with fail
          refine (err_any g _ _ hc9).mono ?_
          rintro e w10 ⟨rfl, rfl⟩
          go_wp2_with fail
          refine (err_any g _ _ hc9).mono ?_
          rintro e w11 ⟨rfl, rfl⟩
          go_wp2
          go_ret
          exact ⟨rfl, hb9⟩
    · obtain rfl : v3 = v2 := by rw [H3.out]; simp [h0]
      rcases ha with rfl | rfl
      · go_wp2_with fail
        refine (err_any g _ _ hc9).mono ?_
        rintro e w10 ⟨rfl, rfl⟩
        go_wp2
        go_ret
        exact ⟨rfl, hb9⟩
      · cases a3
        · go_wp2_with fail
          refine (err_any g _ _ hc9).mono ?_
          rintro e w10 ⟨rfl, rfl⟩
          go_wp2
          go_ret
          exact ⟨rfl, hb9⟩
        · go_wp2_with fail
          refine (err_any g _ _ hc9).mono ?_
          rintro e w10 ⟨rfl, rfl⟩
          go_wp2
          go_ret
          exact ⟨rfl, hb9⟩
  · obtain ⟨hf, h1⟩ : a3 = false ∧ ¬ a1 = 0 := by
      cases a3
      · exact ⟨rfl, fun h => ha (.inr h)⟩
      · exact absurd (.inl rfl) ha
    subst hf
    obtain rfl : v1 = a1 := by rw [H1.out]; simp
    obtain rfl : v2 = v1 := by rw [H2.out]; simp [h1]
    obtain rfl : v3 = v2 := by rw [H3.out]; simp [h1]
    clear ha
    go_wp2_with fail
    refine (err_any g _ _ hc9).mono ?_
    rintro e w10 ⟨rfl, rfl⟩
    go_wp2
    go_ret
    exact ⟨rfl, hb9⟩

/-! ### THE ROW's STEP: WRITTEN OUT: LEAVE IT -/
set_option maxRecDepth 100000 in
theorem lifted (os : Os) (started : os.Started) (H : Type) (enc : TypeId × Value → H) :
    ReturnsInHanded {} Try.checked os 6 .any (Rows.cursorFirstSpec.pre6 enc Try.prog Try.f6 Rows.cursorFirstRow.domain false) (Rows.cursorFirstSpec.post enc Try.prog Try.f6 false true false false) := by
  refine returnsInHanded_of_change (C := Try.checked) own started (by kernel_rfl) Try.func6
    (ChangeSpec.witness6 (enc := enc) (C := Try.checked) false ⟨#[], #[.slice none 0 0, .int .i64 0, .int .i64 0, .bool false], []⟩ 8 (by kernel_rfl) (by kernel_rfl) (by kernel_rfl) (by kernel_rfl)) ?_
  intro W base args ds gs before hval0 hW hcnd _
  have hval : ∀ (j : Nat) t v, Try.f6.params[j]? = some t → args[j]? = some v → Value.okWide Try.prog W .any base t v := hval0
  have hW' := hW
  obtain ⟨p, q, hA0, hV, rfl, hfz, hnd⟩ := hW
  have hA : DataW.TrodAll enc Try.prog W 0 (fun _ => true) true Try.f6.params.toList args.toList ds p := hA0
  rw [Try.params6] at hA hval
  obtain ⟨v0, vs0, d0, ds0, p0, q0, hargs, rfl, rfl, h0, r0⟩ := trodAll_cons hA
  obtain ⟨v1, vs1, d1, ds1, p1, q1, rfl, rfl, rfl, h1, r1⟩ := trodAll_cons r0
  obtain ⟨v2, vs2, d2, ds2, p2, q2, rfl, rfl, rfl, h2, r2⟩ := trodAll_cons r1
  obtain ⟨v3, vs3, d3, ds3, p3, q3, rfl, rfl, rfl, h3, r3⟩ := trodAll_cons r2
  obtain ⟨rfl, rfl, rfl⟩ := trodAll_nil r3
  obtain rfl : args = #[v0, v1, v2, v3] := by cases args; simp_all
  obtain ⟨rfl, rfl⟩ := trodVars_none hV
  obtain ⟨a0, len0, cap0, rfl⟩ := okWide_slice Try.underlying22 (hval 0 22 v0 rfl rfl)
  have k0 := h0
  have lt0 : ∀ x ∈ p0, x.block < W.heap.size := by obtain ⟨m, hm⟩ := k0; exact DataW.trod_lt m _ _ _ hm
  obtain ⟨z0, w0⟩ : ∃ zs, IsRow .u8 W a0 len0 cap0 zs := by
    obtain ⟨fuel, hf⟩ := h0
    rcases open_ints Try.underlying22 Try.underlying5 (by kernel_rfl) hf with ⟨hcs, _⟩ | ⟨x, l, c, zs, hcs, _, hl, hm, hz, _, hcell, hwz⟩
    · simp [Value.cells] at hcs
      obtain ⟨rfl, rfl, rfl⟩ := hcs
      exact ⟨[], .inl ⟨rfl, rfl, rfl, rfl⟩⟩
    · simp [Value.cells] at hcs
      obtain ⟨rfl, rfl, rfl⟩ := hcs
      exact ⟨zs, .inr ⟨_, rfl, hl, hm, by simpa using hz, hcell, hwz⟩⟩
  obtain ⟨a1, rfl, rfl, rfl, w1⟩ := open_int Try.underlying3 (hval 1 3 v1 rfl rfl) h1
  obtain ⟨a2, rfl, rfl, rfl, w2⟩ := open_int Try.underlying3 (hval 2 3 v2 rfl rfl) h2
  obtain ⟨a3, rfl, rfl, rfl⟩ := open_bool Try.underlying4 (hval 3 4 v3 rfl rfl) h3
  clear hA0 hval0
  refine (walk a0 len0 cap0 z0 a1 a2 a3 W w0 w1 w2).mono fun e W' ⟨he, bel⟩ => ?_
  subst he
  exact ⟨_, rfl, _, _, _, [], _, [], hW', trodAll_mk1 (shut_bool Try.underlying4 _), (trodAll_cons_mk (Below.trod laidOut (by kernel_rfl) (of_decide_eq_true (by kernel_rfl)) k0 bel lt0) (trodAll_cons_mk (shut_int Try.underlying3 w1) (trodAll_cons_mk (shut_int Try.underlying3 w2) (trodAll_cons_mk (shut_bool Try.underlying4 _) trodAll_mk0)))), rfl, bel.frame _, fun h => by cases h⟩

theorem over : Rows.cursorFirstRow.holds Try.pinned (OpenSpec.ofChange Rows.cursorFirstSpec) :=
  OpenClaim.holds_of_wide 6 Try.f6 rfl rfl rfl rfl rfl rfl rfl ⟨rfl, rfl, rfl, rfl, rfl⟩ rfl rfl rfl rfl rfl (by kernel_rfl) Try.func6 (by kernel_rfl)
    (of_decide_eq_true (by kernel_rfl)) (by unfold Func.isWrapper; first | (rw [if_pos (by decide +kernel)]; kernel_rfl) | (rw [if_neg (by decide +kernel)]; exact ⟨rfl, rfl⟩))
    (fun os started H enc _ => lifted os started H enc)

/-- ████ THE STATEMENT ████ -/
theorem proved : Rows.CursorFirstSaid := over
#print axioms proved
end Go.Proofs.Ytcnilpnehddanaa.cursorFirst
