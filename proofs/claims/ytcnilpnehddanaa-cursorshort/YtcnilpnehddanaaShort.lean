/-
  Proved: for every input the law CursorShort answers true, and each argument reads behind the call as it read before.
  Conditions: none (the statement Rows.CursorShortSaid as it is given).
-/
import Derived.Test.YtcnilpnehddanaaRows
import Derived.WalkKit
import Derived.ProofKit
import Derived.OpenShut
import Derived.ShutString
import Derived.ChangeOld
import Derived.Below
import Derived.Test.YtcnilpnehddanaaActs
import Derived.Test.YtcnilpnehddanaaCursorAwake
namespace Go.Proofs.Ytcnilpnehddanaa.cursorShort
open Go.ChangeShapes Go.WideShapes Go.ChangeAt Go.RowKit
open Go.ChangeMaps (open_string shut_string)
set_option linter.unusedVariables false

open Word Cursor
theorem shut_got (n : Int) (size : Nat) : St.got ⟨[], true, 2⟩ n size = [] := by
  unfold St.got
  rw [if_pos (by unfold St.lack; simp)]
theorem shut_next (n : Int) (size : Nat) : St.next ⟨[], true, 2⟩ n size = ⟨[], true, 2⟩ := by
  unfold St.next
  rw [if_pos (by unfold St.lack; simp)]
  simp
theorem more_got (xs : List UInt8) (n : Int) (h : (xs.length : Int) < n) : (St.new xs).got n 1 = [] := by
  unfold St.got
  rw [if_pos (by unfold St.lack St.new; simp; omega)]
theorem more_next (xs : List UInt8) (n : Int) (h : (xs.length : Int) < n) : (St.new xs).next n 1 = ⟨[], true, 2⟩ := by
  unfold St.next
  rw [if_pos (by unfold St.lack St.new; simp; omega)]
  simp [St.new]
theorem takeW_nil : takeW [] = [] := rfl
theorem head8_nil : head8 [] = 0 := rfl
theorem head16_nil : head16 [] = 0 := rfl
theorem own : ownKnob Try.prog.godebug = none := by kernel_rfl
theorem laidOut : laidOutB Try.prog = true := by kernel_rfl

/-- WHAT THE WALK IS TOLD OF A SLICE OF INTEGERS THAT CAME IN: it is nil; or it leads to a row of 'cap' cells, the numbers 'zs' (the first 'len' are its elements, the rest its spare room), each fitting its kind. -/
def IsRow (k : IntKind) (w : World) (a : Option Addr) (len cap : Nat) (zs : List Int) : Prop :=
  (a = none ∧ len = 0 ∧ cap = 0 ∧ zs = []) ∨
  ∃ x, a = some x ∧ len ≤ cap ∧ cap ≤ maxLen ∧ zs.length = cap ∧ (∀ i, i < zs.length → w.cell? (x.add i) = some (.int k (zs.getD i 0))) ∧ ∀ n ∈ zs, (Lit.int k n).wf = true

/-! ### STEP 1: THE WALK: the Go text returns true, AND WRITES NOTHING THAT WAS THERE: 'Below w.heap.size w w'' (Derived/Below.lean: '.refl', '.alloc', '.drew', '.setCell' at a new block, '.trans'). Open each 'IsRow' by 'rcases' AHEAD of 'go_enter'; part every test ahead of the walk. -/
set_option maxHeartbeats 2000000 in
theorem walk (a0 : Option Addr) (len0 cap0 : Nat) (z0 : List Int) (a1 : Int) (a2 : Option Addr) (len2 cap2 : Nat) (z2 : List (Int × Int)) (w : World) (w0 : IsRow .u8 w a0 len0 cap0 z0) (w1 : (Lit.int .u8 a1).wf = true) (w2 : Ps w a2 len2 cap2 z2) :
    Calls Try.prog 5 #[.slice a0 len0 cap0, .int .u8 a1, .slice a2 len2 cap2] w fun e w' => e = .returned (.bool true) ∧ Below w.heap.size w w' := by
  obtain ⟨xs, hx⟩ := Bs.ofRow w0
  obtain ⟨n, rfl, hn8⟩ : ∃ s : Nat, a1 = s ∧ s < 256 := nat_u8 w1
  have hp := w2
  have hm := hx.hle
  have hm2 := hx.hmax
  have hq := hp.hle
  have hq2 := hp.hmax
  unfold maxLen at hm2 hq2
  have HL := hide hx.hlen
  have HP := hide hp.hlen
  clear w0 w1 w2
  go_enter Try.func5, Try.ntmps5
  go_wp2_with fail
  refine (awake_any w).mono ?_
  rintro e w1 ⟨rfl, hb1⟩
  by_cases hbig : 200 < len0
  · go_wp2
    go_ret
    exact ⟨rfl, hb1⟩
  by_cases hbig2 : 60 < len2
  · go_wp2
    go_ret
    exact ⟨rfl, hb1⟩
  have hx1 := hx.mono hb1
  go_wp2_with fail
  refine (new_any _ _ _ _ _ hx1 (by omega)).mono ?_
  rintro e w2 ⟨⟨g, rfl, hg, hc2⟩, hb2⟩
  replace hg : w.heap.size ≤ g := Nat.le_trans hb1.size hg
  replace hb2 := below_next hb1 hb2 (Nat.le_refl _)
  have hlk : Hid ((xs.length : Int) < (len0 : Int) + 1 + (n : Int)) := hide (by rw [HL.out]; omega)
  go_wp2_with fail
  refine (bytes_any g _ _ _ hc2).mono ?_
  rintro e w3 ⟨⟨a3, c3, rfl, _⟩, hc3, hb3⟩
  rw [more_got _ _ hlk.out]
  rw [more_next _ _ hlk.out] at hc3
  replace hb3 := But.next hb2 hb3 hg (Nat.le_refl _)
  clear hc2 hx1
  go_wp2_with fail
  refine (short_any g _ _ hc3).mono ?_
  rintro e w4 ⟨rfl, rfl⟩
  go_wp2_with fail
  refine (left_any g _ _ hc3).mono ?_
  rintro e w5 ⟨rfl, rfl⟩
  go_wp2
  go_loopw [10] (fun i wr => ∃ k : Nat, k ≤ len2 ∧ i = .int .i64 k ∧ Cur wr g ⟨[], true, 2⟩ ∧ Below w.heap.size w wr) (fun i _ => len2 - (intOf i).toNat)
  case atStart => exact ⟨0, Nat.zero_le _, rfl, hc3, hb3⟩
  case round =>
    clear hc3 hb3
    obtain ⟨k, hk, rfl, hc, hbr⟩ := hrel
    by_cases hlt : k < len2
    · have hkz : k < z2.length := by rw [HP.out]; exact hlt
      have l0 : (0 : Int) ≤ (k : Int) := by omega
      have l1 : (k : Int) < (len2 : Int) := by omega
      go_wp2_with fail
      refine (byte_any g _ _ hc).mono ?_
      rintro e w6 ⟨rfl, hc6, hb6⟩
      rw [shut_got, head8_nil]
      rw [shut_next] at hc6
      replace hb6 := But.next hbr hb6 hg (Nat.le_refl _)
      go_wp2_with fail
      refine (word_any g _ _ hc6).mono ?_
      rintro e w7 ⟨rfl, hc7, hb7⟩
      rw [shut_got, takeW_nil, head16_nil]
      rw [shut_next] at hc7
      replace hb7 := But.next hb6 hb7 hg (Nat.le_refl _)
      clear hc hbr hc6 hb6
      obtain ⟨b, off, rfl, _, _, hn7⟩ := (hp.mono hb7).hcell k hkz
      rw [← Nat.add_assoc] at hn7
      go_wp2_with fail
      refine (bytes_any g _ _ _ hc7).mono ?_
      rintro e w8 ⟨⟨a8, c8, rfl, _⟩, hc8, hb8⟩
      rw [shut_got]
      rw [shut_next] at hc8
      replace hb8 := But.next hb7 hb8 hg (Nat.le_refl _)
      obtain ⟨_, _, hh, _, _, hn8⟩ := (hp.mono hb8).hcell k hkz
      cases hh
      rw [← Nat.add_assoc] at hn8
      go_wp2_with fail
      refine (cwords_any g _ _ _ hc8).mono ?_
      rintro e w9 ⟨⟨a9, c9, rfl, _⟩, hc9, hb9⟩
      rw [shut_got, takeW_nil]
      rw [shut_next] at hc9
      replace hb9 := But.next hb8 hb9 hg (Nat.le_refl _)
      clear hc7 hb7 hc8 hb8 hn7 hn8
      go_wp2_with fail
      refine (short_any g _ _ hc9).mono ?_
      rintro e w10 ⟨rfl, rfl⟩
      go_wp2_with fail
      refine (left_any g _ _ hc9).mono ?_
      rintro e w11 ⟨rfl, rfl⟩
      go_wp2
      go_roundw
      case rel => exact ⟨k + 1, by omega, by go_num, hc9, hb9⟩
      case measure => simp [intOf]; omega
    · go_wp2
      go_ret
      exact ⟨rfl, hbr⟩

/-! ### THE ROW's STEP: WRITTEN OUT: LEAVE IT -/
set_option maxRecDepth 100000 in
theorem lifted (os : Os) (started : os.Started) (H : Type) (enc : TypeId × Value → H) :
    ReturnsInHanded {} Try.checked os 5 .any (Rows.cursorShortSpec.pre6 enc Try.prog Try.f5 Rows.cursorShortRow.domain false) (Rows.cursorShortSpec.post enc Try.prog Try.f5 false true false false) := by
  refine returnsInHanded_of_change (C := Try.checked) own started (by kernel_rfl) Try.func5
    (ChangeSpec.witness6 (enc := enc) (C := Try.checked) false ⟨#[], #[.slice none 0 0, .int .u8 0, .slice none 0 0], []⟩ 8 (by kernel_rfl) (by kernel_rfl) (by kernel_rfl) (by kernel_rfl)) ?_
  intro W base args ds gs before hval0 hW hcnd _
  have hval : ∀ (j : Nat) t v, Try.f5.params[j]? = some t → args[j]? = some v → Value.okWide Try.prog W .any base t v := hval0
  have hW' := hW
  obtain ⟨p, q, hA0, hV, rfl, hfz, hnd⟩ := hW
  have hA : DataW.TrodAll enc Try.prog W 0 (fun _ => true) true Try.f5.params.toList args.toList ds p := hA0
  rw [Try.params5] at hA hval
  obtain ⟨v0, vs0, d0, ds0, p0, q0, hargs, rfl, rfl, h0, r0⟩ := trodAll_cons hA
  obtain ⟨v1, vs1, d1, ds1, p1, q1, rfl, rfl, rfl, h1, r1⟩ := trodAll_cons r0
  obtain ⟨v2, vs2, d2, ds2, p2, q2, rfl, rfl, rfl, h2, r2⟩ := trodAll_cons r1
  obtain ⟨rfl, rfl, rfl⟩ := trodAll_nil r2
  obtain rfl : args = #[v0, v1, v2] := by cases args; simp_all
  obtain ⟨rfl, rfl⟩ := trodVars_none hV
  obtain ⟨a0, len0, cap0, rfl⟩ := okWide_slice Try.underlying22 (hval 0 22 v0 rfl rfl)
  have k0 := h0
  have lt0 : ∀ x ∈ p0, x.block < W.heap.size := by obtain ⟨m, hm⟩ := k0; exact DataW.trod_lt m _ _ _ hm
  obtain ⟨z0, w0⟩ : ∃ zs, IsRow .u8 W a0 len0 cap0 zs := by
    obtain ⟨fuel, hf⟩ := h0
    rcases open_ints Try.underlying22 Try.underlying5 (by kernel_rfl) hf with ⟨hcs, _⟩ | ⟨x, l, c, zs, hcs, _, hl, hm, hz, _, hcell, hwz⟩
    · simp [Value.cells] at hcs
      obtain ⟨rfl, rfl, rfl⟩ := hcs
      exact ⟨[], .inl ⟨rfl, rfl, rfl, rfl⟩⟩
    · simp [Value.cells] at hcs
      obtain ⟨rfl, rfl, rfl⟩ := hcs
      exact ⟨zs, .inr ⟨_, rfl, hl, hm, by simpa using hz, hcell, hwz⟩⟩
  obtain ⟨a1, rfl, rfl, rfl, w1⟩ := open_int Try.underlying5 (hval 1 5 v1 rfl rfl) h1
  obtain ⟨a2, len2, cap2, rfl⟩ := okWide_slice Try.underlying23 (hval 2 23 v2 rfl rfl)
  have k2 := h2
  have lt2 : ∀ x ∈ p2, x.block < W.heap.size := by obtain ⟨m, hm⟩ := k2; exact DataW.trod_lt m _ _ _ hm
  obtain ⟨z2, w2⟩ : ∃ zs, Ps W a2 len2 cap2 zs := by
    obtain ⟨fuel, hf⟩ := h2
    exact Ps.ofTrod hf
  clear hA0 hval0
  refine (walk a0 len0 cap0 z0 a1 a2 len2 cap2 z2 W w0 w1 w2).mono fun e W' ⟨he, bel⟩ => ?_
  subst he
  exact ⟨_, rfl, _, _, _, [], _, [], hW', trodAll_mk1 (shut_bool Try.underlying4 _), (trodAll_cons_mk (Below.trod laidOut (by kernel_rfl) (of_decide_eq_true (by kernel_rfl)) k0 bel lt0) (trodAll_cons_mk (shut_int Try.underlying5 w1) (trodAll_cons_mk (Below.trod laidOut (by kernel_rfl) (of_decide_eq_true (by kernel_rfl)) k2 bel lt2) trodAll_mk0))), rfl, bel.frame _, fun h => by cases h⟩

theorem over : Rows.cursorShortRow.holds Try.pinned (OpenSpec.ofChange Rows.cursorShortSpec) :=
  OpenClaim.holds_of_wide 5 Try.f5 rfl rfl rfl rfl rfl rfl rfl ⟨rfl, rfl, rfl, rfl, rfl⟩ rfl rfl rfl rfl rfl (by kernel_rfl) Try.func5 (by kernel_rfl)
    (of_decide_eq_true (by kernel_rfl)) (by unfold Func.isWrapper; first | (rw [if_pos (by decide +kernel)]; kernel_rfl) | (rw [if_neg (by decide +kernel)]; exact ⟨rfl, rfl⟩))
    (fun os started H enc _ => lifted os started H enc)

/-- ████ THE STATEMENT ████ -/
theorem proved : Rows.CursorShortSaid := over
#print axioms proved
end Go.Proofs.Ytcnilpnehddanaa.cursorShort
