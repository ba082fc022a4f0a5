/-
  Proved: for every input the law CursorWords answers true, and each argument reads behind the call as it read before.
  Conditions: none (the statement Rows.CursorWordsSaid as it is given).
-/
import Derived.Test.YtcnilpnehddanaaRows
import Derived.WalkKit
import Derived.ProofKit
import Derived.OpenShut
import Derived.ShutString
import Derived.ChangeOld
import Derived.Below
import Derived.Test.YtcnilpnehddanaaCursorAwake
namespace Go.Proofs.Ytcnilpnehddanaa.cursorWords
open Go.ChangeShapes Go.WideShapes Go.ChangeAt Go.RowKit
open Go.ChangeMaps (open_string shut_string)
set_option linter.unusedVariables false

open Word Cursor
theorem new_got (xs : List UInt8) (n : Nat) (h : 2 * n ≤ xs.length) : (St.new xs).got n 2 = xs.take (2 * n) := by
  unfold St.got
  rw [if_neg (by unfold St.lack St.new; simp; omega)]
  show xs.take ((n : Int).toNat * 2) = _
  rw [Int.toNat_natCast, Nat.mul_comm]
theorem new_next (xs : List UInt8) (n : Nat) (h : 2 * n ≤ xs.length) : (St.new xs).next n 2 = ⟨xs.drop (2 * n), false, 0⟩ := by
  unfold St.next
  rw [if_neg (by unfold St.lack St.new; simp; omega)]
  show St.mk (xs.drop ((n : Int).toNat * 2)) false 0 = _
  rw [Int.toNat_natCast, Nat.mul_comm]
theorem one_got (xs : List UInt8) (k : Nat) (h : 2 * k + 1 < xs.length) : St.got ⟨xs.drop (2 * k), false, 0⟩ 1 2 = [xs[2 * k], xs[2 * k + 1]] := by
  unfold St.got
  rw [if_neg (by unfold St.lack; simp; omega)]
  show (xs.drop (2 * k)).take 2 = _
  rw [List.drop_eq_getElem_cons (show 2 * k < xs.length by omega), List.drop_eq_getElem_cons h]
  rfl
theorem one_head (a b : UInt8) : head16 (takeW [a, b]) = 256 * a.toNat + b.toNat := by
  unfold takeW
  rw [if_neg (by simp)]
  exact word_toNat a b
theorem one_next (xs : List UInt8) (k : Nat) (h : 2 * k + 1 < xs.length) : St.next ⟨xs.drop (2 * k), false, 0⟩ 1 2 = ⟨xs.drop (2 * (k + 1)), false, 0⟩ := by
  unfold St.next
  rw [if_neg (by unfold St.lack; simp; omega)]
  show St.mk ((xs.drop (2 * k)).drop 2) false 0 = _
  rw [List.drop_drop]
  rfl
theorem takeW_even (xs : List UInt8) (n : Nat) (h : 2 * n ≤ xs.length) : takeW (xs.take (2 * n)) = pairs (xs.take (2 * n)) := by
  unfold takeW
  rw [if_neg (by simp; omega)]
theorem pairs_even (xs : List UInt8) (n : Nat) (h : 2 * n ≤ xs.length) : (pairs (xs.take (2 * n))).length = n := by
  have := pairs_length (xs.take (2 * n)) (by simp; omega)
  simp at this
  omega
theorem pairs_get : ∀ (s : List UInt8) (i : Nat) (h : 2 * i + 1 < s.length) (h' : i < (pairs s).length), (pairs s)[i] = word s[2 * i] s[2 * i + 1]
  | [], i, h, _ => by simp at h
  | [_], i, h, _ => by simp at h
  | a :: b :: r, 0, _, _ => rfl
  | a :: b :: r, i + 1, h, h' => by
    have := pairs_get r i (by simp at h; omega) (by simp [pairs] at h'; exact h')
    simpa [pairs, show 2 * (i + 1) = 2 * i + 1 + 1 by omega] using this
theorem words_get (xs : List UInt8) (n i : Nat) (h : 2 * n ≤ xs.length) (hi : i < n) (h' : i < (pairs (xs.take (2 * n))).length) : (pairs (xs.take (2 * n)))[i].toNat = 256 * (xs[2 * i]'(by omega)).toNat + (xs[2 * i + 1]'(by omega)).toNat := by
  rw [pairs_get _ i (by simp; omega) h', word_toNat]
  simp
theorem own : ownKnob Try.prog.godebug = none := by kernel_rfl
theorem laidOut : laidOutB Try.prog = true := by kernel_rfl

/-- WHAT THE WALK IS TOLD OF A SLICE OF INTEGERS THAT CAME IN: it is nil; or it leads to a row of 'cap' cells, the numbers 'zs' (the first 'len' are its elements, the rest its spare room), each fitting its kind. -/
def IsRow (k : IntKind) (w : World) (a : Option Addr) (len cap : Nat) (zs : List Int) : Prop :=
  (a = none ∧ len = 0 ∧ cap = 0 ∧ zs = []) ∨
  ∃ x, a = some x ∧ len ≤ cap ∧ cap ≤ maxLen ∧ zs.length = cap ∧ (∀ i, i < zs.length → w.cell? (x.add i) = some (.int k (zs.getD i 0))) ∧ ∀ n ∈ zs, (Lit.int k n).wf = true

/-! ### STEP 1: THE WALK: the Go text returns true, AND WRITES NOTHING THAT WAS THERE: 'Below w.heap.size w w'' (Derived/Below.lean: '.refl', '.alloc', '.drew', '.setCell' at a new block, '.trans'). Open each 'IsRow' by 'rcases' AHEAD of 'go_enter'; part every test ahead of the walk. -/
set_option maxHeartbeats 2000000 in
theorem walk (a0 : Option Addr) (len0 cap0 : Nat) (z0 : List Int) (a1 : Int) (w : World) (w0 : IsRow .u8 w a0 len0 cap0 z0) (w1 : (Lit.int .u8 a1).wf = true) :
    Calls Try.prog 7 #[.slice a0 len0 cap0, .int .u8 a1] w fun e w' => e = .returned (.bool true) ∧ Below w.heap.size w w' := by
  obtain ⟨xs, hx⟩ := Bs.ofRow w0
  obtain ⟨n, rfl, hn8⟩ : ∃ s : Nat, a1 = s ∧ s < 256 := nat_u8 w1
  have hm := hx.hle
  have hm2 := hx.hmax
  unfold maxLen at hm2
  have HL := hide hx.hlen
  clear w0 w1
  go_enter Try.func7, Try.ntmps7
  go_wp2_with fail
  refine (awake_any w).mono ?_
  rintro e w1 ⟨rfl, hb1⟩
  by_cases hbig : 200 < len0
  · go_wp2
    go_ret
    exact ⟨rfl, hb1⟩
  by_cases hbig2 : len0 < 2 * n
  · go_wp2
    go_ret
    exact ⟨rfl, hb1⟩
  have hx1 := hx.mono hb1
  have H2 : Hid (2 * n ≤ xs.length) := by show _ ≤ _; rw [HL.out]; omega
  go_wp2_with fail
  refine (new_any _ _ _ _ _ hx1 (by omega)).mono ?_
  rintro e w2 ⟨⟨g, rfl, hg, hc2⟩, hb2⟩
  replace hg : w.heap.size ≤ g := Nat.le_trans hb1.size hg
  have hx2 := hx1.mono hb2
  replace hb2 := below_next hb1 hb2 (Nat.le_refl _)
  go_wp2_with fail
  refine (new_any _ _ _ _ _ hx2 (by omega)).mono ?_
  rintro e w3 ⟨⟨h, rfl, hh, hd3⟩, hb3⟩
  have hgh : h ≠ g := by have := hc2.lt; omega
  replace hh : w.heap.size ≤ h := Nat.le_trans hb2.size hh
  have hc3 := hc2.mono hb3
  replace hb3 := below_next hb2 hb3 (Nat.le_refl _)
  go_wp2_with fail
  refine (cwords_any g _ _ _ hc3).mono ?_
  rintro e w4 ⟨⟨a4, c4, rfl, hx4⟩, hc4, hb4⟩
  have hd4 := hc3.other hd3 hgh hb4
  replace hb4 := But.next hb3 hb4 hg (Nat.le_refl _)
  rw [new_got xs n H2.out, takeW_even xs n H2.out, pairs_even xs n H2.out] at hx4
  rw [new_next xs n H2.out] at hc4
  rw [new_got xs n H2.out, takeW_even xs n H2.out, pairs_even xs n H2.out]
  clear hx1 hx2 hc2 hc3 hd3
  go_wp2
  go_loopw [9] (fun i wr => ∃ k : Nat, k ≤ n ∧ i = .int .i64 k ∧ Cur wr g ⟨xs.drop (2 * n), false, 0⟩ ∧ Cur wr h ⟨xs.drop (2 * k), false, 0⟩ ∧ Ws wr a4 n c4 (pairs (xs.take (2 * n))) ∧ Below w.heap.size w wr) (fun i _ => n - (intOf i).toNat)
  case atStart => exact ⟨0, Nat.zero_le _, rfl, hc4, hd4, hx4, hb4⟩
  case round =>
    clear hc4 hd4 hx4 hb4
    obtain ⟨k, hk, rfl, hc, hd, hz, hbr⟩ := hrel
    by_cases hlt : k < n
    · have hi1 : 2 * k + 1 < xs.length := by have := H2.out; omega
      go_wp2_with fail
      refine (word_any h _ _ hd).mono ?_
      rintro e w5 ⟨rfl, hd5, hb5⟩
      rw [one_next xs k hi1] at hd5
      rw [one_got xs k hi1, one_head]
      have hz5 := hd.words hb5 hz
      have hc5 := hd.other hc (Ne.symm hgh) hb5
      replace hb5 := But.next hbr hb5 hh (Nat.le_refl _)
      have hx5 := hx.mono hb5
      obtain ⟨b, off, rfl, _, hc0⟩ := hx5.hcell (2 * k) (by omega)
      obtain ⟨b', off', he', _, hc1⟩ := hx5.hcell (2 * k + 1) hi1
      cases he'
      have hi0 : 2 * k < xs.length := by omega
      replace hc0 : w5.cell? ⟨b, off + 2 * k, none⟩ = some (.int .u8 ((xs[2 * k]'hi0).toNat : Int)) := hc0
      replace hc1 : w5.cell? ⟨b, off + (2 * k + 1), none⟩ = some (.int .u8 (xs[2 * k + 1].toNat : Int)) := hc1
      have hkl : k < (pairs (xs.take (2 * n))).length := by rw [pairs_even xs n H2.out]; exact hlt
      obtain ⟨bz, oz, rfl, _, hcz⟩ := hz5.hcell k hkl
      have hw := words_get xs n k H2.out hlt hkl
      rw [show wordV (pairs (xs.take (2 * n)))[k] = .int .u16 (((pairs (xs.take (2 * n)))[k].toNat : Nat) : Int) from rfl, hw] at hcz
      have hn1 := byte_lt (xs[2 * k]'hi0)
      have hn2 := byte_lt xs[2 * k + 1]
      have HC := hide hc5
      have HD := hide hd5
      have HZ := hide hz5
      clear hw hx5 hz5 hc5 hd5 hz hc hd
      generalize (xs[2 * k]'hi0).toNat = n1 at *
      generalize xs[2 * k + 1].toNat = n2 at *
      obtain ⟨r, hr⟩ : ∃ r, r = 256 * n1 + n2 := ⟨_, rfl⟩
      rw [← hr] at hcz ⊢
      have hor : IntKind.u16.wrap (IntKind.u16.wrap (256 * IntKind.u16.wrap (n1 : Int)) + IntKind.u16.wrap (n2 : Int)) = (r : Int) := by rw [hr]; simp only [IntKind.wrap_u16]; omega
      have hr2 : r < 65536 := by omega
      have hq : ((r : Int) != 256 * (n1 : Int) + (n2 : Int)) = false := by simp; omega
      clear hr
      have hwr : IntKind.i64.wrap (2 * (k : Int)) = 2 * (k : Int) := by rw [IntKind.wrap_i64]; omega
      have hwr1 : IntKind.i64.wrap (2 * (k : Int) + 1) = 2 * (k : Int) + 1 := by rw [IntKind.wrap_i64]; omega
      have l0 : (0 : Int) ≤ 2 * (k : Int) := by omega
      have l1 : 2 * (k : Int) < (len0 : Int) := by omega
      have l2 : (0 : Int) ≤ 2 * (k : Int) + 1 := by omega
      have l3 : 2 * (k : Int) + 1 < (len0 : Int) := by omega
      have l4 : (0 : Int) ≤ (k : Int) := by omega
      have l5 : (k : Int) < (n : Int) := by omega
      have t1 : (2 * (k : Int)).toNat = 2 * k := by omega
      have t2 : (2 * (k : Int) + 1).toNat = 2 * k + 1 := by omega
      go_wp2
      go_quiet (fail)
      go_wp2
      go_roundw
      case rel => exact ⟨k + 1, by omega, by go_num, HC.out.mono ((Below.refl _ _).trans (below_draws (Below.refl _ _) _)), HD.out.mono (below_draws (Below.refl _ _) _), HZ.out.mono (below_draws (Below.refl _ _) _), below_draws hb5 _⟩
      case measure => simp [intOf]; omega
    · obtain rfl : k = n := by omega
      have HC := hide hc
      have HD := hide hd
      have hl1 : Hid ((xs.drop (2 * k)).length = len0 - 2 * k) := by show _ = _; rw [List.length_drop, HL.out]
      have hs1 : IntKind.i64.wrap ((len0 : Int) - 2 * (k : Int)) = ((len0 - 2 * k : Nat) : Int) := by rw [IntKind.wrap_i64]; omega
      go_wp2_with fail
      refine (left_any g _ _ hc).mono ?_
      rintro e w6 ⟨rfl, rfl⟩
      go_wp2_with fail
      refine (left_any h _ _ hd).mono ?_
      rintro e w7 ⟨rfl, rfl⟩
      go_wp2_with fail
      refine (left_any g _ _ hc).mono ?_
      rintro e w8 ⟨rfl, rfl⟩
      simp only [hl1.out]
      go_wp2_with fail
      refine (err_any g _ _ hc).mono ?_
      rintro e w9 ⟨rfl, rfl⟩
      go_wp2_with fail
      refine (err_any h _ _ hd).mono ?_
      rintro e w10 ⟨rfl, rfl⟩
      go_wp2
      go_ret
      exact ⟨rfl, hbr⟩

/-! ### THE ROW's STEP: WRITTEN OUT: LEAVE IT -/
set_option maxRecDepth 100000 in
theorem lifted (os : Os) (started : os.Started) (H : Type) (enc : TypeId × Value → H) :
    ReturnsInHanded {} Try.checked os 7 .any (Rows.cursorWordsSpec.pre6 enc Try.prog Try.f7 Rows.cursorWordsRow.domain false) (Rows.cursorWordsSpec.post enc Try.prog Try.f7 false true false false) := by
  refine returnsInHanded_of_change (C := Try.checked) own started (by kernel_rfl) Try.func7
    (ChangeSpec.witness6 (enc := enc) (C := Try.checked) false ⟨#[], #[.slice none 0 0, .int .u8 0], []⟩ 8 (by kernel_rfl) (by kernel_rfl) (by kernel_rfl) (by kernel_rfl)) ?_
  intro W base args ds gs before hval0 hW hcnd _
  have hval : ∀ (j : Nat) t v, Try.f7.params[j]? = some t → args[j]? = some v → Value.okWide Try.prog W .any base t v := hval0
  have hW' := hW
  obtain ⟨p, q, hA0, hV, rfl, hfz, hnd⟩ := hW
  have hA : DataW.TrodAll enc Try.prog W 0 (fun _ => true) true Try.f7.params.toList args.toList ds p := hA0
  rw [Try.params7] at hA hval
  obtain ⟨v0, vs0, d0, ds0, p0, q0, hargs, rfl, rfl, h0, r0⟩ := trodAll_cons hA
  obtain ⟨v1, vs1, d1, ds1, p1, q1, rfl, rfl, rfl, h1, r1⟩ := trodAll_cons r0
  obtain ⟨rfl, rfl, rfl⟩ := trodAll_nil r1
  obtain rfl : args = #[v0, v1] := by cases args; simp_all
  obtain ⟨rfl, rfl⟩ := trodVars_none hV
  obtain ⟨a0, len0, cap0, rfl⟩ := okWide_slice Try.underlying22 (hval 0 22 v0 rfl rfl)
  have k0 := h0
  have lt0 : ∀ x ∈ p0, x.block < W.heap.size := by obtain ⟨m, hm⟩ := k0; exact DataW.trod_lt m _ _ _ hm
  obtain ⟨z0, w0⟩ : ∃ zs, IsRow .u8 W a0 len0 cap0 zs := by
    obtain ⟨fuel, hf⟩ := h0
    rcases open_ints Try.underlying22 Try.underlying5 (by kernel_rfl) hf with ⟨hcs, _⟩ | ⟨x, l, c, zs, hcs, _, hl, hm, hz, _, hcell, hwz⟩
    · simp [Value.cells] at hcs
      obtain ⟨rfl, rfl, rfl⟩ := hcs
      exact ⟨[], .inl ⟨rfl, rfl, rfl, rfl⟩⟩
    · simp [Value.cells] at hcs
      obtain ⟨rfl, rfl, rfl⟩ := hcs
      exact ⟨zs, .inr ⟨_, rfl, hl, hm, by simpa using hz, hcell, hwz⟩⟩
  obtain ⟨a1, rfl, rfl, rfl, w1⟩ := open_int Try.underlying5 (hval 1 5 v1 rfl rfl) h1
  clear hA0 hval0
  refine (walk a0 len0 cap0 z0 a1 W w0 w1).mono fun e W' ⟨he, bel⟩ => ?_
  subst he
  exact ⟨_, rfl, _, _, _, [], _, [], hW', trodAll_mk1 (shut_bool Try.underlying4 _), (trodAll_cons_mk (Below.trod laidOut (by kernel_rfl) (of_decide_eq_true (by kernel_rfl)) k0 bel lt0) (trodAll_cons_mk (shut_int Try.underlying5 w1) trodAll_mk0)), rfl, bel.frame _, fun h => by cases h⟩

theorem over : Rows.cursorWordsRow.holds Try.pinned (OpenSpec.ofChange Rows.cursorWordsSpec) :=
  OpenClaim.holds_of_wide 7 Try.f7 rfl rfl rfl rfl rfl rfl rfl ⟨rfl, rfl, rfl, rfl, rfl⟩ rfl rfl rfl rfl rfl (by kernel_rfl) Try.func7 (by kernel_rfl)
    (of_decide_eq_true (by kernel_rfl)) (by unfold Func.isWrapper; first | (rw [if_pos (by decide +kernel)]; kernel_rfl) | (rw [if_neg (by decide +kernel)]; exact ⟨rfl, rfl⟩))
    (fun os started H enc _ => lifted os started H enc)

/-- ████ THE STATEMENT ████ -/
theorem proved : Rows.CursorWordsSaid := over
#print axioms proved
end Go.Proofs.Ytcnilpnehddanaa.cursorWords
