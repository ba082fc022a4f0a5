/-
  Proved: for every input the law CursorParts answers true, and each argument reads behind the call as it read before.
  Conditions: none (the statement Rows.CursorPartsSaid as it is given).
-/
import Derived.Test.YtcnilpnehddanaaRows
import Derived.WalkKit
import Derived.ProofKit
import Derived.OpenShut
import Derived.ShutString
import Derived.ChangeOld
import Derived.Below
import Derived.Test.YtcnilpnehddanaaCursorOwn
import Derived.Test.YtcnilpnehddanaaCursorAwake
import Derived.Test.YtcnilpnehddanaaSame
import Derived.BigRegion
namespace Go.Proofs.Ytcnilpnehddanaa.cursorParts
open Go.ChangeShapes Go.WideShapes Go.ChangeAt Go.RowKit
open Go.ChangeMaps (open_string shut_string)
set_option linter.unusedVariables false

open Word Cursor
theorem part_got (xs : List UInt8) (k n : Nat) (h : k + n ≤ xs.length) : St.got ⟨xs.drop k, false, 0⟩ n 1 = (xs.drop k).take n := by
  unfold St.got
  rw [if_neg (by unfold St.lack; simp; omega)]
  simp
theorem part_next (xs : List UInt8) (k n : Nat) (h : k + n ≤ xs.length) : St.next ⟨xs.drop k, false, 0⟩ n 1 = ⟨xs.drop (k + n), false, 0⟩ := by
  unfold St.next
  rw [if_neg (by unfold St.lack; simp; omega)]
  simp
theorem part_len (xs : List UInt8) (k n : Nat) (h : k + n ≤ xs.length) : ((xs.drop k).take n).length = n := by
  simp; omega
theorem own : ownKnob Try.prog.godebug = none := by kernel_rfl
theorem laidOut : laidOutB Try.prog = true := by kernel_rfl

/-- WHAT THE WALK IS TOLD OF A SLICE OF INTEGERS THAT CAME IN: it is nil; or it leads to a row of 'cap' cells, the numbers 'zs' (the first 'len' are its elements, the rest its spare room), each fitting its kind. -/
def IsRow (k : IntKind) (w : World) (a : Option Addr) (len cap : Nat) (zs : List Int) : Prop :=
  (a = none ∧ len = 0 ∧ cap = 0 ∧ zs = []) ∨
  ∃ x, a = some x ∧ len ≤ cap ∧ cap ≤ maxLen ∧ zs.length = cap ∧ (∀ i, i < zs.length → w.cell? (x.add i) = some (.int k (zs.getD i 0))) ∧ ∀ n ∈ zs, (Lit.int k n).wf = true

/-! ### STEP 1: THE WALK: the Go text returns true, AND WRITES NOTHING THAT WAS THERE: 'Below w.heap.size w w'' (Derived/Below.lean: '.refl', '.alloc', '.drew', '.setCell' at a new block, '.trans'). Open each 'IsRow' by 'rcases' AHEAD of 'go_enter'; part every test ahead of the walk. -/
set_option maxHeartbeats 2000000 in
theorem walk (a0 : Option Addr) (len0 cap0 : Nat) (z0 : List Int) (a1 : Int) (w : World) (w0 : IsRow .u8 w a0 len0 cap0 z0) (w1 : (Lit.int .u8 a1).wf = true) :
    Calls Try.prog 4 #[.slice a0 len0 cap0, .int .u8 a1] w fun e w' => e = .returned (.bool true) ∧ Below w.heap.size w w' := by
  obtain ⟨xs, hx⟩ := Bs.ofRow w0
  obtain ⟨n, rfl, hn8⟩ : ∃ s : Nat, a1 = s ∧ s < 256 := nat_u8 w1
  have hm := hx.hle
  have hm2 := hx.hmax
  unfold maxLen at hm2
  have HL := hide hx.hlen
  clear w0 w1
  go_enter Try.func4, Try.ntmps4
  go_wp2_with fail
  refine (awake_any w).mono ?_
  rintro e w1 ⟨rfl, hb1⟩
  by_cases hbig : 200 < len0
  · go_wp2
    go_ret
    exact ⟨rfl, hb1⟩
  have hx1 := hx.mono hb1
  obtain ⟨k, hk⟩ : ∃ k, k = n % (len0 + 1) := ⟨_, rfl⟩
  have hkl : k ≤ len0 := by have := Nat.mod_lt n (show 0 < len0 + 1 by omega); omega
  have hki : (n : Int) % ((len0 : Int) + 1) = (k : Int) := by rw [hk]; simp
  have hz1 : ¬ ((len0 : Int) + 1 = 0) := by omega
  have hz2 : (((len0 : Int) + 1) == 0) = false := by simp; omega
  have hki2 : (n : Int).tmod ((len0 : Int) + 1) = (k : Int) := by rw [Int.tmod_eq_emod_of_nonneg (by omega)]; exact hki
  clear hk
  go_wp2_with (at_builtin; refine app (by rfl) _ _ rfl w1.heap.size rfl (Own.empty _ _ _) rfl (hx1.alloc _) (by omega) (by simp) ?_)
  intro p2 c2 w2 ho2 hb2
  replace hb2 := ((Below.refl w1.heap.size w1).alloc (Nat.le_refl _) _).trans hb2
  replace hb2 := below_next hb1 hb2 (Nat.le_refl _)
  have ho2b := ho2.base hb1.size
  go_wp2_with fail
  refine (new_own _ _ _ _ _ ho2.sl (by omega)).mono ?_
  rintro e w3 ⟨⟨g, rfl, hg, hg3, hc3⟩, hb3⟩
  have ho3 := ho2b.mono hb3
  have hs23 := hb3.size
  replace hb3 := below_next hb2 hb3 (Nat.le_refl _)
  go_wp2_with fail
  refine (new_own _ _ _ _ _ ho3.sl (by omega)).mono ?_
  rintro e w4 ⟨⟨h, rfl, hh, hh4, hd4⟩, hb4⟩
  have hgh : h ≠ g := by omega
  have ho4 := ho3.mono hb4
  have hs34 := hb4.size
  have hf4 := From.of (S := w2.heap.size) hb4
  replace hb4 := below_next hb3 hb4 (Nat.le_refl _)
  have hsz2 := hb2.size
  replace hg : w.heap.size ≤ g := by omega
  replace hh : w.heap.size ≤ h := by omega
  have HP : Hid (∀ i, i < len0 → ∃ b off, p2 = some ⟨b, off, none⟩ ∧ w.heap.size ≤ b ∧ b < w2.heap.size) := hide fun i hi => by
    obtain ⟨b, off, e1, e2, e3, _⟩ := ho2b.room i (by have := ho2b.sl.hle; omega)
    exact ⟨b, off, e1, e2, e3⟩
  have hm3 := ho2.sl.hle
  have hm4 := ho2.sl.hmax
  unfold maxLen at hm4
  have HC3 := hide hc3
  have HD4 := hide hd4
  clear hc3 hd4 ho2 ho2b ho3 hx1
  go_wp2
  go_loopw [10] (fun i wr => ∃ (k : Nat) (ys : List UInt8), k ≤ len0 ∧ i = .int .i64 k ∧ Own byteV wr w.heap.size p2 len0 c2 ys ∧ From w2.heap.size w4 wr ∧ Below w.heap.size w wr) (fun i _ => len0 - (intOf i).toNat)
  case atStart => exact ⟨0, xs, Nat.zero_le _, rfl, ho4, From.refl _ _, hb4⟩
  case round =>
    clear ho4 hb4
    obtain ⟨j, ys, hj, rfl, ho, hfr, hbr⟩ := hrel
    have hyl := hide ho.sl.hlen
    by_cases hlt : j < len0
    · obtain ⟨b, off, rfl, hB, hbS⟩ := HP.out j hlt
      have hjy : j < ys.length := by rw [hyl.out]; exact hlt
      obtain ⟨_, _, hh1, _, hcj⟩ := ho.sl.hcell j hjy
      cases hh1
      obtain ⟨_, _, hh2, _, _, _, hfj⟩ := ho.room j (by omega)
      cases hh2
      have h8 := byte_lt ys[j]
      replace hcj : wr.cell? ⟨b, off + j, none⟩ = some (.int .u8 (ys[j].toNat : Int)) := hcj
      have hv : (((UInt8.ofNat ((ys[j].toNat + 1) % 256)).toNat : Nat) : Int) = ((ys[j].toNat : Int) + 1) % 256 := by
        rw [UInt8.toNat_ofNat']; omega
      have ho' := ho.set j hjy (UInt8.ofNat ((ys[j].toNat + 1) % 256))
      have hb' := hbr.setCell (p := ⟨b, off + j, none⟩) hB (byteV (UInt8.ofNat ((ys[j].toNat + 1) % 256)))
      have hf' := hfr.trans (From.setCell hbS (off + j) wr (byteV (UInt8.ofNat ((ys[j].toNat + 1) % 256))))
      simp only [byteV, hv] at ho' hb' hf'
      generalize ys.set j (UInt8.ofNat ((ys[j].toNat + 1) % 256)) = ys' at *
      generalize ys[j].toNat = m at *
      clear hv
      have l0 : (0 : Int) ≤ (j : Int) := by omega
      have l1 : (j : Int) < (len0 : Int) := by omega
      go_wp2
      go_roundw
      case rel => exact ⟨j + 1, ys', by omega, by go_num, ho', hf', hb'⟩
      case measure => simp [intOf]; omega
    · obtain rfl : j = len0 := by omega
      clear ho hyl
      have e1 : Hid (0 + k ≤ xs.length) := hide (by rw [HL.out]; omega)
      have e2 : Hid (k + (j - k) ≤ xs.length) := hide (by rw [HL.out]; omega)
      have e3 : Hid (0 + j ≤ xs.length) := hide (by rw [HL.out]; omega)
      have hc5 : Cur wr g ⟨xs.drop 0, false, 0⟩ := HC3.out wr (hf4.trans hfr)
      have hd5 : Cur wr h ⟨xs.drop 0, false, 0⟩ := HD4.out wr ⟨hfr.size, fun k h1 h2 => hfr.block k (by omega) h2⟩
      clear HC3 HD4 HP hf4 hfr
      have hkw : IntKind.i64.wrap ((j : Int) - (k : Int)) = ((j - k : Nat) : Int) := by rw [IntKind.wrap_i64]; omega
      have hkw' : ((j : Int) - (k : Int)) = ((j - k : Nat) : Int) := by omega
      go_wp2_with fail
      refine (bytes_any g _ _ _ hc5).mono ?_
      rintro e w6 ⟨⟨a6, c6, rfl, hx6⟩, hc6, hb6⟩
      rw [part_got _ _ _ e1.out, part_len _ _ _ e1.out] at hx6 ⊢
      rw [part_next _ _ _ e1.out, Nat.zero_add] at hc6
      have hd6 := hc5.other hd5 hgh hb6
      replace hb6 := But.next hbr hb6 hg (Nat.le_refl _)
      go_wp2_with fail
      refine (bytes_any g _ _ _ hc6).mono ?_
      rintro e w7 ⟨⟨a7, c7, rfl, hx7⟩, hc7, hb7⟩
      rw [part_got _ _ _ e2.out, part_len _ _ _ e2.out] at hx7 ⊢
      rw [part_next _ _ _ e2.out] at hc7
      have hd7 := hc6.other hd6 hgh hb7
      have hx67 := hc6.bytes hb7 hx6
      replace hb7 := But.next hb6 hb7 hg (Nat.le_refl _)
      go_wp2_with fail
      refine (bytes_any h _ _ _ hd7).mono ?_
      rintro e w8 ⟨⟨a8, c8, rfl, hx8⟩, hd8, hb8⟩
      rw [part_got _ _ _ e3.out, part_len _ _ _ e3.out] at hx8 ⊢
      have hc8 := hd7.other hc7 (Ne.symm hgh) hb8
      have hx68 := hd7.bytes hb8 hx67
      have hx78 := hd7.bytes hb8 hx7
      replace hb8 := But.next hb7 hb8 hh (Nat.le_refl _)
      clear hc5 hd5 hc6 hd6 hd7 hc7 hd8 hx6 hx7 hx67 hb7 hb6
      have q1 : Hid ((xs.drop 0).take k ++ (xs.drop k).take (j - k) = xs) := hide (by
        rw [List.take_of_length_le (l := xs.drop k) (by rw [List.length_drop, HL.out]; omega)]; simp)
      have q2 : Hid ((xs.drop 0).take j = xs) := hide (by
        rw [List.drop_zero, List.take_of_length_le]; rw [HL.out]; omega)
      have q3 : Hid ((xs.drop (k + (j - k))).length = 0) := hide (by rw [List.length_drop, HL.out]; omega)
      rw [q2.out] at hx8
      generalize (xs.drop 0).take k = us at *
      generalize (xs.drop k).take (j - k) = vs at *
      generalize xs.drop (k + (j - k)) = zs at *
      have hle6 := hx68.hle
      have hle7 := hx78.hle
      go_wp2_with (at_builtin; refine app (by rfl) _ _ rfl w8.heap.size rfl (Own.empty _ _ _) rfl (hx68.alloc _) (by omega) (by simp) ?_)
      intro p9 c9 w9 ho9 hb9
      replace hb9 := ((Below.refl w8.heap.size w8).alloc (Nat.le_refl _) _).trans hb9
      have hx79 := hx78.mono hb9
      go_wp2_with (at_builtin; refine app (by rfl) _ _ rfl w8.heap.size rfl ho9 rfl hx79 (by omega) hb9.size ?_)
      intro p10 c10 w10 ho10 hb10
      replace hb10 := hb9.trans hb10
      have hx10 := hx8.mono hb10
      have hc10 := hc8.mono hb10
      replace hb10 := below_next hb8 hb10 (Nat.le_refl _)
      have hx0 := hx.mono hb10
      go_wp2_with fail
      refine (same_any _ _ _ _ _ _ _ _ _ ho10.sl hx10).mono ?_
      rintro e w11 ⟨rfl, rfl⟩
      have q4 : Hid (decide (us ++ vs = xs) = true) := hide (by rw [q1.out]; simp)
      rw [q4.out]
      go_wp2_with fail
      refine (same_any _ _ _ _ _ _ _ _ _ hx10 hx0).mono ?_
      rintro e w12 ⟨rfl, rfl⟩
      rw [show decide (xs = xs) = true by simp]
      go_wp2_with fail
      refine (short_any g _ _ hc10).mono ?_
      rintro e w13 ⟨rfl, rfl⟩
      go_wp2_with fail
      refine (left_any g _ _ hc10).mono ?_
      rintro e w14 ⟨rfl, rfl⟩
      rw [q3.out]
      go_wp2
      go_ret
      exact ⟨rfl, hb10⟩

/-! ### THE ROW's STEP: WRITTEN OUT: LEAVE IT -/
set_option maxRecDepth 100000 in
theorem lifted (os : Os) (started : os.Started) (H : Type) (enc : TypeId × Value → H) :
    ReturnsInHanded {} Try.checked os 4 .any (Rows.cursorPartsSpec.pre6 enc Try.prog Try.f4 Rows.cursorPartsRow.domain false) (Rows.cursorPartsSpec.post enc Try.prog Try.f4 false true false false) := by
  refine returnsInHanded_of_change (C := Try.checked) own started (by kernel_rfl) Try.func4
    (ChangeSpec.witness6 (enc := enc) (C := Try.checked) false ⟨#[], #[.slice none 0 0, .int .u8 0], []⟩ 8 (by kernel_rfl) (by kernel_rfl) (by kernel_rfl) (by kernel_rfl)) ?_
  intro W base args ds gs before hval0 hW hcnd _
  have hval : ∀ (j : Nat) t v, Try.f4.params[j]? = some t → args[j]? = some v → Value.okWide Try.prog W .any base t v := hval0
  have hW' := hW
  obtain ⟨p, q, hA0, hV, rfl, hfz, hnd⟩ := hW
  have hA : DataW.TrodAll enc Try.prog W 0 (fun _ => true) true Try.f4.params.toList args.toList ds p := hA0
  rw [Try.params4] at hA hval
  obtain ⟨v0, vs0, d0, ds0, p0, q0, hargs, rfl, rfl, h0, r0⟩ := trodAll_cons hA
  obtain ⟨v1, vs1, d1, ds1, p1, q1, rfl, rfl, rfl, h1, r1⟩ := trodAll_cons r0
  obtain ⟨rfl, rfl, rfl⟩ := trodAll_nil r1
  obtain rfl : args = #[v0, v1] := by cases args; simp_all
  obtain ⟨rfl, rfl⟩ := trodVars_none hV
  obtain ⟨a0, len0, cap0, rfl⟩ := okWide_slice Try.underlying22 (hval 0 22 v0 rfl rfl)
  have k0 := h0
  have lt0 : ∀ x ∈ p0, x.block < W.heap.size := by obtain ⟨m, hm⟩ := k0; exact DataW.trod_lt m _ _ _ hm
  obtain ⟨z0, w0⟩ : ∃ zs, IsRow .u8 W a0 len0 cap0 zs := by
    obtain ⟨fuel, hf⟩ := h0
    rcases open_ints Try.underlying22 Try.underlying5 (by kernel_rfl) hf with ⟨hcs, _⟩ | ⟨x, l, c, zs, hcs, _, hl, hm, hz, _, hcell, hwz⟩
    · simp [Value.cells] at hcs
      obtain ⟨rfl, rfl, rfl⟩ := hcs
      exact ⟨[], .inl ⟨rfl, rfl, rfl, rfl⟩⟩
    · simp [Value.cells] at hcs
      obtain ⟨rfl, rfl, rfl⟩ := hcs
      exact ⟨zs, .inr ⟨_, rfl, hl, hm, by simpa using hz, hcell, hwz⟩⟩
  obtain ⟨a1, rfl, rfl, rfl, w1⟩ := open_int Try.underlying5 (hval 1 5 v1 rfl rfl) h1
  clear hA0 hval0
  refine (walk a0 len0 cap0 z0 a1 W w0 w1).mono fun e W' ⟨he, bel⟩ => ?_
  subst he
  exact ⟨_, rfl, _, _, _, [], _, [], hW', trodAll_mk1 (shut_bool Try.underlying4 _), (trodAll_cons_mk (Below.trod laidOut (by kernel_rfl) (of_decide_eq_true (by kernel_rfl)) k0 bel lt0) (trodAll_cons_mk (shut_int Try.underlying5 w1) trodAll_mk0)), rfl, bel.frame _, fun h => by cases h⟩

theorem over : Rows.cursorPartsRow.holds Try.pinned (OpenSpec.ofChange Rows.cursorPartsSpec) :=
  OpenClaim.holds_of_wide 4 Try.f4 rfl rfl rfl rfl rfl rfl rfl ⟨rfl, rfl, rfl, rfl, rfl⟩ rfl rfl rfl rfl rfl (by kernel_rfl) Try.func4 (by kernel_rfl)
    (of_decide_eq_true (by kernel_rfl)) (by unfold Func.isWrapper; first | (rw [if_pos (by decide +kernel)]; kernel_rfl) | (rw [if_neg (by decide +kernel)]; exact ⟨rfl, rfl⟩))
    (fun os started H enc _ => lifted os started H enc)

/-- ████ THE STATEMENT ████ -/
theorem proved : Rows.CursorPartsSaid := over
#print axioms proved
end Go.Proofs.Ytcnilpnehddanaa.cursorParts
