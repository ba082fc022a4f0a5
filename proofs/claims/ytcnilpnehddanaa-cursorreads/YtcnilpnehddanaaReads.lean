/-
  Proved: for every input the law CursorReads answers true, and each argument reads behind the call as it read before.
  Conditions: none (the statement Rows.CursorReadsSaid as it is given).
-/
import Derived.Test.YtcnilpnehddanaaRows
import Derived.WalkKit
import Derived.ProofKit
import Derived.OpenShut
import Derived.ShutString
import Derived.ChangeOld
import Derived.Below
import Derived.Test.YtcnilpnehddanaaActs
import Derived.Test.YtcnilpnehddanaaCursorAwake
import Derived.Test.YtcnilpnehddanaaSame
import Derived.Test.YtcnilpnehddanaaRefRead
import Derived.Deep.DeepCutAuto
import Derived.Deep.CutBlock
namespace Go.Proofs.Ytcnilpnehddanaa.cursorReads
open Go.ChangeShapes Go.WideShapes Go.ChangeAt Go.RowKit
open Go.ChangeMaps (open_string shut_string)
set_option linter.unusedVariables false

open Word Cursor
theorem own : ownKnob Try.prog.godebug = none := by kernel_rfl
theorem laidOut : laidOutB Try.prog = true := by kernel_rfl

/-- WHAT THE WALK IS TOLD OF A SLICE OF INTEGERS THAT CAME IN: it is nil; or it leads to a row of 'cap' cells, the numbers 'zs' (the first 'len' are its elements, the rest its spare room), each fitting its kind. -/
def IsRow (k : IntKind) (w : World) (a : Option Addr) (len cap : Nat) (zs : List Int) : Prop :=
  (a = none ∧ len = 0 ∧ cap = 0 ∧ zs = []) ∨
  ∃ x, a = some x ∧ len ≤ cap ∧ cap ≤ maxLen ∧ zs.length = cap ∧ (∀ i, i < zs.length → w.cell? (x.add i) = some (.int k (zs.getD i 0))) ∧ ∀ n ∈ zs, (Lit.int k n).wf = true

/-! ### STEP 1: THE WALK: the Go text returns true, AND WRITES NOTHING THAT WAS THERE: 'Below w.heap.size w w'' (Derived/Below.lean: '.refl', '.alloc', '.drew', '.setCell' at a new block, '.trans'). Open each 'IsRow' by 'rcases' AHEAD of 'go_enter'; part every test ahead of the walk. -/
set_option maxRecDepth 20000 in
set_option maxHeartbeats 2000000 in
theorem walk (a0 : Option Addr) (len0 cap0 : Nat) (z0 : List Int) (a1 : Option Addr) (len1 cap1 : Nat) (z1 : List (Int × Int)) (w : World) (w0 : IsRow .u8 w a0 len0 cap0 z0) (w1 : Ps w a1 len1 cap1 z1) :
    Calls Try.prog 3 #[.slice a0 len0 cap0, .slice a1 len1 cap1] w fun e w' => e = .returned (.bool true) ∧ Below w.heap.size w w' := by
  obtain ⟨xs, hx⟩ := Bs.ofRow w0
  have hp := w1
  have hm := hx.hle
  have hm2 := hx.hmax
  have hq := hp.hle
  have hq2 := hp.hmax
  unfold maxLen at hm2 hq2
  have HL := hide hx.hlen
  have HP := hide hp.hlen
  clear w0 w1
  go_enter Try.func3, Try.ntmps3
  go_wp2_with fail
  refine (awake_any w).mono ?_
  rintro e w1 ⟨rfl, hb1⟩
  by_cases hbig : 200 < len0
  · go_wp2
    go_ret
    exact ⟨rfl, hb1⟩
  by_cases hbig2 : 60 < len1
  · go_wp2
    go_ret
    exact ⟨rfl, hb1⟩
  have hx1 := hx.mono hb1
  go_wp2_with fail
  refine (new_any _ _ _ _ _ hx1 (by omega)).mono ?_
  rintro e w2 ⟨⟨g, rfl, hg, hc2⟩, hb2⟩
  replace hg : w.heap.size ≤ g := Nat.le_trans hb1.size hg
  replace hb2 := below_next hb1 hb2 (Nat.le_refl _)
  have hal := (Below.refl w2.heap.size w2).alloc (Nat.le_refl _) (refObj a0 len0 cap0 0 false 0)
  have hc3 := hc2.mono hal
  have hb3 := below_next hb2 hal (Nat.le_refl _)
  have hgh : w2.heap.size ≠ g := by have := hc2.lt; omega
  have hh : w.heap.size ≤ w2.heap.size := hb2.size
  have hd3 : RCur (w2.alloc (refObj a0 len0 cap0 0 false 0)) w2.heap.size a0 len0 cap0 xs (St.new xs) := ⟨0, Nat.zero_le _, rfl, heap_alloc_new _ _, hx.mono hb3, by omega⟩
  clear hx1 hc2 hal
  go_wp2
  generalize w2.heap.size = h at *
  go_loopg [8] len1 (fun m i wr => ∃ (k : Nat) (c : St), k + m = len1 ∧ i = .int .i64 k ∧ Cur wr g c ∧ RCur wr h a0 len0 cap0 xs c ∧ Below w.heap.size w wr)
  case atStart => exact ⟨0, St.new xs, by omega, rfl, hc3, hd3, hb3⟩
  case round =>
    clear hc3 hd3 hb3
    obtain ⟨k, c, hk, rfl, hc, hd, hbr⟩ := hrel
    have HM := hide hk
    have hk1 : k ≤ len1 := by omega
    clear hk
    by_cases hlt : k < len1
    · have hkz : k < z1.length := by rw [HP.out]; exact hlt
      have l0 : (0 : Int) ≤ (k : Int) := by omega
      have l1 : (k : Int) < (len1 : Int) := by omega
      obtain ⟨b, off, rfl, hbw, hk0, hn0⟩ := hp.hcell k hkz
      rw [← Nat.add_assoc] at hn0
      generalize z1[k].1 = kind at *
      generalize z1[k].2 = nn at *
      have hki := (hbr.cell (p := ⟨b, off + k * 2, none⟩) hbw).trans hk0
      have hn1 := (hbr.cell (p := ⟨b, off + k * 2 + 1, none⟩) hbw).trans hn0
      have HK : Hid (∀ v, Below w.heap.size w v → v.cell? ⟨b, off + k * 2 + 1, none⟩ = some (.int .i64 nn)) := hide fun v hv => (hv.cell (p := ⟨b, off + k * 2 + 1, none⟩) hbw).trans hn0
      clear hk0 hn0
      go_upto_block 2 with fail
      go_cut [8] (fun i wx => i = .int .i64 k ∧ ∃ c : St, Cur wx g c ∧ RCur wx h a0 len0 cap0 xs c ∧ Below w.heap.size w wx)
      case first =>
        by_cases h0 : kind = 0
        · subst h0
          go_wp2_with fail
          refine (byte_any g c _ hc).mono ?_
          rintro e w6 ⟨rfl, hc6, hb6⟩
          have hd6 := hd.beside hc hgh hb6
          replace hb6 := But.next hbr hb6 hg (Nat.le_refl _)
          go_wp2_with fail
          refine (refByte_any h _ _ _ _ _ _ hd6).mono ?_
          rintro e w7 ⟨rfl, hd7, hb7⟩
          have hc7 := hd6.leaves hc6 hgh hb7
          replace hb7 := But.next hb6 hb7 hh (Nat.le_refl _)
          clear hc hd hc6 hd6
          generalize head8 (c.got 1 1) = v at *
          go_wp2
          go_meet
          case rel => exact ⟨rfl, _, hc7, hd7, hb7⟩
        by_cases h1 : kind = 1
        · subst h1
          go_wp2_with fail
          refine (word_any g c _ hc).mono ?_
          rintro e w6 ⟨rfl, hc6, hb6⟩
          have hd6 := hd.beside hc hgh hb6
          replace hb6 := But.next hbr hb6 hg (Nat.le_refl _)
          go_wp2_with fail
          refine (refWord_any h _ _ _ _ _ _ hd6).mono ?_
          rintro e w7 ⟨rfl, hd7, hb7⟩
          have hc7 := hd6.leaves hc6 hgh hb7
          replace hb7 := But.next hb6 hb7 hh (Nat.le_refl _)
          clear hc hd hc6 hd6
          generalize head16 (takeW (c.got 1 2)) = v at *
          go_wp2
          go_meet
          case rel => exact ⟨rfl, _, hc7, hd7, hb7⟩
        by_cases h2 : kind = 2
        · subst h2
          have hcD := hc.mono ((Below.refl _ _).drew)
          have hdD := hd.mono ((Below.refl _ _).drew)
          have hbD := hbr.drew
          go_wp2
          go_region_held3 (fun w' => w'.cell? ⟨b, off + k * 2 + 1, none⟩ = some (.int .i64 nn))
            (first | assumption | exact HK.out _ hb6 | exact HK.out _ hb7 | exact HK.out _ hbD)
            (first
              | (go_at_call 15; refine (bytes_any g c nn _ hcD).mono ?_; rintro e w6 ⟨⟨a6, c6, rfl, hx6⟩, hc6, hb6⟩; have hd6 := hdD.beside hcD hgh hb6; replace hb6 := But.next hbD hb6 hg (Nat.le_refl _))
              | (go_at_call 16; refine (refBytes_any h _ _ _ _ _ _ hd6 nn).mono ?_; rintro e w7 ⟨⟨a7, c7, rfl, hx7⟩, hd7, hb7⟩; have hc7 := hd6.leaves hc6 hgh hb7; have hx67 := hd6.bytes hb7 hx6; replace hb7 := But.next hb6 hb7 hh (Nat.le_refl _))
              | (go_at_call 14; refine (same_any _ _ _ _ _ _ _ _ _ hx67 hx7).mono ?_; rintro e w8 ⟨rfl, rfl⟩; rw [decide_eq_true rfl]))
          all_goals (go_wp2; go_meet; exact ⟨rfl, _, hc7, hd7, hb7⟩)
        by_cases h4 : kind = 4
        · subst h4
          have hcD := hc.mono ((Below.refl _ _).drew)
          have hdD := hd.mono ((Below.refl _ _).drew)
          have hbD := hbr.drew
          go_wp2
          go_region_held3 (fun w' => w'.cell? ⟨b, off + k * 2 + 1, none⟩ = some (.int .i64 nn))
            (first | assumption | exact HK.out _ hb6 | exact HK.out _ hbD)
            (first
              | (go_at_call 17; refine (need_any g c _ nn _ hcD).mono ?_; rintro e w6 ⟨rfl, hc6, hb6⟩; have hd6 := hdD.beside hcD hgh hb6; replace hb6 := But.next hbD hb6 hg (Nat.le_refl _)))
          have hn6 := HK.out _ hb6
          have hcE := hc6.mono ((Below.refl _ _).drew)
          have hdE := hd6.mono ((Below.refl _ _).drew)
          have hbE := hb6.drew
          go_wp2
          go_region_held3 (fun w' => w'.cell? ⟨b, off + k * 2 + 1, none⟩ = some (.int .i64 nn))
            (first | assumption | exact HK.out _ hb7 | exact HK.out _ hbE)
            (first
              | (go_at_call 18; refine (refNeed_any h _ _ _ _ _ _ hdE _ nn).mono ?_; rintro e w7 ⟨rfl, hd7, hb7⟩; have hc7 := hdE.leaves hcE hgh hb7; replace hb7 := But.next hbE hb7 hh (Nat.le_refl _)))
          go_wp2
          go_meet
          exact ⟨rfl, _, hc7, hd7, hb7⟩
        by_cases h5 : kind = 5
        · subst h5
          go_wp2_with fail
          refine (end_any g c _ hc).mono ?_
          rintro e w6 ⟨rfl, hc6, hb6⟩
          have hd6 := hd.beside hc hgh hb6
          replace hb6 := But.next hbr hb6 hg (Nat.le_refl _)
          go_wp2_with fail
          refine (refEnd_any h _ _ _ _ _ _ hd6).mono ?_
          rintro e w7 ⟨rfl, hd7, hb7⟩
          have hc7 := hd6.leaves hc6 hgh hb7
          replace hb7 := But.next hb6 hb7 hh (Nat.le_refl _)
          clear hc hd hc6 hd6
          go_wp2
          go_meet
          case rel => exact ⟨rfl, _, hc7, hd7, hb7⟩
        · have hcD := hc.mono ((Below.refl _ _).drew)
          have hdD := hd.mono ((Below.refl _ _).drew)
          have hbD := hbr.drew
          go_wp2
          go_region_held3 (fun w' => w'.cell? ⟨b, off + k * 2 + 1, none⟩ = some (.int .i64 nn))
            (first | assumption | exact HK.out _ hb6 | exact HK.out _ hb7 | exact HK.out _ hb8 | exact HK.out _ hbD)
            (first
              | (go_at_call 22; refine (cwords_any g c nn _ hcD).mono ?_; rintro e w6 ⟨⟨a6, c6, rfl, hx6⟩, hc6, hb6⟩; have hd6 := hdD.beside hcD hgh hb6; replace hb6 := But.next hbD hb6 hg (Nat.le_refl _))
              | (go_at_call 23; refine (refWords_any h _ _ _ _ _ _ hd6 nn).mono ?_; rintro e w7 ⟨⟨a7, c7, rfl, hx7⟩, hd7, hb7⟩; have hc7 := hd6.leaves hc6 hgh hb7; have hx67 := hd6.words hb7 hx6; replace hb7 := But.next hb6 hb7 hh (Nat.le_refl _))
              | (go_at_call 21; refine (words_any _ _ _ _ _ _ _ _ _ hx67 hx7).mono ?_; rintro e w8 ⟨rfl, hb8⟩; rw [decide_eq_true rfl]; have hc8 := hc7.mono hb8; have hd8 := hd7.mono hb8; replace hb8 := below_next hb7 hb8 (Nat.le_refl _)))
          all_goals (go_wp2; go_meet; exact ⟨rfl, _, hc8, hd8, hb8⟩)
      case rest =>
        clear hc hd hbr HK
        obtain ⟨rfl, c, hc, hd, hbr⟩ := hcut
        have hdM := fun n => hd.mono (below_draws (Below.refl _ _) n)
        have hcM := fun n => hc.mono (below_draws (Below.refl _ _) n)
        obtain ⟨_, _, _, hgb, _, _⟩ := id hd
        have s2 := rcur_c2 hgb
        have s3 := rcur_c3 hgb
        have HB := hide hgb
        clear hgb
        go_wp2
        go_quiet (first
          | (go_at_call 24; exact Calls.quiet_of_same (left_any g c _ (hcM _)))
          | (go_at_call 25; exact Calls.quiet_of (refLeft_any h _ _ _ _ c _ (hdM _)))
          | (go_at_call 26; exact Calls.quiet_of_same (short_any g c _ (hcM _)))
          | (go_at_call 27; exact Calls.quiet_of_same (err_any g c _ (hcM _))))
        go_wp2
        go_roundg (gk - 1)
        case measure => have := HM.out; omega
        case rel => exact ⟨k + 1, c, by have := HM.out; omega, by go_num, hcM _, hdM _, below_draws hbr _⟩
    · obtain rfl : k = len1 := by omega
      go_wp2_with fail
      refine (left_any g _ _ hc).mono ?_
      rintro e w6 ⟨rfl, rfl⟩
      go_wp2_with fail
      refine (refLeft_any h _ _ _ _ _ _ hd).mono ?_
      rintro e w7 ⟨rfl, m, rfl⟩
      go_wp2
      go_ret
      exact ⟨rfl, below_draws hbr _⟩

/-! ### THE ROW's STEP: WRITTEN OUT: LEAVE IT -/
set_option maxRecDepth 100000 in
theorem lifted (os : Os) (started : os.Started) (H : Type) (enc : TypeId × Value → H) :
    ReturnsInHanded {} Try.checked os 3 .any (Rows.cursorReadsSpec.pre6 enc Try.prog Try.f3 Rows.cursorReadsRow.domain false) (Rows.cursorReadsSpec.post enc Try.prog Try.f3 false true false false) := by
  refine returnsInHanded_of_change (C := Try.checked) own started (by kernel_rfl) Try.func3
    (ChangeSpec.witness6 (enc := enc) (C := Try.checked) false ⟨#[], #[.slice none 0 0, .slice none 0 0], []⟩ 8 (by kernel_rfl) (by kernel_rfl) (by kernel_rfl) (by kernel_rfl)) ?_
  intro W base args ds gs before hval0 hW hcnd _
  have hval : ∀ (j : Nat) t v, Try.f3.params[j]? = some t → args[j]? = some v → Value.okWide Try.prog W .any base t v := hval0
  have hW' := hW
  obtain ⟨p, q, hA0, hV, rfl, hfz, hnd⟩ := hW
  have hA : DataW.TrodAll enc Try.prog W 0 (fun _ => true) true Try.f3.params.toList args.toList ds p := hA0
  rw [Try.params3] at hA hval
  obtain ⟨v0, vs0, d0, ds0, p0, q0, hargs, rfl, rfl, h0, r0⟩ := trodAll_cons hA
  obtain ⟨v1, vs1, d1, ds1, p1, q1, rfl, rfl, rfl, h1, r1⟩ := trodAll_cons r0
  obtain ⟨rfl, rfl, rfl⟩ := trodAll_nil r1
  obtain rfl : args = #[v0, v1] := by cases args; simp_all
  obtain ⟨rfl, rfl⟩ := trodVars_none hV
  obtain ⟨a0, len0, cap0, rfl⟩ := okWide_slice Try.underlying22 (hval 0 22 v0 rfl rfl)
  have k0 := h0
  have lt0 : ∀ x ∈ p0, x.block < W.heap.size := by obtain ⟨m, hm⟩ := k0; exact DataW.trod_lt m _ _ _ hm
  obtain ⟨z0, w0⟩ : ∃ zs, IsRow .u8 W a0 len0 cap0 zs := by
    obtain ⟨fuel, hf⟩ := h0
    rcases open_ints Try.underlying22 Try.underlying5 (by kernel_rfl) hf with ⟨hcs, _⟩ | ⟨x, l, c, zs, hcs, _, hl, hm, hz, _, hcell, hwz⟩
    · simp [Value.cells] at hcs
      obtain ⟨rfl, rfl, rfl⟩ := hcs
      exact ⟨[], .inl ⟨rfl, rfl, rfl, rfl⟩⟩
    · simp [Value.cells] at hcs
      obtain ⟨rfl, rfl, rfl⟩ := hcs
      exact ⟨zs, .inr ⟨_, rfl, hl, hm, by simpa using hz, hcell, hwz⟩⟩
  obtain ⟨a1, len1, cap1, rfl⟩ := okWide_slice Try.underlying23 (hval 1 23 v1 rfl rfl)
  have k1 := h1
  have lt1 : ∀ x ∈ p1, x.block < W.heap.size := by obtain ⟨m, hm⟩ := k1; exact DataW.trod_lt m _ _ _ hm
  obtain ⟨z1, w1⟩ : ∃ zs, Ps W a1 len1 cap1 zs := by
    obtain ⟨fuel, hf⟩ := h1
    exact Ps.ofTrod hf
  clear hA0 hval0
  refine (walk a0 len0 cap0 z0 a1 len1 cap1 z1 W w0 w1).mono fun e W' ⟨he, bel⟩ => ?_
  subst he
  exact ⟨_, rfl, _, _, _, [], _, [], hW', trodAll_mk1 (shut_bool Try.underlying4 _), (trodAll_cons_mk (Below.trod laidOut (by kernel_rfl) (of_decide_eq_true (by kernel_rfl)) k0 bel lt0) (trodAll_cons_mk (Below.trod laidOut (by kernel_rfl) (of_decide_eq_true (by kernel_rfl)) k1 bel lt1) trodAll_mk0)), rfl, bel.frame _, fun h => by cases h⟩

theorem over : Rows.cursorReadsRow.holds Try.pinned (OpenSpec.ofChange Rows.cursorReadsSpec) :=
  OpenClaim.holds_of_wide 3 Try.f3 rfl rfl rfl rfl rfl rfl rfl ⟨rfl, rfl, rfl, rfl, rfl⟩ rfl rfl rfl rfl rfl (by kernel_rfl) Try.func3 (by kernel_rfl)
    (of_decide_eq_true (by kernel_rfl)) (by unfold Func.isWrapper; first | (rw [if_pos (by decide +kernel)]; kernel_rfl) | (rw [if_neg (by decide +kernel)]; exact ⟨rfl, rfl⟩))
    (fun os started H enc _ => lifted os started H enc)

/-- ████ THE STATEMENT ████ -/
theorem proved : Rows.CursorReadsSaid := over
#print axioms proved
end Go.Proofs.Ytcnilpnehddanaa.cursorReads
