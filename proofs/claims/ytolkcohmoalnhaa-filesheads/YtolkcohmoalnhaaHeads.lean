/-
  Proved: for every input the law FilesHeads answers true, and each argument reads behind the call as it read before.
  Conditions: none (the statement Rows.FilesHeadsSaid as it is given).
-/
import Derived.Test.YtolkcohmoalnhaaRows
import Derived.Below
import Derived.Test.YtolkcohmoalnhaaFileMore
import Derived.Test.YtolkcohmoalnhaaSame
import Derived.WalkKit
import Derived.ProofKit
import Derived.OpenShut
import Derived.ShutString
namespace Go.Proofs.Ytolkcohmoalnhaa.filesHeads
open Go.ChangeShapes Go.WideShapes Go.ChangeAt Go.RowKit
open Go.ChangeMaps (open_string shut_string)
set_option linter.unusedVariables false      -- a walk need not use every 'w<i>' (that an integer argument fits its kind)

theorem lit8 (w : World) (ys : List UInt8) (hy : ys.length = 8) (u2 u3 u4 u5 u7 : Int) (t : TypeId) (h : [Value.int .u8 7, .int .u8 6, .int .u8 u2, .int .u8 u3, .int .u8 u4, .int .u8 u5, .int .u8 0, .int .u8 u7] = ys.map byteV) :
    Bs (w.alloc (.cells #[.int .u8 7, .int .u8 6, .int .u8 u2, .int .u8 u3, .int .u8 u4, .int .u8 u5, .int .u8 0, .int .u8 u7] t)) (some ⟨w.heap.size, 0, none⟩) 8 8 ys :=
  Sl.fresh w ys _ t _ 8 hy (by unfold maxLen; omega) h
theorem heads_map (a x y : UInt16) (hy : y.toNat ≤ 121) : [Value.int .u8 7, .int .u8 6, .int .u8 ((a.toNat : Int) / 256), .int .u8 ((a.toNat : Int) % 256), .int .u8 ((x.toNat : Int) / 256), .int .u8 ((x.toNat : Int) % 256), .int .u8 0, .int .u8 (y.toNat : Int)] = ([7, 6] ++ Word.putW [a, x, y]).map byteV := by
  have ha := word_lt a
  have hx := word_lt x
  rw [show ((a.toNat : Int) / 256) = ((a.toNat / 256 : Nat) : Int) by omega, show ((a.toNat : Int) % 256) = ((a.toNat % 256 : Nat) : Int) by omega, show ((x.toNat : Int) / 256) = ((x.toNat / 256 : Nat) : Int) by omega, show ((x.toNat : Int) % 256) = ((x.toNat % 256 : Nat) : Int) by omega]
  show _ = [byteV 7, byteV 6, byteV (Word.hiB a), byteV (Word.loB a), byteV (Word.hiB x), byteV (Word.loB x), byteV (Word.hiB y), byteV (Word.loB y)]
  unfold Word.hiB Word.loB
  simp only [byteV, UInt8.toNat_ofNat']
  rw [Nat.mod_eq_of_lt (show a.toNat / 256 < 2 ^ 8 by omega), Nat.mod_eq_of_lt (show a.toNat % 256 < 2 ^ 8 by omega), Nat.mod_eq_of_lt (show x.toNat / 256 < 2 ^ 8 by omega), Nat.mod_eq_of_lt (show x.toNat % 256 < 2 ^ 8 by omega), Nat.mod_eq_of_lt (show y.toNat / 256 < 2 ^ 8 by omega), Nat.mod_eq_of_lt (show y.toNat % 256 < 2 ^ 8 by omega)]
  rw [show y.toNat / 256 = 0 by omega, show y.toNat % 256 = y.toNat by omega]
  rfl
theorem own : ownKnob Try.prog.godebug = none := by kernel_rfl

/-! ### STEP 1: THE WALK: the Go text returns true. 'Grown w w'': the world has at most new blocks (Derived/RowKit3.lean). Part the cases AHEAD of 'go_enter' where a test parts the walk; take each callee by a contract of your own. -/
set_option maxRecDepth 20000 in
set_option maxHeartbeats 2000000 in
theorem walk (a0 : Int) (a1 : Int) (a2 : Int) (w0 : (Lit.int .u16 a0).wf = true) (w1 : (Lit.int .u16 a1).wf = true) (w2 : (Lit.int .u16 a2).wf = true) (w : World) :
    Calls Try.prog 8 #[.int .u16 a0, .int .u16 a1, .int .u16 a2] w fun e w' => e = .returned (.bool true) ∧ Below w.heap.size w w' := by
  obtain ⟨a, rfl⟩ := word_arg w0
  obtain ⟨x, rfl⟩ := word_arg w1
  obtain ⟨y, rfl⟩ := word_arg w2
  clear w0 w1 w2
  have W1 := hide (Files.write_ask a x y)
  go_enter Try.func8, Try.ntmps8
  go_wp2_with fail
  refine (awake_any w).mono ?_
  rintro e u1 ⟨rfl, hb1⟩
  go_wp2_with fail
  have e8 := heap_alloc_new u1 (.cells (partC ⟨a, x, y, []⟩ (.slice none 0 0)) 43 (0, 0))
  have b8 := (Below.refl u1.heap.size u1).alloc (Nat.le_refl _) (.cells (partC ⟨a, x, y, []⟩ (.slice none 0 0)) 43 (0, 0))
  generalize u1.alloc (.cells (partC ⟨a, x, y, []⟩ (.slice none 0 0)) 43 (0, 0)) = u2 at *
  refine (Files.code_write 0 _ (partsM 20 [⟨a, x, y, []⟩]) u2 (r_at 20 (one_rs (x := ⟨a, x, y, []⟩) e8 (Sl.nil u2 none (Nat.zero_le _)))) (parts_small (by simp) (by simp))).mono ?_
  rintro e u3 ⟨⟨a3, l3, c3, rfl, hx3⟩, b3⟩
  have b13 := b8.trans (b3.mono b8.size)
  replace hb1 := hb1.trans (b13.mono hb1.size)
  rw [W1.out] at hx3 ⊢
  clear b8 b3 b13 e8 W1
  have HM := hide (heads_map a x y)
  have ha := word_lt a
  have hx := word_lt x
  have hy := word_lt y
  have HX := hide hx3
  obtain ⟨LS, hLS⟩ : ∃ l, l = [7, 6] ++ Word.putW [a, x, y] := ⟨_, rfl⟩
  have hLl : LS.length = 8 := by rw [hLS]; rfl
  rw [← hLS] at HX HM ⊢
  clear hx3 hLS
  generalize a.toNat = ka at *
  generalize x.toNat = kx at *
  generalize y.toNat = ky at *
  have q0 : Files.errW (some LS) = 0 := rfl
  have q1 : Files.errW none = 1 := rfl
  by_cases h1 : 0 < ka
  rotate_left
  · obtain rfl : ka = 0 := by omega
    rw [if_neg (fun h => h1 h.1), q1]
    clear HX HM
    go_wp2
    go_ret
    exact ⟨rfl, hb1⟩
  by_cases h2 : kx ≤ 9999
  rotate_left
  · rw [if_neg (fun h => h2 h.2.1), q1]
    have h2' : 9999 < kx := by omega
    have h1' : ¬ ka = 0 := by omega
    clear HX HM
    go_wp2
    go_ret
    exact ⟨by first | rfl | simp, hb1⟩
  by_cases h3 : 0 < ky
  rotate_left
  · obtain rfl : ky = 0 := by omega
    rw [if_neg (fun h => h3 h.2.2.1), q1]
    have h2' : ¬ 9999 < kx := by omega
    have h1' : ¬ ka = 0 := by omega
    clear HX HM
    go_wp2
    go_ret
    exact ⟨by first | rfl | simp, hb1⟩
  by_cases h4 : ky ≤ 121
  rotate_left
  · rw [if_neg (fun h => h4 h.2.2.2), q1]
    have h4' : 121 < ky := by omega
    have h2' : ¬ 9999 < kx := by omega
    have h1' : ¬ ka = 0 := by omega
    have h3' : ¬ ky = 0 := by omega
    have h4i : (121 : Int) < (ky : Int) := by omega
    have h2i : ¬ (9999 : Int) < (kx : Int) := by omega
    clear HX HM
    go_wp2
    go_ret
    exact ⟨by first | rfl | simp | (simp; omega), hb1⟩
  rw [if_pos ⟨h1, h2, h3, h4⟩] at HX ⊢
  rw [q0]
  have h3' : 1 ≤ ky := h3
  have h2i : (kx : Int) ≤ 9999 := by omega
  have h3i : (1 : Int) ≤ (ky : Int) := by omega
  have h4i : (ky : Int) ≤ 121 := by omega
  have HL := hide (HM.out h4)
  replace HX : Hid (Bs u3 a3 l3 c3 LS) := HX
  clear HM q0 q1
  go_wp2_with fail
  have b4 := (Below.refl u3.heap.size u3).alloc (Nat.le_refl _) (.cells #[.int .u8 7, .int .u8 6, .int .u8 ((ka : Int) / 256), .int .u8 ((ka : Int) % 256), .int .u8 ((kx : Int) / 256), .int .u8 ((kx : Int) % 256), .int .u8 0, .int .u8 (ky : Int)] 5 (0, 0))
  refine (same_any _ _ _ _ _ _ _ _ _ (HX.out.mono b4) (lit8 u3 LS hLl _ _ _ _ _ _ HL.out)).mono ?_
  rintro e u6 ⟨rfl, rfl⟩
  rw [decide_eq_true (rfl : LS = LS)]
  replace hb1 := hb1.trans (b4.mono hb1.size)
  go_wp2
  go_ret
  exact ⟨rfl, hb1⟩
  -- go_enter Try.func8, Try.ntmps8
  -- go_wp2
  -- go_ret
  -- exact ⟨rfl, by repeat (first | exact Grown.refl _ | apply Grown.drew | apply Grown.alloc)⟩

/-! ### THE ROW's STEP: WRITTEN OUT: LEAVE IT -/
set_option maxRecDepth 100000 in
theorem lifted (os : Os) (started : os.Started) (H : Type) (enc : TypeId × Value → H) :
    ReturnsInHanded {} Try.checked os 8 .any (Rows.filesHeadsSpec.pre6 enc Try.prog Try.f8 Rows.filesHeadsRow.domain false) (Rows.filesHeadsSpec.post enc Try.prog Try.f8 false true false false) := by
  refine returnsInHanded_of_change (C := Try.checked) own started (by kernel_rfl) Try.func8
    (ChangeSpec.witness6 (enc := enc) (C := Try.checked) false ⟨#[], #[.int .u16 0, .int .u16 0, .int .u16 0], []⟩ 8 (by kernel_rfl) (by kernel_rfl) (by kernel_rfl) (by kernel_rfl)) ?_
  intro W base args ds gs before hval0 hW hcnd _
  have hval : ∀ (j : Nat) t v, Try.f8.params[j]? = some t → args[j]? = some v → Value.okWide Try.prog W .any base t v := hval0
  have hW' := hW
  obtain ⟨p, q, hA0, hV, rfl, hfz, hnd⟩ := hW
  have hA : DataW.TrodAll enc Try.prog W 0 (fun _ => true) true Try.f8.params.toList args.toList ds p := hA0
  rw [Try.params8] at hA hval
  obtain ⟨v0, vs0, d0, ds0, p0, q0, hargs, rfl, rfl, h0, r0⟩ := trodAll_cons hA
  obtain ⟨v1, vs1, d1, ds1, p1, q1, rfl, rfl, rfl, h1, r1⟩ := trodAll_cons r0
  obtain ⟨v2, vs2, d2, ds2, p2, q2, rfl, rfl, rfl, h2, r2⟩ := trodAll_cons r1
  obtain ⟨rfl, rfl, rfl⟩ := trodAll_nil r2
  obtain rfl : args = #[v0, v1, v2] := by cases args; simp_all
  obtain ⟨rfl, rfl⟩ := trodVars_none hV
  obtain ⟨a0, rfl, rfl, rfl, w0⟩ := open_int Try.underlying24 (hval 0 24 v0 rfl rfl) h0
  obtain ⟨a1, rfl, rfl, rfl, w1⟩ := open_int Try.underlying24 (hval 1 24 v1 rfl rfl) h1
  obtain ⟨a2, rfl, rfl, rfl, w2⟩ := open_int Try.underlying24 (hval 2 24 v2 rfl rfl) h2
  clear hA0 hval0
  simp only [List.append_nil] at hW'
  refine (walk a0 a1 a2 w0 w1 w2 W).mono fun e W' ⟨he, bel⟩ => ?_
  subst he
  exact ⟨_, rfl, _, _, _, [], _, [], hW', (trodAll_cons_mk (shut_bool Try.underlying4 _) trodAll_mk0), (trodAll_cons_mk (shut_int Try.underlying24 w0) (trodAll_cons_mk (shut_int Try.underlying24 w1) (trodAll_cons_mk (shut_int Try.underlying24 w2) trodAll_mk0))), rfl, bel.frame _, fun h => by cases h⟩

theorem over : Rows.filesHeadsRow.holds Try.pinned (OpenSpec.ofChange Rows.filesHeadsSpec) :=
  OpenClaim.holds_of_wide 8 Try.f8 rfl rfl rfl rfl rfl rfl rfl ⟨rfl, rfl, rfl, rfl, rfl⟩ rfl rfl rfl rfl rfl (by kernel_rfl) Try.func8 (by kernel_rfl)
    (of_decide_eq_true (by kernel_rfl)) (by unfold Func.isWrapper; first | (rw [if_pos (by decide +kernel)]; kernel_rfl) | (rw [if_neg (by decide +kernel)]; exact ⟨rfl, rfl⟩))
    (fun os started H enc _ => lifted os started H enc)

/-- ████ THE STATEMENT ████ -/
theorem proved : Rows.FilesHeadsSaid :=
  over
#print axioms proved
end Go.Proofs.Ytolkcohmoalnhaa.filesHeads
