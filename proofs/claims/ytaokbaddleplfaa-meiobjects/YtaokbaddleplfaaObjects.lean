/-
  Proved: for every input the law MeiObjects answers true, and each argument reads behind the call as it read before.
  Conditions: none (the statement Rows.MeiObjectsSaid as it is given).
-/
import Derived.Test.YtaokbaddleplfaaRows
import Derived.WalkKit
import Derived.ProofKit
import Derived.OpenShut
import Derived.ShutString
import Derived.ChangeOld
import Derived.Below
import Derived.Test.YtaokbaddleplfaaMeiFacts
import Derived.Test.YtaokbaddleplfaaSame
import Derived.Test.YtaokbaddleplfaaFew
import Derived.Deep.DeepCutAuto
import Derived.Deep.CutBlock
namespace Go.Proofs.Ytaokbaddleplfaa.meiObjects
open Go.ChangeShapes Go.WideShapes Go.ChangeAt Go.RowKit
open Go.ChangeMaps (open_string shut_string)
set_option linter.unusedVariables false

theorem objs_kind (k : Nat) (hk : k < 256) : Mei.okKind (UInt8.ofNat (1 + k % 4)) = true ∧ byteV (UInt8.ofNat (1 + k % 4)) = .int .u8 (1 + (k : Int) % 4) ∧ (UInt8.ofNat (1 + k % 4)).toNat = 1 + k % 4 := by
  have h : (UInt8.ofNat (1 + k % 4)).toNat = 1 + k % 4 := by rw [UInt8.toNat_ofNat', Nat.mod_eq_of_lt (by omega)]
  refine ⟨?_, ?_, h⟩
  · unfold Mei.okKind
    rw [h]
    simp
    omega
  · show Value.int .u8 ((UInt8.ofNat (1 + k % 4)).toNat : Int) = _
    rw [h]
    congr 1
def shortO (o : ObjM) : Bool := decide (o.value.length ≤ 255)
theorem objs_write (k : UInt8) (hk : Mei.okKind k = true) (l : List ObjM) (hl : l.length ≤ 100) : Mei.write 1 (Mei.toldM k 130 0 0 l) = if ((decide (k.toNat ≠ 4) || decide (l.length = 1)) && l.all shortO) = true then some ([14, k, 130, 0, 0, UInt8.ofNat l.length] ++ Mei.encObjs l) else none := by
  rw [Mei.write_told]
  have h1 : Mei.okLevel 130 = true := rfl
  have h2 : Mei.okMore 0 = true := rfl
  have h3 : Mei.okNext 0 0 = true := rfl
  have h4 : l.length ≤ 255 := by omega
  have h5 : (∀ x ∈ l, x.value.length ≤ 255) ↔ l.all shortO = true := by simp [shortO]
  simp only [hk, h1, h2, h3, h4, h5, true_and]
  congr 1
  rw [eq_iff_iff, Bool.and_eq_true, Bool.or_eq_true, decide_eq_true_eq, decide_eq_true_eq]
  exact ⟨fun h => ⟨h.1.symm, h.2⟩, fun h => ⟨h.1.symm, h.2⟩⟩
theorem objs_all (l : List ObjM) (k : Nat) (h : k < l.length) : (l.take (k + 1)).all shortO = ((l.take k).all shortO && shortO l[k]) := by
  rw [List.take_succ_eq_append_getElem h, List.all_append]
  simp
theorem objs_long (l : List ObjM) (k : Nat) (h : k < l.length) : (Mei.encObjs (l.take (k + 1))).length = (Mei.encObjs (l.take k)).length + (2 + l[k].value.length) := by
  rw [List.take_succ_eq_append_getElem h, Mei.objs_append, List.length_append]
  simp [Mei.encObjs, Mei.encObj]
  omega
theorem own : ownKnob Try.prog.godebug = none := by kernel_rfl
theorem laidOut : laidOutB Try.prog = true := by kernel_rfl

/-- WHAT THE WALK IS TOLD OF A SLICE OF INTEGERS THAT CAME IN: it is nil; or it leads to a row of 'cap' cells, the numbers 'zs' (the first 'len' are its elements, the rest its spare room), each fitting its kind. -/
def IsRow (k : IntKind) (w : World) (a : Option Addr) (len cap : Nat) (zs : List Int) : Prop :=
  (a = none ∧ len = 0 ∧ cap = 0 ∧ zs = []) ∨
  ∃ x, a = some x ∧ len ≤ cap ∧ cap ≤ maxLen ∧ zs.length = cap ∧ (∀ i, i < zs.length → w.cell? (x.add i) = some (.int k (zs.getD i 0))) ∧ ∀ n ∈ zs, (Lit.int k n).wf = true

/-! ### STEP 1: THE WALK: the Go text returns true, AND WRITES NOTHING THAT WAS THERE: 'Below w.heap.size w w'' (Derived/Below.lean: '.refl', '.alloc', '.drew', '.setCell' at a new block, '.trans'). Open each 'IsRow' by 'rcases' AHEAD of 'go_enter'; part every test ahead of the walk. -/
set_option maxRecDepth 20000 in
set_option maxHeartbeats 2000000 in
theorem walk (a0 : Option Addr) (len0 cap0 : Nat) (z0 : List ObjM) (a1 : Int) (w : World) (w0 : Obs w a0 len0 cap0 z0) (w1 : (Lit.int .u8 a1).wf = true) :
    Calls Try.prog 6 #[.slice a0 len0 cap0, .int .u8 a1] w fun e w' => e = .returned (.bool true) ∧ Below w.heap.size w w' := by
  obtain ⟨z, rfl⟩ := byte_arg w1
  have HOB := hide w0
  have hm := w0.hle
  have hm2 := w0.hmax
  unfold maxLen at hm2
  have HLN := hide w0.hlen
  clear w0 w1
  have bz := byte_lt z
  obtain ⟨kz, hkz⟩ : ∃ n : Nat, n = z.toNat := ⟨_, rfl⟩
  rw [← hkz] at bz ⊢
  obtain ⟨hk1, hk2, hk3⟩ := objs_kind kz bz
  obtain ⟨kk, hkk⟩ : ∃ k, k = UInt8.ofNat (1 + kz % 4) := ⟨_, rfl⟩
  rw [← hkk] at hk1 hk2 hk3
  have HK := hide hk2
  have HN := hide hk3
  have HKK := hide hk1
  clear hkz hkk hk1 hk2 hk3
  go_enter Try.func6, Try.ntmps6
  go_wp2_with fail
  refine (awake_any w).mono ?_
  rintro e v1 ⟨rfl, hb1⟩
  replace HOB := hide (HOB.out.mono hb1)
  have hat : ∀ u, Obs u a0 len0 cap0 z0 → MsgAt u (.agg (Mei.xCells (.slice none 0 0) (.int .u8 14) (.int .u8 (1 + (kz : Int) % 4)) (.int .u8 130) (.int .u8 0) (.int .u8 0) (.slice a0 len0 cap0))) (Mei.toldM kk 130 0 0 z0) := fun u hu => by
    have := Mei.told_at hu kk 130 0 0
    rw [HK.out] at this
    exact this
  have HAT := hide hat
  clear hat
  go_wp2_with ((with_reducible (show wpList _ _ _ ({ dst := _, op := Op.store _ _ _, type := _, pos := _, after := _, guard := _ } :: _) _ _)); refine wpList_store_new rfl 30 _ _ rfl (Mei.xCells (.slice none 0 0) (.int .u8 14) (.int .u8 (1 + (kz : Int) % 4)) (.int .u8 130) (.int .u8 0) (.int .u8 0) (.slice a0 len0 cap0)) rfl rfl (msg_size _ rfl) rfl (by simp [Value.oneCell']) ?_)
  intro v2 h2 b2
  replace HOB := hide (HOB.out.mono b2)
  have hb2 := hb1.trans (b2.mono hb1.size)
  have hz2 := lt_of_block h2
  obtain ⟨r, hr⟩ : ∃ r, r = v1.heap.size := ⟨_, rfl⟩
  rw [← hr] at h2 hz2 ⊢
  clear b2 hr hb1
  go_wp2_with ((with_reducible (show wpList _ _ _ ({ dst := _, op := Op.load _ _, type := _, pos := _, after := _, guard := _ } :: _) _ _)); refine wpList_load_row rfl 30 _ rfl r rfl 30 (Mei.xCells (.slice none 0 0) (.int .u8 14) (.int .u8 (1 + (kz : Int) % 4)) (.int .u8 130) (.int .u8 0) (.int .u8 0) (.slice a0 len0 cap0)) (0, 0) _ h2 Try.underlying30 rfl (msg_size _ rfl) ?_)
  refine (few_any _ (Mei.toldM kk 130 0 0 z0) v2 (HAT.out v2 HOB.out)).mono ?_
  rintro e v3 ⟨rfl, b3⟩
  replace HOB := hide (HOB.out.mono b3)
  replace h2 := (b3.block r hz2).trans h2
  have hb3 := hb2.trans (b3.mono hb2.size)
  have hz3 := lt_of_block h2
  have HFW := hide (fun h => Mei.told_few (o := z0) (k := kk) (v := 130) (m := 0) (n := 0) h)
  clear b3 hb2 hz2
  generalize (Mei.toldM kk 130 0 0 z0).few = q at *
  cases q
  · go_wp2
    go_ret
    exact ⟨rfl, hb3⟩
  obtain ⟨hl, hv⟩ := HFW.out rfl
  have HSM := hide (Mei.told_small (o := z0) (by omega) hv kk 130 0 0)
  have HW := hide (objs_write kk HKK.out z0 hl)
  have HV := hide hv
  rw [HLN.out] at hl
  clear HFW hv
  go_wp2_with ((with_reducible (show wpList _ _ _ ({ dst := _, op := Op.load _ _, type := _, pos := _, after := _, guard := _ } :: _) _ _)); refine wpList_load_row rfl 30 _ rfl r rfl 30 (Mei.xCells (.slice none 0 0) (.int .u8 14) (.int .u8 (1 + (kz : Int) % 4)) (.int .u8 130) (.int .u8 0) (.int .u8 0) (.slice a0 len0 cap0)) (0, 0) _ h2 Try.underlying30 rfl (msg_size _ rfl) ?_)
  refine (Mei.code_write 1 _ (Mei.toldM kk 130 0 0 z0) v3 (HAT.out v3 HOB.out) HSM.out).mono ?_
  rintro e v4 ⟨⟨a4, l4, c4, rfl, hx4⟩, b4⟩
  replace HOB := hide (HOB.out.mono b4)
  replace h2 := (b4.block r hz3).trans h2
  have hb4 := hb3.trans (b4.mono hb3.size)
  have k17 : v4.cell? ⟨r, 17, none⟩ = some (.int .u8 (1 + (kz : Int) % 4)) := (cell_of_row v4 r 17 _ _ _ h2).trans rfl
  rw [HW.out] at hx4 ⊢
  have HX4 := hide hx4
  clear b4 hx4 hb3 hz3 HAT HSM HW h2
  obtain ⟨f0, hf0⟩ : ∃ b : Bool, b = (decide (kk.toNat ≠ 4) || decide (z0.length = 1)) := ⟨_, rfl⟩
  rw [← hf0] at HX4 ⊢
  obtain ⟨E, hE⟩ : ∃ E, E = Mei.errW (if (f0 && z0.all shortO) = true then some ([14, kk, 130, 0, 0, UInt8.ofNat z0.length] ++ Mei.encObjs z0) else none) := ⟨_, rfl⟩
  rw [← hE]
  have HE := hide hE
  have HF0 : Hid (f0 = (decide (1 + kz % 4 ≠ 4) || decide (len0 = 1))) := hide (by rw [hf0, HN.out, HLN.out])
  clear hE hf0
  go_upto_region 7 with fail
  go_cut [10] (fun s wx => s = .bool f0 ∧ wx = v4)
  case first =>
    by_cases h4 : 1 + kz % 4 = 4
    · have g1 : (1 + (kz : Int) % 4 != 4) = false := by simp; omega
      have g2 : ((len0 : Int) == 1) = f0 := by rw [HF0.out, Bool.eq_iff_iff]; simp [h4]; omega
      clear h4
      go_wp2
      go_meet
      case rel => exact ⟨rfl, rfl⟩
    · have g1 : (1 + (kz : Int) % 4 != 4) = true := by simp; omega
      obtain rfl : f0 = true := by rw [HF0.out]; simp [h4]
      clear h4
      go_wp2
      go_meet
      case rel => exact ⟨rfl, rfl⟩
  case rest =>
  obtain ⟨rfl, rfl⟩ := hcut
  clear k17 HF0
  go_upto_region 9 with fail
  go_wp2_with fail
  go_loop [10, 11, 12] (fun f s i => ∃ k : Nat, k ≤ len0 ∧ i = .int .i64 (k : Int) ∧ s = .int .i64 ((6 + (Mei.encObjs (z0.take k)).length : Nat) : Int) ∧ f = .bool (f0 && (z0.take k).all shortO)) (fun _ _ i => len0 - (intOf i).toNat)
  case atStart => exact ⟨0, Nat.zero_le _, rfl, rfl, by simp⟩
  case round =>
    obtain ⟨k, hk, rfl, rfl, rfl⟩ := hrel
    obtain ⟨sl, hsl⟩ : ∃ n : Nat, n = (Mei.encObjs (z0.take k)).length := ⟨_, rfl⟩
    have hsb : sl ≤ 30200 := by
      have h1 := Mei.objs_len (z0.take k) fun o ho => HV.out o (List.mem_of_mem_take ho)
      have h2 := HLN.out
      rw [← hsl, List.length_take] at h1
      omega
    obtain ⟨fa, hfa⟩ : ∃ b : Bool, b = (f0 && (z0.take k).all shortO) := ⟨_, rfl⟩
    rw [← hsl, ← hfa]
    have HSL := hide hsl
    have HFA := hide hfa
    clear hsl hfa
    by_cases hlt : k < len0
    · have hk1 : k < z0.length := by rw [HLN.out]; exact hlt
      obtain ⟨b, off, ad, ld, cd, rfl, hbl, hc0, hc1, hx⟩ := HOB.out.hcell k hk1
      have hld : ld ≤ 300 := by rw [← hx.hlen]; exact HV.out _ (List.getElem_mem hk1)
      have HL := hide (objs_long z0 k hk1)
      have HA := hide (objs_all z0 k hk1)
      have HXL := hide hx.hlen
      have hki : (k : Int) < (len0 : Int) := by omega
      have HR1 : Hid (((6 + (Mei.encObjs (z0.take (k + 1))).length : Nat) : Int) = 6 + (sl : Int) + 2 + (ld : Int)) := hide (by rw [HL.out, HXL.out, ← HSL.out]; omega)
      have HR2 : Hid ((f0 && (z0.take (k + 1)).all shortO) = (fa && decide (ld ≤ 255))) := hide (by
        rw [HA.out, HFA.out, ← Bool.and_assoc]
        congr 1
        show decide (z0[k].value.length ≤ 255) = _
        rw [HXL.out])
      clear hc0 hx HL HA HXL HSL HFA
      by_cases h5 : ld ≤ 255
      · have g1 : ¬ (255 : Int) < (ld : Int) := by omega
        go_wp2
        go_round
        case rel => exact ⟨k + 1, by omega, by go_num, by rw [HR1.out], by rw [HR2.out]; simp [h5]⟩
        case measure => simp [intOf]; omega
      · have g1 : (255 : Int) < (ld : Int) := by omega
        go_wp2
        go_round
        case rel => exact ⟨k + 1, by omega, by go_num, by rw [HR1.out], by rw [HR2.out]; simp [h5]⟩
        case measure => simp [intOf]; omega
    · have hki : ¬ (k : Int) < (len0 : Int) := by omega
      have ht : z0.take k = z0 := List.take_of_length_le (by rw [HLN.out]; omega)
      have hs2 := HSL.out
      have hf2 := HFA.out
      rw [ht] at hs2 hf2
      have HX5 := HX4.out
      have HE5 := HE.out
      rw [← hf2] at HX5 HE5
      cases fa with
      | false =>
        have hE : E = 1 := HE5
        subst hE
        clear HX5 HE5 HX4 HE HSL HFA ht hs2 hf2 HOB
        go_wp2
        go_ret
        exact ⟨by first | rfl | simp, hb4⟩
      | true =>
        have hE : E = 0 := HE5
        subst hE
        have hl4 : l4 = 6 + sl := by
          have h1 : ([14, kk, 130, 0, 0, UInt8.ofNat z0.length] ++ Mei.encObjs z0).length = l4 := HX5.hlen
          rw [List.length_append, ← hs2] at h1
          simp only [List.length_cons, List.length_nil] at h1
          omega
        subst hl4
        clear HX5 HE5 HX4 HE HSL HFA ht hs2 hf2 HOB
        go_wp2
        go_ret
        exact ⟨by first | rfl | simp, hb4⟩

/-! ### THE ROW's STEP: WRITTEN OUT: LEAVE IT -/
set_option maxRecDepth 100000 in
theorem lifted (os : Os) (started : os.Started) (H : Type) (enc : TypeId × Value → H) :
    ReturnsInHanded {} Try.checked os 6 .any (Rows.meiObjectsSpec.pre6 enc Try.prog Try.f6 Rows.meiObjectsRow.domain false) (Rows.meiObjectsSpec.post enc Try.prog Try.f6 false true false false) := by
  refine returnsInHanded_of_change (C := Try.checked) own started (by kernel_rfl) Try.func6
    (ChangeSpec.witness6 (enc := enc) (C := Try.checked) false ⟨#[], #[.slice none 0 0, .int .u8 0], []⟩ 8 (by kernel_rfl) (by kernel_rfl) (by kernel_rfl) (by kernel_rfl)) ?_
  intro W base args ds gs before hval0 hW hcnd _
  have hval : ∀ (j : Nat) t v, Try.f6.params[j]? = some t → args[j]? = some v → Value.okWide Try.prog W .any base t v := hval0
  have hW' := hW
  obtain ⟨p, q, hA0, hV, rfl, hfz, hnd⟩ := hW
  have hA : DataW.TrodAll enc Try.prog W 0 (fun _ => true) true Try.f6.params.toList args.toList ds p := hA0
  rw [Try.params6] at hA hval
  obtain ⟨v0, vs0, d0, ds0, p0, q0, hargs, rfl, rfl, h0, r0⟩ := trodAll_cons hA
  obtain ⟨v1, vs1, d1, ds1, p1, q1, rfl, rfl, rfl, h1, r1⟩ := trodAll_cons r0
  obtain ⟨rfl, rfl, rfl⟩ := trodAll_nil r1
  obtain rfl : args = #[v0, v1] := by cases args; simp_all
  obtain ⟨rfl, rfl⟩ := trodVars_none hV
  obtain ⟨a0, len0, cap0, rfl⟩ := okWide_slice Try.underlying28 (hval 0 28 v0 rfl rfl)
  have k0 := h0
  have lt0 : ∀ x ∈ p0, x.block < W.heap.size := by obtain ⟨m, hm⟩ := k0; exact DataW.trod_lt m _ _ _ hm
  obtain ⟨z0, w0⟩ : ∃ zs, Obs W a0 len0 cap0 zs := by
    obtain ⟨fuel, hf⟩ := h0
    exact Obs.ofTrod hf
  obtain ⟨a1, rfl, rfl, rfl, w1⟩ := open_int Try.underlying5 (hval 1 5 v1 rfl rfl) h1
  clear hA0 hval0
  refine (walk a0 len0 cap0 z0 a1 W w0 w1).mono fun e W' ⟨he, bel⟩ => ?_
  subst he
  exact ⟨_, rfl, _, _, _, [], _, [], hW', trodAll_mk1 (shut_bool Try.underlying4 _), (trodAll_cons_mk (Below.trod laidOut (by kernel_rfl) (of_decide_eq_true (by kernel_rfl)) k0 bel lt0) (trodAll_cons_mk (shut_int Try.underlying5 w1) trodAll_mk0)), rfl, bel.frame _, fun h => by cases h⟩

theorem over : Rows.meiObjectsRow.holds Try.pinned (OpenSpec.ofChange Rows.meiObjectsSpec) :=
  OpenClaim.holds_of_wide 6 Try.f6 rfl rfl rfl rfl rfl rfl rfl ⟨rfl, rfl, rfl, rfl, rfl⟩ rfl rfl rfl rfl rfl (by kernel_rfl) Try.func6 (by kernel_rfl)
    (of_decide_eq_true (by kernel_rfl)) (by unfold Func.isWrapper; first | (rw [if_pos (by decide +kernel)]; kernel_rfl) | (rw [if_neg (by decide +kernel)]; exact ⟨rfl, rfl⟩))
    (fun os started H enc _ => lifted os started H enc)

/-- ████ THE STATEMENT ████ -/
theorem proved : Rows.MeiObjectsSaid := over
#print axioms proved
end Go.Proofs.Ytaokbaddleplfaa.meiObjects
