/-
  Proved: for every input the law FilesEchoes answers true, and each argument reads behind the call as it read before.
  Conditions: none (the statement Rows.FilesEchoesSaid as it is given).
-/
import Derived.Test.YtolkcohmoalnhaaRows
import Derived.WalkKit
import Derived.ProofKit
import Derived.OpenShut
import Derived.ShutString
import Derived.ChangeOld
import Derived.Below
import Derived.Test.YtolkcohmoalnhaaFileMore
import Derived.Test.YtolkcohmoalnhaaSame
import Derived.Test.YtolkcohmoalnhaaFew
namespace Go.Proofs.Ytolkcohmoalnhaa.filesEchoes
open Go.ChangeShapes Go.WideShapes Go.ChangeAt Go.RowKit
open Go.ChangeMaps (open_string shut_string)
set_option linter.unusedVariables false

theorem own : ownKnob Try.prog.godebug = none := by kernel_rfl
theorem laidOut : laidOutB Try.prog = true := by kernel_rfl

/-- WHAT THE WALK IS TOLD OF A SLICE OF INTEGERS THAT CAME IN: it is nil; or it leads to a row of 'cap' cells, the numbers 'zs' (the first 'len' are its elements, the rest its spare room), each fitting its kind. -/
def IsRow (k : IntKind) (w : World) (a : Option Addr) (len cap : Nat) (zs : List Int) : Prop :=
  (a = none ∧ len = 0 ∧ cap = 0 ∧ zs = []) ∨
  ∃ x, a = some x ∧ len ≤ cap ∧ cap ≤ maxLen ∧ zs.length = cap ∧ (∀ i, i < zs.length → w.cell? (x.add i) = some (.int k (zs.getD i 0))) ∧ ∀ n ∈ zs, (Lit.int k n).wf = true

/-! ### STEP 1: THE WALK: the Go text returns true, AND WRITES NOTHING THAT WAS THERE: 'Below w.heap.size w w'' (Derived/Below.lean: '.refl', '.alloc', '.drew', '.setCell' at a new block, '.trans'). Open each 'IsRow' by 'rcases' AHEAD of 'go_enter'; part every test ahead of the walk. -/
set_option maxRecDepth 20000 in
set_option maxHeartbeats 2000000 in
theorem walk (a0 : Option Addr) (len0 cap0 : Nat) (z0 : List RecM) (w : World) (w0 : Rs w a0 len0 cap0 z0) :
    Calls Try.prog 7 #[.slice a0 len0 cap0] w fun e w' => e = .returned (.bool true) ∧ Below w.heap.size w w' := by
  have hle := w0.hle
  have hmx := w0.hmax
  unfold maxLen at hmx
  have HLN := hide w0.hlen
  have HR := hide w0
  clear w0
  go_enter Try.func7, Try.ntmps7
  go_wp2_with fail
  refine (awake_any w).mono ?_
  rintro e u1 ⟨rfl, hb1⟩
  have cs0 : (rCells (byteV 21) (.slice a0 len0 cap0)).all (·.oneCell') = true := by simp [Value.oneCell']
  obtain ⟨cs, hcs⟩ : ∃ cs, cs = rCells (byteV 21) (.slice a0 len0 cap0) := ⟨_, rfl⟩
  have hsz : cs.size = 22 := by rw [hcs]; rfl
  rw [← hcs] at cs0
  have HCS := hide hcs
  clear hcs
  go_upto_region 3 with ((with_reducible (show wpList _ _ _ ({ dst := _, op := Op.store _ _ _, type := _, pos := _, after := _, guard := _ } :: _) _ _)); refine wpList_store_new rfl 30 _ _ rfl cs rfl (by rw [HCS.out]; rfl) (msg_size cs hsz) hsz.symm cs0 ?_; intro u2 h2 b2)
  have hb2 := hb1.trans (b2.mono hb1.size)
  have HM := hide (show MsgAt u2 (.agg cs) (partsM 21 z0) by rw [HCS.out]; exact r_at 21 (HR.out.mono hb2))
  have hz1 := lt_of_block h2
  clear hb1 b2
  go_wp2_with ((with_reducible (show wpList _ _ _ ({ dst := _, op := Op.load _ _, type := _, pos := _, after := _, guard := _ } :: _) _ _)); refine wpList_load_rowG (by rfl) 30 _ rfl u1.heap.size rfl cs (load_whole h2 hsz) ?_)
  refine (few_any _ _ u2 HM.out).mono ?_
  rintro e u3 ⟨rfl, b3⟩
  replace h2 := (b3.block _ hz1).trans h2
  replace HM := hide (HM.out.mono b3)
  have hb3 := hb2.trans (b3.mono hb2.size)
  have HF := hide (parts_few (c := 21) (l := z0))
  generalize (partsM 21 z0).few = q at *
  clear b3 hb2
  cases q
  · go_wp2
    go_ret
    exact ⟨rfl, hb3⟩
  obtain ⟨hl1, hl2⟩ := HF.out rfl
  have HTL := hide (Files.total_le z0 hl2)
  have HL2 := hide hl2
  have hln : len0 ≤ 100 := by rw [← HLN.out]; exact hl1
  clear hl2 HF
  go_wp2_with ((with_reducible (show wpList _ _ _ ({ dst := _, op := Op.load _ _, type := _, pos := _, after := _, guard := _ } :: _) _ _)); refine wpList_load_rowG (by rfl) 30 _ rfl u1.heap.size rfl cs (load_whole h2 hsz) ?_)
  refine (Files.code_write 0 _ (partsM 21 z0) u3 HM.out (parts_small hl1 HL2.out)).mono ?_
  rintro e u4 ⟨⟨a4, l4, c4, rfl, hx4⟩, b4⟩
  have hz3 := lt_of_block h2
  replace h2 := (b4.block _ hz3).trans h2
  replace HM := hide (HM.out.mono b4)
  have hb4 := hb3.trans (b4.mono hb3.size)
  have HX4 := hide hx4
  clear b4 hb3 hx4
  go_wp2_with ((with_reducible (show wpList _ _ _ ({ dst := _, op := Op.load _ _, type := _, pos := _, after := _, guard := _ } :: _) _ _)); refine wpList_load_rowG (by rfl) 30 _ rfl u1.heap.size rfl cs (load_whole h2 hsz) ?_)
  refine (Files.code_write 1 _ (partsM 21 z0) u4 HM.out (parts_small hl1 HL2.out)).mono ?_
  rintro e u5 ⟨⟨a5, l5, c5, rfl, hx5⟩, b5⟩
  rw [Files.put_both] at hx5 ⊢
  replace HX4 := hide (HX4.out.mono b5)
  have hb5 := hb4.trans (b5.mono hb4.size)
  have HX5 := hide hx5
  have HIS := hide (Files.put_some (.inl rfl) z0)
  have HEW := hide (Files.errW_eq (Files.write 0 (partsM 21 z0)))
  generalize Files.write 0 (partsM 21 z0) = R at *
  rw [HIS.out] at HEW
  clear b5 hb4 hx5 HM h2 HIS cs0 hsz hl1
  obtain ⟨p0, hp0⟩ : ∃ b : Bool, b = decide (0 < len0) := ⟨_, rfl⟩
  have hp0' : decide ((0 : Int) < (len0 : Int)) = p0 := by rw [hp0, Bool.eq_iff_iff]; simp
  have HP0 : Hid (decide (0 < z0.length) = p0) := hide (by rw [HLN.out, hp0])
  rw [HP0.out] at HEW
  have HP00 := hide hp0
  clear hp0
  generalize Files.errW R = E at *
  generalize Files.outW R = OW at *
  go_wp2
  go_loopw [10, 11, 12] (fun wt sm i wr => ∃ k : Nat, k ≤ len0 ∧ i = .int .i64 (k : Int) ∧ wt = .bool (p0 && (z0.take k).all Files.okP) ∧ sm = .int .i64 (Files.total (z0.take k) : Int) ∧ Below u5.heap.size u5 wr) (fun _ _ i _ => len0 - (intOf i).toNat)
  case atStart => exact ⟨0, Nat.zero_le _, rfl, by rw [HP00.out]; simp, rfl, Below.refl _ _⟩
  case round =>
    obtain ⟨k, hk, rfl, rfl, rfl, hbr⟩ := hrel
    by_cases hlt : k < len0
    · have hk1 : k < z0.length := by rw [HLN.out]; exact hlt
      obtain ⟨b, off, aw, lw, cw, rfl, hbl, hc0, hc1, hc2, hc3, hw1⟩ := ((HR.out.mono hb5).mono hbr).hcell k hk1
      have hlw : lw ≤ 300 := by rw [← hw1.hlen]; exact HL2.out _ (List.getElem_mem hk1)
      have hTk : Files.total (z0.take k) ≤ 60700 := by
        have h1 := Files.total_le (z0.take k) fun x hx => HL2.out x (List.mem_of_mem_take hx)
        have h2 : (z0.take k).length ≤ k := List.length_take_le k z0
        omega
      have HT1 : Hid (Files.total (z0.take (k + 1)) = Files.total (z0.take k) + (7 + 2 * lw)) := hide (by rw [Files.total_take z0 k hk1, hw1.hlen])
      have HA1 : Hid ((z0.take (k + 1)).all Files.okP = ((z0.take k).all Files.okP && (decide (z0[k].count.toNat = lw) && decide (0 < z0[k].count.toNat) && decide (0 < z0[k].file.toNat) && decide (z0[k].record.toNat ≤ 9999)))) := hide (by
        rw [all_take Files.okP z0 k hk1, ← hw1.hlen]; rfl)
      have wf := word_lt z0[k].file
      have wr' := word_lt z0[k].record
      have wc := word_lt z0[k].count
      obtain ⟨kf, hkf⟩ : ∃ n : Nat, n = z0[k].file.toNat := ⟨_, rfl⟩
      obtain ⟨kr, hkr⟩ : ∃ n : Nat, n = z0[k].record.toNat := ⟨_, rfl⟩
      obtain ⟨kc, hkc⟩ : ∃ n : Nat, n = z0[k].count.toNat := ⟨_, rfl⟩
      replace hc0 := hc0.trans (show some (wordV z0[k].file) = some (.int .u16 (kf : Int)) by rw [hkf])
      replace hc1 := hc1.trans (show some (wordV z0[k].record) = some (.int .u16 (kr : Int)) by rw [hkr])
      replace hc2 := hc2.trans (show some (wordV z0[k].count) = some (.int .u16 (kc : Int)) by rw [hkc])
      rw [← hkf, ← hkr, ← hkc] at HA1
      rw [← hkf] at wf
      rw [← hkr] at wr'
      rw [← hkc] at wc
      clear hkf hkr hkc
      generalize Files.total (z0.take k) = T at *
      generalize (z0.take k).all Files.okP = A at *
      have hwc : IntKind.i64.wrap (kc : Int) = (kc : Int) := by rw [IntKind.wrap_i64]; omega
      clear hw1 hbl
      by_cases h1 : kc = lw
      rotate_left
      · have g1'' : ¬ ((kc : Int) = (lw : Int)) := by omega
        have g1 : ((kc : Int) == (lw : Int)) = false := by simpa using g1''
        have g1' : ((kc : Int) != (lw : Int)) = true := by simpa using g1''
        go_wp2
        go_roundw
        case rel => exact ⟨k + 1, by omega, by go_num, by rw [HA1.out]; simp [h1], by rw [HT1.out]; go_num, hbr.trans ((Below.refl _ _).alloc hbr.size _)⟩
        case measure => simp [intOf]; omega
      subst h1
      by_cases h2 : 0 < kc
      rotate_left
      · obtain rfl : kc = 0 := by omega
        go_wp2
        go_roundw
        case rel => exact ⟨k + 1, by omega, by go_num, by rw [HA1.out]; simp [h2], by rw [HT1.out]; go_num, hbr.trans ((Below.refl _ _).alloc hbr.size _)⟩
        case measure => simp [intOf]; omega
      have g2 : ¬ kc = 0 := by omega
      by_cases h3 : 0 < kf
      rotate_left
      · obtain rfl : kf = 0 := by omega
        go_wp2
        go_roundw
        case rel => exact ⟨k + 1, by omega, by go_num, by rw [HA1.out]; simp [h3], by rw [HT1.out]; go_num, hbr.trans ((Below.refl _ _).alloc hbr.size _)⟩
        case measure => simp [intOf]; omega
      have g3 : ¬ kf = 0 := by omega
      have g7 : ((kc : Int) == 0) = false := by simp; omega
      have g8 : ((kf : Int) == 0) = false := by simp; omega
      by_cases h4 : kr ≤ 9999
      rotate_left
      · have g4 : (9999 : Int) < (kr : Int) := by omega
        go_wp2
        go_roundw
        case rel => exact ⟨k + 1, by omega, by go_num, by rw [HA1.out]; simp [h4], by rw [HT1.out]; go_num, hbr.trans ((Below.refl _ _).alloc hbr.size _)⟩
        case measure => simp [intOf]; omega
      have g4 : ¬ (9999 : Int) < (kr : Int) := by omega
      have g5 : (kr : Int) ≤ 9999 := by omega
      have g6 : decide ((9999 : Int) < (kr : Int)) = false := by simp; omega
      go_wp2
      go_roundw
      case rel => exact ⟨k + 1, by omega, by go_num, by rw [HA1.out]; simp [h2, h3, h4], by rw [HT1.out]; go_num, hbr.trans ((Below.refl _ _).alloc hbr.size _)⟩
      case measure => simp [intOf]; omega
    · obtain rfl : k = len0 := by omega
      have hT : z0.take k = z0 := List.take_of_length_le (by rw [HLN.out]; exact Nat.le_refl _)
      rw [hT]
      have HTT : Hid (Files.total z0 ≤ 60700) := hide (Nat.le_trans HTL.out (by rw [HLN.out]; omega))
      generalize (p0 && z0.all Files.okP) = qq at *
      generalize Files.total z0 = T at *
      have hTT := HTT.out
      obtain ⟨b1, hb1⟩ : ∃ b : Bool, b = decide (T ≤ 251) := ⟨_, rfl⟩
      have g1 : decide ((T : Int) ≤ 251) = b1 := by rw [hb1, Bool.eq_iff_iff]; simp; omega
      have hE0 : (E == 0) = (qq && b1) := by rw [HEW.out, hb1]
      have hEE : (E == E) = true := by simp
      obtain ⟨b2, hb2⟩ : ∃ b : Bool, b = (E == 0) := ⟨_, rfl⟩
      have g2 : (E == 0) = b2 := hb2.symm
      have HQ : Hid (b2 = (qq && b1)) := hide (by rw [hb2]; exact hE0)
      have HS := hide (same_any a4 a5 l4 c4 l5 c5 OW OW wr (HX4.out.mono hbr) (HX5.out.mono hbr))
      have HBE := hide (hb5.trans (hbr.mono hb5.size))
      clear hT hE0 hb1 hb2 HTT HTL HEW hp0' HP0 HP00 HCS HX4 HX5 hbr hb5
      go_wp2_with fail
      refine HS.out.mono ?_
      rintro e u6 ⟨rfl, rfl⟩
      simp only [decide_true]
      cases qq
      · have h2 : b2 = false := HQ.out
        subst h2
        go_wp2
        go_ret
        exact ⟨by first | rfl | simp, HBE.out⟩
      · have h2 : b2 = b1 := HQ.out
        subst h2
        cases b2
        all_goals
          go_wp2
          go_ret
          exact ⟨by first | rfl | simp, HBE.out⟩

/-! ### THE ROW's STEP: WRITTEN OUT: LEAVE IT -/
set_option maxRecDepth 100000 in
theorem lifted (os : Os) (started : os.Started) (H : Type) (enc : TypeId × Value → H) :
    ReturnsInHanded {} Try.checked os 7 .any (Rows.filesEchoesSpec.pre6 enc Try.prog Try.f7 Rows.filesEchoesRow.domain false) (Rows.filesEchoesSpec.post enc Try.prog Try.f7 false true false false) := by
  refine returnsInHanded_of_change (C := Try.checked) own started (by kernel_rfl) Try.func7
    (ChangeSpec.witness6 (enc := enc) (C := Try.checked) false ⟨#[], #[.slice none 0 0], []⟩ 8 (by kernel_rfl) (by kernel_rfl) (by kernel_rfl) (by kernel_rfl)) ?_
  intro W base args ds gs before hval0 hW hcnd _
  have hval : ∀ (j : Nat) t v, Try.f7.params[j]? = some t → args[j]? = some v → Value.okWide Try.prog W .any base t v := hval0
  have hW' := hW
  obtain ⟨p, q, hA0, hV, rfl, hfz, hnd⟩ := hW
  have hA : DataW.TrodAll enc Try.prog W 0 (fun _ => true) true Try.f7.params.toList args.toList ds p := hA0
  rw [Try.params7] at hA hval
  obtain ⟨v0, vs0, d0, ds0, p0, q0, hargs, rfl, rfl, h0, r0⟩ := trodAll_cons hA
  obtain ⟨rfl, rfl, rfl⟩ := trodAll_nil r0
  obtain rfl : args = #[v0] := by cases args; simp_all
  obtain ⟨rfl, rfl⟩ := trodVars_none hV
  obtain ⟨a0, len0, cap0, rfl⟩ := okWide_slice Try.underlying27 (hval 0 27 v0 rfl rfl)
  have k0 := h0
  have lt0 : ∀ x ∈ p0, x.block < W.heap.size := by obtain ⟨m, hm⟩ := k0; exact DataW.trod_lt m _ _ _ hm
  obtain ⟨z0, w0⟩ : ∃ zs, Rs W a0 len0 cap0 zs := by
    obtain ⟨fuel, hf⟩ := h0
    exact Rs.ofTrod hf
  clear hA0 hval0
  refine (walk a0 len0 cap0 z0 W w0).mono fun e W' ⟨he, bel⟩ => ?_
  subst he
  exact ⟨_, rfl, _, _, _, [], _, [], hW', trodAll_mk1 (shut_bool Try.underlying4 _), (trodAll_cons_mk (Below.trod laidOut (by kernel_rfl) (of_decide_eq_true (by kernel_rfl)) k0 bel lt0) trodAll_mk0), rfl, bel.frame _, fun h => by cases h⟩

theorem over : Rows.filesEchoesRow.holds Try.pinned (OpenSpec.ofChange Rows.filesEchoesSpec) :=
  OpenClaim.holds_of_wide 7 Try.f7 rfl rfl rfl rfl rfl rfl rfl ⟨rfl, rfl, rfl, rfl, rfl⟩ rfl rfl rfl rfl rfl (by kernel_rfl) Try.func7 (by kernel_rfl)
    (of_decide_eq_true (by kernel_rfl)) (by unfold Func.isWrapper; first | (rw [if_pos (by decide +kernel)]; kernel_rfl) | (rw [if_neg (by decide +kernel)]; exact ⟨rfl, rfl⟩))
    (fun os started H enc _ => lifted os started H enc)

/-- ████ THE STATEMENT ████ -/
theorem proved : Rows.FilesEchoesSaid := over
#print axioms proved
end Go.Proofs.Ytolkcohmoalnhaa.filesEchoes
