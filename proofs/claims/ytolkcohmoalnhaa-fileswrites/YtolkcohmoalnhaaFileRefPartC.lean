/-
  The document's own answers for files: its parts, those that are written.
-/
import Derived.Test.YtolkcohmoalnhaaJoinC
import Derived.BigRegion
import Derived.Deep.LoopGhost
import Derived.Deep.RegionHeld3
namespace Go.Proofs.Ytolkcohmoalnhaa
open Go.RowKit
open Word Bits Cursor

set_option maxRecDepth 20000 in
set_option maxHeartbeats 2000000 in
theorem refParts_both0 (a : Option Addr) (l cc : Nat) (D : List UInt8) (w : World) (hx : Bs w a l cc D) (hl : l ≤ 900) :
    Calls Try.prog 26 #[.int .i64 0, .int .u8 21, .slice a l cc] w fun e w' =>
      (∃ ar lr cr, e = .returned (.tuple #[.slice ar lr cr, .int .i64 (blockE (Files.part 2) Files.step D)]) ∧ (blockE (Files.part 2) Files.step D = 0 → ∀ u, Off 0 w.heap.size w' u → Rs u ar lr cr (many (Files.part 2) Files.step D.length 0 (St.new D)).1)) ∧ Below w.heap.size w w' := by
  have HX := hide hx
  have HDL := hide hx.hlen
  clear hx
  obtain ⟨TOT, hT⟩ : ∃ T, T = many (Files.part 2) Files.step D.length 0 (St.new D) := ⟨_, rfl⟩
  obtain ⟨B, hB⟩ : ∃ B, B = blockE (Files.part 2) Files.step D := ⟨_, rfl⟩
  rw [← hT, ← hB]
  have HB : Hid (B = if TOT.2.e = 2 then 5 else TOT.2.e) := hide (by rw [hB, hT]; rfl)
  have HT := hide hT
  clear hT hB
  go_enter Try.func26, Try.ntmps26
  have e0 := heap_alloc_new w (refObj a l cc 0 false 0)
  have b0 := (Below.refl w.heap.size w).alloc (Nat.le_refl _) (refObj a l cc 0 false 0)
  have P0 := hide (QRd.start HX.out (by omega) b0 e0)
  unfold refObj at P0
  clear e0 b0
  go_wp2_with fail
  generalize w.alloc (.cells #[.slice a l cc, .int .i64 ((0 : Nat) : Int), .bool false, .int .i64 0] 81 (0, 0)) = u at *
  go_loopg [9, 10] D.length (fun m out sm wr => ∃ (pre : List RecM) (sum : Nat) (c : St) (a1 : Option Addr) (l1 c1 : Nat), out = .slice a1 l1 c1 ∧ sm = .int .i64 (sum : Int) ∧ Files.Tot 2 D pre m sum c ∧ c.xs.length ≤ m ∧ pre.length + c.xs.length ≤ l ∧ sum = 0 ∧ QRd w a l cc D pre c a1 l1 c1 wr)
  case atStart => exact ⟨[], 0, St.new D, none, 0, 0, rfl, rfl, Files.Tot.start 2 D, Nat.le_refl _, by show 0 + D.length ≤ l; have := HDL.out; omega, rfl, P0.out⟩
  case round =>
    obtain ⟨pre, sum, c, a1, l1, c1, rfl, rfl, ht, hm, hfew, hsum, hP⟩ := hrel
    have h8 : c.xs.length ≤ 900 := by omega
    have hcount : pre.length = l1 := hP.own.count
    have hl1 : l1 ≤ 900 := by omega
    have HT1 := hide ht
    have HM1 := hide hm
    have HFW := hide hfew
    have HCN := hide hcount
    have HSM := hide hsum
    obtain ⟨nn, hnn⟩ : ∃ n : Nat, n = c.xs.length := ⟨_, rfl⟩
    have HNN := hide hnn
    have hleft := refLeft_any _ a l cc D c wr hP.cur
    rw [← hnn] at hleft
    have HP := hide hP
    have HLF := hide hleft
    clear ht hm hfew hcount hsum hnn hP hleft h8
    go_wp2_with fail
    refine HLF.out.mono ?_
    rintro e w2 ⟨rfl, n2, rfl⟩
    have HP2 := hide (HP.out.mono (below_draws (Below.refl _ _) n2))
    clear HP HLF
    generalize wr.drewN n2 = w2 at *
    obtain ⟨E, hE⟩ : ∃ e, e = c.e := ⟨_, rfl⟩
    have k3 := HP2.out.cur.err
    rw [← hE] at k3
    have HE := hide hE
    clear hE
    rcases Nat.eq_zero_or_pos nn with hz | hpos
    · subst hz
      have hdone := HT1.out.done (.inl (List.eq_nil_of_length_eq_zero HNN.out.symm))
      rw [← HT.out] at hdone
      have k3' : B = if E = 2 then 5 else E := by rw [HB.out, ← hdone.1, HE.out]
      have HQ := hide k3'
      have HDN := hide hdone.2
      clear hdone k3' HT1 HM1 HFW HCN HSM
      by_cases h2 : E = 2
      · subst h2
        obtain rfl : B = 5 := by rw [HQ.out]; rfl
        clear HQ HB
        go_wp2
        go_ret2
        exact ⟨⟨_, _, _, rfl, fun h => absurd h (by omega)⟩, HP2.out.below⟩
      · have h2' : (E == 2) = false := by simpa using h2
        obtain rfl : B = E := by rw [HQ.out, if_neg h2]
        clear HQ HB h2
        go_wp2
        go_quiet (fail)
        go_wp2
        go_ret2
        refine ⟨⟨_, _, _, rfl, fun _ u hu => ?_⟩, below_draws HP2.out.below nq⟩
        rw [← HDN.out]
        exact (HP2.out.mono (below_draws (Below.refl _ _) nq)).own.off (Nat.le_succ _) hu
    by_cases hE0 : E = 0
    rotate_left
    · have hdone := HT1.out.done (.inr (by rw [← HE.out]; exact hE0))
      have hgt : (0 : Int) < (nn : Int) := by omega
      have hne : (E == 0) = false := by simpa using hE0
      rw [← HT.out] at hdone
      have k3' : B = if E = 2 then 5 else E := by rw [HB.out, ← hdone.1, HE.out]
      have HQ := hide k3'
      have HDN := hide hdone.2
      clear hdone k3' HT1 HM1 HFW HCN HSM
      by_cases h2 : E = 2
      · subst h2
        obtain rfl : B = 5 := by rw [HQ.out]; rfl
        clear HQ HB
        go_wp2
        go_ret2
        exact ⟨⟨_, _, _, rfl, fun h => absurd h (by omega)⟩, HP2.out.below⟩
      · have h2' : (E == 2) = false := by simpa using h2
        obtain rfl : B = E := by rw [HQ.out, if_neg h2]
        clear HQ HB h2
        go_wp2
        go_quiet (fail)
        go_wp2
        go_ret2
        refine ⟨⟨_, _, _, rfl, fun _ u hu => ?_⟩, below_draws HP2.out.below nq⟩
        rw [← HDN.out]
        exact (HP2.out.mono (below_draws (Below.refl _ _) nq)).own.off (Nat.le_succ _) hu
    subst hE0
    have hgt : (0 : Int) < (nn : Int) := by omega
    have hne : c.xs ≠ [] := fun h => by have := HNN.out; rw [h] at this; simp at this; omega
    obtain ⟨k, hk, hT2, hm2⟩ := HT1.out.round hne HE.out.symm HM1.out
    have hlt := Files.part_lt 2 sum hne
    subst hk
    have hfw2 : pre.length + 1 + (Files.part 2 sum c).2.xs.length ≤ l := by have := HFW.out; omega
    have e5 := heap_alloc_new w2 (.cells zRec 43 (0, 0))
    have b5 := (Below.refl w2.heap.size w2).alloc (Nat.le_refl _) (.cells zRec 43 (0, 0))
    have HX5 := hide (HP2.out.open b5 e5)
    have HT2 := hide hT2
    have HM2 := hide hm2
    have HF2 := hide hfw2
    clear hT2 hm2 hfw2 hlt e5 b5 hne HT1 HM1
    obtain ⟨R, hR⟩ : ∃ R, R = Files.rHead c := ⟨_, rfl⟩
    obtain ⟨cn, hcn⟩ : ∃ n : Nat, n = R.1.2.toNat := ⟨_, rfl⟩
    obtain ⟨n0, hn0⟩ : ∃ n : Nat, n = R.1.1.1.2.toNat := ⟨_, rfl⟩
    obtain ⟨n1, hn1⟩ : ∃ n : Nat, n = R.1.1.2.toNat := ⟨_, rfl⟩
    obtain ⟨ln, hln⟩ : ∃ n : Nat, n = R.2.xs.length := ⟨_, rfl⟩
    have hcl : cn < 65536 := by rw [hcn]; exact word_lt _
    obtain ⟨o, ho⟩ : ∃ b : Bool, b = decide (2 * cn ≤ ln) := ⟨_, rfl⟩
    have r1 : decide (2 * (cn : Int) ≤ (ln : Int)) = o := by rw [ho, Bool.eq_iff_iff]; simp; omega
    obtain ⟨ws, hws⟩ : ∃ l, l = takeW ((R.2.need o 5).got (cn : Int) 2) := ⟨_, rfl⟩
    obtain ⟨c9, hc9⟩ : ∃ s, s = (R.2.need o 5).next (cn : Int) 2 := ⟨_, rfl⟩
    have hp : Files.part 2 sum c = (Files.headRec R.1 ws, c9) := by rw [hc9, hws, ho, hln, hcn, hR]; rfl
    rw [hp] at HT2 HM2 HF2
    have hwk : IntKind.i64.wrap (cn : Int) = (cn : Int) := by rw [IntKind.wrap_i64]; omega
    have hw2 : IntKind.i64.wrap (2 * (cn : Int)) = 2 * (cn : Int) := by rw [IntKind.wrap_i64]; omega
    obtain rfl : sum = 0 := HSM.out
    obtain ⟨cs, hcs⟩ : ∃ cs, cs = partC (Files.headRec R.1 []) (.slice none 0 0) := ⟨_, rfl⟩
    have hsz : (Try.prog.info? 43).map (·.size) = some cs.size := by rw [hcs]; exact rec_size _ _ _ _
    have HOLD : Hid ((4 : Nat) = cs.size) := hide (by rw [hcs]; rfl)
    have hone : cs.all (·.oneCell') = true := by rw [hcs]; exact rec_one _ _ _ _
    have HCS : Hid (cs = #[.int .u16 (n0 : Int), .int .u16 (n1 : Int), .int .u16 (cn : Int), .slice none 0 0]) := hide (by rw [hcs, hn0, hn1, hcn]; rfl)
    have HH := xr_head HX5.out
    rw [← hR, ← hcs] at HH
    have HHH := hide HH
    have HLN := hide hln
    have HWS := hide hws
    have HC9 := hide hc9
    have HPC : Hid (∀ v : Value, partC (Files.headRec R.1 ws) v = #[.int .u16 (n0 : Int), .int .u16 (n1 : Int), .int .u16 (cn : Int), v]) := hide (fun v => by rw [hn0, hn1, hcn]; rfl)
    clear hR hcn hn0 hn1 ho hp hcs HH HX5 hws hc9 hln
    go_wp2_with fail
    refine HHH.out.mono ?_
    rintro e w6 ⟨rfl, h6⟩
    have hx6 := h6.x
    have HX6 := hide h6
    clear h6 HHH k3
    go_upto_region 13 with ((with_reducible (show wpList _ _ _ ({ dst := _, op := Op.store _ _ _, type := _, pos := _, after := _, guard := _ } :: _) _ _)); refine wpList_store_lies rfl 43 _ _ rfl w2.heap.size cs rfl (by rfl) _ _ hx6 hsz HOLD.out hone ?_)
    intro w7 h7 b7 n7 z7
    have hx7 := HX6.out.turn h7 b7 n7
    rw [HCS.out] at hx7
    have HX7 := hide hx7
    clear HX6 hx6 h7 b7 n7 z7 hx7 hsz hone HOLD HCS
    have k7 : w7.cell? ⟨w2.heap.size, 2, none⟩ = some (.int .u16 (cn : Int)) := HX7.out.cell 2
    go_upto_region 14 with fail
    have hD := HX7.out.mono (Below.refl _ _).drew
    go_region_held3 (fun w' => w'.cell? ⟨w2.heap.size, 2, none⟩ = some (.int .u16 (cn : Int)))
      (first
        | go_keep
        | exact hb.cell 2
        | exact ha.cell 2)
      (first
        | (go_at_call 41; refine (xr_left hD ln HLN.out).mono ?_; rintro r wa ⟨rfl, ha⟩)
        | (go_at_call 43; refine (xr_need ha o 5).mono ?_; rintro r wb ⟨rfl, hb⟩))
    have HX8 := hide hb
    have k8 : wb.cell? ⟨w2.heap.size, 2, none⟩ = some (.int .u16 (cn : Int)) := HX8.out.cell 2
    clear hb ha hD HX7 k7 hw2
    go_wp2_with fail
    refine (xr_words HX8.out _ cn rfl).mono ?_
    rintro e w10 ⟨⟨aw, cw, rfl, how⟩, h10⟩
    rw [← HWS.out] at how ⊢
    rw [← HC9.out] at h10
    have k10 := h10.cell 3
    have f10 := h10.free 3
    obtain ⟨L, hL⟩ : ∃ n : Nat, n = ws.length := ⟨_, rfl⟩
    rw [← hL] at how ⊢
    have HOW := hide (Own.beside (i := 3) (v := .slice aw L cw) how)
    have HX11 := hide (h10.put 3 (.slice aw L cw))
    replace k10 : w10.cell? ⟨w2.heap.size, 3, none⟩ = some (.slice none 0 0) := k10
    clear how h10 hL HX8 k8
    go_upto_region 18 with fail
    generalize w10.setCell ⟨w2.heap.size, 3, none⟩ (.slice aw L cw) = w11 at *
    clear k10 f10
    have hx11 : w11.heap[w2.heap.size]? = some (.cells #[.int .u16 (n0 : Int), .int .u16 (n1 : Int), .int .u16 (cn : Int), .slice aw L cw] 43 (0, 0)) := HX11.out.x
    have hsz11 : (Try.prog.info? 43).map (·.size) = some (#[.int .u16 (n0 : Int), .int .u16 (n1 : Int), .int .u16 (cn : Int), .slice aw L cw] : Array Value).size := rec_size ⟨0, 0, 0, []⟩ aw L cw
    have b12 := (Below.refl w11.heap.size w11).alloc (Nat.le_refl _) (.cells #[.int .u16 (n0 : Int), .int .u16 (n1 : Int), .int .u16 (cn : Int), .slice aw L cw] 43 (0, 0))
    have HX12 := hide (HX11.out.mono b12)
    have HOW2 := hide (HOW.out.mono b12)
    have hs12 : Src Try.prog 4 27 (.slice (some ⟨w11.heap.size, 0, none⟩) 1 1) 1 (recCells (Files.headRec R.1 ws) (.slice aw L cw)) (w11.alloc (.cells #[.int .u16 (n0 : Int), .int .u16 (n1 : Int), .int .u16 (cn : Int), .slice aw L cw] 43 (0, 0))) := by
      have := one_src w11 (Files.headRec R.1 ws) aw L cw 43
      rw [show partC (Files.headRec R.1 ws) (.slice aw L cw) = #[.int .u16 (n0 : Int), .int .u16 (n1 : Int), .int .u16 (cn : Int), .slice aw L cw] by exact HPC.out _] at this
      exact this
    have HSRC := hide hs12
    clear hs12 b12 HX11 HOW
    go_wp2_with (first | ((with_reducible (show wpList _ _ _ ({ dst := _, op := Op.load _ _, type := _, pos := _, after := _, guard := _ } :: _) _ _)); refine wpList_load_row rfl 43 _ rfl w2.heap.size rfl 43 #[.int .u16 (n0 : Int), .int .u16 (n1 : Int), .int .u16 (cn : Int), .slice aw L cw] (0, 0) _ hx11 Try.underlying43 rfl hsz11 ?_) | (at_builtin; refine wpList_appP (by rfl) _ _ (by rfl) HP2.out (by rfl) HX12.out (Files.headRec R.1 ws) aw L cw HOW2.out (by rfl) HSRC.out (by omega) ?_))
    intro a13 c13 w13 h13
    have H13 := hide h13
    clear h13 HX12 HP2 HSRC hx11 HOW2 hsz11
    go_wp2
    go_roundg k
    case measure => omega
    case rel => exact ⟨_, 0, _, a13, l1 + 1, c13, rfl, rfl, HT2.out.sum (by decide) 0, HM2.out, by have := HF2.out; simp; omega, rfl, H13.out⟩
set_option maxRecDepth 20000 in
set_option maxHeartbeats 2000000 in
theorem refParts_both1 (a : Option Addr) (l cc : Nat) (D : List UInt8) (w : World) (hx : Bs w a l cc D) (hl : l ≤ 900) :
    Calls Try.prog 26 #[.int .i64 1, .int .u8 21, .slice a l cc] w fun e w' =>
      (∃ ar lr cr, e = .returned (.tuple #[.slice ar lr cr, .int .i64 (blockE (Files.part 2) Files.step D)]) ∧ (blockE (Files.part 2) Files.step D = 0 → ∀ u, Off 0 w.heap.size w' u → Rs u ar lr cr (many (Files.part 2) Files.step D.length 0 (St.new D)).1)) ∧ Below w.heap.size w w' := by
  have HX := hide hx
  have HDL := hide hx.hlen
  clear hx
  obtain ⟨TOT, hT⟩ : ∃ T, T = many (Files.part 2) Files.step D.length 0 (St.new D) := ⟨_, rfl⟩
  obtain ⟨B, hB⟩ : ∃ B, B = blockE (Files.part 2) Files.step D := ⟨_, rfl⟩
  rw [← hT, ← hB]
  have HB : Hid (B = if TOT.2.e = 2 then 5 else TOT.2.e) := hide (by rw [hB, hT]; rfl)
  have HT := hide hT
  clear hT hB
  go_enter Try.func26, Try.ntmps26
  have e0 := heap_alloc_new w (refObj a l cc 0 false 0)
  have b0 := (Below.refl w.heap.size w).alloc (Nat.le_refl _) (refObj a l cc 0 false 0)
  have P0 := hide (QRd.start HX.out (by omega) b0 e0)
  unfold refObj at P0
  clear e0 b0
  go_wp2_with fail
  generalize w.alloc (.cells #[.slice a l cc, .int .i64 ((0 : Nat) : Int), .bool false, .int .i64 0] 81 (0, 0)) = u at *
  go_loopg [9, 10] D.length (fun m out sm wr => ∃ (pre : List RecM) (sum : Nat) (c : St) (a1 : Option Addr) (l1 c1 : Nat), out = .slice a1 l1 c1 ∧ sm = .int .i64 (sum : Int) ∧ Files.Tot 2 D pre m sum c ∧ c.xs.length ≤ m ∧ pre.length + c.xs.length ≤ l ∧ sum = 0 ∧ QRd w a l cc D pre c a1 l1 c1 wr)
  case atStart => exact ⟨[], 0, St.new D, none, 0, 0, rfl, rfl, Files.Tot.start 2 D, Nat.le_refl _, by show 0 + D.length ≤ l; have := HDL.out; omega, rfl, P0.out⟩
  case round =>
    obtain ⟨pre, sum, c, a1, l1, c1, rfl, rfl, ht, hm, hfew, hsum, hP⟩ := hrel
    have h8 : c.xs.length ≤ 900 := by omega
    have hcount : pre.length = l1 := hP.own.count
    have hl1 : l1 ≤ 900 := by omega
    have HT1 := hide ht
    have HM1 := hide hm
    have HFW := hide hfew
    have HCN := hide hcount
    have HSM := hide hsum
    obtain ⟨nn, hnn⟩ : ∃ n : Nat, n = c.xs.length := ⟨_, rfl⟩
    have HNN := hide hnn
    have hleft := refLeft_any _ a l cc D c wr hP.cur
    rw [← hnn] at hleft
    have HP := hide hP
    have HLF := hide hleft
    clear ht hm hfew hcount hsum hnn hP hleft h8
    go_wp2_with fail
    refine HLF.out.mono ?_
    rintro e w2 ⟨rfl, n2, rfl⟩
    have HP2 := hide (HP.out.mono (below_draws (Below.refl _ _) n2))
    clear HP HLF
    generalize wr.drewN n2 = w2 at *
    obtain ⟨E, hE⟩ : ∃ e, e = c.e := ⟨_, rfl⟩
    have k3 := HP2.out.cur.err
    rw [← hE] at k3
    have HE := hide hE
    clear hE
    rcases Nat.eq_zero_or_pos nn with hz | hpos
    · subst hz
      have hdone := HT1.out.done (.inl (List.eq_nil_of_length_eq_zero HNN.out.symm))
      rw [← HT.out] at hdone
      have k3' : B = if E = 2 then 5 else E := by rw [HB.out, ← hdone.1, HE.out]
      have HQ := hide k3'
      have HDN := hide hdone.2
      clear hdone k3' HT1 HM1 HFW HCN HSM
      by_cases h2 : E = 2
      · subst h2
        obtain rfl : B = 5 := by rw [HQ.out]; rfl
        clear HQ HB
        go_wp2
        go_ret2
        exact ⟨⟨_, _, _, rfl, fun h => absurd h (by omega)⟩, HP2.out.below⟩
      · have h2' : (E == 2) = false := by simpa using h2
        obtain rfl : B = E := by rw [HQ.out, if_neg h2]
        clear HQ HB h2
        go_wp2
        go_quiet (fail)
        go_wp2
        go_ret2
        refine ⟨⟨_, _, _, rfl, fun _ u hu => ?_⟩, below_draws HP2.out.below nq⟩
        rw [← HDN.out]
        exact (HP2.out.mono (below_draws (Below.refl _ _) nq)).own.off (Nat.le_succ _) hu
    by_cases hE0 : E = 0
    rotate_left
    · have hdone := HT1.out.done (.inr (by rw [← HE.out]; exact hE0))
      have hgt : (0 : Int) < (nn : Int) := by omega
      have hne : (E == 0) = false := by simpa using hE0
      rw [← HT.out] at hdone
      have k3' : B = if E = 2 then 5 else E := by rw [HB.out, ← hdone.1, HE.out]
      have HQ := hide k3'
      have HDN := hide hdone.2
      clear hdone k3' HT1 HM1 HFW HCN HSM
      by_cases h2 : E = 2
      · subst h2
        obtain rfl : B = 5 := by rw [HQ.out]; rfl
        clear HQ HB
        go_wp2
        go_ret2
        exact ⟨⟨_, _, _, rfl, fun h => absurd h (by omega)⟩, HP2.out.below⟩
      · have h2' : (E == 2) = false := by simpa using h2
        obtain rfl : B = E := by rw [HQ.out, if_neg h2]
        clear HQ HB h2
        go_wp2
        go_quiet (fail)
        go_wp2
        go_ret2
        refine ⟨⟨_, _, _, rfl, fun _ u hu => ?_⟩, below_draws HP2.out.below nq⟩
        rw [← HDN.out]
        exact (HP2.out.mono (below_draws (Below.refl _ _) nq)).own.off (Nat.le_succ _) hu
    subst hE0
    have hgt : (0 : Int) < (nn : Int) := by omega
    have hne : c.xs ≠ [] := fun h => by have := HNN.out; rw [h] at this; simp at this; omega
    obtain ⟨k, hk, hT2, hm2⟩ := HT1.out.round hne HE.out.symm HM1.out
    have hlt := Files.part_lt 2 sum hne
    subst hk
    have hfw2 : pre.length + 1 + (Files.part 2 sum c).2.xs.length ≤ l := by have := HFW.out; omega
    have e5 := heap_alloc_new w2 (.cells zRec 43 (0, 0))
    have b5 := (Below.refl w2.heap.size w2).alloc (Nat.le_refl _) (.cells zRec 43 (0, 0))
    have HX5 := hide (HP2.out.open b5 e5)
    have HT2 := hide hT2
    have HM2 := hide hm2
    have HF2 := hide hfw2
    clear hT2 hm2 hfw2 hlt e5 b5 hne HT1 HM1
    obtain ⟨R, hR⟩ : ∃ R, R = Files.rHead c := ⟨_, rfl⟩
    obtain ⟨cn, hcn⟩ : ∃ n : Nat, n = R.1.2.toNat := ⟨_, rfl⟩
    obtain ⟨n0, hn0⟩ : ∃ n : Nat, n = R.1.1.1.2.toNat := ⟨_, rfl⟩
    obtain ⟨n1, hn1⟩ : ∃ n : Nat, n = R.1.1.2.toNat := ⟨_, rfl⟩
    obtain ⟨ln, hln⟩ : ∃ n : Nat, n = R.2.xs.length := ⟨_, rfl⟩
    have hcl : cn < 65536 := by rw [hcn]; exact word_lt _
    obtain ⟨o, ho⟩ : ∃ b : Bool, b = decide (2 * cn ≤ ln) := ⟨_, rfl⟩
    have r1 : decide (2 * (cn : Int) ≤ (ln : Int)) = o := by rw [ho, Bool.eq_iff_iff]; simp; omega
    obtain ⟨ws, hws⟩ : ∃ l, l = takeW ((R.2.need o 5).got (cn : Int) 2) := ⟨_, rfl⟩
    obtain ⟨c9, hc9⟩ : ∃ s, s = (R.2.need o 5).next (cn : Int) 2 := ⟨_, rfl⟩
    have hp : Files.part 2 sum c = (Files.headRec R.1 ws, c9) := by rw [hc9, hws, ho, hln, hcn, hR]; rfl
    rw [hp] at HT2 HM2 HF2
    have hwk : IntKind.i64.wrap (cn : Int) = (cn : Int) := by rw [IntKind.wrap_i64]; omega
    have hw2 : IntKind.i64.wrap (2 * (cn : Int)) = 2 * (cn : Int) := by rw [IntKind.wrap_i64]; omega
    obtain rfl : sum = 0 := HSM.out
    obtain ⟨cs, hcs⟩ : ∃ cs, cs = partC (Files.headRec R.1 []) (.slice none 0 0) := ⟨_, rfl⟩
    have hsz : (Try.prog.info? 43).map (·.size) = some cs.size := by rw [hcs]; exact rec_size _ _ _ _
    have HOLD : Hid ((4 : Nat) = cs.size) := hide (by rw [hcs]; rfl)
    have hone : cs.all (·.oneCell') = true := by rw [hcs]; exact rec_one _ _ _ _
    have HCS : Hid (cs = #[.int .u16 (n0 : Int), .int .u16 (n1 : Int), .int .u16 (cn : Int), .slice none 0 0]) := hide (by rw [hcs, hn0, hn1, hcn]; rfl)
    have HH := xr_head HX5.out
    rw [← hR, ← hcs] at HH
    have HHH := hide HH
    have HLN := hide hln
    have HWS := hide hws
    have HC9 := hide hc9
    have HPC : Hid (∀ v : Value, partC (Files.headRec R.1 ws) v = #[.int .u16 (n0 : Int), .int .u16 (n1 : Int), .int .u16 (cn : Int), v]) := hide (fun v => by rw [hn0, hn1, hcn]; rfl)
    clear hR hcn hn0 hn1 ho hp hcs HH HX5 hws hc9 hln
    go_wp2_with fail
    refine HHH.out.mono ?_
    rintro e w6 ⟨rfl, h6⟩
    have hx6 := h6.x
    have HX6 := hide h6
    clear h6 HHH k3
    go_upto_region 13 with ((with_reducible (show wpList _ _ _ ({ dst := _, op := Op.store _ _ _, type := _, pos := _, after := _, guard := _ } :: _) _ _)); refine wpList_store_lies rfl 43 _ _ rfl w2.heap.size cs rfl (by rfl) _ _ hx6 hsz HOLD.out hone ?_)
    intro w7 h7 b7 n7 z7
    have hx7 := HX6.out.turn h7 b7 n7
    rw [HCS.out] at hx7
    have HX7 := hide hx7
    clear HX6 hx6 h7 b7 n7 z7 hx7 hsz hone HOLD HCS
    have k7 : w7.cell? ⟨w2.heap.size, 2, none⟩ = some (.int .u16 (cn : Int)) := HX7.out.cell 2
    go_upto_region 14 with fail
    have hD := HX7.out.mono (Below.refl _ _).drew
    go_region_held3 (fun w' => w'.cell? ⟨w2.heap.size, 2, none⟩ = some (.int .u16 (cn : Int)))
      (first
        | go_keep
        | exact hb.cell 2
        | exact ha.cell 2)
      (first
        | (go_at_call 41; refine (xr_left hD ln HLN.out).mono ?_; rintro r wa ⟨rfl, ha⟩)
        | (go_at_call 43; refine (xr_need ha o 5).mono ?_; rintro r wb ⟨rfl, hb⟩))
    have HX8 := hide hb
    have k8 : wb.cell? ⟨w2.heap.size, 2, none⟩ = some (.int .u16 (cn : Int)) := HX8.out.cell 2
    clear hb ha hD HX7 k7 hw2
    go_wp2_with fail
    refine (xr_words HX8.out _ cn rfl).mono ?_
    rintro e w10 ⟨⟨aw, cw, rfl, how⟩, h10⟩
    rw [← HWS.out] at how ⊢
    rw [← HC9.out] at h10
    have k10 := h10.cell 3
    have f10 := h10.free 3
    obtain ⟨L, hL⟩ : ∃ n : Nat, n = ws.length := ⟨_, rfl⟩
    rw [← hL] at how ⊢
    have HOW := hide (Own.beside (i := 3) (v := .slice aw L cw) how)
    have HX11 := hide (h10.put 3 (.slice aw L cw))
    replace k10 : w10.cell? ⟨w2.heap.size, 3, none⟩ = some (.slice none 0 0) := k10
    clear how h10 hL HX8 k8
    go_upto_region 18 with fail
    generalize w10.setCell ⟨w2.heap.size, 3, none⟩ (.slice aw L cw) = w11 at *
    clear k10 f10
    have hx11 : w11.heap[w2.heap.size]? = some (.cells #[.int .u16 (n0 : Int), .int .u16 (n1 : Int), .int .u16 (cn : Int), .slice aw L cw] 43 (0, 0)) := HX11.out.x
    have hsz11 : (Try.prog.info? 43).map (·.size) = some (#[.int .u16 (n0 : Int), .int .u16 (n1 : Int), .int .u16 (cn : Int), .slice aw L cw] : Array Value).size := rec_size ⟨0, 0, 0, []⟩ aw L cw
    have b12 := (Below.refl w11.heap.size w11).alloc (Nat.le_refl _) (.cells #[.int .u16 (n0 : Int), .int .u16 (n1 : Int), .int .u16 (cn : Int), .slice aw L cw] 43 (0, 0))
    have HX12 := hide (HX11.out.mono b12)
    have HOW2 := hide (HOW.out.mono b12)
    have hs12 : Src Try.prog 4 27 (.slice (some ⟨w11.heap.size, 0, none⟩) 1 1) 1 (recCells (Files.headRec R.1 ws) (.slice aw L cw)) (w11.alloc (.cells #[.int .u16 (n0 : Int), .int .u16 (n1 : Int), .int .u16 (cn : Int), .slice aw L cw] 43 (0, 0))) := by
      have := one_src w11 (Files.headRec R.1 ws) aw L cw 43
      rw [show partC (Files.headRec R.1 ws) (.slice aw L cw) = #[.int .u16 (n0 : Int), .int .u16 (n1 : Int), .int .u16 (cn : Int), .slice aw L cw] by exact HPC.out _] at this
      exact this
    have HSRC := hide hs12
    clear hs12 b12 HX11 HOW
    go_wp2_with (first | ((with_reducible (show wpList _ _ _ ({ dst := _, op := Op.load _ _, type := _, pos := _, after := _, guard := _ } :: _) _ _)); refine wpList_load_row rfl 43 _ rfl w2.heap.size rfl 43 #[.int .u16 (n0 : Int), .int .u16 (n1 : Int), .int .u16 (cn : Int), .slice aw L cw] (0, 0) _ hx11 Try.underlying43 rfl hsz11 ?_) | (at_builtin; refine wpList_appP (by rfl) _ _ (by rfl) HP2.out (by rfl) HX12.out (Files.headRec R.1 ws) aw L cw HOW2.out (by rfl) HSRC.out (by omega) ?_))
    intro a13 c13 w13 h13
    have H13 := hide h13
    clear h13 HX12 HP2 HSRC hx11 HOW2 hsz11
    go_wp2
    go_roundg k
    case measure => omega
    case rel => exact ⟨_, 0, _, a13, l1 + 1, c13, rfl, rfl, HT2.out.sum (by decide) 0, HM2.out, by have := HF2.out; simp; omega, rfl, H13.out⟩

end Go.Proofs.Ytolkcohmoalnhaa
