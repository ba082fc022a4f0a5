/-
  The document's own answers for files: its parts, those that are told.
-/
import Derived.Test.YtolkcohmoalnhaaJoinC
import Derived.BigRegion
import Derived.Deep.LoopGhost
import Derived.Deep.RegionHeld3
namespace Go.Proofs.Ytolkcohmoalnhaa
open Go.RowKit
open Word Bits Cursor

set_option maxRecDepth 20000 in
set_option maxHeartbeats 2000000 in
theorem refParts_told (a : Option Addr) (l cc : Nat) (D : List UInt8) (w : World) (hx : Bs w a l cc D) (hl : l ≤ 900) :
    Calls Try.prog 26 #[.int .i64 1, .int .u8 20, .slice a l cc] w fun e w' =>
      (∃ ar lr cr, e = .returned (.tuple #[.slice ar lr cr, .int .i64 (blockE (Files.part 1) Files.step D)]) ∧ (blockE (Files.part 1) Files.step D = 0 → ∀ u, Off 0 w.heap.size w' u → Rs u ar lr cr (many (Files.part 1) Files.step D.length 0 (St.new D)).1)) ∧ Below w.heap.size w w' := by
  have HX := hide hx
  have HDL := hide hx.hlen
  clear hx
  obtain ⟨TOT, hT⟩ : ∃ T, T = many (Files.part 1) Files.step D.length 0 (St.new D) := ⟨_, rfl⟩
  obtain ⟨B, hB⟩ : ∃ B, B = blockE (Files.part 1) Files.step D := ⟨_, rfl⟩
  rw [← hT, ← hB]
  have HB : Hid (B = if TOT.2.e = 2 then 5 else TOT.2.e) := hide (by rw [hB, hT]; rfl)
  have HT := hide hT
  clear hT hB
  go_enter Try.func26, Try.ntmps26
  have e0 := heap_alloc_new w (refObj a l cc 0 false 0)
  have b0 := (Below.refl w.heap.size w).alloc (Nat.le_refl _) (refObj a l cc 0 false 0)
  have P0 := hide (QRd.start HX.out (by omega) b0 e0)
  unfold refObj at P0
  clear e0 b0
  go_wp2_with fail
  generalize w.alloc (.cells #[.slice a l cc, .int .i64 ((0 : Nat) : Int), .bool false, .int .i64 0] 81 (0, 0)) = u at *
  go_loopg [9, 10] D.length (fun m out sm wr => ∃ (pre : List RecM) (sum : Nat) (c : St) (a1 : Option Addr) (l1 c1 : Nat), out = .slice a1 l1 c1 ∧ sm = .int .i64 (sum : Int) ∧ Files.Tot 1 D pre m sum c ∧ c.xs.length ≤ m ∧ pre.length + c.xs.length ≤ l ∧ sum = 0 ∧ QRd w a l cc D pre c a1 l1 c1 wr)
  case atStart => exact ⟨[], 0, St.new D, none, 0, 0, rfl, rfl, Files.Tot.start 1 D, Nat.le_refl _, by show 0 + D.length ≤ l; have := HDL.out; omega, rfl, P0.out⟩
  case round =>
    obtain ⟨pre, sum, c, a1, l1, c1, rfl, rfl, ht, hm, hfew, hsum, hP⟩ := hrel
    have h8 : c.xs.length ≤ 900 := by omega
    have hcount : pre.length = l1 := hP.own.count
    have hl1 : l1 ≤ 900 := by omega
    have HT1 := hide ht
    have HM1 := hide hm
    have HFW := hide hfew
    have HCN := hide hcount
    have HSM := hide hsum
    obtain ⟨nn, hnn⟩ : ∃ n : Nat, n = c.xs.length := ⟨_, rfl⟩
    have HNN := hide hnn
    have hleft := refLeft_any _ a l cc D c wr hP.cur
    rw [← hnn] at hleft
    have HP := hide hP
    have HLF := hide hleft
    clear ht hm hfew hcount hsum hnn hP hleft h8
    go_wp2_with fail
    refine HLF.out.mono ?_
    rintro e w2 ⟨rfl, n2, rfl⟩
    have HP2 := hide (HP.out.mono (below_draws (Below.refl _ _) n2))
    clear HP HLF
    generalize wr.drewN n2 = w2 at *
    obtain ⟨E, hE⟩ : ∃ e, e = c.e := ⟨_, rfl⟩
    have k3 := HP2.out.cur.err
    rw [← hE] at k3
    have HE := hide hE
    clear hE
    rcases Nat.eq_zero_or_pos nn with hz | hpos
    · subst hz
      have hdone := HT1.out.done (.inl (List.eq_nil_of_length_eq_zero HNN.out.symm))
      rw [← HT.out] at hdone
      have k3' : B = if E = 2 then 5 else E := by rw [HB.out, ← hdone.1, HE.out]
      have HQ := hide k3'
      have HDN := hide hdone.2
      clear hdone k3' HT1 HM1 HFW HCN HSM
      by_cases h2 : E = 2
      · subst h2
        obtain rfl : B = 5 := by rw [HQ.out]; rfl
        clear HQ HB
        go_wp2
        go_ret2
        exact ⟨⟨_, _, _, rfl, fun h => absurd h (by omega)⟩, HP2.out.below⟩
      · have h2' : (E == 2) = false := by simpa using h2
        obtain rfl : B = E := by rw [HQ.out, if_neg h2]
        clear HQ HB h2
        go_wp2
        go_quiet (fail)
        go_wp2
        go_ret2
        refine ⟨⟨_, _, _, rfl, fun _ u hu => ?_⟩, below_draws HP2.out.below nq⟩
        rw [← HDN.out]
        exact (HP2.out.mono (below_draws (Below.refl _ _) nq)).own.off (Nat.le_succ _) hu
    by_cases hE0 : E = 0
    rotate_left
    · have hdone := HT1.out.done (.inr (by rw [← HE.out]; exact hE0))
      have hgt : (0 : Int) < (nn : Int) := by omega
      have hne : (E == 0) = false := by simpa using hE0
      rw [← HT.out] at hdone
      have k3' : B = if E = 2 then 5 else E := by rw [HB.out, ← hdone.1, HE.out]
      have HQ := hide k3'
      have HDN := hide hdone.2
      clear hdone k3' HT1 HM1 HFW HCN HSM
      by_cases h2 : E = 2
      · subst h2
        obtain rfl : B = 5 := by rw [HQ.out]; rfl
        clear HQ HB
        go_wp2
        go_ret2
        exact ⟨⟨_, _, _, rfl, fun h => absurd h (by omega)⟩, HP2.out.below⟩
      · have h2' : (E == 2) = false := by simpa using h2
        obtain rfl : B = E := by rw [HQ.out, if_neg h2]
        clear HQ HB h2
        go_wp2
        go_quiet (fail)
        go_wp2
        go_ret2
        refine ⟨⟨_, _, _, rfl, fun _ u hu => ?_⟩, below_draws HP2.out.below nq⟩
        rw [← HDN.out]
        exact (HP2.out.mono (below_draws (Below.refl _ _) nq)).own.off (Nat.le_succ _) hu
    subst hE0
    have hgt : (0 : Int) < (nn : Int) := by omega
    have hne : c.xs ≠ [] := fun h => by have := HNN.out; rw [h] at this; simp at this; omega
    obtain ⟨k, hk, hT2, hm2⟩ := HT1.out.round hne HE.out.symm HM1.out
    have hlt := Files.part_lt 1 sum hne
    subst hk
    have hfw2 : pre.length + 1 + (Files.part 1 sum c).2.xs.length ≤ l := by have := HFW.out; omega
    have e5 := heap_alloc_new w2 (.cells zRec 43 (0, 0))
    have b5 := (Below.refl w2.heap.size w2).alloc (Nat.le_refl _) (.cells zRec 43 (0, 0))
    have HX5 := hide (HP2.out.open b5 e5)
    have HT2 := hide hT2
    have HM2 := hide hm2
    have HF2 := hide hfw2
    clear hT2 hm2 hfw2 hlt e5 b5 hne HT1 HM1
    obtain ⟨x0, hx0⟩ : ∃ n : Nat, n = c.byte.toNat := ⟨_, rfl⟩
    have hbl : x0 < 256 := by rw [hx0]; exact byte_lt _
    obtain ⟨s1, hs1⟩ : ∃ s, s = c.afterB := ⟨_, rfl⟩
    obtain ⟨ln, hln⟩ : ∃ n : Nat, n = s1.xs.length := ⟨_, rfl⟩
    obtain ⟨o, ho⟩ : ∃ b : Bool, b = Files.toldOk x0 ln := ⟨_, rfl⟩
    obtain ⟨t, htt⟩ : ∃ s, s = s1.need o 5 := ⟨_, rfl⟩
    obtain ⟨j, hj⟩ : ∃ n : Nat, n = t.byte.toNat := ⟨_, rfl⟩
    obtain ⟨o6, ho6⟩ : ∃ b : Bool, b = decide (j = 6) := ⟨_, rfl⟩
    have r6 : ((j : Int) == 6) = o6 := by rw [ho6, Bool.eq_iff_iff]; simp; omega
    obtain ⟨u6, hu6⟩ : ∃ s, s = t.afterB.need o6 9 := ⟨_, rfl⟩
    obtain ⟨ws, hws⟩ : ∃ l, l = takeW (u6.got (((x0 - 1) / 2 : Nat) : Int) 2) := ⟨_, rfl⟩
    obtain ⟨c9, hc9⟩ : ∃ s, s = u6.next (((x0 - 1) / 2 : Nat) : Int) 2 := ⟨_, rfl⟩
    have hp : Files.part 1 sum c = (⟨0, 0, 0, ws⟩, c9) := by rw [hc9, hws, hu6, ho6, hj, htt, ho, hln, hs1, hx0]; rfl
    rw [hp] at HT2 HM2 HF2
    obtain rfl : sum = 0 := HSM.out
    have HH := xr_byte HX5.out
    rw [← hs1, show byteV c.byte = .int .u8 (x0 : Int) by rw [hx0]] at HH
    have HHH := hide HH
    have HK6 : Hid (byteV t.byte = .int .u8 (j : Int)) := hide (by rw [hj])
    have HTT := hide htt
    have HU6 := hide hu6
    have HWS := hide hws
    have HC9 := hide hc9
    have HLN := hide hln
    have HO := hide ho
    clear hs1 hx0 hj ho6 hp HH HX5 hws hc9 hln hu6 htt ho
    go_wp2_with fail
    refine HHH.out.mono ?_
    rintro e w6 ⟨rfl, h6⟩
    have HX6 := hide h6
    clear h6 HHH k3
    go_upto_region 8 with fail
    by_cases h1 : x0 % 2 = 1
    rotate_left
    · have o1 : o = false := by rw [HO.out]; simp [Files.toldOk, h1]
      subst o1
      have m1 : ((x0 : Int) % 2 == 1) = false := by simp; omega
      clear HO
      go_wp2_with fail
      refine (xr_need HX6.out _ 5).mono ?_
      rintro e w8 ⟨rfl, h8⟩
      rw [← HTT.out] at h8
      have HX8 := hide h8
      clear h8 HX6
      go_wp2_with fail
      refine (xr_byte HX8.out).mono ?_
      rintro e w9 ⟨rfl, h9⟩
      rw [HK6.out]
      have HX9 := hide h9
      clear h9 HX8
      go_wp2_with fail
      refine (xr_need HX9.out o6 9).mono ?_
      rintro e wz ⟨rfl, hz⟩
      rw [← HU6.out] at hz
      have HXZ := hide hz
      clear hz HX9
      go_wp2_with fail
      refine (xr_words HXZ.out _ ((x0 - 1) / 2) (by first | rfl | omega | exact half_any x0)).mono ?_
      rintro e w10 ⟨⟨aw, cw, rfl, how⟩, h10⟩
      rw [← HWS.out] at how ⊢
      rw [← HC9.out] at h10
      have k10 := h10.cell 3
      have f10 := h10.free 3
      obtain ⟨L, hL⟩ : ∃ n : Nat, n = ws.length := ⟨_, rfl⟩
      rw [← hL] at how ⊢
      have HOW := hide (Own.beside (i := 3) (v := .slice aw L cw) how)
      have HX11 := hide (h10.put 3 (.slice aw L cw))
      replace k10 : w10.cell? ⟨w2.heap.size, 3, none⟩ = some (.slice none 0 0) := k10
      clear how h10 hL HXZ
      go_upto_region 18 with fail
      generalize w10.setCell ⟨w2.heap.size, 3, none⟩ (.slice aw L cw) = w11 at *
      clear k10 f10
      have hx11 : w11.heap[w2.heap.size]? = some (.cells #[.int .u16 0, .int .u16 0, .int .u16 0, .slice aw L cw] 43 (0, 0)) := HX11.out.x
      have hsz11 : (Try.prog.info? 43).map (·.size) = some (#[.int .u16 0, .int .u16 0, .int .u16 0, .slice aw L cw] : Array Value).size := rec_size ⟨0, 0, 0, []⟩ aw L cw
      have b12 := (Below.refl w11.heap.size w11).alloc (Nat.le_refl _) (.cells #[.int .u16 0, .int .u16 0, .int .u16 0, .slice aw L cw] 43 (0, 0))
      have HX12 := hide (HX11.out.mono b12)
      have HOW2 := hide (HOW.out.mono b12)
      have hs12 : Src Try.prog 4 27 (.slice (some ⟨w11.heap.size, 0, none⟩) 1 1) 1 (recCells (⟨0, 0, 0, ws⟩ : RecM) (.slice aw L cw)) (w11.alloc (.cells #[.int .u16 0, .int .u16 0, .int .u16 0, .slice aw L cw] 43 (0, 0))) := by
        have := one_src w11 (⟨0, 0, 0, ws⟩ : RecM) aw L cw 43
        rw [show partC (⟨0, 0, 0, ws⟩ : RecM) (.slice aw L cw) = #[.int .u16 0, .int .u16 0, .int .u16 0, .slice aw L cw] by rfl] at this
        exact this
      have HSRC := hide hs12
      clear hs12 b12 HX11 HOW
      go_wp2_with (first | ((with_reducible (show wpList _ _ _ ({ dst := _, op := Op.load _ _, type := _, pos := _, after := _, guard := _ } :: _) _ _)); refine wpList_load_row rfl 43 _ rfl w2.heap.size rfl 43 #[.int .u16 0, .int .u16 0, .int .u16 0, .slice aw L cw] (0, 0) _ hx11 Try.underlying43 rfl hsz11 ?_) | (at_builtin; refine wpList_appP (by rfl) _ _ (by rfl) HP2.out (by rfl) HX12.out (⟨0, 0, 0, ws⟩ : RecM) aw L cw HOW2.out (by rfl) HSRC.out (by omega) ?_))
      intro a13 c13 w13 h13
      have H13 := hide h13
      clear h13 HX12 HP2 HSRC hx11 HOW2 hsz11
      go_wp2
      go_roundg k
      case measure => omega
      case rel => exact ⟨_, 0, _, a13, l1 + 1, c13, rfl, rfl, HT2.out.sum (by decide) 0, HM2.out, by have := HF2.out; simp; omega, rfl, H13.out⟩
    by_cases h3 : 3 ≤ x0
    rotate_left
    · have o1 : o = false := by rw [HO.out]; simp [Files.toldOk, h3]
      subst o1
      have m1 : ((x0 : Int) % 2 == 1) = true := by simp; omega
      have m3 : decide ((3 : Int) ≤ (x0 : Int)) = false := by simp; omega
      clear HO
      go_wp2_with fail
      refine (xr_need HX6.out _ 5).mono ?_
      rintro e w8 ⟨rfl, h8⟩
      rw [← HTT.out] at h8
      have HX8 := hide h8
      clear h8 HX6
      go_wp2_with fail
      refine (xr_byte HX8.out).mono ?_
      rintro e w9 ⟨rfl, h9⟩
      rw [HK6.out]
      have HX9 := hide h9
      clear h9 HX8
      go_wp2_with fail
      refine (xr_need HX9.out o6 9).mono ?_
      rintro e wz ⟨rfl, hz⟩
      rw [← HU6.out] at hz
      have HXZ := hide hz
      clear hz HX9
      go_wp2_with fail
      refine (xr_words HXZ.out _ ((x0 - 1) / 2) (by first | rfl | omega | exact half_any x0)).mono ?_
      rintro e w10 ⟨⟨aw, cw, rfl, how⟩, h10⟩
      rw [← HWS.out] at how ⊢
      rw [← HC9.out] at h10
      have k10 := h10.cell 3
      have f10 := h10.free 3
      obtain ⟨L, hL⟩ : ∃ n : Nat, n = ws.length := ⟨_, rfl⟩
      rw [← hL] at how ⊢
      have HOW := hide (Own.beside (i := 3) (v := .slice aw L cw) how)
      have HX11 := hide (h10.put 3 (.slice aw L cw))
      replace k10 : w10.cell? ⟨w2.heap.size, 3, none⟩ = some (.slice none 0 0) := k10
      clear how h10 hL HXZ
      go_upto_region 18 with fail
      generalize w10.setCell ⟨w2.heap.size, 3, none⟩ (.slice aw L cw) = w11 at *
      clear k10 f10
      have hx11 : w11.heap[w2.heap.size]? = some (.cells #[.int .u16 0, .int .u16 0, .int .u16 0, .slice aw L cw] 43 (0, 0)) := HX11.out.x
      have hsz11 : (Try.prog.info? 43).map (·.size) = some (#[.int .u16 0, .int .u16 0, .int .u16 0, .slice aw L cw] : Array Value).size := rec_size ⟨0, 0, 0, []⟩ aw L cw
      have b12 := (Below.refl w11.heap.size w11).alloc (Nat.le_refl _) (.cells #[.int .u16 0, .int .u16 0, .int .u16 0, .slice aw L cw] 43 (0, 0))
      have HX12 := hide (HX11.out.mono b12)
      have HOW2 := hide (HOW.out.mono b12)
      have hs12 : Src Try.prog 4 27 (.slice (some ⟨w11.heap.size, 0, none⟩) 1 1) 1 (recCells (⟨0, 0, 0, ws⟩ : RecM) (.slice aw L cw)) (w11.alloc (.cells #[.int .u16 0, .int .u16 0, .int .u16 0, .slice aw L cw] 43 (0, 0))) := by
        have := one_src w11 (⟨0, 0, 0, ws⟩ : RecM) aw L cw 43
        rw [show partC (⟨0, 0, 0, ws⟩ : RecM) (.slice aw L cw) = #[.int .u16 0, .int .u16 0, .int .u16 0, .slice aw L cw] by rfl] at this
        exact this
      have HSRC := hide hs12
      clear hs12 b12 HX11 HOW
      go_wp2_with (first | ((with_reducible (show wpList _ _ _ ({ dst := _, op := Op.load _ _, type := _, pos := _, after := _, guard := _ } :: _) _ _)); refine wpList_load_row rfl 43 _ rfl w2.heap.size rfl 43 #[.int .u16 0, .int .u16 0, .int .u16 0, .slice aw L cw] (0, 0) _ hx11 Try.underlying43 rfl hsz11 ?_) | (at_builtin; refine wpList_appP (by rfl) _ _ (by rfl) HP2.out (by rfl) HX12.out (⟨0, 0, 0, ws⟩ : RecM) aw L cw HOW2.out (by rfl) HSRC.out (by omega) ?_))
      intro a13 c13 w13 h13
      have H13 := hide h13
      clear h13 HX12 HP2 HSRC hx11 HOW2 hsz11
      go_wp2
      go_roundg k
      case measure => omega
      case rel => exact ⟨_, 0, _, a13, l1 + 1, c13, rfl, rfl, HT2.out.sum (by decide) 0, HM2.out, by have := HF2.out; simp; omega, rfl, H13.out⟩
    · have m1 : ((x0 : Int) % 2 == 1) = true := by simp; omega
      have m3 : decide ((3 : Int) ≤ (x0 : Int)) = true := by simp; omega
      have r1 : decide ((x0 : Int) ≤ (ln : Int)) = o := by rw [HO.out, Bool.eq_iff_iff]; simp [Files.toldOk, h1, h3]
      have r1' : decide (x0 ≤ ln) = o := by rw [HO.out, Bool.eq_iff_iff]; simp [Files.toldOk, h1, h3]
      clear HO
      go_wp2_with fail
      refine (xr_left HX6.out ln HLN.out).mono ?_
      rintro e w7 ⟨rfl, h7⟩
      have HX7 := hide h7
      clear h7 HX6
      go_wp2_with fail
      refine (xr_need HX7.out _ 5).mono ?_
      rintro e w8 ⟨rfl, h8⟩
      rw [← HTT.out] at h8
      have HX8 := hide h8
      clear h8 HX7
      go_wp2_with fail
      refine (xr_byte HX8.out).mono ?_
      rintro e w9 ⟨rfl, h9⟩
      rw [HK6.out]
      have HX9 := hide h9
      clear h9 HX8
      go_wp2_with fail
      refine (xr_need HX9.out o6 9).mono ?_
      rintro e wz ⟨rfl, hz⟩
      rw [← HU6.out] at hz
      have HXZ := hide hz
      clear hz HX9
      go_wp2_with fail
      refine (xr_words HXZ.out _ ((x0 - 1) / 2) (by first | rfl | omega | exact half_any x0)).mono ?_
      rintro e w10 ⟨⟨aw, cw, rfl, how⟩, h10⟩
      rw [← HWS.out] at how ⊢
      rw [← HC9.out] at h10
      have k10 := h10.cell 3
      have f10 := h10.free 3
      obtain ⟨L, hL⟩ : ∃ n : Nat, n = ws.length := ⟨_, rfl⟩
      rw [← hL] at how ⊢
      have HOW := hide (Own.beside (i := 3) (v := .slice aw L cw) how)
      have HX11 := hide (h10.put 3 (.slice aw L cw))
      replace k10 : w10.cell? ⟨w2.heap.size, 3, none⟩ = some (.slice none 0 0) := k10
      clear how h10 hL HXZ
      go_upto_region 18 with fail
      generalize w10.setCell ⟨w2.heap.size, 3, none⟩ (.slice aw L cw) = w11 at *
      clear k10 f10
      have hx11 : w11.heap[w2.heap.size]? = some (.cells #[.int .u16 0, .int .u16 0, .int .u16 0, .slice aw L cw] 43 (0, 0)) := HX11.out.x
      have hsz11 : (Try.prog.info? 43).map (·.size) = some (#[.int .u16 0, .int .u16 0, .int .u16 0, .slice aw L cw] : Array Value).size := rec_size ⟨0, 0, 0, []⟩ aw L cw
      have b12 := (Below.refl w11.heap.size w11).alloc (Nat.le_refl _) (.cells #[.int .u16 0, .int .u16 0, .int .u16 0, .slice aw L cw] 43 (0, 0))
      have HX12 := hide (HX11.out.mono b12)
      have HOW2 := hide (HOW.out.mono b12)
      have hs12 : Src Try.prog 4 27 (.slice (some ⟨w11.heap.size, 0, none⟩) 1 1) 1 (recCells (⟨0, 0, 0, ws⟩ : RecM) (.slice aw L cw)) (w11.alloc (.cells #[.int .u16 0, .int .u16 0, .int .u16 0, .slice aw L cw] 43 (0, 0))) := by
        have := one_src w11 (⟨0, 0, 0, ws⟩ : RecM) aw L cw 43
        rw [show partC (⟨0, 0, 0, ws⟩ : RecM) (.slice aw L cw) = #[.int .u16 0, .int .u16 0, .int .u16 0, .slice aw L cw] by rfl] at this
        exact this
      have HSRC := hide hs12
      clear hs12 b12 HX11 HOW
      go_wp2_with (first | ((with_reducible (show wpList _ _ _ ({ dst := _, op := Op.load _ _, type := _, pos := _, after := _, guard := _ } :: _) _ _)); refine wpList_load_row rfl 43 _ rfl w2.heap.size rfl 43 #[.int .u16 0, .int .u16 0, .int .u16 0, .slice aw L cw] (0, 0) _ hx11 Try.underlying43 rfl hsz11 ?_) | (at_builtin; refine wpList_appP (by rfl) _ _ (by rfl) HP2.out (by rfl) HX12.out (⟨0, 0, 0, ws⟩ : RecM) aw L cw HOW2.out (by rfl) HSRC.out (by omega) ?_))
      intro a13 c13 w13 h13
      have H13 := hide h13
      clear h13 HX12 HP2 HSRC hx11 HOW2 hsz11
      go_wp2
      go_roundg k
      case measure => omega
      case rel => exact ⟨_, 0, _, a13, l1 + 1, c13, rfl, rfl, HT2.out.sum (by decide) 0, HM2.out, by have := HF2.out; simp; omega, rfl, H13.out⟩

end Go.Proofs.Ytolkcohmoalnhaa
