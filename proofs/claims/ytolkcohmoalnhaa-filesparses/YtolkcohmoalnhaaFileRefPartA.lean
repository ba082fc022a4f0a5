/-
  The document's own answers for files: its parts, those that are asked for.
-/
import Derived.Test.YtolkcohmoalnhaaJoinC
import Derived.BigRegion
import Derived.Deep.LoopGhost
import Derived.Deep.RegionHeld3
namespace Go.Proofs.Ytolkcohmoalnhaa
open Go.RowKit
open Word Bits Cursor

set_option maxRecDepth 20000 in
set_option maxHeartbeats 2000000 in
theorem refParts_ask (a : Option Addr) (l cc : Nat) (D : List UInt8) (w : World) (hx : Bs w a l cc D) (hl : l ≤ 900) :
    Calls Try.prog 26 #[.int .i64 0, .int .u8 20, .slice a l cc] w fun e w' =>
      (∃ ar lr cr, e = .returned (.tuple #[.slice ar lr cr, .int .i64 (blockE (Files.part 0) Files.step D)]) ∧ (blockE (Files.part 0) Files.step D = 0 → ∀ u, Off 0 w.heap.size w' u → Rs u ar lr cr (many (Files.part 0) Files.step D.length 0 (St.new D)).1)) ∧ Below w.heap.size w w' := by
  have HX := hide hx
  have HDL := hide hx.hlen
  clear hx
  obtain ⟨TOT, hT⟩ : ∃ T, T = many (Files.part 0) Files.step D.length 0 (St.new D) := ⟨_, rfl⟩
  obtain ⟨B, hB⟩ : ∃ B, B = blockE (Files.part 0) Files.step D := ⟨_, rfl⟩
  rw [← hT, ← hB]
  have HB : Hid (B = if TOT.2.e = 2 then 5 else TOT.2.e) := hide (by rw [hB, hT]; rfl)
  have HT := hide hT
  clear hT hB
  go_enter Try.func26, Try.ntmps26
  have e0 := heap_alloc_new w (refObj a l cc 0 false 0)
  have b0 := (Below.refl w.heap.size w).alloc (Nat.le_refl _) (refObj a l cc 0 false 0)
  have P0 := hide (QRd.start HX.out (by omega) b0 e0)
  unfold refObj at P0
  clear e0 b0
  go_wp2_with fail
  generalize w.alloc (.cells #[.slice a l cc, .int .i64 ((0 : Nat) : Int), .bool false, .int .i64 0] 81 (0, 0)) = u at *
  go_loopg [9, 10] D.length (fun m out sm wr => ∃ (pre : List RecM) (sum : Nat) (c : St) (a1 : Option Addr) (l1 c1 : Nat), out = .slice a1 l1 c1 ∧ sm = .int .i64 (sum : Int) ∧ Files.Tot 0 D pre m sum c ∧ c.xs.length ≤ m ∧ pre.length + c.xs.length ≤ l ∧ (c.e = 0 → sum ≤ 245) ∧ QRd w a l cc D pre c a1 l1 c1 wr)
  case atStart => exact ⟨[], 0, St.new D, none, 0, 0, rfl, rfl, Files.Tot.start 0 D, Nat.le_refl _, by show 0 + D.length ≤ l; have := HDL.out; omega, fun _ => by omega, P0.out⟩
  case round =>
    obtain ⟨pre, sum, c, a1, l1, c1, rfl, rfl, ht, hm, hfew, hsum, hP⟩ := hrel
    have h8 : c.xs.length ≤ 900 := by omega
    have hcount : pre.length = l1 := hP.own.count
    have hl1 : l1 ≤ 900 := by omega
    have HT1 := hide ht
    have HM1 := hide hm
    have HFW := hide hfew
    have HCN := hide hcount
    have HSM := hide hsum
    obtain ⟨nn, hnn⟩ : ∃ n : Nat, n = c.xs.length := ⟨_, rfl⟩
    have HNN := hide hnn
    have hleft := refLeft_any _ a l cc D c wr hP.cur
    rw [← hnn] at hleft
    have HP := hide hP
    have HLF := hide hleft
    clear ht hm hfew hcount hsum hnn hP hleft h8
    go_wp2_with fail
    refine HLF.out.mono ?_
    rintro e w2 ⟨rfl, n2, rfl⟩
    have HP2 := hide (HP.out.mono (below_draws (Below.refl _ _) n2))
    clear HP HLF
    generalize wr.drewN n2 = w2 at *
    obtain ⟨E, hE⟩ : ∃ e, e = c.e := ⟨_, rfl⟩
    have k3 := HP2.out.cur.err
    rw [← hE] at k3
    have HE := hide hE
    clear hE
    rcases Nat.eq_zero_or_pos nn with hz | hpos
    · subst hz
      have hdone := HT1.out.done (.inl (List.eq_nil_of_length_eq_zero HNN.out.symm))
      rw [← HT.out] at hdone
      have k3' : B = if E = 2 then 5 else E := by rw [HB.out, ← hdone.1, HE.out]
      have HQ := hide k3'
      have HDN := hide hdone.2
      clear hdone k3' HT1 HM1 HFW HCN HSM
      by_cases h2 : E = 2
      · subst h2
        obtain rfl : B = 5 := by rw [HQ.out]; rfl
        clear HQ HB
        go_wp2
        go_ret2
        exact ⟨⟨_, _, _, rfl, fun h => absurd h (by omega)⟩, HP2.out.below⟩
      · have h2' : (E == 2) = false := by simpa using h2
        obtain rfl : B = E := by rw [HQ.out, if_neg h2]
        clear HQ HB h2
        go_wp2
        go_quiet (fail)
        go_wp2
        go_ret2
        refine ⟨⟨_, _, _, rfl, fun _ u hu => ?_⟩, below_draws HP2.out.below nq⟩
        rw [← HDN.out]
        exact (HP2.out.mono (below_draws (Below.refl _ _) nq)).own.off (Nat.le_succ _) hu
    by_cases hE0 : E = 0
    rotate_left
    · have hdone := HT1.out.done (.inr (by rw [← HE.out]; exact hE0))
      have hgt : (0 : Int) < (nn : Int) := by omega
      have hne : (E == 0) = false := by simpa using hE0
      rw [← HT.out] at hdone
      have k3' : B = if E = 2 then 5 else E := by rw [HB.out, ← hdone.1, HE.out]
      have HQ := hide k3'
      have HDN := hide hdone.2
      clear hdone k3' HT1 HM1 HFW HCN HSM
      by_cases h2 : E = 2
      · subst h2
        obtain rfl : B = 5 := by rw [HQ.out]; rfl
        clear HQ HB
        go_wp2
        go_ret2
        exact ⟨⟨_, _, _, rfl, fun h => absurd h (by omega)⟩, HP2.out.below⟩
      · have h2' : (E == 2) = false := by simpa using h2
        obtain rfl : B = E := by rw [HQ.out, if_neg h2]
        clear HQ HB h2
        go_wp2
        go_quiet (fail)
        go_wp2
        go_ret2
        refine ⟨⟨_, _, _, rfl, fun _ u hu => ?_⟩, below_draws HP2.out.below nq⟩
        rw [← HDN.out]
        exact (HP2.out.mono (below_draws (Below.refl _ _) nq)).own.off (Nat.le_succ _) hu
    subst hE0
    have hgt : (0 : Int) < (nn : Int) := by omega
    have hne : c.xs ≠ [] := fun h => by have := HNN.out; rw [h] at this; simp at this; omega
    obtain ⟨k, hk, hT2, hm2⟩ := HT1.out.round hne HE.out.symm HM1.out
    have hlt := Files.part_lt 0 sum hne
    subst hk
    have hfw2 : pre.length + 1 + (Files.part 0 sum c).2.xs.length ≤ l := by have := HFW.out; omega
    have e5 := heap_alloc_new w2 (.cells zRec 43 (0, 0))
    have b5 := (Below.refl w2.heap.size w2).alloc (Nat.le_refl _) (.cells zRec 43 (0, 0))
    have HX5 := hide (HP2.out.open b5 e5)
    have HT2 := hide hT2
    have HM2 := hide hm2
    have HF2 := hide hfw2
    clear hT2 hm2 hfw2 hlt e5 b5 hne HT1 HM1
    obtain ⟨R, hR⟩ : ∃ R, R = Files.rHead c := ⟨_, rfl⟩
    obtain ⟨cn, hcn⟩ : ∃ n : Nat, n = R.1.2.toNat := ⟨_, rfl⟩
    have hcl : cn < 65536 := by rw [hcn]; exact word_lt _
    obtain ⟨o, ho⟩ : ∃ b : Bool, b = decide (sum + (2 + 2 * cn) ≤ 245) := ⟨_, rfl⟩
    have r1 : decide ((sum : Int) + 2 + 2 * (cn : Int) ≤ 245) = o := by rw [ho, Bool.eq_iff_iff]; simp; omega
    have hp : Files.part 0 sum c = (Files.headRec R.1 [], R.2.need o 5) := by rw [ho, hcn, hR]; rfl
    rw [hp] at HT2 HM2 HF2
    have hst : Files.step (Files.headRec R.1 []) = 2 + 2 * cn := by rw [hcn]; rfl
    simp only [hst] at HT2
    have hsu : o = true → sum + (2 + 2 * cn) ≤ 245 := by rw [ho]; exact of_decide_eq_true
    have HSU := hide hsu
    have hs0 : sum ≤ 245 := HSM.out HE.out.symm
    obtain ⟨n0, hn0⟩ : ∃ n : Nat, n = R.1.1.1.2.toNat := ⟨_, rfl⟩
    obtain ⟨n1, hn1⟩ : ∃ n : Nat, n = R.1.1.2.toNat := ⟨_, rfl⟩
    obtain ⟨cs, hcs⟩ : ∃ cs, cs = partC (Files.headRec R.1 []) (.slice none 0 0) := ⟨_, rfl⟩
    have hsz : (Try.prog.info? 43).map (·.size) = some cs.size := by rw [hcs]; exact rec_size _ _ _ _
    have HOLD : Hid ((4 : Nat) = cs.size) := hide (by rw [hcs]; rfl)
    have hone : cs.all (·.oneCell') = true := by rw [hcs]; exact rec_one _ _ _ _
    have HCS : Hid (cs = #[.int .u16 (n0 : Int), .int .u16 (n1 : Int), .int .u16 (cn : Int), .slice none 0 0]) := hide (by rw [hcs, hn0, hn1, hcn]; rfl)
    have HC2 : Hid (cs[2]? = some (.int .u16 (cn : Int))) := hide (by rw [HCS.out]; rfl)
    have HSRC : Hid (∀ (u : World) (t : TypeId), Src Try.prog 4 27 (.slice (some ⟨u.heap.size, 0, none⟩) 1 1) 1 (recCells (Files.headRec R.1 []) (.slice none 0 0)) (u.alloc (.cells #[.int .u16 (n0 : Int), .int .u16 (n1 : Int), .int .u16 (cn : Int), .slice none 0 0] t (0, 0)))) := hide (fun u t => by
      rw [← HCS.out, hcs]; exact one_src u (Files.headRec R.1 []) none 0 0 t)
    have HH := xr_head HX5.out
    rw [← hR, ← hcs] at HH
    have HR := hide hR
    have HHH := hide HH
    clear hR hcn hn0 hn1 ho hp hst hsu hcs HH HX5
    go_wp2_with fail
    refine HHH.out.mono ?_
    rintro e w6 ⟨rfl, h6⟩
    have hx6 := h6.x
    have HX6 := hide h6
    clear h6 HHH k3
    go_wp2_with ((with_reducible (show wpList _ _ _ ({ dst := _, op := Op.store _ _ _, type := _, pos := _, after := _, guard := _ } :: _) _ _)); refine wpList_store_lies rfl 43 _ _ rfl w2.heap.size cs rfl (by rfl) _ _ hx6 hsz HOLD.out hone ?_)
    intro w7 h7 b7 n7 z7
    have HX7 := hide (HX6.out.turn h7 b7 n7)
    have k7 := (HX7.out.cell 2).trans HC2.out
    clear HX6 hx6 h7 b7 n7 z7
    go_wp2_with fail
    refine (xr_need HX7.out o 5).mono ?_
    rintro e w8 ⟨rfl, h8⟩
    have hx8 := h8.x
    have HX8 := hide h8
    clear h8 HX7 k7
    have HX9 := hide (HX8.out.mono ((Below.refl _ _).alloc (Nat.le_refl _) (.cells #[.int .u16 (n0 : Int), .int .u16 (n1 : Int), .int .u16 (cn : Int), .slice none 0 0] 43 (0, 0))))
    go_wp2_with (first | ((with_reducible (show wpList _ _ _ ({ dst := _, op := Op.load _ _, type := _, pos := _, after := _, guard := _ } :: _) _ _)); refine wpList_load_row rfl 43 _ rfl w2.heap.size rfl 43 cs (0, 0) _ hx8 Try.underlying43 rfl hsz ?_; rw [HCS.out]) | (at_builtin; refine wpList_appP (by rfl) _ _ (by rfl) HP2.out (by rfl) HX9.out (Files.headRec R.1 []) none 0 0 (Own.empty _ _ _) (by rfl) (HSRC.out w8 _) (by omega) ?_))
    intro a9 c9 w9 h9
    have H9 := hide h9
    clear h9 HX9 HX8 HP2 HSRC
    go_wp2
    go_roundg k
    case measure => omega
    case rel => exact ⟨_, sum + (2 + 2 * cn), _, a9, l1 + 1, c9, rfl, by go_num, HT2.out, HM2.out, by have := HF2.out; simp; omega, fun h => HSU.out (St.need_zero h (by omega)).2.1, H9.out⟩

end Go.Proofs.Ytolkcohmoalnhaa
