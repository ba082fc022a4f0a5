/-
  Package mei: the contract of Parse.
-/
import Derived.Test.YtaokbaddleplfaaMeiForm
import Derived.Test.YtaokbaddleplfaaStoreStep
namespace Go.Proofs.Ytaokbaddleplfaa
open Go.RowKit
open Word Bits Cursor

namespace Mei
theorem err_none {dir : Int} {c : UInt8} (h : formOf dir c = none) : errF dir c ≠ 0 := by
  unfold errF
  rw [h]
  show (if _ then (4 : Int) else 1) ≠ 0
  split <;> omega
theorem err_some {dir : Int} {c : UInt8} {f : Frm} (h : formOf dir c = some f) : errF dir c = 0 := by unfold errF; rw [h]
theorem finish_both {m m' : MsgM} {s s' : St} (h : s.e ≠ 0) (h' : s'.e = s.e) : finish (m, s) = finish (m', s') := by
  have hk : s'.e ≠ 0 := by rw [h']; exact h
  unfold finish
  simp only [St.end_bad _ h, St.end_bad _ hk, h', if_neg h]
theorem need_false (c : St) (e : Int) (h : e ≠ 0) : (c.need false e).e ≠ 0 := by
  unfold Cursor.St.need
  by_cases h0 : c.e = 0
  · rw [if_pos ⟨h0, rfl⟩]; exact h
  · rw [if_neg (fun h => h0 h.1)]; exact h0
theorem code_one (c : UInt8) : (codeCells c).all (·.oneCell') = true := by simp [Value.oneCell']
theorem form_zero (w : World) : (zeroValue 58).run Try.prog w = .ok (.agg #[.nilFunc, .nilFunc]) w := by first | rfl | kernel_rfl | simp [zeroValue]
theorem pair_one (f1 f2 : Fn) (p1 p2 c1 c2 : Array Value) : (#[Value.func f1 p1 c1, Value.func f2 p2 c2].all (·.oneCell')) = true := by simp [Value.oneCell']
theorem nil_one : (#[Value.nilFunc, Value.nilFunc].all (·.oneCell')) = true := by simp [Value.oneCell']
/-- What a look-up yields: two functions. -/
def lookC (f : Frm) (a : UInt8) : Array Value := if isMei a = true then #[fnV (rdOf f a), fnV (wrOf f a)] else #[.nilFunc, .nilFunc]
theorem look_size (f : Frm) (a : UInt8) : (lookC f a).size = 2 := by unfold lookC; split <;> rfl
theorem look_one (f : Frm) (a : UInt8) : (lookC f a).all (·.oneCell') = true := by unfold lookC; split <;> simp [Value.oneCell']
theorem look_any {w : World} {b : Nat} {f : Frm} (h : Tab w b (tab f)) (a : UInt8) {n : Nat} (hn : n = a.toNat) :
    (Instr.lookup 49 (.map (some b)) (.int .u8 (n : Int)) true).run Try.prog w = .ok (.tuple #[.agg (lookC f a), .bool (isMei a)]) w := by
  have := run_tab (P := Try.prog) h 49 5 58 Try.underlying49 Try.underlying5 _ (form_zero w) n
  rw [this, hn, tab_at]
  unfold lookC
  cases isMei a <;> rfl
theorem lookC_size (cs : Array Value) (h : cs.size = 2) : (Try.prog.info? 58).map (·.size) = some cs.size := by rw [h]; kernel_rfl
end Mei

set_option maxRecDepth 20000 in
set_option maxHeartbeats 4000000 in
theorem meiParse_any (dir : Int) (c : UInt8) (a : Option Addr) (len cap : Nat) (xs : List UInt8) (w : World) (hx : Bs w a len cap xs) (hlen : len ≤ 100000) :
    Calls Try.prog 12 #[.int .i64 dir, byteV c, .slice a len cap] w fun e w' =>
      (∃ v, e = .returned (.tuple #[v, .int .i64 (Mei.parse dir c xs).2]) ∧ MsgAt w' v (Mei.parse dir c xs).1) ∧ Below w.heap.size w w' := by
  have HX := hide hx
  clear hx
  obtain ⟨R, hR⟩ : ∃ R, R = Mei.parse dir c xs := ⟨_, rfl⟩
  rw [← hR]
  have HR := hide hR
  clear hR
  have e0 := heap_alloc_new w (.cells zeroCells 30 (0, 0))
  have b0 := (Below.refl w.heap.size w).alloc (Nat.le_refl _) (.cells zeroCells 30 (0, 0))
  go_enter Try.func12, Try.ntmps12
  go_wp2_with fail
  replace HX := hide (HX.out.mono b0)
  generalize w.alloc (.cells zeroCells 30 (0, 0)) = u at *
  refine (formsOf_any dir c u).mono ?_
  rintro e w1 ⟨⟨mv, rfl, hv⟩, hb⟩
  replace e0 := (hb.block _ (lt_of_block e0)).trans e0
  replace b0 := b0.trans (hb.mono b0.size)
  replace HX := hide (HX.out.mono hb)
  have s0 := lt_of_block e0
  have HV := hide hv
  clear hb hv
  generalize hE : Mei.errF dir c = E at *
  have HE := hide hE
  clear hE
  cases hfo : Mei.formOf dir c with
  | none =>
    have hR : Hid (R = (MsgM.zero, E)) := hide (by rw [HR.out, Mei.parse_none hfo, HE.out])
    have hne := Mei.err_none hfo
    rw [HE.out] at hne
    have hq : (E != 0) = true := by simpa using hne
    obtain rfl := HV.out.1 hfo
    clear HR HV HX hfo HE hne
    go_wp2_with ((with_reducible (show wpList _ _ _ ({ dst := _, op := Op.store _ _ _, type := _, pos := _, after := _, guard := _ } :: _) _ _)); refine wpList_store_lies rfl 30 _ _ rfl w.heap.size zeroCells rfl rfl _ _ e0 (msg_size _ rfl) rfl zero_one ?_)
    intro w3 h3 b3 n3 z3
    go_wp2
    (try simp only [Exit.inBlock, Exit.then])
    rw [hR.out]
    exact bodyPost_ret (results_row_tmp Try.results12 _ _ w.heap.size _ _ _ _ rfl h3 Try.underlying30 rfl (msg_size _ rfl) _ rfl) rfl ⟨⟨_, rfl, MsgAt.zero _⟩, b0.trans (b3 _ (Nat.le_refl _))⟩
  | some f =>
    have hE0 : E = 0 := by rw [← HE.out]; exact Mei.err_some hfo
    subst hE0
    obtain ⟨b, rfl, hT⟩ := HV.out.2 f hfo
    have HT := hide hT
    have hbl : b < w1.heap.size := hT.lt
    obtain ⟨s0', hs0'⟩ : ∃ s, s = St.new xs := ⟨_, rfl⟩
    have HS0 := hide hs0'
    obtain ⟨x0, hx0⟩ : ∃ x, x = s0'.byte := ⟨_, rfl⟩
    obtain ⟨n0, hn0⟩ : ∃ n : Nat, n = x0.toNat := ⟨_, rfl⟩
    obtain ⟨ok, hok⟩ : ∃ b : Bool, b = Mei.isMei x0 := ⟨_, rfl⟩
    obtain ⟨s1, hs1⟩ : ∃ s, s = s0'.afterB.need ok 8 := ⟨_, rfl⟩
    obtain ⟨FV, hFV⟩ : ∃ F, F = Mei.lookC f x0 := ⟨_, rfl⟩
    have hFs : FV.size = 2 := by rw [hFV]; exact Mei.look_size _ _
    have hFo : FV.all (·.oneCell') = true := by rw [hFV]; exact Mei.look_one _ _
    have HF : Hid (R = finish (Mei.body f ((MsgM.of c).put_mei x0) x0 s1)) := hide (by rw [HR.out, Mei.parse_some hfo, hs1, hok, hx0, hs0']; rfl)
    have HLK : Hid (∀ v, Tab v b (Mei.tab f) → (Instr.lookup 49 (.map (some b)) (.int .u8 (n0 : Int)) true).run Try.prog v = .ok (.tuple #[.agg FV, .bool ok]) v) := hide (fun v hv => by rw [hFV, hok]; exact Mei.look_any hv x0 hn0)
    have HK0 : Hid (byteV s0'.byte = .int .u8 (n0 : Int)) := hide (by rw [hn0, hx0])
    have HX0 := hide hx0
    have HS1 := hide hs1
    have HFV := hide hFV
    have HOK := hide hok
    clear HR HV hfo HE hT hs0' hx0 hn0 hok hs1 hFV
    go_upto_region 5 with ((with_reducible (show wpList _ _ _ ({ dst := _, op := Op.store _ _ _, type := _, pos := _, after := _, guard := _ } :: _) _ _)); refine wpList_store_new rfl 30 _ _ rfl (codeCells c) rfl rfl (msg_size _ rfl) rfl (Mei.code_one c) ?_; intro w3 h3 b3)
    replace HX := hide (HX.out.mono b3)
    replace e0 := (b3.block _ (lt_of_block e0)).trans e0
    replace b0 := b0.trans (b3.mono b0.size)
    replace HT := hide (HT.out.mono b3)
    go_wp2_with fail
    refine (new_any _ _ _ _ w3 HX.out hlen).mono ?_
    rintro e w4 ⟨⟨gc, rfl, hgc, hc4⟩, b4⟩
    have hS : gc < w4.heap.size := hc4.lt
    have l3 := lt_of_block h3
    replace e0 := (b4.block _ (lt_of_block e0)).trans e0
    have h4 := (b4.block _ l3).trans h3
    have s4 := b4.size
    replace HT := hide (HT.out.mono b4)
    rw [← HS0.out] at hc4
    have H4 := hide (CRd.made (t := 30) (show w1.heap.size ≠ gc by omega) (show w.heap.size ≤ w1.heap.size by omega) (by omega) (show w1.heap.size < w4.heap.size by omega) hS (Nat.le_refl _) (b0.trans (b4.mono b0.size)) h4 (fun v => MsgAt.of v c) hc4)
    generalize hgm : w1.heap.size = gm at *
    have HE0 := hide e0
    have q1 : b < w4.heap.size := by omega
    have q2 : b ≠ gc := by omega
    have q3 : w.heap.size ≠ gc := by omega
    have hgne : gm ≠ gc := by omega
    clear h4 h3 b4 b3 HX hc4 HS0 e0 hgm b0
    go_wp2_with fail
    refine (cr_byte H4.out).mono ?_
    rintro r v5 ⟨rfl, h⟩
    have f5 := h.mb.fr 16
    have k5 := h.mb.c_mei
    replace h := h.put_mei s0'.byte
    rw [HK0.out] at h ⊢
    have H5 := hide h
    clear h H4
    go_upto_region 7 with fail
    generalize v5.setCell ⟨gm, 16, none⟩ (.int .u8 (n0 : Int)) = u5 at *
    clear f5 k5
    have kc : u5.cell? ⟨gm, 16, none⟩ = some (.int .u8 (n0 : Int)) := by
      rw [H5.out.mb.c_mei]
      show some (byteV s0'.byte) = _
      rw [HK0.out]
    rw [← HX0.out] at H5
    have hT5 : Tab u5 b (Mei.tab f) := (H5.out.keep b q1 (by omega) q2).trans HT.out
    have hkn : ∀ o, (u5.alloc o).cell? ⟨gm, 16, none⟩ = some (.int .u8 (n0 : Int)) := fun o => (((Below.refl _ _).alloc (Nat.le_refl _) o).cell (p := ⟨gm, 16, none⟩) H5.out.mb.lt).trans kc
    have hlk := HLK.out u5 hT5
    have hlk2 : ∀ o, (Instr.lookup 49 (.map (some b)) (.int .u8 (n0 : Int)) true).run Try.prog (u5.alloc o) = .ok (.tuple #[.agg FV, .bool ok]) (u5.alloc o) := fun o => HLK.out _ (hT5.mono ((Below.refl _ _).alloc (Nat.le_refl _) o))
    clear hT5 HLK
    go_upto_region 8 with ((with_reducible (show wpList _ _ _ ({ dst := _, op := Op.store _ _ _, type := _, pos := _, after := _, guard := _ } :: _) _ _)); refine wpList_store_new rfl 58 _ _ rfl FV rfl rfl (Mei.lookC_size _ hFs) hFs.symm hFo ?_; intro w6 h6 b6)
    have H6 := hide (H5.out.mono b6)
    have hgf := H5.out.hs
    clear hlk hlk2 hkn kc H5 b6
    generalize u5.heap.size = gf at *
    go_wp2_with fail
    refine (cr_need H6.out ok 8).mono ?_
    rintro r w7 ⟨rfl, h7, hoff⟩
    have e7 : w7.heap[gf]? = some (.cells FV 58 (0, 0)) := (hoff.block gf (lt_of_block h6) (.inr hgf)).trans h6
    rw [← HS1.out] at h7
    have H7 := hide h7
    clear h7 H6 h6 hoff
    go_upto_if 42 with fail
    go_cut [] (fun wx => ∃ m s, CR w w4 w4.heap.size gm gc m s wx ∧ R = finish (m, s))
    case first =>
      cases ok
      · have HQ : Hid (R = finish ((MsgM.of c).put_mei x0, s1)) := hide (by
          rw [HF.out]
          have hb1 : s1.e ≠ 0 := by rw [HS1.out]; exact Mei.need_false _ _ (by omega)
          exact (Mei.finish_both hb1 (Mei.body_bad f _ _ s1 hb1)).symm)
        clear HF
        go_wp2
        go_meet
        case rel => exact ⟨_, _, H7.out, HQ.out⟩
      · have k7 : w7.cell? ⟨gf, 0, none⟩ = some (Mei.fnV (Mei.rdOf f x0)) := by
          rw [cell_of_row w7 gf 0 _ _ _ e7, HFV.out]
          unfold Mei.lookC
          rw [← HOK.out]
          rfl
        have hcf := rd_enter f x0
        have HRd := hide (formRead_any f x0 H7.out)
        generalize Mei.rdOf f x0 = FR at *
        go_wp2_with fail
        refine HRd.out.mono ?_
        rintro r w8 ⟨rfl, h8⟩
        have H8 := hide h8
        clear h8 HRd hcf k7
        go_wp2
        go_meet
        case rel => exact ⟨_, _, H8.out, HF.out⟩
    case rest =>
    obtain ⟨m, s, h9, hRf⟩ := hcut
    have H9 := hide h9
    have HRF := hide hRf
    clear h9 hRf HF H7
    go_wp2_with fail
    refine (cr_end H9.out).mono ?_
    rintro e w6 ⟨rfl, h6⟩
    have H6 := hide h6
    clear h6 H9
    go_wp2_with fail
    refine (err_any gc _ w6 H6.out.cur).mono ?_
    rintro e w7 ⟨rfl, rfl⟩
    obtain ⟨cs, hb9, hm9⟩ := H6.out.box
    have e1 := (H6.out.keep w.heap.size (by omega) (by omega) q3).trans HE0.out
    obtain ⟨hsz, hone⟩ := (hm9 _ (Off.refl _ _ _)).row
    have HM9 := hide hm9
    have HB9 := hide H6.out.below
    unfold finish at HRF
    simp only at HRF
    generalize St.e _ = E at *
    clear hm9 H6
    by_cases hE : E = 0
    · have hR : Hid (R = (m, 0)) := hide (by rw [HRF.out, if_pos hE])
      clear HRF
      subst hE
      go_wp2_with (first | ((with_reducible (show wpList _ _ _ ({ dst := _, op := Op.load _ _, type := _, pos := _, after := _, guard := _ } :: _) _ _)); refine wpList_load_row rfl 30 _ rfl gm rfl 30 cs (0, 0) _ hb9 Try.underlying30 rfl (msg_size cs hsz) ?_) | ((with_reducible (show wpList _ _ _ ({ dst := _, op := Op.store _ _ _, type := _, pos := _, after := _, guard := _ } :: _) _ _)); refine wpList_store_lies rfl 30 _ _ rfl w.heap.size cs rfl rfl _ _ e1 (msg_size cs hsz) hsz.symm hone ?_))
      intro w7 h7 b7 n7 z7
      go_wp2
      (try simp only [Exit.inBlock, Exit.then])
      rw [hR.out]
      exact bodyPost_ret (results_row_tmp Try.results12 _ _ w.heap.size _ _ _ _ rfl h7 Try.underlying30 rfl (msg_size _ hsz) _ rfl) rfl ⟨⟨_, rfl, HM9.out _ ⟨Nat.le_of_eq z7.symm, fun k _ hk => n7 k (by omega)⟩⟩, HB9.out.trans (b7 _ (Nat.le_refl _))⟩
    · have hR : Hid (R = (MsgM.zero, E)) := hide (by rw [HRF.out, if_neg hE])
      have hE' : (E != 0) = true := by simpa using hE
      clear HRF
      go_wp2_with ((with_reducible (show wpList _ _ _ ({ dst := _, op := Op.store _ _ _, type := _, pos := _, after := _, guard := _ } :: _) _ _)); refine wpList_store_lies rfl 30 _ _ rfl w.heap.size zeroCells rfl rfl _ _ e1 (msg_size _ rfl) rfl zero_one ?_)
      intro w7 h7 b7 n7 z7
      go_wp2
      (try simp only [Exit.inBlock, Exit.then])
      rw [hR.out]
      exact bodyPost_ret (results_row_tmp Try.results12 _ _ w.heap.size _ _ _ _ rfl h7 Try.underlying30 rfl (msg_size _ rfl) _ rfl) rfl ⟨⟨_, rfl, MsgAt.zero _⟩, HB9.out.trans (b7 _ (Nat.le_refl _))⟩

end Go.Proofs.Ytaokbaddleplfaa
