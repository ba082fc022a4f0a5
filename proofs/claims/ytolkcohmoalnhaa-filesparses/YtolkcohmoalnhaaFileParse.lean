/-
  Package files: the contract of Parse.
-/
import Derived.Test.YtolkcohmoalnhaaFileForm
import Derived.Test.YtolkcohmoalnhaaJoinB
namespace Go.Proofs.Ytolkcohmoalnhaa
open Go.RowKit
open Word Bits Cursor

namespace Files
def parse := pack.parse
def write := pack.write
theorem parse_none {dir : Int} {c : UInt8} {b : List UInt8} (h : formOf dir c = none) : parse dir c b = (MsgM.zero, errF dir c) := by
  unfold errF
  rw [h]
  show pack.parse dir c b = _
  unfold Pack.parse
  by_cases hd : dir = 0 ∨ dir = 1
  · rw [if_pos hd, show pack.formOf dir c = none from h]; simp [hd]
  · rw [if_neg hd]; simp [hd]
theorem parse_some {dir : Int} {c : UInt8} {b : List UInt8} {f : Frm} (h : formOf dir c = some f) : parse dir c b = finish (f.read (MsgM.of c, St.new b)) := Pack.parse_form (X := pack) h b
theorem err_none {dir : Int} {c : UInt8} (h : formOf dir c = none) : errF dir c ≠ 0 := by
  unfold errF
  rw [h]
  show (if _ then (4 : Int) else 1) ≠ 0
  split <;> omega
theorem err_some {dir : Int} {c : UInt8} {f : Frm} (h : formOf dir c = some f) : errF dir c = 0 := by unfold errF; rw [h]
end Files

theorem CRd.put_recs {t : TypeId} {w0 wb : World} {hi gm gc : Nat} {m : MsgM} {c : St} {w : World} (h : CRd t w0 wb hi gm gc m c w) {a' : Option Addr} {l' c1 : Nat} {xs : List RecM} (hx : ∀ u, Off 0 hi w u → Rs u a' l' c1 xs) : CRd t w0 wb hi gm gc (m.put_recs xs) c (w.setCell ⟨gm, 15, none⟩ (.slice a' l' c1)) := by
  obtain ⟨a1, l1, c2, hk, _⟩ := h.mb.c_recs
  exact h.put _ _ hk (fun _ e => by cases e) fun u _ hu hm => hm.set_recs (hx u hu)
theorem fin_recs {m m' : MsgM} {s : St} (h : s.e = 0 → m = m') : finish (m, s) = finish (m', s) := by
  unfold finish
  show (if s.end_.e = 0 then (m, (0 : Int)) else (MsgM.zero, s.end_.e)) = (if s.end_.e = 0 then (m', (0 : Int)) else (MsgM.zero, s.end_.e))
  split
  · rename_i h0
    rw [h (St.end_zero h0).1]
  · rfl

theorem code_one (c : UInt8) : (codeCells c).all (·.oneCell') = true := by simp [Value.oneCell']

set_option maxRecDepth 20000 in
set_option maxHeartbeats 4000000 in
theorem filesParse_own (dir : Int) (c : UInt8) (a : Option Addr) (len cap : Nat) (xs : List UInt8) (w : World) (hx : Bs w a len cap xs) (hlen : len ≤ 100000) :
    Calls Try.prog 12 #[.int .i64 dir, byteV c, .slice a len cap] w fun e w' =>
      (∃ v, e = .returned (.tuple #[v, .int .i64 (Files.parse dir c xs).2]) ∧ MsgAt w' v (Files.parse dir c xs).1 ∧ ∀ u, Off 0 w.heap.size w' u → MsgAt u v (Files.parse dir c xs).1) ∧ Below w.heap.size w w' := by
  have HX := hide hx
  clear hx
  obtain ⟨R, hR⟩ : ∃ R, R = Files.parse dir c xs := ⟨_, rfl⟩
  rw [← hR]
  have HR := hide hR
  clear hR
  have e0 := heap_alloc_new w (.cells zeroCells 30 (0, 0))
  have b0 := (Below.refl w.heap.size w).alloc (Nat.le_refl _) (.cells zeroCells 30 (0, 0))
  go_enter Try.func12, Try.ntmps12
  go_wp2_with fail
  have z0 := lt_of_block e0
  replace HX := hide (HX.out.mono b0)
  generalize w.alloc (.cells zeroCells 30 (0, 0)) = u at *
  refine (formOf_any dir c u).mono ?_
  rintro e w1 ⟨⟨cs, rfl, hs, ho, hv⟩, hb⟩
  replace e0 := (hb.block _ (lt_of_block e0)).trans e0
  replace b0 := b0.trans (hb.mono b0.size)
  replace HX := hide (HX.out.mono hb)
  have s0 := lt_of_block e0
  have HV := hide hv
  clear hb hv z0
  generalize hE : Files.errF dir c = E at *
  have HE := hide hE
  clear hE
  go_upto_region 2 with ((with_reducible (show wpList _ _ _ ({ dst := _, op := Op.store _ _ _, type := _, pos := _, after := _, guard := _ } :: _) _ _)); refine wpList_store_new rfl 52 _ _ rfl _ rfl rfl (formC_size _ hs) hs.symm ho ?_; intro w2 h2 b2)
  replace HX := hide (HX.out.mono b2)
  replace e0 := (b2.block _ (lt_of_block e0)).trans e0
  cases hfo : Files.formOf dir c with
  | none =>
    have hR : Hid (R = (MsgM.zero, E)) := hide (by rw [HR.out, Files.parse_none hfo, HE.out])
    have hne := Files.err_none hfo
    rw [HE.out] at hne
    have hq : (E != 0) = true := by simpa using hne
    replace b0 := b0.trans (b2.mono b0.size)
    clear HR HV HX hfo HE h2 b2 hne
    go_wp2_with ((with_reducible (show wpList _ _ _ ({ dst := _, op := Op.store _ _ _, type := _, pos := _, after := _, guard := _ } :: _) _ _)); refine wpList_store_lies rfl 30 _ _ rfl w.heap.size zeroCells rfl rfl _ _ e0 (msg_size _ rfl) rfl zero_one ?_)
    intro w3 h3 b3 n3 z3
    go_wp2
    (try simp only [Exit.inBlock, Exit.then])
    rw [hR.out]
    exact bodyPost_ret (results_row_tmp Try.results12 _ _ w.heap.size _ _ _ _ rfl h3 Try.underlying30 rfl (msg_size _ rfl) _ rfl) rfl ⟨⟨_, rfl, MsgAt.zero _, fun u _ => MsgAt.zero u⟩, b0.trans (b3 _ (Nat.le_refl _))⟩
  | some f =>
    have hE0 : E = 0 := by rw [← HE.out]; exact Files.err_some hfo
    subst hE0
    obtain rfl := HV.out f hfo
    have HF : Hid (R = finish (f.read (MsgM.of c, St.new xs))) := hide (by rw [HR.out, Files.parse_some hfo])
    have b0' := b0
    replace b0 := b0.trans (b2.mono b0.size)
    clear HR HV hfo HE hs ho
    obtain ⟨FC, hFC⟩ : ∃ FC, FC = formC f := ⟨_, rfl⟩
    have hFC0 : FC[0]? = some (clV f.may #[]) := by rw [hFC]; rfl
    have hFCs : FC.size = 3 := by rw [hFC]; rfl
    rw [← hFC] at h2
    have HFC := hide hFC
    clear hFC
    go_upto_region 5 with ((with_reducible (show wpList _ _ _ ({ dst := _, op := Op.store _ _ _, type := _, pos := _, after := _, guard := _ } :: _) _ _)); refine wpList_store_new rfl 30 _ _ rfl (codeCells c) rfl rfl (msg_size _ rfl) rfl (code_one c) ?_; intro w3 h3 b3)
    replace HX := hide (HX.out.mono b3)
    replace e0 := (b3.block _ (lt_of_block e0)).trans e0
    have hf3 := (b3.block _ (lt_of_block h2)).trans h2
    replace b0 := b0.trans (b3.mono b0.size)
    have s1 := b0'.size
    have s2 := b2.size
    have s21 := lt_of_block h2
    clear b2 b0' h2
    go_wp2_with fail
    refine (new_any _ _ _ _ w3 HX.out hlen).mono ?_
    rintro e w4 ⟨⟨gc, rfl, hgc, hc4⟩, b4⟩
    have hS : gc < w4.heap.size := hc4.lt
    have hf4 := (b4.block _ (lt_of_block hf3)).trans hf3
    replace e0 := (b4.block _ (lt_of_block e0)).trans e0
    have l3 := lt_of_block h3
    have lf3 := lt_of_block hf3
    have h4 := (b4.block _ l3).trans h3
    have s4 := b4.size
    have H4 := hide (CRd.made (t := 30) (show w2.heap.size ≠ gc by omega) (show w.heap.size ≤ w2.heap.size by omega) (by omega) (show w2.heap.size < w4.heap.size by omega) hS (Nat.le_refl _) (b0.trans (b4.mono b0.size)) h4 (fun v => MsgAt.of v c) hc4)
    obtain ⟨S0, hS0⟩ : ∃ s, s = St.new xs := ⟨_, rfl⟩
    rw [← hS0] at HF H4
    obtain ⟨kk, hkk⟩ : ∃ k : Nat, k = S0.byte.toNat := ⟨_, rfl⟩
    have bk : kk < 256 := by rw [hkk]; exact byte_lt _
    have HK : Hid ((byteV S0.byte : Value) = .int .u8 (kk : Int)) := hide (by rw [hkk])
    have hwk : IntKind.i64.wrap (kk : Int) = (kk : Int) := by rw [IntKind.wrap_i64]; omega
    obtain ⟨S1, hS1⟩ : ∃ s, s = S0.afterB.need (Files.ruleN f kk) 5 := ⟨_, rfl⟩
    obtain ⟨P, hP⟩ : ∃ P, P = rBlock (Files.part f) Files.step kk S1 := ⟨_, rfl⟩
    replace HF : Hid (R = finish ((MsgM.of c).put_recs P.1, P.2)) := hide (by rw [HF.out, hP, hS1, hkk]; rfl)
    have HS1 := hide hS1
    have HP := hide (block_any f gc S1 kk bk)
    rw [← hP] at HP
    have hcm := may_enter f
    have HM := hide (may_any f kk bk)
    clear hP hS1 hkk hS0 h4 h3 hf3 b4 b3 HX hc4 b0
    go_wp2_with fail
    refine (cr_byte H4.out).mono ?_
    rintro e w5 ⟨rfl, h5⟩
    rw [HK.out]
    have hf5 := (h5.keep _ (show w1.heap.size < w4.heap.size by omega) (by omega) (by omega)).trans hf4
    have k5 : w5.cell? ⟨w1.heap.size, 0, none⟩ = some (clV f.may #[]) := (cell_of_row w5 _ 0 _ _ _ hf5).trans hFC0
    have H5 := hide h5
    generalize f.may = FM at *
    clear h5 H4
    go_wp2_with fail
    refine (HM.out w5).mono ?_
    rintro e w6 ⟨rfl, rfl⟩
    go_wp2_with fail
    refine (cr_need H5.out (Files.ruleN f kk) 5).mono ?_
    rintro e w7 ⟨rfl, h7, _⟩
    rw [← HS1.out] at h7
    have hf7 := (h7.keep _ (show w1.heap.size < w4.heap.size by omega) (by omega) (by omega)).trans hf4
    have H7 := hide h7
    clear h7 H5 k5 hcm HM hf5
    go_wp2_with ((with_reducible (show wpList _ _ _ ({ dst := _, op := Op.load _ _, type := _, pos := _, after := _, guard := _ } :: _) _ _)); refine wpList_load_row rfl 52 _ rfl w1.heap.size rfl 52 FC (0, 0) _ hf7 Try.underlying52 rfl (formC_size FC hFCs) ?_)
    rw [HFC.out]
    refine (HP.out w7 H7.out.cur).mono ?_
    rintro e w8 ⟨⟨a8, l8, c8, xs8, rfl, ho8, hx8⟩, cu8, b8⟩
    have h8 := H7.out.step cu8 b8
    have f8 := h8.mb.fr 15
    obtain ⟨q1, q2, q3, k8, _⟩ := h8.mb.c_recs
    have hhi := H7.out.hs
    have H8 := hide (h8.put_recs (a' := a8) (l' := l8) (c1 := c8) (xs := xs8) fun u hu => ho8.off hhi hu)
    replace HF : Hid (R = finish ((MsgM.of c).put_recs xs8, P.2)) := hide (by
      rw [HF.out]
      exact (fin_recs fun h => by rw [hx8 h]).symm)
    clear h8 H7 hx8 ho8 cu8 b8 hf7 HP HFC
    go_upto_region 9 with fail
    generalize w8.setCell ⟨w2.heap.size, 15, none⟩ (.slice a8 l8 c8) = w9 at *
    obtain ⟨m, hm⟩ : ∃ m, m = (MsgM.of c).put_recs xs8 := ⟨_, rfl⟩
    rw [← hm] at H8 HF
    clear f8 k8 hm
    go_wp2_with fail
    refine (cr_end H8.out).mono ?_
    rintro e w6 ⟨rfl, h6⟩
    have H6 := hide h6
    clear h6 H8
    go_wp2_with fail
    refine (err_any gc _ w6 H6.out.cur).mono ?_
    rintro e w7 ⟨rfl, rfl⟩
    obtain ⟨cs, hb9, hm9⟩ := H6.out.box
    have e1 := (H6.out.keep w.heap.size (by omega) (by omega) (by omega)).trans e0
    obtain ⟨hsz, hone⟩ := (hm9 _ (Off.refl _ _ _)).row
    have HM9 := hide hm9
    have HB9 := hide H6.out.below
    unfold finish at HF
    simp only at HF
    generalize St.e _ = E at *
    clear hm9 H6 e0
    by_cases hE : E = 0
    · have hR : Hid (R = (m, 0)) := hide (by rw [HF.out, if_pos hE])
      clear HF
      subst hE
      go_wp2_with (first | ((with_reducible (show wpList _ _ _ ({ dst := _, op := Op.load _ _, type := _, pos := _, after := _, guard := _ } :: _) _ _)); refine wpList_load_row rfl 30 _ rfl w2.heap.size rfl 30 cs (0, 0) _ hb9 Try.underlying30 rfl (msg_size cs hsz) ?_) | ((with_reducible (show wpList _ _ _ ({ dst := _, op := Op.store _ _ _, type := _, pos := _, after := _, guard := _ } :: _) _ _)); refine wpList_store_lies rfl 30 _ _ rfl w.heap.size cs rfl rfl _ _ e1 (msg_size cs hsz) hsz.symm hone ?_))
      intro w7 h7 b7 n7 z7
      go_wp2
      (try simp only [Exit.inBlock, Exit.then])
      rw [hR.out]
      exact bodyPost_ret (results_row_tmp Try.results12 _ _ w.heap.size _ _ _ _ rfl h7 Try.underlying30 rfl (msg_size _ hsz) _ rfl) rfl ⟨⟨_, rfl, HM9.out _ ⟨Nat.le_of_eq z7.symm, fun k _ hk => n7 k (by omega)⟩, fun u hu => HM9.out u ⟨Nat.le_trans (Nat.le_of_eq z7.symm) hu.size, fun k h1 h2 => (hu.block k (by omega) (by omega)).trans (n7 k (by omega))⟩⟩, HB9.out.trans (b7 _ (Nat.le_refl _))⟩
    · have hR : Hid (R = (MsgM.zero, E)) := hide (by rw [HF.out, if_neg hE])
      have hE' : (E != 0) = true := by simpa using hE
      clear HF
      go_wp2_with ((with_reducible (show wpList _ _ _ ({ dst := _, op := Op.store _ _ _, type := _, pos := _, after := _, guard := _ } :: _) _ _)); refine wpList_store_lies rfl 30 _ _ rfl w.heap.size zeroCells rfl rfl _ _ e1 (msg_size _ rfl) rfl zero_one ?_)
      intro w7 h7 b7 n7 z7
      go_wp2
      (try simp only [Exit.inBlock, Exit.then])
      rw [hR.out]
      exact bodyPost_ret (results_row_tmp Try.results12 _ _ w.heap.size _ _ _ _ rfl h7 Try.underlying30 rfl (msg_size _ rfl) _ rfl) rfl ⟨⟨_, rfl, MsgAt.zero _, fun u _ => MsgAt.zero u⟩, HB9.out.trans (b7 _ (Nat.le_refl _))⟩

theorem filesParse_any (dir : Int) (c : UInt8) (a : Option Addr) (len cap : Nat) (xs : List UInt8) (w : World) (hx : Bs w a len cap xs) (hlen : len ≤ 100000) :
    Calls Try.prog 12 #[.int .i64 dir, byteV c, .slice a len cap] w fun e w' =>
      (∃ v, e = .returned (.tuple #[v, .int .i64 (Files.parse dir c xs).2]) ∧ MsgAt w' v (Files.parse dir c xs).1) ∧ Below w.heap.size w w' := by
  refine (filesParse_own dir c a len cap xs w hx hlen).mono ?_
  rintro e w1 ⟨⟨v, h1, h2, _⟩, hb⟩
  exact ⟨⟨v, h1, h2⟩, hb⟩

end Go.Proofs.Ytolkcohmoalnhaa
