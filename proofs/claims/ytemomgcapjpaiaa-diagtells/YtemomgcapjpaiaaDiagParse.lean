/-
  Package diag: the contract of Parse.
-/
import Derived.Test.YtemomgcapjpaiaaDiagForm
import Derived.Test.YtemomgcapjpaiaaJoinB
namespace Go.Proofs.Ytemomgcapjpaiaa
open Go.RowKit
open Word Bits Cursor

namespace Diag
def parse := pack.parse
def write := pack.write
theorem parse_none {dir : Int} {c : UInt8} {b : List UInt8} (h : formOf dir c = none) : parse dir c b = (MsgM.zero, errF dir c) := by
  unfold errF
  rw [h]
  show pack.parse dir c b = _
  unfold PackW.parse
  by_cases hd : dir = 0 ∨ dir = 1
  · rw [if_pos hd, show pack.formOf dir c = none from h]; simp [hd]
  · rw [if_neg hd]; simp [hd]
theorem parse_some {dir : Int} {c : UInt8} {b : List UInt8} {f : Frm} (h : formOf dir c = some f) : parse dir c b = finish (f.read (MsgM.of c, St.new b)) := PackW.parse_form (X := pack) h b
theorem err_none {dir : Int} {c : UInt8} (h : formOf dir c = none) : errF dir c ≠ 0 := by
  unfold errF
  rw [h]
  show (if _ then (4 : Int) else 1) ≠ 0
  split <;> omega
theorem err_some {dir : Int} {c : UInt8} {f : Frm} (h : formOf dir c = some f) : errF dir c = 0 := by unfold errF; rw [h]
end Diag

theorem code_one (c : UInt8) : (codeCells c).all (·.oneCell') = true := by simp [Value.oneCell']

set_option maxRecDepth 20000 in
set_option maxHeartbeats 4000000 in
theorem diagParse_own (dir : Int) (c : UInt8) (a : Option Addr) (len cap : Nat) (xs : List UInt8) (w : World) (hx : Bs w a len cap xs) (hlen : len ≤ 100000) :
    Calls Try.prog 12 #[.int .i64 dir, byteV c, .slice a len cap] w fun e w' =>
      (∃ v, e = .returned (.tuple #[v, .int .i64 (Diag.parse dir c xs).2]) ∧ MsgAt w' v (Diag.parse dir c xs).1 ∧ ∀ u, Off 0 w.heap.size w' u → MsgAt u v (Diag.parse dir c xs).1) ∧ Below w.heap.size w w' := by
  have HX := hide hx
  clear hx
  obtain ⟨R, hR⟩ : ∃ R, R = Diag.parse dir c xs := ⟨_, rfl⟩
  rw [← hR]
  have HR := hide hR
  clear hR
  have e0 := heap_alloc_new w (.cells zeroCells 30 (0, 0))
  have b0 := (Below.refl w.heap.size w).alloc (Nat.le_refl _) (.cells zeroCells 30 (0, 0))
  go_enter Try.func12, Try.ntmps12
  go_wp2_with fail
  have z0 := lt_of_block e0
  replace HX := hide (HX.out.mono b0)
  generalize w.alloc (.cells zeroCells 30 (0, 0)) = u at *
  refine (formOf_any dir c u).mono ?_
  rintro e w1 ⟨⟨cs, rfl, hs, ho, hv⟩, hb⟩
  replace e0 := (hb.block _ (lt_of_block e0)).trans e0
  replace b0 := b0.trans (hb.mono b0.size)
  replace HX := hide (HX.out.mono hb)
  have s0 := lt_of_block e0
  have HV := hide hv
  clear hb hv z0
  generalize hE : Diag.errF dir c = E at *
  have HE := hide hE
  clear hE
  go_upto_region 2 with ((with_reducible (show wpList _ _ _ ({ dst := _, op := Op.store _ _ _, type := _, pos := _, after := _, guard := _ } :: _) _ _)); refine wpList_store_new rfl 51 _ _ rfl _ rfl rfl (formC_size _ hs) hs.symm ho ?_; intro w2 h2 b2)
  replace HX := hide (HX.out.mono b2)
  replace e0 := (b2.block _ (lt_of_block e0)).trans e0
  cases hfo : Diag.formOf dir c with
  | none =>
    have hR : Hid (R = (MsgM.zero, E)) := hide (by rw [HR.out, Diag.parse_none hfo, HE.out])
    have hne := Diag.err_none hfo
    rw [HE.out] at hne
    have hq : (E != 0) = true := by simpa using hne
    replace b0 := b0.trans (b2.mono b0.size)
    clear HR HV HX hfo HE h2 b2 hne
    go_wp2_with ((with_reducible (show wpList _ _ _ ({ dst := _, op := Op.store _ _ _, type := _, pos := _, after := _, guard := _ } :: _) _ _)); refine wpList_store_lies rfl 30 _ _ rfl w.heap.size zeroCells rfl rfl _ _ e0 (msg_size _ rfl) rfl zero_one ?_)
    intro w3 h3 b3 n3 z3
    go_wp2
    (try simp only [Exit.inBlock, Exit.then])
    rw [hR.out]
    exact bodyPost_ret (results_row_tmp Try.results12 _ _ w.heap.size _ _ _ _ rfl h3 Try.underlying30 rfl (msg_size _ rfl) _ rfl) rfl ⟨⟨_, rfl, MsgAt.zero _, fun u _ => MsgAt.zero u⟩, b0.trans (b3 _ (Nat.le_refl _))⟩
  | some f =>
    have hE0 : E = 0 := by rw [← HE.out]; exact Diag.err_some hfo
    subst hE0
    obtain ⟨rc, sc, hcs, hcap⟩ := HV.out f hfo
    injection hcs with hcs
    subst hcs
    have HC := hide hcap
    have HF : Hid (R = finish (f.read (MsgM.of c, St.new xs))) := hide (by rw [HR.out, Diag.parse_some hfo])
    have b0' := b0
    replace b0 := b0.trans (b2.mono b0.size)
    clear HR HV hfo HE hcap hs ho
    go_upto_region 5 with ((with_reducible (show wpList _ _ _ ({ dst := _, op := Op.store _ _ _, type := _, pos := _, after := _, guard := _ } :: _) _ _)); refine wpList_store_new rfl 30 _ _ rfl (codeCells c) rfl rfl (msg_size _ rfl) rfl (code_one c) ?_; intro w3 h3 b3)
    replace HX := hide (HX.out.mono b3)
    replace e0 := (b3.block _ (lt_of_block e0)).trans e0
    have hf3 := (b3.block _ (lt_of_block h2)).trans h2
    replace b0 := b0.trans (b3.mono b0.size)
    have b13 : Below w1.heap.size w1 w3 := below_next b2 b3 (Nat.le_refl _)
    have s1 := b0'.size
    have s2 := b2.size
    clear b2 b0' h2
    go_wp2_with fail
    refine (new_any _ _ _ _ w3 HX.out hlen).mono ?_
    rintro e w4 ⟨⟨gc, rfl, hgc, hc4⟩, b4⟩
    have hS : gc < w4.heap.size := hc4.lt
    have k4 : w4.cell? ⟨w1.heap.size, 0, none⟩ = some (clV f.rd rc) := cell_of_row w4 _ 0 _ _ _ ((b4.block _ (lt_of_block hf3)).trans hf3)
    replace e0 := (b4.block _ (lt_of_block e0)).trans e0
    have l3 := lt_of_block h3
    have h4 := (b4.block _ l3).trans h3
    have s4 := b4.size
    have hk : Kept w1 w4 w2.heap.size gc := ⟨b13.trans (b4.mono b13.size), s2, by omega⟩
    have H4 := hide (CRd.made (t := 30) (show w2.heap.size ≠ gc by omega) (show w.heap.size ≤ w2.heap.size by omega) (by omega) (show w2.heap.size < w4.heap.size by omega) hS (Nat.le_refl _) (b0.trans (b4.mono b0.size)) h4 (fun v => MsgAt.of v c) hc4)
    obtain ⟨P, hP⟩ : ∃ P, P = f.read (MsgM.of c, St.new xs) := ⟨_, rfl⟩
    have HRF : Hid (Calls Try.prog f.rd (#[ptrV gc, ptrV w2.heap.size] ++ rc) w4 fun e w' => e = .returned (.tuple #[]) ∧ CR w w4 w4.heap.size w2.heap.size gc P.1 P.2 w') := hide (by rw [hP]; exact formRead_any f hk HC.out H4.out)
    rw [← hP] at HF
    have hcf := rd_enter f
    generalize f.rd = FR at *
    clear hP h4 h3 hf3 b4 b3 HX hk b13 hc4 H4 HC
    go_wp2_with fail
    refine HRF.out.mono ?_
    rintro e w5 ⟨rfl, h5⟩
    obtain ⟨m, s⟩ := P
    have H5 := hide h5
    clear h5 HRF hcf k4
    go_wp2_with fail
    refine (cr_end H5.out).mono ?_
    rintro e w6 ⟨rfl, h6⟩
    have H6 := hide h6
    clear h6 H5
    go_wp2_with fail
    refine (err_any gc _ w6 H6.out.cur).mono ?_
    rintro e w7 ⟨rfl, rfl⟩
    obtain ⟨cs, hb9, hm9⟩ := H6.out.box
    have e1 := (H6.out.keep w.heap.size (by omega) (by omega) (by omega)).trans e0
    obtain ⟨hsz, hone⟩ := (hm9 _ (Off.refl _ _ _)).row
    have HM9 := hide hm9
    have HB9 := hide H6.out.below
    unfold finish at HF
    simp only at HF
    generalize St.e _ = E at *
    clear hm9 H6 e0
    by_cases hE : E = 0
    · have hR : Hid (R = (m, 0)) := hide (by rw [HF.out, if_pos hE])
      clear HF
      subst hE
      go_wp2_with (first | ((with_reducible (show wpList _ _ _ ({ dst := _, op := Op.load _ _, type := _, pos := _, after := _, guard := _ } :: _) _ _)); refine wpList_load_row rfl 30 _ rfl w2.heap.size rfl 30 cs (0, 0) _ hb9 Try.underlying30 rfl (msg_size cs hsz) ?_) | ((with_reducible (show wpList _ _ _ ({ dst := _, op := Op.store _ _ _, type := _, pos := _, after := _, guard := _ } :: _) _ _)); refine wpList_store_lies rfl 30 _ _ rfl w.heap.size cs rfl rfl _ _ e1 (msg_size cs hsz) hsz.symm hone ?_))
      intro w7 h7 b7 n7 z7
      go_wp2
      (try simp only [Exit.inBlock, Exit.then])
      rw [hR.out]
      exact bodyPost_ret (results_row_tmp Try.results12 _ _ w.heap.size _ _ _ _ rfl h7 Try.underlying30 rfl (msg_size _ hsz) _ rfl) rfl ⟨⟨_, rfl, HM9.out _ ⟨Nat.le_of_eq z7.symm, fun k _ hk => n7 k (by omega)⟩, fun u hu => HM9.out u ⟨Nat.le_trans (Nat.le_of_eq z7.symm) hu.size, fun k h1 h2 => (hu.block k (by omega) (by omega)).trans (n7 k (by omega))⟩⟩, HB9.out.trans (b7 _ (Nat.le_refl _))⟩
    · have hR : Hid (R = (MsgM.zero, E)) := hide (by rw [HF.out, if_neg hE])
      have hE' : (E != 0) = true := by simpa using hE
      clear HF
      go_wp2_with ((with_reducible (show wpList _ _ _ ({ dst := _, op := Op.store _ _ _, type := _, pos := _, after := _, guard := _ } :: _) _ _)); refine wpList_store_lies rfl 30 _ _ rfl w.heap.size zeroCells rfl rfl _ _ e1 (msg_size _ rfl) rfl zero_one ?_)
      intro w7 h7 b7 n7 z7
      go_wp2
      (try simp only [Exit.inBlock, Exit.then])
      rw [hR.out]
      exact bodyPost_ret (results_row_tmp Try.results12 _ _ w.heap.size _ _ _ _ rfl h7 Try.underlying30 rfl (msg_size _ rfl) _ rfl) rfl ⟨⟨_, rfl, MsgAt.zero _, fun u _ => MsgAt.zero u⟩, HB9.out.trans (b7 _ (Nat.le_refl _))⟩

theorem diagParse_any (dir : Int) (c : UInt8) (a : Option Addr) (len cap : Nat) (xs : List UInt8) (w : World) (hx : Bs w a len cap xs) (hlen : len ≤ 100000) :
    Calls Try.prog 12 #[.int .i64 dir, byteV c, .slice a len cap] w fun e w' =>
      (∃ v, e = .returned (.tuple #[v, .int .i64 (Diag.parse dir c xs).2]) ∧ MsgAt w' v (Diag.parse dir c xs).1) ∧ Below w.heap.size w w' := by
  refine (diagParse_own dir c a len cap xs w hx hlen).mono ?_
  rintro e w1 ⟨⟨v, h1, h2, _⟩, hb⟩
  exact ⟨⟨v, h1, h2⟩, hb⟩

end Go.Proofs.Ytemomgcapjpaiaa
