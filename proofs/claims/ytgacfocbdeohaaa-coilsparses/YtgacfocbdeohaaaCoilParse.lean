/-
  Package coils: the contract of Parse.
-/
import Derived.Test.YtgacfocbdeohaaaCoilSome
import Derived.Test.YtgacfocbdeohaaaCoilWrite
import Derived.Laws.ResultCell
namespace Go.Proofs.Ytgacfocbdeohaaa
open Go.RowKit
open Word Bits Cursor

/-- A message's cells, all but the code zero. -/
abbrev codeCells (c : UInt8) : Array Value := #[byteV c, .int .u8 0, .int .u16 0, .int .u16 0, .int .u16 0, .int .u16 0, .int .u16 0, .int .u16 0, .int .u16 0, .int .u16 0, .int .u16 0, .int .u16 0, .slice none 0 0, .slice none 0 0, .slice none 0 0, .slice none 0 0, .int .u8 0, .int .u8 0, .int .u8 0, .int .u8 0, .int .u8 0, .slice none 0 0]
theorem MsgAt.of (w : World) (c : UInt8) : MsgAt w (.agg (codeCells c)) (MsgM.of c) :=
  ⟨none, 0, 0, none, 0, 0, none, 0, 0, none, 0, 0, none, 0, 0, rfl, Sl.nil _ _ (by unfold maxLen; omega), Sl.nil _ _ (by unfold maxLen; omega), Sl.nil _ _ (by unfold maxLen; omega), Rs.nil _ _ (by unfold maxLen; omega), Obs.nil _ _ (by unfold maxLen; omega)⟩

namespace Coils
def Frm.rd : Frm → FuncId
  | 0 => 36
  | 1 => 38
  | 2 => 40
  | 3 => 42
  | 4 => 44
def Frm.wr : Frm → FuncId
  | 0 => 37
  | 1 => 39
  | 2 => 41
  | 3 => 43
  | 4 => 37
def Frm.val (f : Frm) (g : Nat) : Value := formV f.rd f.wr g
def frms (dir : Int) : List (Nat × Frm) := if dir = 0 then [(1, .asked), (2, .asked), (5, .one), (15, .some)] else [(1, .told), (2, .told), (5, .one), (15, .done)]
theorem nat_ne {c : UInt8} {n : Nat} (hn : n < 256) : (c.toNat = n) ↔ c = UInt8.ofNat n := by
  rw [← UInt8.toNat_inj, UInt8.toNat_ofNat', Nat.mod_eq_of_lt hn]
theorem tab_req (g : Nat) (c : UInt8) : tabAt (tabReq g) c.toNat = (formOf 0 c).map (·.val g) := by
  unfold tabReq formOf tabAt tabAt tabAt tabAt tabAt
  simp only [nat_ne (show 1 < 256 by omega), nat_ne (show 2 < 256 by omega), nat_ne (show 5 < 256 by omega), nat_ne (show 15 < 256 by omega), if_true]
  show (if c = 1 then _ else if c = 2 then _ else if c = 5 then _ else if c = 15 then _ else _) = _
  by_cases h1 : c = 1
  · simp [h1, Frm.val, askedV, Frm.rd, Frm.wr]
  by_cases h2 : c = 2
  · simp [h2, Frm.val, askedV, Frm.rd, Frm.wr]
  by_cases h5 : c = 5
  · simp [h5, Frm.val, oneV, Frm.rd, Frm.wr]
  by_cases h15 : c = 15
  · simp [h15, Frm.val, someV, Frm.rd, Frm.wr]
  · simp [h1, h2, h5, h15]
theorem tab_res (g : Nat) (c : UInt8) : tabAt (tabRes g) c.toNat = (formOf 1 c).map (·.val g) := by
  unfold tabRes formOf tabAt tabAt tabAt tabAt tabAt
  simp only [nat_ne (show 1 < 256 by omega), nat_ne (show 2 < 256 by omega), nat_ne (show 5 < 256 by omega), nat_ne (show 15 < 256 by omega), if_true]
  show (if c = 1 then _ else if c = 2 then _ else if c = 5 then _ else if c = 15 then _ else _) = _
  by_cases h1 : c = 1
  · simp [h1, Frm.val, toldV, Frm.rd, Frm.wr]
  by_cases h2 : c = 2
  · simp [h2, Frm.val, toldV, Frm.rd, Frm.wr]
  by_cases h5 : c = 5
  · simp [h5, Frm.val, oneV, Frm.rd, Frm.wr]
  by_cases h15 : c = 15
  · simp [h15, Frm.val, doneV, Frm.rd, Frm.wr]
  · simp [h1, h2, h5, h15]
theorem read_rest (f : Frm) (m : MsgM) (c : St) (h : m.Bare) : (f.read (m, c)).1.words = [] ∧ (f.read (m, c)).1.recs = [] ∧ (f.read (m, c)).1.objects = [] := by
  obtain ⟨b0, b1, b2, b3, b4⟩ := h
  rcases Frm.five f with rfl | rfl | rfl | rfl | rfl <;> exact ⟨b0, b3, b4⟩
end Coils

theorem rd_enter (f : Coils.Frm) (args : Array Value) (w : World) : (callFunc f.rd args).run Try.prog w = .ok (.enter f.rd args) w := by
  rcases Coils.Frm.five f with rfl | rfl | rfl | rfl | rfl <;> kernel_rfl

/-- What a form's read does. -/
theorem read_form (f : Coils.Frm) (gm gc B : Nat) (m : MsgM) (c : St) (w : World) (hm : CM w gm m) (hb : m.Bare) (hc : Cur w gc c) (hn : gm ≠ gc) (hB1 : B ≤ gm) (hB2 : B ≤ gc) :
    Calls Try.prog f.rd #[ptrV gm, ptrV gc] w fun e w' =>
      e = .returned (.tuple #[]) ∧ CM w' gm (f.read (m, c)).1 ∧ Cur w' gc (f.read (m, c)).2 ∧ Below B w w' ∧ SideAt w' gm 13 w.heap.size ∧ SideAt w' gm 14 w.heap.size := by
  have hb' := hb
  obtain ⟨b0, b1, b2, b3, b4⟩ := hb'
  rcases Coils.Frm.five f with rfl | rfl | rfl | rfl | rfl
  · refine (readAsked_any gm gc B m c w hm hb hc hn hB1 hB2).mono ?_
    rintro e w' ⟨h1, h2, h3, h4⟩
    exact ⟨h1, h2, h3, h4, SideAt.bits h2 b1 _, SideAt.data h2 b2 _⟩
  · refine (readData_any gm gc B m c w hm hb hc hn hB1 hB2).mono ?_
    rintro e w' ⟨h1, h2, h3, h4, h5⟩
    exact ⟨h1, h2, h3, h4, SideAt.bits h2 b1 _, h5⟩
  · refine (readOne_any gm gc B m c w hm hb hc hn hB1 hB2).mono ?_
    rintro e w' ⟨h1, h2, h3, h4⟩
    exact ⟨h1, h2, h3, h4, SideAt.bits h2 b1 _, SideAt.data h2 b2 _⟩
  · refine (readSome_any gm gc B m c w hm hb hc hn hB1 hB2).mono ?_
    rintro e w' ⟨h1, h2, h3, h4, h5⟩
    exact ⟨h1, h2, h3, h4, h5, SideAt.data h2 b2 _⟩
  · refine (readSet_any gm gc B m c w hm hb hc hn hB1 hB2).mono ?_
    rintro e w' ⟨h1, h2, h3, h4⟩
    exact ⟨h1, h2, h3, h4, SideAt.bits h2 b1 _, SideAt.data h2 b2 _⟩

/-- A slice stays where another block than its own is written. -/
theorem Sl.offSet {α : Type} {f : α → Value} {w w' : World} {a : Option Addr} {len cap : Nat} {xs : List α} (h : Sl f w a len cap xs) {q : Nat}
    (hu : 0 < len → ∀ b off, a = some ⟨b, off, none⟩ → b ≠ q) (hw : ∀ k, k < w.heap.size → k ≠ q → w'.heap[k]? = w.heap[k]?) (hsz : w.heap.size ≤ w'.heap.size) : Sl f w' a len cap xs :=
  ⟨h.hlen, h.hle, h.hmax, fun i hi => by
    obtain ⟨b, off, ha, hlt, hc⟩ := h.hcell i hi
    have hb := hu (by have := h.hlen; omega) b off ha
    exact ⟨b, off, ha, Nat.lt_of_lt_of_le hlt hsz, (World.cell?_of_block (w := w) (a := ⟨b, off + i, none⟩) (hw b hlt hb)).trans hc⟩⟩
/-- The message in block 'g' stays, while a block that its lists don't lie in is written. -/
theorem MsgAt.side {t : TypeId} {w w' : World} {g q S : Nat} {m : MsgM} {cs : Array Value} (hg : w.heap[g]? = some (.cells cs t (0, 0))) (h : MsgAt w (.agg cs) m) (s1 : SideAt w g 13 S) (s2 : SideAt w g 14 S) (hm : m.words = [] ∧ m.recs = [] ∧ m.objects = [])
    (hq : q < S) (hw : ∀ k, k < w.heap.size → k ≠ q → w'.heap[k]? = w.heap[k]?) (hsz : w.heap.size ≤ w'.heap.size) : MsgAt w' (.agg cs) m := by
  obtain ⟨aw, lw, cw, al, ll, cl, ad, ld, cd, ar, lr, cr, ao, lo, co, hv, h0, h1, h2, h3, h4⟩ := h
  injection hv with hv
  subst hv
  obtain ⟨a, l, c, hc, hD⟩ := s2
  rw [cell_of_row w g 14 _ _ _ hg] at hc
  injection hc with hc
  injection hc with ha hl hcap
  subst ha hl hcap
  obtain ⟨a', l', c', hc', hD'⟩ := s1
  rw [cell_of_row w g 13 _ _ _ hg] at hc'
  injection hc' with hc'
  injection hc' with ha hl hcap
  subst ha hl hcap
  obtain ⟨m0, m3, m4⟩ := hm
  refine ⟨aw, lw, cw, al, ll, cl, ad, ld, cd, ar, lr, cr, ao, lo, co, rfl, ?_, ?_, ?_, ?_, ?_⟩
  · rw [m0] at h0 ⊢; exact h0.bare _
  · exact h1.offSet (fun h0 b off e => by have := hD' h0 b off e; omega) hw hsz
  · exact h2.offSet (fun h0 b off e => by have := hD h0 b off e; omega) hw hsz
  · rw [m3] at h3 ⊢; exact h3.bare _
  · rw [m4] at h4 ⊢; exact h4.bare _
theorem MsgAt.row {w : World} {m : MsgM} {cs : Array Value} (h : MsgAt w (.agg cs) m) : cs.size = 22 ∧ cs.all (·.oneCell') = true := by
  obtain ⟨aw, lw, cw, al, ll, cl, ad, ld, cd, ar, lr, cr, ao, lo, co, hv, h0, h1, h2, h3, h4⟩ := h
  injection hv with hv
  subst hv
  exact ⟨rfl, by simp [Value.oneCell']⟩
theorem SideAt.keep {w w' : World} {g k S : Nat} (h : SideAt w g k S) (e : w'.heap[g]? = w.heap[g]?) : SideAt w' g k S := by
  obtain ⟨a, l, c, hc, hD⟩ := h
  exact ⟨a, l, c, (World.cell?_of_block (w := w) (a := ⟨g, k, none⟩) e).trans hc, hD⟩

theorem msg_size (cs : Array Value) (h : cs.size = 22) : (Try.prog.info? 30).map (·.size) = some cs.size := by rw [h]; kernel_rfl
theorem cmsg_size (cs : Array Value) (h : cs.size = 22) : (Try.prog.info? 47).map (·.size) = some cs.size := by rw [h]; kernel_rfl

theorem results_row_tmp {P : Program} {fn : Func} {p u : Tmp} {ty : TypeId} (h : fn.results = #[.cell p ty, .tmp u]) (tmps : Array Value) (w : World) (g : Nat) (t : TypeId) (cs : Array Value) (fr : Nat × Nat) (d : TypeDesc)
    (hp : tmps.getD p undef = .pointer (some ⟨g, 0, none⟩)) (hg : w.heap[g]? = some (.cells cs t fr))
    (hu : P.underlying ty = some d) (hd : (match d with | .struct _ | .array _ _ => true | _ => false) = true) (hi : (P.info? ty).map (·.size) = some cs.size) (v : Value) (hv : tmps.getD u undef = v) :
    (results fn tmps).run P w = .ok (.tuple #[.agg cs, v]) w := by
  rw [results_cell_tmp h, hp, hv]
  simp [asAddr, run_loadVar_row w g t ty cs fr d hg hu hd hi]

abbrev zeroCells : Array Value := #[.int .u8 0, .int .u8 0, .int .u16 0, .int .u16 0, .int .u16 0, .int .u16 0, .int .u16 0, .int .u16 0, .int .u16 0, .int .u16 0, .int .u16 0, .int .u16 0, .slice none 0 0, .slice none 0 0, .slice none 0 0, .slice none 0 0, .int .u8 0, .int .u8 0, .int .u8 0, .int .u8 0, .int .u8 0, .slice none 0 0]
theorem MsgAt.zero (w : World) : MsgAt w (.agg zeroCells) MsgM.zero := MsgAt.of w 0
theorem zero_one : (zeroCells.all (·.oneCell')) = true := by simp [Value.oneCell']
theorem nil_one : (#[Value.nilFunc, Value.nilFunc].all (·.oneCell')) = true := by simp [Value.oneCell']
theorem form_zero (w : World) : (zeroValue 53).run Try.prog w = .ok (.agg #[.nilFunc, .nilFunc]) w := by first | rfl | kernel_rfl | simp [zeroValue]

set_option maxRecDepth 20000 in
set_option maxHeartbeats 4000000 in
theorem coilsParse_any (dir : Int) (c : UInt8) (a : Option Addr) (len cap : Nat) (xs : List UInt8) (w : World) (hx : Bs w a len cap xs) (hlen : len ≤ 100000) :
    Calls Try.prog 13 #[.int .i64 dir, byteV c, .slice a len cap] w fun e w' =>
      (∃ v, e = .returned (.tuple #[v, .int .i64 (Coils.parse dir c xs).2]) ∧ MsgAt w' v (Coils.parse dir c xs).1) ∧ Below w.heap.size w w' := by
  have HX := hide hx
  clear hx
  have heq : ∀ (w : World) (m : Option Nat), (binOp .eql 48 (.map m) (.map none)).run Try.prog w = .ok (.bool m.isNone) w := fun w m => by
    simp only [binOp, Sem.run_bind, run_equal_map_nil w 48 5 53 m Try.underlying48]
    rfl
  obtain ⟨R, hR⟩ : ∃ R, R = Coils.parse dir c xs := ⟨_, rfl⟩
  rw [← hR]
  have HR := hide hR
  clear hR
  go_enter Try.func13, Try.ntmps13
  go_wp2_with fail
  have e1 : ((w.alloc (.cells zeroCells 30)).alloc (.cells (codeCells c) 47)).heap[w.heap.size]? = some (.cells zeroCells 30 (0, 0)) := (Below.heap_alloc _ _ _ (by simp)).trans (heap_alloc_new _ _)
  have e2 : CM ((w.alloc (.cells zeroCells 30)).alloc (.cells (codeCells c) 47)) (w.heap.size + 1) (MsgM.of c) := by
    have := MB.made (w.alloc (.cells zeroCells 30)) _ (MsgAt.of _ c) 47
    simpa using this
  have e3 : Below w.heap.size w ((w.alloc (.cells zeroCells 30)).alloc (.cells (codeCells c) 47)) := ((Below.refl _ _).alloc (Nat.le_refl _) _).alloc (by simp) _
  generalize ((w.alloc (.cells zeroCells 30)).alloc (.cells (codeCells c) 47)) = W at *
  have HX1 := hide (HX.out.mono e3)
  clear HX
  have hz := e3.size
  generalize hr : w.heap.size = r at *
  refine (forms_any (r + 1) dir W).mono ?_
  rintro e w1 ⟨hf, hb1⟩
  replace HX1 := hide (HX1.out.mono hb1)
  replace e1 := (hb1.block _ (lt_of_block e1)).trans e1
  replace e2 := e2.mono hb1
  replace e3 := e3.trans (hb1.mono hz)
  replace hz := Nat.le_trans hz hb1.size
  clear hb1 W
  have hf' : (∃ b l, e = .returned (.map (some b)) ∧ Tab w1 b l ∧ tabAt l c.toNat = (Coils.formOf dir c).map (·.val (r + 1)) ∧ R = (match Coils.formOf dir c with | Option.some f => finish (f.read (MsgM.of c, St.new xs)) | none => (MsgM.zero, 4))) ∨ (e = .returned (.map none) ∧ R = (MsgM.zero, 1)) := by
    rcases hf with ⟨hd, b, he, hT⟩ | ⟨hd, b, he, hT⟩ | ⟨hd0, hd1, he⟩
    · exact .inl ⟨b, _, he, hT, by rw [hd]; exact Coils.tab_req _ _, by rw [HR.out]; unfold Coils.parse; rw [if_pos (.inl hd)]; cases Coils.formOf dir c <;> rfl⟩
    · exact .inl ⟨b, _, he, hT, by rw [hd]; exact Coils.tab_res _ _, by rw [HR.out]; unfold Coils.parse; rw [if_pos (.inr hd)]; cases Coils.formOf dir c <;> rfl⟩
    · exact .inr ⟨he, by rw [HR.out]; unfold Coils.parse; rw [if_neg (by simp [hd0, hd1])]⟩
  clear hf HR
  rcases hf' with ⟨b, l, rfl, hT, hl, hR⟩ | ⟨rfl, hR⟩
  rotate_left
  · have HR := hide hR
    clear hR e2 HX1
    go_wp2_with (refine wpList_store_lies rfl 30 _ _ rfl r zeroCells rfl rfl _ _ e1 (msg_size _ rfl) rfl zero_one ?_)
    intro w2 h2 b2 n2 z2
    go_wp2
    (try simp only [Exit.inBlock, Exit.then])
    rw [HR.out]
    exact bodyPost_ret (results_row_tmp Try.results13 _ _ r _ _ _ _ rfl h2 Try.underlying30 rfl (msg_size _ rfl) _ rfl) rfl ⟨⟨_, rfl, MsgAt.zero _⟩, by rw [hr]; exact e3.trans (b2 r (Nat.le_refl _))⟩
  have hlt := hT.lt
  cases hfo : Coils.formOf dir c with
  | none =>
    rw [hfo] at hl hR
    have hlk := run_tab hT 48 5 53 Try.underlying48 Try.underlying5 _ (form_zero w1) c.toNat
    rw [hl] at hlk
    have hlk' : (Instr.lookup 48 (.map (some b)) (byteV c) true).run Try.prog w1 = .ok (.tuple #[.agg #[.nilFunc, .nilFunc], .bool false]) w1 := hlk
    have HR := hide hR
    clear hR hl hlk hT hfo e2 HX1
    go_wp2_with (refine wpList_store_new rfl 53 _ _ rfl _ rfl rfl form_size rfl nil_one ?_)
    intro w2 h2 b2
    replace e1 := (b2.block _ (lt_of_block e1)).trans e1
    replace e3 := e3.trans (b2.mono hz)
    clear h2 b2
    go_wp2_with (refine wpList_store_lies rfl 30 _ _ rfl r zeroCells rfl rfl _ _ e1 (msg_size _ rfl) rfl zero_one ?_)
    intro w4 h4 b4 n4 z4
    go_wp2
    (try simp only [Exit.inBlock, Exit.then])
    rw [HR.out]
    exact bodyPost_ret (results_row_tmp Try.results13 _ _ r _ _ _ _ rfl h4 Try.underlying30 rfl (msg_size _ rfl) _ rfl) rfl ⟨⟨_, rfl, MsgAt.zero _⟩, by rw [hr]; exact e3.trans (b4 r (Nat.le_refl _))⟩
  | some f =>
    rw [hfo] at hl hR
    have hlk := run_tab hT 48 5 53 Try.underlying48 Try.underlying5 _ (form_zero w1) c.toNat
    rw [hl] at hlk
    have hlk' : (Instr.lookup 48 (.map (some b)) (byteV c) true).run Try.prog w1 = .ok (.tuple #[.agg #[.func (.func f.rd) #[ptrV (r + 1)] #[], .func (.func f.wr) #[ptrV (r + 1)] #[]], .bool true]) w1 := hlk
    have HR := hide hR
    clear hR hl hlk hT hfo
    go_wp2_with (refine wpList_store_new rfl 53 _ _ rfl _ rfl rfl form_size rfl (form_one _ _ _ _ _ _) ?_)
    intro w2 h2 b2
    have x2 := HX1.out.mono b2
    replace e1 := (b2.block _ (lt_of_block e1)).trans e1
    replace e2 := e2.mono b2
    replace e3 := e3.trans (b2.mono hz)
    replace hz := Nat.le_trans hz b2.size
    clear HX1 b2 hlk' hlt
    go_wp2_with fail
    refine (new_any _ _ _ _ w2 x2 hlen).mono ?_
    rintro e w3 ⟨⟨gc, rfl, hgc, hc3⟩, b3⟩
    have h3 := (b3.block _ (lt_of_block h2)).trans h2
    have k3 : w3.cell? ⟨w1.heap.size, 0, none⟩ = some (.func (.func f.rd) #[ptrV (r + 1)] #[]) := cell_of_row w3 _ 0 _ _ _ h3
    have hr1 : r + 1 < w2.heap.size := e2.lt
    replace e1 := (b3.block _ (lt_of_block e1)).trans e1
    replace e2 := e2.mono b3
    replace e3 := e3.trans (b3.mono hz)
    replace hz := Nat.le_trans hz b3.size
    have hS : gc < w3.heap.size := hc3.lt
    have hz2 := b3.size
    generalize w1.heap.size = gf at *
    clear b3 h3 h2 x2 heq
    obtain ⟨P, hP⟩ : ∃ P, P = f.read (MsgM.of c, St.new xs) := ⟨_, rfl⟩
    have HRest : Hid (P.1.words = [] ∧ P.1.recs = [] ∧ P.1.objects = []) := hide (by rw [hP]; exact Coils.read_rest f (MsgM.of c) (St.new xs) (MsgM.bare_of c))
    have RF : Calls Try.prog f.rd #[ptrV (r + 1), ptrV gc] w3 fun e w' => e = .returned (.tuple #[]) ∧ CM w' (r + 1) P.1 ∧ Cur w' gc P.2 ∧ Below (r + 1) w3 w' ∧ SideAt w' (r + 1) 13 w3.heap.size ∧ SideAt w' (r + 1) 14 w3.heap.size := by
      rw [hP]
      exact read_form f (r + 1) gc (r + 1) (MsgM.of c) (St.new xs) w3 e2 (MsgM.bare_of c) hc3 (by omega) (Nat.le_refl _) (by omega)
    replace HR : Hid (R = finish P) := hide (by rw [hP]; exact HR.out)
    clear hP
    have hcf := rd_enter f
    generalize f.rd = FR at *
    all_goals
      have HRF := hide RF
      clear RF
      go_wp2_with fail
      refine HRF.out.mono ?_
      rintro e w4 ⟨rfl, hm4, hc4, hb4, s1, s2⟩
      obtain ⟨m, s⟩ := P
      replace e1 := (hb4.block r (by omega)).trans e1
      replace e3 := e3.trans (hb4.mono (Nat.le_succ r))
      replace hz := Nat.le_trans hz hb4.size
      clear e2 hb4 hc3 k3
      go_wp2_with fail
      refine (end_any gc s w4 hc4).mono ?_
      rintro e w5 ⟨rfl, hc5, hb5⟩
      obtain ⟨cs, hg4, hm4⟩ := hm4
      have hg5 := (hb5.block (r + 1) (lt_of_block hg4) (by omega)).trans hg4
      have HM5 := hide (MsgAt.side hg4 hm4 s1 s2 HRest.out hS hb5.block hb5.size)
      have HS1 := hide (s1.keep (hb5.block (r + 1) (lt_of_block hg4) (by omega)))
      have HS2 := hide (s2.keep (hb5.block (r + 1) (lt_of_block hg4) (by omega)))
      replace e1 := (hb5.block r (lt_of_block e1) (by omega)).trans e1
      replace e3 := e3.trans (But.below hb5 (by omega) hz)
      have hrS : r < w3.heap.size := by omega
      clear hb5 hm4 s1 s2 hg4 hc4
      go_wp2_with fail
      refine (err_any gc s.end_ w5 hc5).mono ?_
      rintro e w6 ⟨rfl, rfl⟩
      clear hc5
      obtain ⟨hsz, hone⟩ := HM5.out.row
      have HF : Hid (R = if s.end_.e = 0 then (m, 0) else (MsgM.zero, s.end_.e)) := hide HR.out
      clear HR
      generalize s.end_.e = E at *
      by_cases hE : E = 0
      · have HR : Hid (R = (m, 0)) := hide (by rw [HF.out, if_pos hE])
        clear HF
        subst hE
        go_wp2_with (first | (refine wpList_load_row rfl 47 _ rfl (r + 1) rfl 47 cs (0, 0) _ hg5 Try.underlying47 rfl (cmsg_size cs hsz) ?_) | (refine wpList_store_lies rfl 30 _ _ rfl r cs rfl rfl _ _ e1 (msg_size cs hsz) hsz.symm hone ?_))
        intro w7 h7 b7 n7 z7
        go_wp2
        (try simp only [Exit.inBlock, Exit.then])
        rw [HR.out]
        exact bodyPost_ret (results_row_tmp Try.results13 _ _ r _ _ _ _ rfl h7 Try.underlying30 rfl (msg_size _ hsz) _ rfl) rfl ⟨⟨_, rfl, MsgAt.side hg5 HM5.out HS1.out HS2.out HRest.out hrS (fun k _ hk => n7 k hk) (Nat.le_of_eq z7.symm)⟩, by rw [hr]; exact e3.trans (b7 r (Nat.le_refl _))⟩
      · have HR : Hid (R = (MsgM.zero, E)) := hide (by rw [HF.out, if_neg hE])
        have hE' : (E == 0) = false := by simpa using hE
        clear HF
        go_wp2_with (refine wpList_store_lies rfl 30 _ _ rfl r zeroCells rfl rfl _ _ e1 (msg_size _ rfl) rfl zero_one ?_)
        intro w7 h7 b7 n7 z7
        go_wp2
        (try simp only [Exit.inBlock, Exit.then])
        rw [HR.out]
        exact bodyPost_ret (results_row_tmp Try.results13 _ _ r _ _ _ _ rfl h7 Try.underlying30 rfl (msg_size _ rfl) _ rfl) rfl ⟨⟨_, rfl, MsgAt.zero _⟩, by rw [hr]; exact e3.trans (b7 r (Nat.le_refl _))⟩


end Go.Proofs.Ytgacfocbdeohaaa
