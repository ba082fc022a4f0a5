/-
  Package files: the iterator of parts, and the block that is read by ranging over it.
-/
import Derived.Test.YtolkcohmoalnhaaRounds
import Derived.Test.YtolkcohmoalnhaaFileRead
import Derived.Test.YtolkcohmoalnhaaRecApp
import Derived.Shelf.Abstract
import Derived.Shelf.RegionOpen
import Derived.OwnWalkIn
import Derived.TacticsInMore
import Derived.LoopNIn
import Derived.LoopIn
namespace Go.Proofs.Ytolkcohmoalnhaa
open Go.RowKit Go.Shelf
open Word Bits Cursor

attribute [local go_sem] Oper.semAt_some

/-- How much is left, read off the world. -/
def leftOf (W : World) (g : Nat) : Nat := match W.cell? ⟨g, 0, none⟩ with | some (.slice _ len _) => len | _ => 0
theorem leftOf_cur {W : World} {g : Nat} {c : St} (h : Cur W g c) : leftOf W g = c.xs.length := by
  obtain ⟨a, len, cap, hg, hx, _⟩ := h
  unfold leftOf
  rw [cur_c0 hg]
  exact hx.hlen.symm

theorem OwnC.off {s : Nat} {w u : World} {B : Nat} {a : Option Addr} {len cap : Nat} {cs : List Value} (h : OwnC s w B a len cap cs) {lo hi : Nat} (hB : hi ≤ B) (hu : Off lo hi w u) : OwnC s u B a len cap cs := by
  have hl := h.hlen
  have hle := h.hle
  refine ⟨h.hlen, h.hle, h.hmax, fun j hj => ?_, fun j hj => ?_⟩
  · obtain ⟨b, off, ha, hlt, hc⟩ := h.hcell j hj
    have hm : len * s ≤ cap * s := Nat.mul_le_mul_right _ hle
    obtain ⟨b', off', ha', hB', hlt', _⟩ := h.room j (by omega)
    rw [ha] at ha'
    cases ha'
    exact ⟨b, off, ha, Nat.lt_of_lt_of_le hlt hu.size, (World.cell?_of_block (w := w) (a := ⟨b, off + j, none⟩) (hu.block b hlt (.inr (Nat.le_trans hB hB')))).trans hc⟩
  · obtain ⟨b, off, ha, hB', hlt, hc, hf⟩ := h.room j hj
    have hk := hu.block b hlt (.inr (Nat.le_trans hB hB'))
    exact ⟨b, off, ha, hB', Nat.lt_of_lt_of_le hlt hu.size, by rw [World.cell?_of_block (w := w) (a := ⟨b, off + j, none⟩) hk]; exact hc, by
      unfold World.frozen? at hf ⊢
      simp only at hf ⊢
      rw [hk]; exact hf⟩
theorem OwnR.offs {w u : World} {B : Nat} {a : Option Addr} {len cap : Nat} {xs : List RecM} (h : OwnR w B a len cap xs) {lo hi : Nat} (hB : hi ≤ B) (hu : Off lo hi w u) : OwnR u B a len cap xs := by
  obtain ⟨l, hl, hc, hw⟩ := h
  exact ⟨l, hl, hc.off hB hu, fun p hp => by
    obtain ⟨aw, lw, cw, h1, h2⟩ := hw p hp
    exact ⟨aw, lw, cw, h1, fun v hv => h2 v (KeepC.trans ⟨hu.size, fun k h1 h2 _ => hu.block k h2 (.inr (Nat.le_trans hB h1))⟩ hv)⟩⟩
theorem OwnR.low {w : World} {B : Nat} {a : Option Addr} {len cap : Nat} {xs : List RecM} (h : OwnR w B a len cap xs) (hl : 0 < len) : ∃ b off, a = some ⟨b, off, none⟩ ∧ B ≤ b ∧ b < w.heap.size := by
  obtain ⟨l, _, hc, _⟩ := h
  obtain ⟨b, off, ha, h1, h2, _⟩ := hc.room 0 (by have := hc.hle; omega)
  exact ⟨b, off, ha, h1, h2⟩

/-- Between two rounds: what has been read lies in the box 'bl', memory of the loop's own (from 'B' on); the cursor and the sum stand where they stand; all else is as it was. -/
structure Rnd (f : Files.Frm) (caps : Array Value) (w1 : World) (g cB aB bl L : Nat) (ready : Obj) (N : Nat) (pre : List RecM) (sum : Nat) (s : St) (W : World) : Prop where
  os : W.os = w1.os
  tape : W.tape = w1.tape
  output : W.output = w1.output
  size : w1.heap.size ≤ W.heap.size
  keep : ∀ i, i < w1.heap.size → i ≠ g → i ≠ aB → i ≠ bl → i ≠ L → W.heap[i]? = w1.heap[i]?
  cur : Cur W g s
  capt : Capt f W caps cB aB g sum
  rdy : W.heap[L]? = some ready
  box : ∃ a len cap, W.heap[bl]? = some (.cells #[.slice a len cap] 27 (0, 0)) ∧ OwnR W w1.heap.size a len cap pre ∧ (∀ x, a = some x → w1.heap.size ≤ x.block ∧ x.block < W.heap.size) ∧ AllC (fun v => ∀ y, v ≠ byteV y) W a
  few : pre.length + s.xs.length ≤ N

/-- Where the blocks lie. -/
structure Lie (w1 : World) (g cB aB b1 b2 bl L : Nat) : Prop where
  lg : g < w1.heap.size
  lc : cB < w1.heap.size
  la : aB < w1.heap.size
  l1 : b1 < w1.heap.size
  l2 : b2 < w1.heap.size
  lb : bl < w1.heap.size
  lL : L < w1.heap.size
  gb : g ≠ bl
  gL : g ≠ L
  ab : aB ≠ bl
  aL : aB ≠ L
  bL : bl ≠ L
  cb : cB ≠ bl
  cL : cB ≠ L
  g1 : b1 ≠ g
  a1 : b1 ≠ aB
  v1 : b1 ≠ bl
  L1 : b1 ≠ L
  g2 : b2 ≠ g
  a2 : b2 ≠ aB
  v2 : b2 ≠ bl
  L2 : b2 ≠ L

section
variable {f : Files.Frm} {caps : Array Value} {w1 : World} {g cB aB b1 b2 bl L : Nat} {ready : Obj} {N : Nat} {pre : List RecM} {sum : Nat} {s : St} {W W' : World}

/-- A part has been read. -/
theorem Rnd.read (h : Rnd f caps w1 g cB aB bl L ready N pre sum s W) (l : Lie w1 g cB aB b1 b2 bl L) {s' : St} {sum' : Nat} (hc : Cur W' g s') (ht : Two g aB W W') (hp : Capt f W' caps cB aB g sum') (hn : s'.xs.length ≤ s.xs.length) :
    Rnd f caps w1 g cB aB bl L ready N pre sum' s' W' := by
  obtain ⟨a, len, cap, hb, ho, hx, hnb⟩ := h.box
  have hz := h.size
  have off : Off 0 w1.heap.size W W' := ⟨ht.size, fun i hi hn => ht.block i hi (by have := l.lg; omega) (by have := l.la; omega)⟩
  refine ⟨ht.os.trans h.os, ht.tape.trans h.tape, ht.output.trans h.output, Nat.le_trans h.size ht.size, fun i h1 h2 h3 h4 h5 => (ht.block i (by omega) h2 h3).trans (h.keep i h1 h2 h3 h4 h5), hc, hp, (ht.block L (by have := l.lL; omega) (Ne.symm l.gL) (Ne.symm l.aL)).trans h.rdy,
    ⟨a, len, cap, (ht.block bl (by have := l.lb; omega) (Ne.symm l.gb) (Ne.symm l.ab)).trans hb, ho.offs (Nat.le_refl _) off, fun x e => ⟨(hx x e).1, Nat.lt_of_lt_of_le (hx x e).2 ht.size⟩, fun x e i v hv => hnb x e i v (by rw [← World.cell?_of_block (w := W) (w' := W') (a := ⟨x.block, i, none⟩) (off.block _ (hx x e).2 (.inr (hx x e).1))]; exact hv)⟩, by have := h.few; omega⟩
/-- Nothing but new blocks. -/
theorem Rnd.mono (h : Rnd f caps w1 g cB aB bl L ready N pre sum s W) (hb : Below W.heap.size W W') : Rnd f caps w1 g cB aB bl L ready N pre sum s W' := by
  obtain ⟨a, len, cap, h1, ho, hx, hnb⟩ := h.box
  exact ⟨hb.os.trans h.os, hb.tape.trans h.tape, hb.output.trans h.output, Nat.le_trans h.size hb.size, fun i q1 q2 q3 q4 q5 => (hb.block i (by have := h.size; omega)).trans (h.keep i q1 q2 q3 q4 q5), h.cur.mono hb,
    ⟨h.capt.list, (hb.block _ (lt_of_block h.capt.cur)).trans h.capt.cur, fun e => (hb.block _ (lt_of_block (h.capt.sum e))).trans (h.capt.sum e), h.capt.n1, h.capt.n2, h.capt.n3⟩,
    (hb.block _ (lt_of_block h.rdy)).trans h.rdy, ⟨a, len, cap, (hb.block _ (lt_of_block h1)).trans h1, ho.mono hb, fun x e => ⟨(hx x e).1, Nat.lt_of_lt_of_le (hx x e).2 hb.size⟩, fun x e i v hv => hnb x e i v (by rw [← hb.cell (p := ⟨x.block, i, none⟩) (hx x e).2]; exact hv)⟩, h.few⟩

/-- What is said of a round: it has put the part behind the others. -/
def Rounds (f : Files.Frm) (caps : Array Value) (w1 : World) (g cB aB bl L : Nat) (ready : Obj) (N : Nat) (m : Nat) : Prop :=
  ∀ (pre : List RecM) (sum : Nat) (s : St) (W : World) (x : RecM) (aw : Option Addr) (lw cw : Nat), Rnd f caps w1 g cB aB bl L ready N pre sum s W → pre.length + s.xs.length < N →
    (∃ top, Own wordV W top aw lw cw x.words ∧ top ≤ W.heap.size ∧ w1.heap.size ≤ top ∧ ∃ a len cap, W.heap[bl]? = some (.cells #[.slice a len cap] 27 (0, 0)) ∧ ∀ y, a = some y → y.block < top) →
    YieldAt Fence.wide m Try.prog L #[.agg (partC x (.slice aw lw cw))] W fun e W' => e = .returned (.bool true) ∧ Rnd f caps w1 g cB aB bl L ready N (pre ++ [x]) sum s W'

theorem St.need_xs (c : St) (ok : Bool) (e : Int) : (c.need ok e).xs = c.xs := by unfold St.need; split <;> rfl
theorem St.next_le (c : St) (n : Int) (size : Nat) : (c.next n size).xs.length ≤ c.xs.length := by
  unfold St.next
  split
  · exact Nat.zero_le _
  · simp
theorem St.afterB_lt {c : St} (h : c.xs ≠ []) : c.afterB.xs.length < c.xs.length := by
  have h0 : 0 < c.xs.length := List.length_pos_iff.2 h
  show (c.next 1 1).xs.length < _
  unfold St.next
  split
  · exact h0
  · simp; omega
theorem St.afterW_le (c : St) : c.afterW.xs.length ≤ c.xs.length := St.next_le c 1 2
theorem rHead_lt {c : St} (h : c.xs ≠ []) : (Files.rHead c).2.xs.length < c.xs.length := by
  have h1 := St.afterB_lt h
  unfold Files.rHead
  simp only [St.need_xs]
  have h2 := fun s : St => St.afterW_le s
  refine Nat.lt_of_le_of_lt (Nat.le_trans (h2 _) ?_) h1
  rw [St.need_xs]
  refine Nat.le_trans (h2 _) ?_
  rw [St.need_xs]
  refine Nat.le_trans (h2 _) ?_
  rw [St.need_xs]
  exact Nat.le_refl _
theorem partC_lt (f : Files.Frm) (sum : Nat) {c : St} (h : c.xs ≠ []) : (Files.partC f sum c).2.xs.length < c.xs.length := by
  rcases Files.Frm.three f with rfl | rfl | rfl
  · show ((Files.rHead c).2.need _ 5).xs.length < _
    rw [St.need_xs]; exact rHead_lt h
  · unfold Files.partC Files.rTold
    have h1 := St.afterB_lt h
    refine Nat.lt_of_le_of_lt (St.next_le _ _ _) ?_
    rw [St.need_xs]
    refine Nat.lt_of_le_of_lt (St.next_le _ 1 1) ?_
    rw [St.need_xs]
    exact h1
  · exact Nat.lt_of_le_of_lt (St.next_le _ _ _) (rHead_lt h)
theorem partC_sum {f : Files.Frm} {sum : Nat} {c : St} (h : (Files.partC f sum c).2.e = 0) : f = 0 → sum + Files.step (Files.partC f sum c).1 ≤ 245 := by
  rintro rfl
  have h' : ((Files.rHead c).2.need (decide (sum + (2 + 2 * (Files.rHead c).1.2.toNat) ≤ 245)) 5).e = 0 := h
  have := (St.need_zero h' (by omega)).2.1
  exact of_decide_eq_true this

/-- All parts of a block. -/
abbrev manyC (f : Files.Frm) (D : List UInt8) : List RecM × St := many (Files.partC f) Files.step D.length 0 (St.new D)

theorem rd_enter (f : Files.Frm) (args : Array Value) (w : World) : (callFunc f.rd args).run Try.prog w = .ok (.enter f.rd args) w := by
  rcases Files.Frm.three f with rfl | rfl | rfl <;> kernel_rfl

set_option maxRecDepth 100000 in
set_option maxHeartbeats 2000000 in
theorem iter_any (f : Files.Frm) (caps : Array Value) (w1 : World) (g cB aB b1 b2 bl L : Nat) (ready : Obj) (N m : Nat) (D : List UInt8) (l : Lie w1 g cB aB b1 b2 bl L)
    (hb1 : w1.heap[b1]? = some (.cells #[ptrV g] 55 (0, 0))) (hb2 : w1.heap[b2]? = some (.cells #[.func (.func f.rd) #[] caps] 93 (0, 0)))
    (h0 : Rnd f caps w1 g cB aB bl L ready N [] 0 (St.new D) w1) (hY : Rounds f caps w1 g cB aB bl L ready N m) :
    CallsIn Fence.wide (m + 1) Try.prog 75 #[.func (.yield L) #[] #[], ptrV b1, ptrV b2] w1 fun e W => (∃ v, e = .returned v) ∧
      ∃ pre sum, Rnd f caps w1 g cB aB bl L ready N pre sum (manyC f D).2 W ∧ ((manyC f D).2.e = 0 → pre = (manyC f D).1) := by
  obtain ⟨TOT, hT⟩ : ∃ T, T = manyC f D := ⟨_, rfl⟩
  rw [← hT]
  have HT := hide hT
  have HY := hide hY
  have HL := hide l
  have H0 := hide h0
  have HB1 := hide hb1
  have HB2 := hide hb2
  clear hT hY l h0 hb1 hb2
  refine callsIn_of_wp Try.func75 rfl trivial ?_ rfl
  simp only [Try.ntmps75, List.size_toArray, List.length_cons, List.length_nil, Nat.reduceAdd, Nat.reduceSub, Array.replicate_succ, Array.replicate_zero, List.push_toArray, List.append_toArray, List.nil_append, List.cons_append]
  gi_wp2
  gi_loopw [] (fun wr => ∃ (pre : List RecM) (sum : Nat) (s : St) (fuel : Nat), Rnd f caps w1 g cB aB bl L ready N pre sum s wr ∧ s.e = 0 ∧ (f = 0 → sum ≤ 245) ∧ s.xs.length ≤ fuel ∧
      (many (Files.partC f) Files.step fuel sum s).2 = TOT.2 ∧ (TOT.2.e = 0 → pre ++ (many (Files.partC f) Files.step fuel sum s).1 = TOT.1))
    (fun wr => leftOf wr g)
  case atStart => exact ⟨[], 0, St.new D, D.length, H0.out, rfl, fun _ => by omega, Nat.le_refl _, by rw [HT.out], fun _ => by rw [HT.out]; rfl⟩
  case round =>
    obtain ⟨pre, sum, s, fuel, hR, he, hsum, hfu, hm, hmp⟩ := hrel
    have k1 : wr.cell? ⟨b1, 0, none⟩ = some (ptrV g) := cell_of_row wr b1 0 _ _ _ ((hR.keep b1 HL.out.l1 HL.out.g1 HL.out.a1 HL.out.v1 HL.out.L1).trans HB1.out)
    have k2 : wr.cell? ⟨b2, 0, none⟩ = some (.func (.func f.rd) #[] caps) := cell_of_row wr b2 0 _ _ _ ((hR.keep b2 HL.out.l2 HL.out.g2 HL.out.a2 HL.out.v2 HL.out.L2).trans HB2.out)
    obtain ⟨nn, hnn⟩ : ∃ n : Nat, n = s.xs.length := ⟨_, rfl⟩
    have hleft := hide (left_any g s wr hR.cur)
    rw [← hnn] at hleft
    have R := hide hR
    have E0 := hide he
    have HM := hide hm
    have HMP := hide hmp
    clear hm hmp
    have hcf : ∀ args w, (callFunc f.rd args).run Try.prog w = .ok (.enter f.rd args) w := rd_enter f
    obtain ⟨x, hx⟩ : ∃ x, x = Files.partC f sum s := ⟨_, rfl⟩
    have hrd := hide (reads_any f caps cB aB g sum (fun e => by have := hsum e; omega) s wr hR.cur hR.capt)
    rw [← hx] at hrd
    unfold Reads at hrd
    have HX := hide hx
    have hb := hide hR
    generalize hFR : f.rd = FR at *
    clear hR he hx hFR
    have HNN := hide hnn
    clear hnn
    gi_wp2_with fail
    refine ⟨trivial, (callsIn_wide.2 hleft.out).mono ?_⟩
    rintro e w2 ⟨rfl, rfl⟩
    rcases Nat.eq_zero_or_pos nn with h | hpos
    · have hxs : s.xs = [] := List.eq_nil_of_length_eq_zero (by rw [← HNN.out]; exact h)
      subst h
      gi_wp2
      go_end0
      rw [many_stop _ _ (.inl hxs)] at HM HMP
      refine ⟨⟨_, rfl⟩, pre, sum, by rw [← HM.out]; exact R.out, fun h => by rw [← HMP.out h]; simp⟩
    · have hgt : (0 : Int) < (nn : Int) := by omega
      have hne : s.xs ≠ [] := fun h => by rw [HNN.out, h] at hpos; exact absurd hpos (by decide)
      have hlt := partC_lt f sum hne
      rw [← HX.out] at hlt
      gi_wp2_with fail
      refine ⟨trivial, (callsIn_wide.2 hrd.out).mono ?_⟩
      rintro e w3 ⟨⟨aw, lw, cw, rfl, how⟩, hc3, ht3, hp3⟩
      obtain ⟨a0, len0, cap0, hbx, _, hax, _⟩ := R.out.box
      have hbx3 := (ht3.block bl (lt_of_block hbx) (Ne.symm HL.out.gb) (Ne.symm HL.out.ab)).trans hbx
      have R3 := hide (R.out.read HL.out hc3 ht3 hp3 (Nat.le_of_lt hlt))
      have hz := R.out.size
      have hz3 := ht3.size
      have HOW := hide how
      have k3 : ∀ o, (w3.alloc o).cell? ⟨b1, 0, none⟩ = some (ptrV g) := fun o => cell_of_row _ b1 0 _ _ _ (((R3.out.mono ((Below.refl _ _).alloc (Nat.le_refl _) o)).keep b1 HL.out.l1 HL.out.g1 HL.out.a1 HL.out.v1 HL.out.L1).trans HB1.out)
      clear hc3 ht3 hp3 how hbx hrd hleft k1 k2 hb hcf
      gi_wp2_with fail
      have b4 := (Below.refl _ w3).alloc (Nat.le_refl _) (.cells (partC x.1 (.slice aw lw cw)) 43 (0, 0))
      have R4 := hide (R3.out.mono b4)
      have hbx4 := (b4.block _ (lt_of_block hbx3)).trans hbx3
      have h4 := heap_alloc_new w3 (.cells (partC x.1 (.slice aw lw cw)) 43 (0, 0))
      have o4 := HOW.out.mono b4
      have hz4 := b4.size
      clear k3
      generalize w3.alloc (.cells (partC x.1 (.slice aw lw cw)) 43 (0, 0)) = w4 at *
      have O4 := hide o4
      refine ⟨trivial, (callsIn_wide.2 (err_any g x.2 w4 R4.out.cur)).mono ?_⟩
      rintro e w5 ⟨rfl, rfl⟩
      obtain ⟨fu, rfl⟩ : ∃ k, fuel = k + 1 := ⟨fuel - 1, by rw [HNN.out] at hpos; omega⟩
      have hng : ¬ (s.xs = [] ∨ s.e ≠ 0) := fun h => h.elim hne (fun h => h E0.out)
      rw [many_go fu sum hng, ← HX.out] at HM HMP
      have hfew := R.out.few
      have hsm := partC_sum (f := f) (sum := sum) (c := s)
      rw [← HX.out] at hsm
      generalize hEE : x.2.e = E at *
      by_cases hE : E = 0
      · subst hE
        obtain ⟨fn, tmps, assign, body, hy, hRr⟩ := HY.out pre (sum + Files.step x.1) x.2 w5 x.1 aw lw cw R4.out (by omega) ⟨w2.heap.size, O4.out, by omega, by omega, a0, len0, cap0, hbx4, fun x e => (hax x e).2⟩
        have hfs : f = 0 → sum + Files.step x.1 ≤ 245 := hsm rfl
        have HFS := hide hfs
        clear hfs hsm
        have q0 : w5.cell? ⟨w3.heap.size, 0, none⟩ = some (wordV x.1.file) := cell_of_row w5 _ 0 _ _ _ h4
        have q1 : w5.cell? ⟨w3.heap.size, 1, none⟩ = some (wordV x.1.record) := cell_of_row w5 _ 1 _ _ _ h4
        have q2 : w5.cell? ⟨w3.heap.size, 2, none⟩ = some (wordV x.1.count) := cell_of_row w5 _ 2 _ _ _ h4
        have q3 : w5.cell? ⟨w3.heap.size, 3, none⟩ = some (.slice aw lw cw) := cell_of_row w5 _ 3 _ _ _ h4
        gi_wp2
        refine hRr.mono ?_
        rintro e w6 ⟨rfl, hR6⟩
        gi_wp2
        go_roundw
        case rel => exact ⟨pre ++ [x.1], sum + Files.step x.1, x.2, fu, hR6, hEE, HFS.out, by omega, HM.out, fun h => by rw [List.append_assoc]; exact HMP.out h⟩
        case measure => rw [leftOf_cur hR6.cur, leftOf_cur R.out.cur]; exact hlt
      · have hst : ∀ k, many (Files.partC f) Files.step k (sum + Files.step x.1) x.2 = ([], x.2) := fun k => many_stop k _ (.inr (by rw [hEE]; exact hE))
        rw [hst] at HM HMP
        have hE' : (E != 0) = true := by simpa using hE
        clear hst hsm
        gi_wp2
        refine ⟨fun _ h => (by cases h), ?_⟩
        gi_wp2
        (try simp only [Exit.inBlock, Exit.then])
        refine bodyPost_ret (results_none rfl _ _ _) rfl ?_
        exact ⟨⟨_, rfl⟩, pre, sum + Files.step x.1, by rw [← HM.out]; exact R4.out, fun h => absurd (show E = 0 by rw [← hEE, HM.out]; exact h) hE⟩
end

end Go.Proofs.Ytolkcohmoalnhaa
