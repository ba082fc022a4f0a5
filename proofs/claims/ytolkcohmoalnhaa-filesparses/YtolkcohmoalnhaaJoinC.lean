/-
  Texts that many others stand on, joined: FileRefMath, FileRefDoc, FileRefRow.
-/
import Derived.Test.YtolkcohmoalnhaaFileRef
import Derived.Test.YtolkcohmoalnhaaFileBlock
import Derived.Test.YtolkcohmoalnhaaFileParse
import Derived.Test.YtolkcohmoalnhaaJoinF

namespace Go.Proofs.Ytolkcohmoalnhaa
open Go.RowKit
open Word Bits Cursor

namespace Files
theorem part_lt (f : Frm) (sum : Nat) {c : St} (h : c.xs ≠ []) : (part f sum c).2.xs.length < c.xs.length := by
  rcases Frm.three f with rfl | rfl | rfl
  · show ((rHead c).2.need _ 5).xs.length < _
    rw [St.need_xs]; exact rHead_lt h
  · have h1 := St.afterB_lt h
    show (St.next ((St.afterB ((St.afterB c).need _ 5)).need _ 9) _ 2).xs.length < _
    refine Nat.lt_of_le_of_lt (St.next_le _ _ _) ?_
    rw [St.need_xs]
    refine Nat.lt_of_le_of_lt (St.next_le _ 1 1) ?_
    rw [St.need_xs]
    exact h1
  · show (St.next ((rHead c).2.need _ 5) _ 2).xs.length < _
    refine Nat.lt_of_le_of_lt (St.next_le _ _ _) ?_
    rw [St.need_xs]; exact rHead_lt h
theorem part_sum {f : Frm} (hf : f ≠ 0) (sum sum' : Nat) (c : St) : part f sum c = part f sum' c := by
  rcases Frm.three f with rfl | rfl | rfl
  · exact absurd rfl hf
  · rfl
  · rfl
theorem many_sum {f : Frm} (hf : f ≠ 0) : ∀ (fuel sum sum' : Nat) (c : St), many (part f) step fuel sum c = many (part f) step fuel sum' c
  | 0, _, _, _ => rfl
  | fuel + 1, sum, sum', c => by
    by_cases h : c.xs = [] ∨ c.e ≠ 0
    · rw [many_stop _ _ h, many_stop _ _ h]
    · rw [many_go _ _ h, many_go _ _ h, part_sum hf sum sum' c, many_sum hf fuel (sum + step (part f sum' c).1) (sum' + step (part f sum' c).1) (part f sum' c).2]
/-- What is told in all, when the rounds so far have told 'pre' and 'c' is left. -/
def Tot (f : Frm) (D : List UInt8) (pre : List RecM) (fuel sum : Nat) (c : St) : Prop :=
  (many (part f) step fuel sum c).2 = (many (part f) step D.length 0 (St.new D)).2 ∧ pre ++ (many (part f) step fuel sum c).1 = (many (part f) step D.length 0 (St.new D)).1
theorem Tot.start (f : Frm) (D : List UInt8) : Tot f D [] D.length 0 (St.new D) := ⟨rfl, rfl⟩
theorem Tot.round {f : Frm} {D : List UInt8} {pre : List RecM} {fuel sum : Nat} {c : St} (h : Tot f D pre fuel sum c) (h1 : c.xs ≠ []) (h2 : c.e = 0) (hf : c.xs.length ≤ fuel) :
    ∃ k, fuel = k + 1 ∧ Tot f D (pre ++ [(part f sum c).1]) k (sum + step (part f sum c).1) (part f sum c).2 ∧ (part f sum c).2.xs.length ≤ k := by
  have hp : 0 < c.xs.length := List.length_pos_iff.2 h1
  have hlt := part_lt f sum h1
  cases fuel with
  | zero => omega
  | succ k =>
    have hn : ¬ (c.xs = [] ∨ c.e ≠ 0) := fun e => e.elim h1 (fun e => e h2)
    have h3 := h
    unfold Tot at h3
    rw [many_go k sum hn] at h3
    refine ⟨k, rfl, ⟨h3.1, ?_⟩, by omega⟩
    rw [List.append_assoc]
    exact h3.2
theorem Tot.done {f : Frm} {D : List UInt8} {pre : List RecM} {fuel sum : Nat} {c : St} (h : Tot f D pre fuel sum c) (h1 : c.xs = [] ∨ c.e ≠ 0) :
    c = (many (part f) step D.length 0 (St.new D)).2 ∧ pre = (many (part f) step D.length 0 (St.new D)).1 := by
  have h3 := h
  unfold Tot at h3
  rw [many_stop _ _ h1, List.append_nil] at h3
  exact h3
theorem Tot.sum {f : Frm} (hf : f ≠ 0) {D : List UInt8} {pre : List RecM} {fuel sum : Nat} (sum' : Nat) {c : St} (h : Tot f D pre fuel sum c) : Tot f D pre fuel sum' c := by
  unfold Tot at h ⊢
  rw [many_sum hf fuel sum' sum c]
  exact h
end Files

end Go.Proofs.Ytolkcohmoalnhaa

namespace Go.Proofs.Ytolkcohmoalnhaa
open Go.RowKit
open Word Bits Cursor

namespace Files
theorem doc_none (f : Frm) (c : UInt8) : finish (f.read (MsgM.of c, St.new [])) = (MsgM.zero, 2) := by
  rcases Frm.three f with rfl | rfl | rfl <;> rfl
theorem new_cons (x : UInt8) (r : List UInt8) : (St.new (x :: r)).byte = x ∧ (St.new (x :: r)).afterB = ⟨r, false, 0⟩ := by
  have hl : (St.new (x :: r)).lack 1 1 = false := by
    simp [St.lack, St.new]
    omega
  constructor
  · unfold St.byte St.got
    rw [hl]
    show UInt8.ofNat x.toNat = x
    simp
  · unfold St.afterB St.next
    rw [hl]
    rfl
/-- What a form answers to a block whose size is 'x'. -/
theorem doc_cons (f : Frm) (c x : UInt8) (r : List UInt8) : f.read (MsgM.of c, St.new (x :: r)) = (putRecs (MsgM.of c) (x, (rBlock (part f) step x.toNat ((⟨r, false, 0⟩ : St).need (ruleN f x.toNat) 5)).1), (rBlock (part f) step x.toNat ((⟨r, false, 0⟩ : St).need (ruleN f x.toNat) 5)).2) := by
  unfold Frm.read rForm
  simp only [(new_cons x r).1, (new_cons x r).2]
theorem block_bad (f : Frm) (n : Nat) {s : St} (h : s.e ≠ 0) : (rBlock (part f) step n s).2.e = s.e := by
  have h2 : (s.next (n : Int) 1).e = s.e := by
    unfold St.next
    by_cases hk : s.lack (n : Int) 1 = true
    · rw [if_pos hk]
      exact if_neg h
    · rw [if_neg hk]
  unfold rBlock
  show ((s.next (n : Int) 1).need _ _).e = s.e
  rw [St.need_bad _ _ _ (by rw [h2]; exact h), h2]
theorem doc_rule (f : Frm) (c x : UInt8) (r : List UInt8) (h : ruleN f x.toNat = false) : finish (f.read (MsgM.of c, St.new (x :: r))) = (MsgM.zero, 5) := by
  refine finish_bad ?_ (by omega)
  rw [doc_cons, h]
  exact block_bad f _ (s := ⟨r, false, 5⟩) (by show (5 : Int) ≠ 0; omega)
theorem doc_short (f : Frm) (c x : UInt8) (r : List UInt8) (h : ruleN f x.toNat = true) (hr : r.length < x.toNat) : finish (f.read (MsgM.of c, St.new (x :: r))) = (MsgM.zero, 2) := by
  refine finish_bad ?_ (by omega)
  rw [doc_cons, h, St.need_true]
  have hl : (⟨r, false, 0⟩ : St).lack (x.toNat : Int) 1 = true := St.lack_short (by show r.length < x.toNat * 1; omega)
  have hn : (⟨r, false, 0⟩ : St).next (x.toNat : Int) 1 = ⟨[], true, 2⟩ := by
    unfold St.next
    rw [hl]
    rfl
  unfold rBlock
  rw [hn]
  have key : ∀ ok e, ((⟨[], true, 2⟩ : St).need ok e).e = 2 := fun ok e => by rw [St.need_bad _ _ _ (by show (2 : Int) ≠ 0; omega)]
  simp only [key]
theorem end_drop (m : MsgM) (r : List UInt8) (n : Nat) : finish (m, (⟨r.drop n, false, 0⟩ : St)) = if n < r.length then (MsgM.zero, 3) else (m, 0) := by
  have key : ∀ l : List UInt8, finish (m, (⟨l, false, 0⟩ : St)) = if l.length = 0 then (m, 0) else (MsgM.zero, 3) := fun l => by
    cases l with
    | nil => rfl
    | cons y l => rfl
  rw [key, List.length_drop]
  by_cases h : n < r.length
  · rw [if_pos h, if_neg (by omega)]
  · rw [if_neg h, if_pos (by omega)]
/-- .. and where the block is there, whole. -/
theorem doc_whole (f : Frm) (c x : UInt8) (r : List UInt8) (h : ruleN f x.toNat = true) (hr : x.toNat ≤ r.length) :
    finish (f.read (MsgM.of c, St.new (x :: r))) = if blockE (part f) step (r.take x.toNat) ≠ 0 then (MsgM.zero, blockE (part f) step (r.take x.toNat)) else if x.toNat < r.length then (MsgM.zero, 3) else
      ((MsgM.of c).put_recs (many (part f) step (r.take x.toNat).length 0 (St.new (r.take x.toNat))).1, 0) := by
  rw [doc_cons, h, St.need_true]
  have hl : (⟨r, false, 0⟩ : St).lack (x.toNat : Int) 1 = false := by
    unfold St.lack
    simp only [Bool.false_or, Bool.or_eq_false_iff, decide_eq_false_iff_not]
    exact ⟨by omega, by show ¬ ((r.length : Int) < _); omega⟩
  have hn : (⟨r, false, 0⟩ : St).next (x.toNat : Int) 1 = ⟨r.drop x.toNat, false, 0⟩ := by
    unfold St.next
    rw [hl]
    simp
  have hg : (⟨r, false, 0⟩ : St).got (x.toNat : Int) 1 = r.take x.toNat := by
    unfold St.got
    rw [hl]
    simp
  unfold rBlock
  rw [hn, hg]
  generalize hE : blockE (part f) step (r.take x.toNat) = E
  by_cases h0 : E = 0
  · subst h0
    rw [if_neg (by simp)]
    rw [show decide ((0 : Int) = 0) = true from rfl, St.need_true]
    exact end_drop _ _ _
  · rw [if_pos h0]
    refine finish_bad ?_ h0
    show ((⟨r.drop x.toNat, false, 0⟩ : St).need (decide (E = 0)) E).e = E
    simp [St.need, h0]
end Files

end Go.Proofs.Ytolkcohmoalnhaa

namespace Go.Proofs.Ytolkcohmoalnhaa
open Go.RowKit
open Word Bits Cursor

/-- Between two rounds: the parts so far lie in memory of the call's own, behind the cursor's block. -/
structure QRd (w0 : World) (ab : Option Addr) (lb cb : Nat) (D : List UInt8) (pre : List RecM) (c : St) (a : Option Addr) (l cc : Nat) (w : World) : Prop where
  whole : Bs w0 ab lb cb D
  below : Below w0.heap.size w0 w
  cur : RCur w w0.heap.size ab lb cb D c
  own : OwnR w (w0.heap.size + 1) a l cc pre
  hat : ∀ z, a = some z → z.block < w.heap.size
/-- Within a round that began in 'wr': what was there stays, the part being read lies in the block made first. -/
structure XRd (w0 wr : World) (ab : Option Addr) (lb cb : Nat) (D : List UInt8) (c : St) (cs : Array Value) (w : World) : Prop where
  whole : Bs w0 ab lb cb D
  off : Off 0 (w0.heap.size + 1) wr w
  below : Below w0.heap.size w0 w
  cur : RCur w w0.heap.size ab lb cb D c
  lt : w0.heap.size < wr.heap.size
  x : w.heap[wr.heap.size]? = some (.cells cs 43 (0, 0))

theorem half_any (x : Nat) : ((x : Int) - 1).tdiv 2 = (((x - 1) / 2 : Nat) : Int) := by
  cases x with
  | zero => decide
  | succ n => rw [Int.tdiv_eq_ediv_of_nonneg (by omega)]; omega

section
variable {w0 wr : World} {ab : Option Addr} {lb cb : Nat} {D : List UInt8} {pre : List RecM} {c c' : St} {a : Option Addr} {l cc : Nat} {cs cs' : Array Value} {w w' : World}
theorem QRd.mono (h : QRd w0 ab lb cb D pre c a l cc w) (hb : Below w.heap.size w w') : QRd w0 ab lb cb D pre c a l cc w' :=
  ⟨h.whole, h.below.trans (hb.mono h.below.size), h.cur.mono hb, h.own.mono hb, fun z e => Nat.lt_of_lt_of_le (h.hat z e) hb.size⟩
theorem QRd.start (hx : Bs w0 ab lb cb D) (hl : lb ≤ 100000) (hb : Below w0.heap.size w0 w) (hc : w.heap[w0.heap.size]? = some (refObj ab lb cb 0 false 0)) : QRd w0 ab lb cb D [] (St.new D) none 0 0 w :=
  ⟨hx, hb, ⟨0, by omega, rfl, hc, hx.mono hb, hl⟩, OwnR.empty _ _ _, fun z e => by cases e⟩
theorem QRd.open (h : QRd w0 ab lb cb D pre c a l cc wr) (hb : Below wr.heap.size wr w) (hx : w.heap[wr.heap.size]? = some (.cells cs 43 (0, 0))) : XRd w0 wr ab lb cb D c cs w :=
  ⟨h.whole, Off.of hb, h.below.trans (hb.mono h.below.size), h.cur.mono hb, h.cur.lt, hx⟩
theorem XRd.size (h : XRd w0 wr ab lb cb D c cs w) : wr.heap.size < w.heap.size := lt_of_block h.x
theorem XRd.step (h : XRd w0 wr ab lb cb D c cs w) (hc : RCur w' w0.heap.size ab lb cb D c') (hb : But w0.heap.size w w') : XRd w0 wr ab lb cb D c' cs w' :=
  ⟨h.whole, h.off.trans (Off.but hb (Nat.zero_le _) (Nat.lt_succ_self _)), h.below.trans (hb.below (Nat.le_refl _) h.below.size), hc, h.lt, (hb.block _ (lt_of_block h.x) (by have := h.lt; omega)).trans h.x⟩
theorem XRd.mono (h : XRd w0 wr ab lb cb D c cs w) (hb : Below w.heap.size w w') : XRd w0 wr ab lb cb D c cs w' :=
  ⟨h.whole, h.off.trans (Off.of hb), h.below.trans (hb.mono h.below.size), h.cur.mono hb, h.lt, (hb.block _ (lt_of_block h.x)).trans h.x⟩
theorem XRd.turn (h : XRd w0 wr ab lb cb D c cs w) (hx : w'.heap[wr.heap.size]? = some (.cells cs' 43 (0, 0))) (hb : ∀ B, B ≤ wr.heap.size → Below B w w') (hn : ∀ k, k ≠ wr.heap.size → w'.heap[k]? = w.heap[k]?) : XRd w0 wr ab lb cb D c cs' w' := by
  have hlt := h.lt
  have hz := (hb 0 (Nat.zero_le _)).size
  have hbl : Below w0.heap.size w0 w' := h.below.trans (hb _ (Nat.le_of_lt hlt))
  obtain ⟨k, h1, h2, h3, h4, h5⟩ := h.cur
  exact ⟨h.whole, ⟨Nat.le_trans h.off.size hz, fun i hi hn' => (hn i (by omega)).trans (h.off.block i hi hn')⟩, hbl, ⟨k, h1, h2, (hn _ (by omega)).trans h3, h.whole.mono hbl, h5⟩, hlt, hx⟩
theorem XRd.put (h : XRd w0 wr ab lb cb D c cs w) (i : Nat) (v : Value) : XRd w0 wr ab lb cb D c (cs.set! i v) (w.setCell ⟨wr.heap.size, i, none⟩ v) :=
  h.turn (set_block h.x _) (fun B hB => (Below.refl B w).setCell (p := ⟨wr.heap.size, i, none⟩) hB v) (fun _ hk => Below.heap_setCell _ _ _ _ hk)
theorem XRd.cell (h : XRd w0 wr ab lb cb D c cs w) (i : Nat) : w.cell? ⟨wr.heap.size, i, none⟩ = cs[i]? := cell_of_row w _ i _ _ _ h.x
theorem XRd.free (h : XRd w0 wr ab lb cb D c cs w) (i : Nat) : w.frozen? ⟨wr.heap.size, i, none⟩ = false := by simp [World.frozen?, h.x]

theorem xr_byte (h : XRd w0 wr ab lb cb D c cs w) : Calls Try.prog 42 #[ptrV w0.heap.size] w fun r w' => r = .returned (byteV c.byte) ∧ XRd w0 wr ab lb cb D c.afterB cs w' := by
  refine (refByte_any _ ab lb cb D c w h.cur).mono ?_
  rintro r w1 ⟨rfl, h1, h2⟩
  exact ⟨by rw [byteV_byte], h.step h1 h2⟩
theorem xr_need (h : XRd w0 wr ab lb cb D c cs w) (ok : Bool) (e : Int) : Calls Try.prog 43 #[ptrV w0.heap.size, .bool ok, .int .i64 e] w fun r w' => r = .returned (.tuple #[]) ∧ XRd w0 wr ab lb cb D (c.need ok e) cs w' := by
  refine (refNeed_any _ ab lb cb D c w h.cur ok e).mono ?_
  rintro r w1 ⟨rfl, h1, h2⟩
  exact ⟨rfl, h.step h1 h2⟩
theorem xr_left (h : XRd w0 wr ab lb cb D c cs w) (n : Nat) (hn : n = c.xs.length) : Calls Try.prog 41 #[ptrV w0.heap.size] w fun r w' => r = .returned (.int .i64 (n : Int)) ∧ XRd w0 wr ab lb cb D c cs w' := by
  refine (refLeft_any _ ab lb cb D c w h.cur).mono ?_
  rintro r w1 ⟨rfl, k, rfl⟩
  exact ⟨by rw [hn], h.mono (below_draws (Below.refl _ _) k)⟩
theorem xr_head (h : XRd w0 wr ab lb cb D c cs w) : Calls Try.prog 45 #[ptrV w0.heap.size] w fun r w' => r = .returned (.agg (partC (Files.headRec (Files.rHead c).1 []) (.slice none 0 0))) ∧ XRd w0 wr ab lb cb D (Files.rHead c).2 cs w' := by
  refine (refHead_any c w h.cur).mono ?_
  rintro r w1 ⟨rfl, h1, h2⟩
  exact ⟨rfl, h.step h1 h2⟩
/-- Words that are read lie in memory made behind the part's block. -/
theorem xr_words (h : XRd w0 wr ab lb cb D c cs w) (z : Int) (n : Nat) (hz : z = (n : Int)) : Calls Try.prog 44 #[ptrV w0.heap.size, .int .i64 z] w fun r w' =>
    (∃ a' cap', r = .returned (.slice a' (takeW (c.got (n : Int) 2)).length cap') ∧ Own wordV w' (wr.heap.size + 1) a' (takeW (c.got (n : Int) 2)).length cap' (takeW (c.got (n : Int) 2))) ∧ XRd w0 wr ab lb cb D (c.next (n : Int) 2) cs w' := by
  subst hz
  refine (refWords_any _ ab lb cb D c w h.cur (n : Int)).mono ?_
  rintro r w1 ⟨⟨a', cap', hr, hx⟩, h1, h2⟩
  exact ⟨⟨a', cap', hr, hx.base h.size⟩, h.step h1 h2⟩

theorem Own.beside {α : Type} {f : α → Value} {g i len cap : Nat} {xs : List α} {v : Value} (h : Own f w (g + 1) a len cap xs) : Own f (w.setCell ⟨g, i, none⟩ v) (g + 1) a len cap xs := by
  have hz : (w.setCell ⟨g, i, none⟩ v).heap.size = w.heap.size := by simp
  have hn : ∀ k, g + 1 ≤ k → (w.setCell ⟨g, i, none⟩ v).heap[k]? = w.heap[k]? := fun k hk => Below.heap_setCell _ _ _ _ (by show k ≠ g; omega)
  refine ⟨⟨h.sl.hlen, h.sl.hle, h.sl.hmax, fun j hj => ?_⟩, fun j hj => ?_⟩
  · obtain ⟨b, off, ha, hlt, hc⟩ := h.sl.hcell j hj
    obtain ⟨b', off', ha', hB, _⟩ := h.room j (by have := h.sl.hlen; have := h.sl.hle; omega)
    rw [ha] at ha'
    cases ha'
    exact ⟨b, off, ha, by omega, (World.cell?_of_block (w := w) (a := ⟨b, off + j, none⟩) (hn b hB)).trans hc⟩
  · obtain ⟨b, off, ha, hB, hlt, hc, hf⟩ := h.room j hj
    exact ⟨b, off, ha, hB, by omega, by rw [World.cell?_of_block (w := w) (a := ⟨b, off + j, none⟩) (hn b hB)]; exact hc, by
      unfold World.frozen? at hf ⊢
      simp only at hf ⊢
      rw [hn b hB]; exact hf⟩

/-- 'append' of the part that was read. -/
theorem wpList_appP {ops : Array Oper} {rest : List Oper} {o : Oper} {act : Act} {Q : Exit → Act → World → Prop} (hw' : Region.wanted o (yielded ops act.tmps) = true) (sl x : Operand)
    (ho : o.op = .call { callee := .builtin .append, args := #[sl, x], argTypes := #[27, 27] }) (hP : QRd w0 ab lb cb D pre c a l cc wr) (hs : act.eval sl = .slice a l cc) (hX : XRd w0 wr ab lb cb D c' cs w)
    (y : RecM) (aw : Option Addr) (lw cw : Nat) (how : Own wordV w (wr.heap.size + 1) aw lw cw y.words) {v : Value} (hx : act.eval x = v) (hsrc : Src Try.prog 4 27 v 1 (recCells y (.slice aw lw cw)) w) (hsmall : l + 1 ≤ 1000)
    (h : ∀ a' cap' w', QRd w0 ab lb cb D (pre ++ [y]) c' a' (l + 1) cap' w' → wpList Try.prog ops Q rest (act.put o.dst (.slice a' (l + 1) cap')) w') : wpList Try.prog ops Q (o :: rest) act w := by
  obtain ⟨iR, hiR, hzR, hsR, hyR⟩ := info_parts Try.infoR
  have hO : OwnR w (w0.heap.size + 1) a l cc pre := hP.own.offs (Nat.le_refl _) hX.off
  have hwz := hX.size
  have hlt := hX.lt
  obtain ⟨rl, hrl, hrc, _⟩ := id hO
  refine wpList_appC 4 hw' sl x 27 27 ho (w0.heap.size + 1) 43 iR (.agg zRec) Try.underlying27 hiR hzR hsR rfl a l cc _ hs hrc _ 1 _ (by omega) (by omega) hx hsrc (by rw [hyR]; omega) (by unfold maxLen; omega) (by omega) fun a' c1 w1 h1 h2 h3 h4 _ => ?_
  have hown : OwnR w1 (w0.heap.size + 1) a' (l + 1) c1 (pre ++ [y]) := hO.grown (x := y) (aw := aw) (lw := lw) (cw := cw) (fun u hu => by
    refine ⟨how.sl.hlen, how.sl.hle, how.sl.hmax, fun i hi => ?_⟩
    obtain ⟨b, off, hb, hlt', hc⟩ := how.sl.hcell i hi
    obtain ⟨b', off', hb', hB, _⟩ := how.room i (by have := how.sl.hlen; have := how.sl.hle; omega)
    rw [hb] at hb'
    cases hb'
    have h1 : u.heap[b]? = w.heap[b]? := hu.block b (by omega) (by omega) fun o e => by have := hP.hat _ e; simp only at this; omega
    refine ⟨b, off, hb, by have := hu.size; omega, ?_⟩
    rw [World.cell?_of_block (w := w) (a := ⟨b, off + i, none⟩) h1]
    exact hc) (fun l' hl' hm => by rw [hl'.unique hrc]; exact h1) h3 h4
  have hbl : Below w0.heap.size w0 w1 := hX.below.trans (h2.mono (Nat.le_succ _))
  obtain ⟨k, q1, q2, q3, _, q5⟩ := hX.cur
  refine h a' c1 w1 ⟨hX.whole, hbl, ⟨k, q1, q2, (h2.block _ (Nat.lt_succ_self _)).trans q3, hX.whole.mono hbl, q5⟩, hown, fun z e => ?_⟩
  obtain ⟨b, off, ha, _, hb⟩ := hown.low (by omega)
  rw [ha] at e
  injection e with e
  rw [← e]
  exact hb
end

end Go.Proofs.Ytolkcohmoalnhaa
