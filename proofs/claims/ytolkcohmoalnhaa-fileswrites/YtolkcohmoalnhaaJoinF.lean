/-
  Texts that many others stand on, joined: FileMore, FileAns.
-/
import Derived.Test.YtolkcohmoalnhaaJoinE

namespace Go.Proofs.Ytolkcohmoalnhaa
open Go.RowKit
open Word Bits Cursor

namespace Files
theorem write_ask (f r c : UInt16) : write 0 (partsM 20 [⟨f, r, c, []⟩]) = if 0 < f.toNat ∧ r.toNat ≤ 9999 ∧ 0 < c.toNat ∧ c.toNat ≤ 121 then some ([7, 6] ++ Word.putW [f, r, c]) else none := by
  have h := write_form (dir := 0) (f := 0) (m := partsM 20 [⟨f, r, c, []⟩]) rfl (p := 0 < f.toNat ∧ r.toNat ≤ 9999 ∧ 0 < c.toNat ∧ c.toNat ≤ 121) (by
    constructor
    · rintro ⟨x, e, _, h2, _⟩
      have e1 : [⟨f, r, c, []⟩] = x.2 := congrArg MsgM.recs e
      rw [← e1] at h2
      have h3 : valid 0 0 ⟨f, r, c, []⟩ := h2.1
      obtain ⟨q1, q2, q3, _, q5⟩ := h3
      unfold step at q5
      exact ⟨q1, q2, q3, by simp only at q5; omega⟩
    · rintro ⟨q1, q2, q3, q4⟩
      refine ⟨(7, [⟨f, r, c, []⟩]), rfl, by show ruleN 0 7 = true; decide, ⟨⟨q1, q2, q3, rfl, ?_⟩, trivial⟩, rfl⟩
      unfold step
      simp only
      omega)
  rw [h]
  rfl
/-! parts that are written -/
def okP (x : RecM) : Bool := decide (x.count.toNat = x.words.length) && decide (0 < x.count.toNat) && decide (0 < x.file.toNat) && decide (x.record.toNat ≤ 9999)
def total : List RecM → Nat
  | [] => 0
  | x :: l => 7 + 2 * x.words.length + total l
theorem total_len (l : List RecM) : (encMany (enc 2) l).length = total l := by
  induction l with
  | nil => rfl
  | cons x l ih =>
    rw [encMany, List.length_append, ih]
    show ([6] ++ Word.putW [x.file, x.record, x.count] ++ Word.putW x.words).length + total l = 7 + 2 * x.words.length + total l
    rw [List.length_append, List.length_append, putW_length, putW_length]
    simp only [List.length_cons, List.length_nil]
theorem total_append (l r : List RecM) : total (l ++ r) = total l + total r := by
  induction l with
  | nil => simp [total]
  | cons x l ih => rw [List.cons_append, total, total, ih]; omega
theorem total_take (l : List RecM) (k : Nat) (h : k < l.length) : total (l.take (k + 1)) = total (l.take k) + (7 + 2 * l[k].words.length) := by
  rw [List.take_succ_eq_append_getElem h, total_append]
  rfl
theorem total_le : ∀ (l : List RecM), (∀ x ∈ l, x.words.length ≤ 300) → total l ≤ 607 * l.length
  | [], _ => Nat.le_refl _
  | x :: l, h => by
    have h1 := total_le l (fun y hy => h y (List.mem_cons_of_mem _ hy))
    have h2 := h x List.mem_cons_self
    rw [total, List.length_cons]
    omega
theorem okMany_put : ∀ (l : List RecM) (sum : Nat), okMany step (valid 2) sum l ↔ l.all okP = true
  | [], _ => by simp [okMany]
  | x :: l, sum => by
    rw [List.all_cons, Bool.and_eq_true, ← okMany_put l (sum + step x)]
    refine and_congr ?_ Iff.rfl
    unfold okP
    simp only [Bool.and_eq_true, decide_eq_true_eq]
    show (0 < x.file.toNat ∧ x.record.toNat ≤ 9999 ∧ 0 < x.count.toNat ∧ x.words.length = x.count.toNat) ↔ _
    constructor
    · rintro ⟨h1, h2, h3, h4⟩
      exact ⟨⟨⟨h4.symm, h3⟩, h1⟩, h2⟩
    · rintro ⟨⟨⟨h1, h2⟩, h3⟩, h4⟩
      exact ⟨h3, h4, h2, h1.symm⟩
theorem total_low : ∀ (l : List RecM), l ≠ [] → l.all okP = true → 9 ≤ total l
  | [], h, _ => absurd rfl h
  | x :: l, _, h => by
    rw [List.all_cons, Bool.and_eq_true] at h
    have h1 := h.1
    unfold okP at h1
    simp only [Bool.and_eq_true, decide_eq_true_eq] at h1
    rw [total]
    omega
theorem write_put {dir : Int} (hd : dir = 0 ∨ dir = 1) (l : List RecM) : write dir (partsM 21 l) = if l ≠ [] ∧ l.all okP = true ∧ total l ≤ 251 then some ([UInt8.ofNat (total l)] ++ encMany (enc 2) l) else none := by
  have h := write_form (dir := dir) (f := 2) (m := partsM 21 l) (by rcases hd with rfl | rfl <;> rfl) (p := l ≠ [] ∧ l.all okP = true ∧ total l ≤ 251) (by
    constructor
    · rintro ⟨x, e, h1, h2, h3⟩
      have e1 : l = x.2 := congrArg MsgM.recs e
      rw [← e1] at h2 h3
      rw [total_len] at h3
      have h4 : ruleN 2 x.1.toNat = true := h1
      unfold ruleN at h4
      simp only [Bool.and_eq_true, decide_eq_true_eq] at h4
      refine ⟨fun e2 => ?_, (okMany_put l 0).1 h2, by omega⟩
      rw [e2] at h3
      simp [total] at h3
      omega
    · rintro ⟨h1, h2, h3⟩
      have h9 := total_low l h1 h2
      have hn : (UInt8.ofNat (total l)).toNat = total l := by rw [UInt8.toNat_ofNat', Nat.mod_eq_of_lt (by omega)]
      refine ⟨(UInt8.ofNat (total l), l), rfl, ?_, (okMany_put l 0).2 h2, by rw [total_len]; exact hn.symm⟩
      show ruleN 2 (UInt8.ofNat (total l)).toNat = true
      rw [hn]
      unfold ruleN
      simp only [Bool.and_eq_true, decide_eq_true_eq]
      exact ⟨h9, h3⟩)
  rw [h]
  show (if _ then some ([UInt8.ofNat (encMany (enc 2) l).length] ++ encMany (enc 2) l) else none) = _
  rw [total_len]
theorem put_some {dir : Int} (hd : dir = 0 ∨ dir = 1) (l : List RecM) : (write dir (partsM 21 l)).isSome = (decide (0 < l.length) && l.all okP && decide (total l ≤ 251)) := by
  rw [write_put hd]
  have h0 : l ≠ [] ↔ 0 < l.length := List.length_pos_iff.symm
  by_cases h : l ≠ [] ∧ l.all okP = true ∧ total l ≤ 251
  · rw [if_pos h]
    simp [h.2.1, h.2.2, h0.1 h.1]
  · rw [if_neg h]
    symm
    rw [Option.isSome_none, Bool.eq_false_iff]
    intro hc
    simp only [Bool.and_eq_true, decide_eq_true_eq] at hc
    exact h ⟨h0.2 hc.1.1, hc.1.2, hc.2⟩
theorem put_both (l : List RecM) : write 1 (partsM 21 l) = write 0 (partsM 21 l) := by rw [write_put (.inl rfl), write_put (.inr rfl)]
theorem errW_eq (R : Option (List UInt8)) : (errW R == 0) = R.isSome := by cases R <;> rfl
end Files
theorem all_take (p : RecM → Bool) (l : List RecM) (k : Nat) (h : k < l.length) : (l.take (k + 1)).all p = ((l.take k).all p && p l[k]) := by
  rw [List.take_succ_eq_append_getElem h, List.all_append]
  simp
theorem parts_few {c : UInt8} {l : List RecM} (h : (partsM c l).few = true) : l.length ≤ 100 ∧ ∀ x ∈ l, x.words.length ≤ 300 := ⟨(MsgM.small_of h).recs, (MsgM.small_of h).part⟩
theorem Rs.ofTrod {H : Type} {enc : TypeId × Value → H} {w : World} {base : Nat} {held : Bool} {fuel : Nat} {a : Option Addr} {len cap : Nat} {x : DataW H × List MemPlace}
    (h : DataW.trod enc Try.prog w base (fun _ => true) held fuel 27 [.slice a len cap] = some x) : ∃ xs, Rs w a len cap xs := by
  obtain ⟨a', l', c', xs, e, hr⟩ := recs_trod h
  injection e with e1 e2 e3
  subst e1 e2 e3
  exact ⟨xs, hr⟩

end Go.Proofs.Ytolkcohmoalnhaa

namespace Go.Proofs.Ytolkcohmoalnhaa
open Go.RowKit
open Word Bits Cursor

namespace Files
def steps : List RecM → Nat
  | [] => 0
  | x :: l => step x + steps l
def ansP (x : RecM) : RecM := ⟨0, 0, 0, List.replicate x.count.toNat 0⟩
theorem okMany_ask : ∀ (l : List RecM) (sum : Nat), sum ≤ 245 → okMany step (valid 0) sum l → (∀ x ∈ l, 0 < x.count.toNat ∧ x.count.toNat ≤ 121) ∧ sum + steps l ≤ 245
  | [], sum, hs, _ => ⟨fun _ h => (by cases h), hs⟩
  | x :: l, sum, hs, h => by
    obtain ⟨⟨_, _, h3, _, h5⟩, h6⟩ := h
    obtain ⟨i1, i2⟩ := okMany_ask l _ h5 h6
    refine ⟨fun y hy => ?_, ?_⟩
    · rcases List.mem_cons.1 hy with rfl | hy
      · unfold step at h5
        exact ⟨h3, by omega⟩
      · exact i1 y hy
    · rw [steps]; omega
theorem ans_len : ∀ (l : List RecM), (encMany (enc 1) (l.map ansP)).length = steps l
  | [] => rfl
  | x :: l => by
    rw [List.map_cons, encMany, List.length_append, ans_len l, steps]
    show ([UInt8.ofNat (2 * (List.replicate x.count.toNat (0 : UInt16)).length + 1), 6] ++ putW (List.replicate x.count.toNat 0)).length + _ = _
    rw [List.length_append, putW_length, List.length_replicate]
    unfold step
    simp only [List.length_cons, List.length_nil]
theorem ans_ok : ∀ (l : List RecM) (sum : Nat), (∀ x ∈ l, 0 < x.count.toNat ∧ x.count.toNat ≤ 121) → okMany step (valid 1) sum (l.map ansP)
  | [], _, _ => trivial
  | x :: l, sum, h => by
    have hx := h x List.mem_cons_self
    refine ⟨⟨rfl, rfl, rfl, ?_, ?_⟩, ans_ok l _ fun y hy => h y (List.mem_cons_of_mem _ hy)⟩
    · show 1 ≤ (List.replicate x.count.toNat (0 : UInt16)).length
      rw [List.length_replicate]; exact hx.1
    · show (List.replicate x.count.toNat (0 : UInt16)).length ≤ 127
      rw [List.length_replicate]; omega
theorem steps_low (l : List RecM) (h : l ≠ []) (hc : ∀ x ∈ l, 0 < x.count.toNat ∧ x.count.toNat ≤ 121) : 4 ≤ steps l := by
  cases l with
  | nil => exact absurd rfl h
  | cons x l =>
    have := hc x List.mem_cons_self
    rw [steps]
    unfold step
    omega
/-- What may be asked for may be answered. -/
theorem write_fits {l : List RecM} {b : List UInt8} (h : write 0 (partsM 20 l) = some b) : (∀ x ∈ l, 0 < x.count.toNat ∧ x.count.toNat ≤ 121) ∧ ∃ q, write 1 (partsM 20 (l.map ansP)) = some q ∧ q.length ≤ 246 := by
  have hv : Frm.valid 20 0 (partsM 20 l) := write_valid (f := 0) rfl h
  obtain ⟨x, e, h1, h2, h3⟩ := hv
  have e1 : l = x.2 := congrArg MsgM.recs e
  rw [← e1] at h2 h3
  obtain ⟨i1, i2⟩ := okMany_ask l 0 (by omega) h2
  refine ⟨i1, [UInt8.ofNat (encMany (enc 1) (l.map ansP)).length] ++ encMany (enc 1) (l.map ansP), ?_, ?_⟩
  · refine Pack.write_ok (X := pack) (f := (1 : Frm)) rfl ?_
    have hne : l ≠ [] := by
      intro e2
      rw [e2] at h3
      have h4 : ruleN 0 x.1.toNat = true := h1
      unfold ruleN at h4
      simp only [Bool.and_eq_true, decide_eq_true_eq] at h4
      have h5 : 0 = x.1.toNat := h3
      omega
    have h9 := steps_low l hne i1
    have hn : (UInt8.ofNat (steps l)).toNat = steps l := by rw [UInt8.toNat_ofNat', Nat.mod_eq_of_lt (by omega)]
    refine ⟨(UInt8.ofNat (steps l), l.map ansP), rfl, ?_, ans_ok l 0 i1, by rw [ans_len]; exact hn.symm⟩
    show ruleN 1 (UInt8.ofNat (steps l)).toNat = true
    rw [hn]
    unfold ruleN
    simp only [Bool.and_eq_true, decide_eq_true_eq]
    omega
  · rw [List.length_append, ans_len]
    simp only [List.length_cons, List.length_nil]
    omega
end Files

section
variable {P : Program}
/-- 'append' of elements of 's' cells, at a step of a region that draws. -/
theorem step_appC (s : Nat) {w : World} {ops : Array Oper} {o : Oper} {act : Act} {K : Act → World → Prop} {Q : Exit → Act → World → Prop} {E : Prop} (hw' : Region.wanted o (yielded ops act.tmps) = true) (sl x : Operand) (t tx : TypeId)
    (ho : o.op = .call { callee := .builtin .append, args := #[sl, x], argTypes := #[t, tx] }) (B : Nat) (e : TypeId) (i : TypeInfo) (z : Value) (ht : P.underlying t = some (.slice e)) (hi : P.info? e = some i) (hz : i.zero = some z) (hsz : i.size = s) (hzs : z.cells.size = s)
    (a : Option Addr) (len cap : Nat) (cs : List Value) (hs : act.eval sl = .slice a len cap) (hd : OwnC s w B a len cap cs) (vx : Value) (m : Nat) (news : List Value) (hm : 0 < m) (hs0 : 0 < s) (hx : act.eval x = vx) (hsrc : Src P s tx vx m news w)
    (hbytes : (len + m) * i.bytes ≤ 140737488355328) (h63 : len + m ≤ maxLen) (hB : B ≤ w.heap.size)
    (h : ∀ a' cap' w', OwnC s w' B a' (len + m) cap' (cs ++ news) → Below B w w' → KeepC B a w w' → (a' = a ∨ ∃ g, a' = some ⟨g, 0, none⟩ ∧ w.heap.size ≤ g) →
      (∀ p : Value → Prop, (∀ v ∈ cs, p v) → (∀ v ∈ news, p v) → (∀ (i : Nat) (v : Value), z.cells[i]? = some v → p v) → AllC p w a → AllC p w' a') → K (act.put o.dst (.slice a' (len + m) cap')) w') : if Region.wanted o (yielded ops act.tmps) = true then Oper.wp P o act w K Q else E := by
  rw [if_pos hw']
  exact wp_appendC s sl x t tx ho B e i z ht hi hz hsz hzs a len cap cs hs hd vx m news hm hs0 hx hsrc hbytes h63 hB h
/-- .. and at an operation. -/
theorem wpList_appC (s : Nat) {w : World} {ops : Array Oper} {rest : List Oper} {o : Oper} {act : Act} {Q : Exit → Act → World → Prop} (hw' : Region.wanted o (yielded ops act.tmps) = true) (sl x : Operand) (t tx : TypeId)
    (ho : o.op = .call { callee := .builtin .append, args := #[sl, x], argTypes := #[t, tx] }) (B : Nat) (e : TypeId) (i : TypeInfo) (z : Value) (ht : P.underlying t = some (.slice e)) (hi : P.info? e = some i) (hz : i.zero = some z) (hsz : i.size = s) (hzs : z.cells.size = s)
    (a : Option Addr) (len cap : Nat) (cs : List Value) (hs : act.eval sl = .slice a len cap) (hd : OwnC s w B a len cap cs) (vx : Value) (m : Nat) (news : List Value) (hm : 0 < m) (hs0 : 0 < s) (hx : act.eval x = vx) (hsrc : Src P s tx vx m news w)
    (hbytes : (len + m) * i.bytes ≤ 140737488355328) (h63 : len + m ≤ maxLen) (hB : B ≤ w.heap.size)
    (h : ∀ a' cap' w', OwnC s w' B a' (len + m) cap' (cs ++ news) → Below B w w' → KeepC B a w w' → (a' = a ∨ ∃ g, a' = some ⟨g, 0, none⟩ ∧ w.heap.size ≤ g) →
      (∀ p : Value → Prop, (∀ v ∈ cs, p v) → (∀ v ∈ news, p v) → (∀ (i : Nat) (v : Value), z.cells[i]? = some v → p v) → AllC p w a → AllC p w' a') → wpList P ops Q rest (act.put o.dst (.slice a' (len + m) cap')) w') : wpList P ops Q (o :: rest) act w := by
  unfold wpList
  rw [if_pos hw']
  exact .inl (wp_appendC s sl x t tx ho B e i z ht hi hz hsz hzs a len cap cs hs hd vx m news hm hs0 hx hsrc hbytes h63 hB h)
end
/-- The blocks below 'g' are as in 'wr'. -/
structure KeepS (wr : World) (g : Nat) (w : World) : Prop where
  size : wr.heap.size ≤ w.heap.size
  block : ∀ i, i < g → w.heap[i]? = wr.heap[i]?
theorem KeepS.start (wr : World) (g : Nat) : KeepS wr g wr.drew := ⟨Nat.le_refl _, fun _ _ => rfl⟩
theorem KeepS.alloc {wr w : World} {g : Nat} (h : KeepS wr g w) (hg : g ≤ wr.heap.size) (o : Obj) : KeepS wr g (w.alloc o) := ⟨by rw [World.size_alloc]; have := h.size; omega, fun i hi => (Below.heap_alloc _ _ _ (by have := h.size; omega)).trans (h.block i hi)⟩
theorem KeepS.drewN {wr w : World} {g : Nat} (h : KeepS wr g w) : KeepS wr g w.drew := ⟨h.size, h.block⟩
theorem KeepS.below {wr w w' : World} {g : Nat} (h : KeepS wr g w) (hb : Below (g + 1) w w') : KeepS wr g w' := ⟨Nat.le_trans h.size hb.size, fun i hi => (hb.block i (by omega)).trans (h.block i hi)⟩
theorem KeepS.set {wr w : World} {g : Nat} (h : KeepS wr g w) (i : Nat) (v : Value) : KeepS wr g (w.setCell ⟨g, i, none⟩ v) := ⟨by have := h.size; simpa using this, fun k hk => (Below.heap_setCell _ _ _ _ (by show k ≠ g; omega)).trans (h.block k hk)⟩
theorem new_two (w : World) (x y : Obj) : Below w.heap.size w ((w.drew.alloc x).alloc y) := (((Below.refl w.heap.size w).drew).alloc (Nat.le_refl _) x).alloc (((((Below.refl w.heap.size w).drew).alloc (Nat.le_refl _) x)).size) y
theorem ans_round {wr w7 : World} {g8 : Nat} {a1 a7 : Option Addr} {k c1 c7 kc : Nat} {xs : List RecM} (t : TypeId) (y : Obj) (ho : OwnR wr (g8 + 1) a1 k c1 xs) (hax : ∀ y, a1 = some y → y.block < wr.heap.size) (hzg : g8 + 1 ≤ wr.heap.size) (hkc : kc ≤ 1000)
    {rl : List (RecM × Value)} (hown : OwnC 4 wr (g8 + 1) a1 k c1 (recRow rl)) (ho7 : OwnC 4 w7 (g8 + 1) a7 (k + 1) c7 (recRow rl ++ recCells ⟨0, 0, 0, List.replicate kc 0⟩ (.slice (some ⟨wr.heap.size, 0, none⟩) kc kc)))
    (hk7 : KeepC (g8 + 1) a1 ((wr.drew.alloc (.cells (madeCells #[.int .u16 0] kc) t (0, 0))).alloc y) w7) (ha7 : a7 = a1 ∨ ∃ q, a7 = some ⟨q, 0, none⟩ ∧ ((wr.drew.alloc (.cells (madeCells #[.int .u16 0] kc) t (0, 0))).alloc y).heap.size ≤ q) (v : Value) :
    OwnR (w7.setCell ⟨g8, 15, none⟩ v) (g8 + 1) a7 (k + 1) c7 (xs ++ [⟨0, 0, 0, List.replicate kc 0⟩]) ∧ ∀ y, a7 = some y → y.block < (w7.setCell ⟨g8, 15, none⟩ v).heap.size := by
  have hm : Own wordV (wr.drew.alloc (.cells (madeCells #[.int .u16 0] kc) t (0, 0))) wr.drew.heap.size (some ⟨wr.drew.heap.size, 0, none⟩) kc kc (List.replicate kc 0) := made_all (f := wordV) 0 wr.drew kc (by omega) t
  have hz : wr.drew.heap.size = wr.heap.size := rfl
  rw [hz] at hm
  have hmy := hm.mono ((Below.refl _ _).alloc (Nat.le_refl _) y)
  have hzy : ((wr.drew.alloc (.cells (madeCells #[.int .u16 0] kc) t (0, 0))).alloc y).heap.size = wr.heap.size + 1 + 1 := by rw [World.size_alloc, World.size_alloc, hz]
  have hn2 := new_two wr (.cells (madeCells #[.int .u16 0] kc) t (0, 0)) y
  have hg : OwnR w7 (g8 + 1) a7 (k + 1) c7 (xs ++ [⟨0, 0, 0, List.replicate kc 0⟩]) := (ho.mono hn2).grown (x := ⟨0, 0, 0, List.replicate kc 0⟩) (aw := some ⟨wr.heap.size, 0, none⟩) (lw := kc) (cw := kc) (fun u hu => by
    refine ⟨hmy.sl.hlen, hmy.sl.hle, hmy.sl.hmax, fun i hi => ?_⟩
    obtain ⟨b, off, hb, hlt, hc⟩ := hmy.sl.hcell i hi
    cases hb
    have h1 := hu.block wr.heap.size hzg (by rw [hzy]; omega) fun o e => by have := hax _ e; simp only at this; omega
    refine ⟨_, _, rfl, by have := hu.size; rw [hzy] at this; omega, ?_⟩
    rw [World.cell?_of_block (a := ⟨wr.heap.size, 0 + i, none⟩) h1]
    exact hc) (fun l hl _ => by rw [hl.unique (hown.mono hn2)]; exact ho7) hk7 ha7
  obtain ⟨b, off, ha, h1, h2⟩ := hg.low (by omega)
  refine ⟨hg.offs (Nat.le_refl _) (lo := 0) ⟨by simp, fun i _ hn => Below.heap_setCell _ _ _ _ (by show i ≠ g8; omega)⟩, fun y e => ?_⟩
  rw [ha] at e
  injection e with e
  rw [← e]
  simpa using h2

end Go.Proofs.Ytolkcohmoalnhaa
