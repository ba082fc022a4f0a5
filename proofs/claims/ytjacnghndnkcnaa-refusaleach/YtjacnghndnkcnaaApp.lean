/-
  'append' onto a slice that the call itself has made, of a slice whatever: what comes back reads both, and nothing below the call's own blocks has turned.
-/
import Derived.Test.YtjacnghndnkcnaaBase
import Derived.Deep.AppendSrc
namespace Go.Proofs.Ytjacnghndnkcnaa
open Go.RowKit

/-- The slice at 'a' reads 'xs', and all its places, the spare ones too, lie in a block from 'B' on that may be written. -/
structure Own {α : Type} (f : α → Value) (w : World) (B : Nat) (a : Option Addr) (len cap : Nat) (xs : List α) : Prop where
  sl : Sl f w a len cap xs
  room : ∀ i, i < cap → ∃ b off, a = some ⟨b, off, none⟩ ∧ B ≤ b ∧ b < w.heap.size ∧ (w.cell? ⟨b, off + i, none⟩).isSome = true ∧ w.frozen? ⟨b, off + i, none⟩ = false

theorem below_setCells {B : Nat} (b : Nat) (hb : B ≤ b) : ∀ (vs : List Value) (o : Nat) {a w : World}, Below B a w → Below B a (w.setCells b o vs)
  | [], _, _, _, h => h
  | v :: vs, o, _, _, h => below_setCells b hb vs (o + 1) (h.setCell (p := ⟨b, o, none⟩) hb v)

section
variable {α : Type} {f : α → Value} {w w' : World} {B : Nat} {a : Option Addr} {len cap : Nat} {xs : List α}

theorem Own.mono (h : Own f w B a len cap xs) (hb : Below w.heap.size w w') : Own f w' B a len cap xs :=
  ⟨h.sl.mono hb, fun i hi => by
    obtain ⟨b, off, ha, hB, hlt, hc, hf⟩ := h.room i hi
    exact ⟨b, off, ha, hB, Nat.lt_of_lt_of_le hlt hb.size, by rw [hb.cell (p := ⟨b, off + i, none⟩) hlt]; exact hc, by rw [hb.frozen (p := ⟨b, off + i, none⟩) hlt]; exact hf⟩⟩

theorem Own.base (h : Own f w B a len cap xs) {B' : Nat} (hB : B' ≤ B) : Own f w B' a len cap xs :=
  ⟨h.sl, fun i hi => by
    obtain ⟨b, off, ha, h1, hr⟩ := h.room i hi
    exact ⟨b, off, ha, Nat.le_trans hB h1, hr⟩⟩

theorem Own.empty (w : World) (B : Nat) (a : Option Addr) : Own f w B a 0 0 [] := ⟨Sl.nil _ _ (Nat.zero_le _), fun _ h => absurd h (by omega)⟩

/-- A block that was just made, whole. -/
theorem Own.block {g : Nat} {cur : Array Value} {t : TypeId} (hB : B ≤ g) (hg : w.heap[g]? = some (.cells cur t (0, 0))) (h0 : xs.length = len) (h1 : len ≤ cap) (h2 : cap ≤ maxLen) (hs : cap ≤ cur.size)
    (hc : ∀ i (h : i < xs.length), cur[i]? = some (f xs[i])) : Own f w B (some ⟨g, 0, none⟩) len cap xs :=
  ⟨Sl.block hg h0 h1 h2 (fun i hi => by rw [Nat.zero_add]; exact hc i hi), fun i hi => ⟨g, 0, rfl, hB, (Array.getElem?_eq_some_iff.1 hg).1, by
    rw [cell_of_row w g (0 + i) cur t (0, 0) hg]; simp [Array.getElem?_eq_getElem (show i < cur.size by omega)], by simp [World.frozen?, hg]⟩⟩

theorem Own.fresh (w : World) (xs : List α) (cs : List Value) (t : TypeId) (n : Nat) (hn : xs.length = n) (hm : n ≤ maxLen) (h : cs = xs.map f) : Own f (w.alloc (.cells cs.toArray t)) w.heap.size (some ⟨w.heap.size, 0, none⟩) n n xs :=
  Own.block (Nat.le_refl _) (heap_alloc_new _ _) hn (Nat.le_refl _) hm (by subst h; simp; omega) fun i hi => by subst h; simp [hi]

/-- One place is written. -/
theorem Own.set {b off : Nat} (h : Own f w B (some ⟨b, off, none⟩) len cap xs) (j : Nat) (hj : j < xs.length) (x : α) : Own f (w.setCell ⟨b, off + j, none⟩ (f x)) B (some ⟨b, off, none⟩) len cap (xs.set j x) := by
  have hl := h.sl.hlen
  have hle := h.sl.hle
  obtain ⟨_, _, hh, hB, hlt, hsome, hfro⟩ := h.room j (by omega)
  cases hh
  have hsz : (w.setCell ⟨b, off + j, none⟩ (f x)).heap.size = w.heap.size := by simp [World.setCell]
  have hne : ∀ i, i ≠ j → (w.setCell ⟨b, off + j, none⟩ (f x)).cell? ⟨b, off + i, none⟩ = w.cell? ⟨b, off + i, none⟩ := fun i hi => by
    apply World.cell?_setCell_other
    intro e; apply hi; injection e; omega
  have heq : (w.setCell ⟨b, off + j, none⟩ (f x)).cell? ⟨b, off + j, none⟩ = some (f x) := by
    obtain ⟨u, hu⟩ := Option.isSome_iff_exists.1 hsome
    apply World.cell?_setCell_same; exact hu
  refine ⟨Sl.of (by simpa using hl) hle h.sl.hmax (by rw [hsz]; exact hlt) fun i hi => ?_, fun i hi => ⟨b, off, rfl, hB, by rw [hsz]; exact hlt, ?_, ?_⟩⟩
  · have hi' : i < xs.length := by simpa using hi
    by_cases hij : i = j
    · subst hij; rw [heq]; simp
    · rw [hne i hij, List.getElem_set_ne (by omega)]
      obtain ⟨_, _, hh, _, hc⟩ := h.sl.hcell i hi'
      cases hh
      exact hc
  · by_cases hij : i = j
    · subst hij; rw [heq]; rfl
    · rw [hne i hij]
      obtain ⟨_, _, hh, _, _, hc, _⟩ := h.room i hi
      cases hh
      exact hc
  · rw [World.frozen?_setCell]
    obtain ⟨_, _, hh, _, _, _, hc⟩ := h.room i hi
    cases hh
    exact hc

/-- Another block is written. -/
theorem Own.other (h : Own f w B a len cap xs) (p : Addr) (v : Value) (hne : ∀ b off, a = some ⟨b, off, none⟩ → b ≠ p.block) : Own f (w.setCell p v) B a len cap xs := by
  have hsz : (w.setCell p v).heap.size = w.heap.size := by simp [World.setCell]
  have hc : ∀ b i, b ≠ p.block → (w.setCell p v).cell? ⟨b, i, none⟩ = w.cell? ⟨b, i, none⟩ := fun b i hb => by
    apply World.cell?_setCell_other
    intro e; apply hb; rw [e]
  refine ⟨⟨h.sl.hlen, h.sl.hle, h.sl.hmax, fun i hi => ?_⟩, fun i hi => ?_⟩
  · obtain ⟨b, off, ha, hlt, hcl⟩ := h.sl.hcell i hi
    exact ⟨b, off, ha, by rw [hsz]; exact hlt, by rw [hc b _ (hne b off ha)]; exact hcl⟩
  · obtain ⟨b, off, ha, hB, hlt, h1, h2⟩ := h.room i hi
    exact ⟨b, off, ha, hB, by rw [hsz]; exact hlt, by rw [hc b _ (hne b off ha)]; exact h1, by rw [World.frozen?_setCell]; exact h2⟩

theorem Own.drew (h : Own f w B a len cap xs) : Own f w.drew B a len cap xs := h.mono ((Below.refl _ _).drew)

end

section
variable {P : Program} {α : Type} {f : α → Value}

theorem Sl.first {w : World} {a : Option Addr} {len cap : Nat} {xs : List α} (h : Sl f w a len cap xs) : (Builtin.firstCells 1 len (.slice a len cap)).run P w = .ok (xs.map f).toArray w := by
  have hl := h.hlen
  cases a with
  | none =>
    by_cases hn : 0 < len
    · obtain ⟨_, _, hh, _⟩ := h.at hn; cases hh
    · have : xs = [] := by apply List.eq_nil_of_length_eq_zero; omega
      subst this
      exact run_firstCells_none w 1 len len cap
  | some x =>
    refine run_firstCells_some w 1 len x len cap (xs.map f) (by simp [hl]) fun j v hv => ?_
    have hj : j < xs.length := by
      rcases Nat.lt_or_ge j xs.length with hj | hj
      · exact hj
      · simp [List.getElem?_eq_none hj] at hv
    obtain ⟨b, off, hx, _, hc⟩ := h.hcell j hj
    cases hx
    simp [hj] at hv
    rw [← hv, ← hc, Addr.add_lit]

theorem Sl.src {w : World} {a : Option Addr} {len cap : Nat} {xs : List α} (h : Sl f w a len cap xs) (hone : ∀ x, (f x).oneCell' = true) {tx e' : TypeId} (hk : P.underlying tx = some (.slice e')) : Src P 1 tx (.slice a len cap) len (xs.map f) w :=
  ⟨.inl ⟨e', hk⟩, fun _ => rfl, h.first, h.drew.first, by simp [h.hlen], fun u hu => by obtain ⟨x, _, rfl⟩ := List.mem_map.1 hu; exact hone x⟩

/-- THE LAW. -/
theorem run_append (w : World) (B : Nat) (t tx ty e : TypeId) (i : TypeInfo) (z : Value) (ht : P.underlying t = some (.slice e)) (hi : P.info? e = some i) (hz : i.zero = some z) (hsz : i.size = 1) (hzs : z.cells.size = 1)
    (a : Option Addr) (len cap : Nat) (xs : List α) (hd : Own f w B a len cap xs) (x : Value) (m : Nat) (ys : List α) (hs : Src P 1 tx x m (ys.map f) w)
    (hbytes : (len + m) * i.bytes ≤ 140737488355328) (h63 : len + m ≤ maxLen) (hB : B ≤ w.heap.size) :
    ∃ a' cap' w', (Builtin.append_ #[t, tx] ty #[.slice a len cap, x]).run P w = .ok (.slice a' (len + m) cap') w' ∧ Own f w' B a' (len + m) cap' (xs ++ ys) ∧ Below B w w' := by
  have hl := hd.sl.hlen
  have hle := hd.sl.hle
  have hmx := hd.sl.hmax
  have hyl : ys.length = m := by have := hs.newsLen; simpa using this
  have h63' : len + m ≤ 9223372036854775807 := by simp only [maxLen] at h63; omega
  by_cases hroom : len + m ≤ cap
  · by_cases hm : m = 0
    · subst hm
      have hy : ys = [] := List.eq_nil_of_length_eq_zero hyl
      subst hy
      refine ⟨a, cap, w, ?_, by simpa using hd, Below.refl _ _⟩
      have hc := hs.cells
      simp only [List.map_nil] at hc
      rcases hs.kind with ⟨e', hk⟩ | hk <;> cases a <;> simp [Builtin.append_, run_underlying ht, run_underlying hk, sizeOf, typeInfo, hi, hsz, hs.len, hle, hc, storeCells]
    · obtain ⟨b, off, rfl, hb, hlt, _⟩ := hd.room 0 (by omega)
      have hrm : ∀ j, j < cap → (w.cell? ⟨b, off + j, none⟩).isSome = true ∧ w.frozen? ⟨b, off + j, none⟩ = false := fun j hj => by
        obtain ⟨b', off', hh, _, _, h1, h2⟩ := hd.room j hj
        cases hh
        exact ⟨h1, h2⟩
      have hcl : ∀ j (h : j < xs.length), w.cell? ⟨b, off + j, none⟩ = some (f xs[j]) := fun j hj => by
        obtain ⟨b', off', hh, _, h1⟩ := hd.sl.hcell j hj
        cases hh
        exact h1
      have hnl : (ys.map f).length = m := by simpa using hyl
      refine ⟨some ⟨b, off, none⟩, cap, w.setCells b (off + len) (ys.map f), ?_, ?_, below_setCells b hb _ _ (Below.refl _ _)⟩
      · have := run_append_room_src (P := P) w t tx ty e i ht hi b off len cap x m (ys.map f) (by rw [hsz]; exact hs) hroom
          (fun j hj => by rw [hsz, Nat.mul_one, Nat.add_assoc]; exact (hrm (len + j) (by omega)).1) (fun j hj => by rw [hsz, Nat.mul_one, Nat.add_assoc]; exact (hrm (len + j) (by omega)).2)
        rw [hsz, Nat.mul_one] at this
        exact this
      · have hbl := below_setCells (B := b) b (Nat.le_refl _) (ys.map f) (off + len) (Below.refl b w)
        have hin := World.cell?_setCells_in b (ys.map f) (off + len) w (fun j hj => by rw [Nat.add_assoc]; exact (hrm (len + j) (by omega)).1)
        have hout := fun j (hj : j < len) => World.cell?_setCells_out b (ys.map f) (off + len) w ⟨b, off + j, none⟩ (fun _ _ => .inl (by show off + j < off + len; omega))
        refine ⟨Sl.of (by simp [hl, hyl]) hroom hmx (Nat.lt_of_lt_of_le hlt hbl.size) fun j hj => ?_, fun j hj => ⟨b, off, rfl, hb, Nat.lt_of_lt_of_le hlt hbl.size, ?_, ?_⟩⟩
        · by_cases hjl : j < len
          · rw [hout j hjl, hcl j (by omega), List.getElem_append_left (by omega)]
          · have hj2 : j - len < (ys.map f).length := by simp at hj ⊢; omega
            have := hin (j - len) hj2
            rw [show off + len + (j - len) = off + j by omega] at this
            rw [this, List.getElem_append_right (by omega), List.getElem_map]
            congr 2
            simp [hl]
        · by_cases hjl : j < len
          · rw [hout j hjl]; exact (hrm j hj).1
          · by_cases hj2 : j - len < (ys.map f).length
            · have := hin (j - len) hj2
              rw [show off + len + (j - len) = off + j by omega] at this
              rw [this]; rfl
            · rw [World.cell?_setCells_out b (ys.map f) (off + len) w ⟨b, off + j, none⟩ (fun _ _ => .inr (by show off + len + _ ≤ off + j; omega))]
              exact (hrm j hj).1
        · rw [World.frozen?_setCells]; exact (hrm j hj).2
  · have hgc := grownCap_ge w (len + m) cap e
    have hgm := grownCap_le_maxLen w (len + m) cap e h63
    have hrun := run_append_grow_src (P := P) w t tx ty e i z ht hi hz a len cap (xs.map f) (by rw [hsz]; exact hd.sl.drew.first) x m (ys.map f) (by rw [hsz]; exact hs) (by omega) (by omega) (growslice_fits (by omega) hbytes)
    refine ⟨_, _, _, hrun, ?_, ((Below.refl _ _).drew).alloc hB _⟩
    refine Own.block hB (heap_alloc_new w.drew _) (by simp [hl, hyl]) hgc hgm (by simp [size_zeroCells, hzs, hl, hyl]; omega) fun j hj => ?_
    have hj' : j < xs.length + ys.length := by simpa using hj
    rw [Array.getElem?_append_left (by simpa using hj')]
    simp only [← List.map_append, List.getElem?_toArray, List.getElem?_map]
    rw [List.getElem?_eq_getElem hj]; rfl

/-- At the operation. -/
theorem wp_append {w : World} {o : Oper} {act : Act} {K : Act → World → Prop} {Q : Exit → Act → World → Prop} (s x : Operand) (t tx : TypeId)
    (ho : o.op = .call { callee := .builtin .append, args := #[s, x], argTypes := #[t, tx] }) (B : Nat) (e : TypeId) (i : TypeInfo) (z : Value) (ht : P.underlying t = some (.slice e)) (hi : P.info? e = some i) (hz : i.zero = some z) (hsz : i.size = 1) (hzs : z.cells.size = 1)
    (a : Option Addr) (len cap : Nat) (xs : List α) (hs : act.eval s = .slice a len cap) (hd : Own f w B a len cap xs) (vx : Value) (m : Nat) (ys : List α) (hx : act.eval x = vx) (hsrc : Src P 1 tx vx m (ys.map f) w)
    (hbytes : (len + m) * i.bytes ≤ 140737488355328) (h63 : len + m ≤ maxLen) (hB : B ≤ w.heap.size)
    (h : ∀ a' cap' w', Own f w' B a' (len + m) cap' (xs ++ ys) → Below B w w' → K (act.put o.dst (.slice a' (len + m) cap')) w') : o.wp P act w K Q := by
  obtain ⟨a', cap', w', hr, h2, h3⟩ := run_append (P := P) w B t tx o.type e i z ht hi hz hsz hzs a len cap xs hd vx m ys hsrc hbytes h63 hB
  unfold Oper.wp execOp
  simp only [ho, resolve, invoke, builtin, Sem.run_bind, Sem.run_pure, Result.andThen_ok, List.map_toArray, List.map_cons, List.map_nil, hs, hx, hr]
  exact h a' cap' w' h2 h3

/-- In a region that keeps its order; the operation's guard, if it has one, says yes. -/
theorem wpList_append {w : World} {ops : Array Oper} {rest : List Oper} {o : Oper} {act : Act} {Q : Exit → Act → World → Prop} (hw : Region.wanted o (yielded ops act.tmps) = true) (s x : Operand) (t tx : TypeId)
    (ho : o.op = .call { callee := .builtin .append, args := #[s, x], argTypes := #[t, tx] }) (B : Nat) (e : TypeId) (i : TypeInfo) (z : Value) (ht : P.underlying t = some (.slice e)) (hi : P.info? e = some i) (hz : i.zero = some z) (hsz : i.size = 1) (hzs : z.cells.size = 1)
    (a : Option Addr) (len cap : Nat) (xs : List α) (hs : act.eval s = .slice a len cap) (hd : Own f w B a len cap xs) (vx : Value) (m : Nat) (ys : List α) (hx : act.eval x = vx) (hsrc : Src P 1 tx vx m (ys.map f) w)
    (hbytes : (len + m) * i.bytes ≤ 140737488355328) (h63 : len + m ≤ maxLen) (hB : B ≤ w.heap.size)
    (h : ∀ a' cap' w', Own f w' B a' (len + m) cap' (xs ++ ys) → Below B w w' → wpList P ops Q rest (act.put o.dst (.slice a' (len + m) cap')) w') : wpList P ops Q (o :: rest) act w :=
  BigFrame.wpList_want hw fun _ hK => wp_append s x t tx ho B e i z ht hi hz hsz hzs a len cap xs hs hd vx m ys hx hsrc hbytes h63 hB fun a' cap' w' h2 h3 => hK _ _ (h a' cap' w' h2 h3)

end

end Go.Proofs.Ytjacnghndnkcnaa
