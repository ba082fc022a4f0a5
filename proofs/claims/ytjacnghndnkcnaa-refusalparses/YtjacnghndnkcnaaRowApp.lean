/-
  'append' onto a row that the call itself has made, whatever its elements' size: cell by cell; and which blocks stay as they were.
-/
import Derived.Test.YtjacnghndnkcnaaApp
namespace Go.Proofs.Ytjacnghndnkcnaa
open Go.RowKit

/-- The row at 'a', of elements of 's' cells, holds 'cs', and all its places lie in a block from 'B' on that may be written. -/
structure OwnC (s : Nat) (w : World) (B : Nat) (a : Option Addr) (len cap : Nat) (cs : List Value) : Prop where
  hlen : cs.length = len * s
  hle : len ≤ cap
  hmax : cap ≤ maxLen
  hcell : ∀ j (h : j < cs.length), ∃ b off, a = some ⟨b, off, none⟩ ∧ b < w.heap.size ∧ w.cell? ⟨b, off + j, none⟩ = some cs[j]
  room : ∀ j, j < cap * s → ∃ b off, a = some ⟨b, off, none⟩ ∧ B ≤ b ∧ b < w.heap.size ∧ (w.cell? ⟨b, off + j, none⟩).isSome = true ∧ w.frozen? ⟨b, off + j, none⟩ = false
/-- All blocks from 'B' on are as they were, but that of 'a'. -/
structure KeepC (B : Nat) (a : Option Addr) (w u : World) : Prop where
  size : w.heap.size ≤ u.heap.size
  block : ∀ k, B ≤ k → k < w.heap.size → (∀ off, a ≠ some ⟨k, off, none⟩) → u.heap[k]? = w.heap[k]?
theorem KeepC.refl (B : Nat) (a : Option Addr) (w : World) : KeepC B a w w := ⟨Nat.le_refl _, fun _ _ _ _ => rfl⟩
theorem KeepC.trans {B : Nat} {a : Option Addr} {u v w : World} (h : KeepC B a u v) (h' : KeepC B a v w) : KeepC B a u w :=
  ⟨Nat.le_trans h.size h'.size, fun k h1 h2 h3 => (h'.block k h1 (Nat.lt_of_lt_of_le h2 h.size) h3).trans (h.block k h1 h2 h3)⟩
theorem KeepC.of {B : Nat} {a : Option Addr} {w u : World} (h : Below w.heap.size w u) : KeepC B a w u := ⟨h.size, fun k _ h2 _ => h.block k h2⟩

section
variable {s : Nat} {w w' : World} {B : Nat} {a : Option Addr} {len cap : Nat} {cs : List Value}
theorem OwnC.empty (s : Nat) (w : World) (B : Nat) (a : Option Addr) : OwnC s w B a 0 0 [] := ⟨by simp, Nat.zero_le _, Nat.zero_le _, fun j h => absurd h (by simp), fun j h => absurd h (by simp)⟩
theorem OwnC.mono (h : OwnC s w B a len cap cs) (hb : Below w.heap.size w w') : OwnC s w' B a len cap cs :=
  ⟨h.hlen, h.hle, h.hmax, fun j hj => by
    obtain ⟨b, off, ha, hlt, hc⟩ := h.hcell j hj
    exact ⟨b, off, ha, Nat.lt_of_lt_of_le hlt hb.size, (hb.cell (p := ⟨b, off + j, none⟩) hlt).trans hc⟩, fun j hj => by
    obtain ⟨b, off, ha, hB, hlt, hc, hf⟩ := h.room j hj
    exact ⟨b, off, ha, hB, Nat.lt_of_lt_of_le hlt hb.size, by rw [hb.cell (p := ⟨b, off + j, none⟩) hlt]; exact hc, by rw [hb.frozen (p := ⟨b, off + j, none⟩) hlt]; exact hf⟩⟩
/-- A block that was just made, whole. -/
theorem OwnC.block {g : Nat} {cur : Array Value} {t : TypeId} (hB : B ≤ g) (hg : w.heap[g]? = some (.cells cur t (0, 0))) (h0 : cs.length = len * s) (h1 : len ≤ cap) (h2 : cap ≤ maxLen) (hs : cap * s ≤ cur.size)
    (hc : ∀ j (h : j < cs.length), cur[j]? = some cs[j]) : OwnC s w B (some ⟨g, 0, none⟩) len cap cs :=
  ⟨h0, h1, h2, fun j hj => ⟨g, 0, rfl, (Array.getElem?_eq_some_iff.1 hg).1, by rw [cell_of_row w g (0 + j) cur t (0, 0) hg, Nat.zero_add]; exact hc j hj⟩, fun j hj => ⟨g, 0, rfl, hB, (Array.getElem?_eq_some_iff.1 hg).1, by
    rw [cell_of_row w g (0 + j) cur t (0, 0) hg]; simp [Array.getElem?_eq_getElem (show j < cur.size by omega)], by simp [World.frozen?, hg]⟩⟩
end

theorem setCells_block {b k : Nat} (hk : k ≠ b) : ∀ (vs : List Value) (o : Nat) (w : World), (w.setCells b o vs).heap[k]? = w.heap[k]?
  | [], _, _ => rfl
  | _ :: vs, o, _ => (setCells_block hk vs (o + 1) _).trans (Below.heap_setCell _ _ _ _ hk)

/-- What all cells of the block at 'a' are. -/
def AllC (p : Value → Prop) (w : World) (a : Option Addr) : Prop := ∀ x, a = some x → ∀ i v, w.cell? ⟨x.block, i, none⟩ = some v → p v
theorem block_of_cell {w : World} {b i : Nat} (h : (w.cell? ⟨b, i, none⟩).isSome = true) : ∃ cs t fr, w.heap[b]? = some (.cells cs t fr) := by
  unfold World.cell? at h
  split at h
  · rename_i cs t fr hb
    exact ⟨cs, t, fr, hb⟩
  · cases h
theorem set_row {w : World} {b i : Nat} {cs : Array Value} {t : TypeId} {fr : Nat × Nat} (h : w.heap[b]? = some (.cells cs t fr)) (u : Value) : (w.setCell ⟨b, i, none⟩ u).heap[b]? = some (.cells (cs.set! i u) t fr) := by
  have hlt := (Array.getElem?_eq_some_iff.1 h).1
  have h' : w.heap[b] = .cells cs t fr := by simpa [Array.getElem?_eq_getElem hlt] using h
  show (w.heap.modify b _)[b]? = _
  rw [Array.getElem?_eq_getElem (by simpa using hlt), Array.getElem_modify_self, h']
  rfl
theorem setCells_all {p : Value → Prop} {b : Nat} : ∀ (vs : List Value) (o : Nat) (w : World) (cs : Array Value) (t : TypeId) (fr : Nat × Nat), w.heap[b]? = some (.cells cs t fr) → (∀ v ∈ vs, p v) → (∀ (i : Nat) (v : Value), cs[i]? = some v → p v) → ∀ i v, (w.setCells b o vs).cell? ⟨b, i, none⟩ = some v → p v
  | [], _, w, cs, t, fr, h, _, hc, i, v, hv => by
    rw [show w.setCells b _ [] = w from rfl, cell_of_row w b i cs t fr h] at hv
    exact hc i v hv
  | u :: vs, o, w, cs, t, fr, h, hn, hc, i, v, hv => by
    refine setCells_all vs (o + 1) _ _ t fr (set_row (i := o) h u) (fun v hm => hn v (List.mem_cons_of_mem _ hm)) (fun j y hj => ?_) i v hv
    rw [Array.set!_eq_setIfInBounds, Array.getElem?_setIfInBounds] at hj
    split at hj
    · split at hj
      · injection hj with hj; rw [← hj]; exact hn u List.mem_cons_self
      · cases hj
    · exact hc j y hj

section
variable {P : Program}
theorem OwnC.first {s : Nat} {w : World} {B : Nat} {a : Option Addr} {len cap : Nat} {cs : List Value} (h : OwnC s w B a len cap cs) : (Builtin.firstCells s len (.slice a len cap)).run P w = .ok cs.toArray w := by
  have hl := h.hlen
  cases a with
  | none =>
    have : cs = [] := by
      cases cs with
      | nil => rfl
      | cons c r => obtain ⟨_, _, hh, _⟩ := h.hcell 0 (by simp); cases hh
    subst this
    exact run_firstCells_none w s len len cap
  | some x =>
    refine run_firstCells_some w s len x len cap cs hl fun j v hv => ?_
    have hj : j < cs.length := by
      rcases Nat.lt_or_ge j cs.length with hj | hj
      · exact hj
      · simp [List.getElem?_eq_none hj] at hv
    obtain ⟨b, off, hx, _, hc⟩ := h.hcell j hj
    cases hx
    rw [List.getElem?_eq_getElem hj] at hv
    injection hv with hv
    rw [← hv, ← hc, Addr.add_lit]

/-- THE LAW. -/
theorem run_appendC (s : Nat) (w : World) (B : Nat) (t tx ty e : TypeId) (i : TypeInfo) (z : Value) (ht : P.underlying t = some (.slice e)) (hi : P.info? e = some i) (hz : i.zero = some z) (hsz : i.size = s) (hzs : z.cells.size = s)
    (a : Option Addr) (len cap : Nat) (cs : List Value) (hd : OwnC s w B a len cap cs) (x : Value) (m : Nat) (news : List Value) (hm : 0 < m) (hs0 : 0 < s) (hs : Src P s tx x m news w)
    (hbytes : (len + m) * i.bytes ≤ 140737488355328) (h63 : len + m ≤ maxLen) (hB : B ≤ w.heap.size) :
    ∃ a' cap' w', (Builtin.append_ #[t, tx] ty #[.slice a len cap, x]).run P w = .ok (.slice a' (len + m) cap') w' ∧ OwnC s w' B a' (len + m) cap' (cs ++ news) ∧ Below B w w' ∧
      KeepC B a w w' ∧ (a' = a ∨ ∃ g, a' = some ⟨g, 0, none⟩ ∧ w.heap.size ≤ g) ∧
      (∀ p : Value → Prop, (∀ v ∈ cs, p v) → (∀ v ∈ news, p v) → (∀ (i : Nat) (v : Value), z.cells[i]? = some v → p v) → AllC p w a → AllC p w' a') := by
  have hl := hd.hlen
  have hle := hd.hle
  have hmx := hd.hmax
  have hnl := hs.newsLen
  have hms : 0 < m * s := Nat.mul_pos hm hs0
  have hadd : (len + m) * s = len * s + m * s := Nat.add_mul _ _ _
  have h63' : len + m ≤ 9223372036854775807 := by simp only [maxLen] at h63; omega
  subst hsz
  by_cases hroom : len + m ≤ cap
  · have hcs : (len + m) * i.size ≤ cap * i.size := Nat.mul_le_mul_right _ hroom
    obtain ⟨b, off, rfl, hb, hlt, _⟩ := hd.room 0 (by omega)
    have hrm : ∀ j, j < cap * i.size → (w.cell? ⟨b, off + j, none⟩).isSome = true ∧ w.frozen? ⟨b, off + j, none⟩ = false := fun j hj => by
      obtain ⟨b', off', hh, _, _, h1, h2⟩ := hd.room j hj
      cases hh
      exact ⟨h1, h2⟩
    have hcl : ∀ j (h : j < cs.length), w.cell? ⟨b, off + j, none⟩ = some cs[j] := fun j hj => by
      obtain ⟨b', off', hh, _, h1⟩ := hd.hcell j hj
      cases hh
      exact h1
    refine ⟨some ⟨b, off, none⟩, cap, w.setCells b (off + len * i.size) news, ?_, ?_, below_setCells b hb _ _ (Below.refl _ _), ?_, .inl rfl, ?_⟩
    · exact run_append_room_src (P := P) w t tx ty e i ht hi b off len cap x m news hs hroom
        (fun j hj => by rw [Nat.add_assoc]; exact (hrm (len * i.size + j) (by omega)).1) (fun j hj => by rw [Nat.add_assoc]; exact (hrm (len * i.size + j) (by omega)).2)
    · have hbl := below_setCells (B := b) b (Nat.le_refl _) news (off + len * i.size) (Below.refl b w)
      have hin := World.cell?_setCells_in b news (off + len * i.size) w (fun j hj => by rw [Nat.add_assoc]; exact (hrm (len * i.size + j) (by omega)).1)
      have hout := fun j (hj : j < len * i.size) => World.cell?_setCells_out b news (off + len * i.size) w ⟨b, off + j, none⟩ (fun _ _ => .inl (by show off + j < off + len * i.size; omega))
      refine ⟨by rw [List.length_append]; omega, hroom, hmx, fun j hj => ⟨b, off, rfl, Nat.lt_of_lt_of_le hlt hbl.size, ?_⟩, fun j hj => ⟨b, off, rfl, hb, Nat.lt_of_lt_of_le hlt hbl.size, ?_, ?_⟩⟩
      · by_cases hjl : j < len * i.size
        · rw [hout j hjl, hcl j (by omega), List.getElem_append_left (by omega)]
        · have hj2 : j - len * i.size < news.length := by rw [List.length_append] at hj; omega
          have := hin (j - len * i.size) hj2
          rw [show off + len * i.size + (j - len * i.size) = off + j by omega] at this
          rw [this, List.getElem_append_right (by omega)]
          congr 2
          omega
      · by_cases hjl : j < len * i.size
        · rw [hout j hjl]; exact (hrm j hj).1
        · by_cases hj2 : j - len * i.size < news.length
          · have := hin (j - len * i.size) hj2
            rw [show off + len * i.size + (j - len * i.size) = off + j by omega] at this
            rw [this]; rfl
          · rw [World.cell?_setCells_out b news (off + len * i.size) w ⟨b, off + j, none⟩ (fun _ _ => .inr (by show off + len * i.size + _ ≤ off + j; omega))]
            exact (hrm j hj).1
      · rw [World.frozen?_setCells]; exact (hrm j hj).2
    · have hbl := below_setCells (B := b) b (Nat.le_refl _) news (off + len * i.size) (Below.refl b w)
      exact ⟨hbl.size, fun k _ _ h3 => setCells_block (fun e => h3 off (by rw [e])) _ _ _⟩
    · intro p _ hpn _ hpa x hx i v hv
      cases hx
      obtain ⟨cur, t', fr, hblk⟩ := block_of_cell (hrm 0 (by omega)).1
      exact setCells_all news _ w cur t' fr hblk hpn (fun j y hj => hpa _ rfl j y (by rw [cell_of_row w b j cur t' fr hblk]; exact hj)) i v hv
  · have hgc := grownCap_ge w (len + m) cap e
    have hgm := grownCap_le_maxLen w (len + m) cap e h63
    have hrun := run_append_grow_src (P := P) w t tx ty e i z ht hi hz a len cap cs ((hd.mono ((Below.refl _ _).drew)).first) x m news hs (by omega) (by omega) (growslice_fits (by omega) hbytes)
    have hgs : (len + m) * i.size ≤ grownCap w (len + m) cap e * i.size := Nat.mul_le_mul_right _ hgc
    refine ⟨_, _, _, hrun, ?_, ((Below.refl _ _).drew).alloc hB _, ?_, .inr ⟨_, rfl, Nat.le_refl _⟩, ?_⟩
    · refine OwnC.block hB (heap_alloc_new w.drew _) (by rw [List.length_append]; omega) hgc hgm ?_ fun j hj => ?_
      · rw [Array.size_append, size_zeroCells, hzs, Nat.sub_mul]
        simp only [List.size_toArray, List.length_append]
        omega
      · rw [Array.getElem?_append_left (by simpa using hj)]
        simp only [List.getElem?_toArray]
        rw [List.getElem?_eq_getElem hj]
    · exact KeepC.of (((Below.refl w.heap.size w).drew).alloc (Nat.le_refl _) _)
    · intro p hpc hpn hpz _ x hx j v hv
      cases hx
      have hcr := cell_of_row _ _ j _ _ _ (heap_alloc_new w.drew (.cells ((cs ++ news).toArray ++ Builtin.zeroCells z.cells (grownCap w (len + m) cap e - (len + m))) e))
      replace hv := hcr.symm.trans hv
      rw [Array.getElem?_append] at hv
      split at hv
      · have hm : v ∈ cs ++ news := by
          rw [List.getElem?_toArray] at hv
          exact List.mem_of_getElem? hv
        rcases List.mem_append.1 hm with h | h
        · exact hpc v h
        · exact hpn v h
      · unfold Builtin.zeroCells at hv
        rw [Array.getElem?_map] at hv
        obtain ⟨q, _, hq⟩ := Option.map_eq_some_iff.1 hv
        have hzp : 0 < z.cells.size := by omega
        have hlt : q % z.cells.size < z.cells.size := Nat.mod_lt _ hzp
        rw [getElem!_pos z.cells _ hlt] at hq
        exact hpz _ v (by rw [Array.getElem?_eq_getElem hlt, hq])

/-- At the operation. -/
theorem wp_appendC (s : Nat) {w : World} {o : Oper} {act : Act} {K : Act → World → Prop} {Q : Exit → Act → World → Prop} (sl x : Operand) (t tx : TypeId)
    (ho : o.op = .call { callee := .builtin .append, args := #[sl, x], argTypes := #[t, tx] }) (B : Nat) (e : TypeId) (i : TypeInfo) (z : Value) (ht : P.underlying t = some (.slice e)) (hi : P.info? e = some i) (hz : i.zero = some z) (hsz : i.size = s) (hzs : z.cells.size = s)
    (a : Option Addr) (len cap : Nat) (cs : List Value) (hs : act.eval sl = .slice a len cap) (hd : OwnC s w B a len cap cs) (vx : Value) (m : Nat) (news : List Value) (hm : 0 < m) (hs0 : 0 < s) (hx : act.eval x = vx) (hsrc : Src P s tx vx m news w)
    (hbytes : (len + m) * i.bytes ≤ 140737488355328) (h63 : len + m ≤ maxLen) (hB : B ≤ w.heap.size)
    (h : ∀ a' cap' w', OwnC s w' B a' (len + m) cap' (cs ++ news) → Below B w w' → KeepC B a w w' → (a' = a ∨ ∃ g, a' = some ⟨g, 0, none⟩ ∧ w.heap.size ≤ g) →
      (∀ p : Value → Prop, (∀ v ∈ cs, p v) → (∀ v ∈ news, p v) → (∀ (i : Nat) (v : Value), z.cells[i]? = some v → p v) → AllC p w a → AllC p w' a') → K (act.put o.dst (.slice a' (len + m) cap')) w') : o.wp P act w K Q := by
  obtain ⟨a', cap', w', hr, h2, h3, h4, h5, h6⟩ := run_appendC (P := P) s w B t tx o.type e i z ht hi hz hsz hzs a len cap cs hd vx m news hm hs0 hsrc hbytes h63 hB
  unfold Oper.wp execOp
  simp only [ho, resolve, invoke, builtin, Sem.run_bind, Sem.run_pure, Result.andThen_ok, List.map_toArray, List.map_cons, List.map_nil, hs, hx, hr]
  exact h a' cap' w' h2 h3 h4 h5 h6
end

end Go.Proofs.Ytjacnghndnkcnaa
