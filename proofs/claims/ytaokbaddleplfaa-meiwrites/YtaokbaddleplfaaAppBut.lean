/-
  'append' of bytes: all blocks but the target's are as they were.
-/
import Derived.Test.YtaokbaddleplfaaJoinA
import Derived.Test.YtaokbaddleplfaaCursor
namespace Go.Proofs.Ytaokbaddleplfaa
open Go.RowKit

theorem but_setCells (b : Nat) : ∀ (vs : List Value) (o : Nat) (w : World), But b w (w.setCells b o vs)
  | [], _, w => But.refl _ w
  | v :: vs, o, w => (But.setCell b o w v).trans (but_setCells b vs (o + 1) _)

section
variable {P : Program} {α : Type} {f : α → Value}

/-- 'append', and which blocks it leaves as they were. -/
theorem run_append_but (w : World) (B : Nat) (t tx ty e : TypeId) (i : TypeInfo) (z : Value) (ht : P.underlying t = some (.slice e)) (hi : P.info? e = some i) (hz : i.zero = some z) (hsz : i.size = 1) (hzs : z.cells.size = 1)
    (a : Option Addr) (len cap : Nat) (xs : List α) (hd : Own f w B a len cap xs) (x : Value) (m : Nat) (ys : List α) (hs : Src P 1 tx x m (ys.map f) w)
    (hbytes : (len + m) * i.bytes ≤ 140737488355328) (h63 : len + m ≤ maxLen) (hB : B ≤ w.heap.size) (g : Nat) (hg : ∀ b off, a = some ⟨b, off, none⟩ → b = g) :
    ∃ a' cap' w', (Builtin.append_ #[t, tx] ty #[.slice a len cap, x]).run P w = .ok (.slice a' (len + m) cap') w' ∧ Own f w' B a' (len + m) cap' (xs ++ ys) ∧ Below B w w' ∧ But g w w' := by
  have hl := hd.sl.hlen
  have hle := hd.sl.hle
  have hmx := hd.sl.hmax
  have hyl : ys.length = m := by have := hs.newsLen; simpa using this
  have h63' : len + m ≤ 9223372036854775807 := by simp only [maxLen] at h63; omega
  by_cases hroom : len + m ≤ cap
  · by_cases hm : m = 0
    · subst hm
      have hy : ys = [] := List.eq_nil_of_length_eq_zero hyl
      subst hy
      refine ⟨a, cap, w, ?_, by simpa using hd, Below.refl _ _, But.refl _ _⟩
      have hc := hs.cells
      simp only [List.map_nil] at hc
      rcases hs.kind with ⟨e', hk⟩ | hk <;> cases a <;> simp [Builtin.append_, run_underlying ht, run_underlying hk, sizeOf, typeInfo, hi, hsz, hs.len, hle, hc, storeCells]
    · obtain ⟨b, off, rfl, hb, hlt, _⟩ := hd.room 0 (by omega)
      have hrm : ∀ j, j < cap → (w.cell? ⟨b, off + j, none⟩).isSome = true ∧ w.frozen? ⟨b, off + j, none⟩ = false := fun j hj => by
        obtain ⟨b', off', hh, _, _, h1, h2⟩ := hd.room j hj
        cases hh
        exact ⟨h1, h2⟩
      have hcl : ∀ j (h : j < xs.length), w.cell? ⟨b, off + j, none⟩ = some (f xs[j]) := fun j hj => by
        obtain ⟨b', off', hh, _, h1⟩ := hd.sl.hcell j hj
        cases hh
        exact h1
      have hnl : (ys.map f).length = m := by simpa using hyl
      refine ⟨some ⟨b, off, none⟩, cap, w.setCells b (off + len) (ys.map f), ?_, ?_, below_setCells b hb _ _ (Below.refl _ _), by rw [← hg b off rfl]; exact but_setCells b _ _ _⟩
      · have := run_append_room_src (P := P) w t tx ty e i ht hi b off len cap x m (ys.map f) (by rw [hsz]; exact hs) hroom
          (fun j hj => by rw [hsz, Nat.mul_one, Nat.add_assoc]; exact (hrm (len + j) (by omega)).1) (fun j hj => by rw [hsz, Nat.mul_one, Nat.add_assoc]; exact (hrm (len + j) (by omega)).2)
        rw [hsz, Nat.mul_one] at this
        exact this
      · have hbl := below_setCells (B := b) b (Nat.le_refl _) (ys.map f) (off + len) (Below.refl b w)
        have hin := World.cell?_setCells_in b (ys.map f) (off + len) w (fun j hj => by rw [Nat.add_assoc]; exact (hrm (len + j) (by omega)).1)
        have hout := fun j (hj : j < len) => World.cell?_setCells_out b (ys.map f) (off + len) w ⟨b, off + j, none⟩ (fun _ _ => .inl (by show off + j < off + len; omega))
        refine ⟨Sl.of (by simp [hl, hyl]) hroom hmx (Nat.lt_of_lt_of_le hlt hbl.size) fun j hj => ?_, fun j hj => ⟨b, off, rfl, hb, Nat.lt_of_lt_of_le hlt hbl.size, ?_, ?_⟩⟩
        · by_cases hjl : j < len
          · rw [hout j hjl, hcl j (by omega), List.getElem_append_left (by omega)]
          · have hj2 : j - len < (ys.map f).length := by simp at hj ⊢; omega
            have := hin (j - len) hj2
            rw [show off + len + (j - len) = off + j by omega] at this
            rw [this, List.getElem_append_right (by omega), List.getElem_map]
            congr 2
            simp [hl]
        · by_cases hjl : j < len
          · rw [hout j hjl]; exact (hrm j hj).1
          · by_cases hj2 : j - len < (ys.map f).length
            · have := hin (j - len) hj2
              rw [show off + len + (j - len) = off + j by omega] at this
              rw [this]; rfl
            · rw [World.cell?_setCells_out b (ys.map f) (off + len) w ⟨b, off + j, none⟩ (fun _ _ => .inr (by show off + len + _ ≤ off + j; omega))]
              exact (hrm j hj).1
        · rw [World.frozen?_setCells]; exact (hrm j hj).2
  · have hgc := grownCap_ge w (len + m) cap e
    have hgm := grownCap_le_maxLen w (len + m) cap e h63
    have hrun := run_append_grow_src (P := P) w t tx ty e i z ht hi hz a len cap (xs.map f) (by rw [hsz]; exact hd.sl.drew.first) x m (ys.map f) (by rw [hsz]; exact hs) (by omega) (by omega) (growslice_fits (by omega) hbytes)
    refine ⟨_, _, _, hrun, ?_, ((Below.refl _ _).drew).alloc hB _, But.of (((Below.refl _ _).drew).alloc (Nat.le_refl _) _)⟩
    refine Own.block hB (heap_alloc_new w.drew _) (by simp [hl, hyl]) hgc hgm (by simp [size_zeroCells, hzs, hl, hyl]; omega) fun j hj => ?_
    have hj' : j < xs.length + ys.length := by simpa using hj
    rw [Array.getElem?_append_left (by simpa using hj')]
    simp only [← List.map_append, List.getElem?_toArray, List.getElem?_map]
    rw [List.getElem?_eq_getElem hj]; rfl


end

/-- 'append(dst, src...)' of bytes. -/
theorem app_but {w : World} {ops : Array Oper} {rest : List Oper} {o : Oper} {act : Act} {Q : Exit → Act → World → Prop} (hw : o.guard = none) (s x : Operand)
    (ho : o.op = .call { callee := .builtin .append, args := #[s, x], argTypes := #[22, 22] }) (B : Nat) {a a2 : Option Addr} {len cap m c2 : Nat} {xs ys : List UInt8}
    (hs : act.eval s = .slice a len cap) (hd : Own byteV w B a len cap xs) (hx : act.eval x = .slice a2 m c2) (hsrc : Bs w a2 m c2 ys) (hsmall : len + m ≤ 1000000) (hB : B ≤ w.heap.size) (g : Nat) (hg : ∀ b off, a = some ⟨b, off, none⟩ → b = g)
    (h : ∀ a' cap' w', Own byteV w' B a' (len + m) cap' (xs ++ ys) → Below B w w' → But g w w' → wpList Try.prog ops Q rest (act.put o.dst (.slice a' (len + m) cap')) w') : wpList Try.prog ops Q (o :: rest) act w := by
  obtain ⟨i0, hi, hz0, hz1, hz2⟩ := info_parts Try.infoB
  obtain ⟨a', cap', w', hr, h2, h3, h4⟩ := run_append_but (P := Try.prog) w B 22 22 o.type 5 i0 (.int .u8 0) Try.underlying22 hi hz0 hz1 rfl a len cap xs hd _ m ys (hsrc.src (fun _ => rfl) Try.underlying22) (by rw [hz2]; omega) (by unfold maxLen; omega) hB g hg
  refine wpList_plain hw fun K' hK' => ?_
  unfold Oper.wp execOp
  simp only [ho, resolve, invoke, builtin, Sem.run_bind, Sem.run_pure, Result.andThen_ok, List.map_toArray, List.map_cons, List.map_nil, hs, hx, hr]
  exact hK' _ _ (h a' cap' w' h2 h3 h4)

/-- Bytes that lie in another block. -/
theorem Sl.aside {α : Type} {f : α → Value} {w w' : World} {a : Option Addr} {len cap : Nat} {xs : List α} (h : Sl f w a len cap xs) {g : Nat} (hb : But g w w') (hn : ∀ b off, a = some ⟨b, off, none⟩ → b ≠ g) : Sl f w' a len cap xs :=
  ⟨h.hlen, h.hle, h.hmax, fun i hi => by
    obtain ⟨b, off, ha, hlt, hc⟩ := h.hcell i hi
    exact ⟨b, off, ha, Nat.lt_of_lt_of_le hlt hb.size, (hb.cell (p := ⟨b, off + i, none⟩) hlt (hn b off ha)).trans hc⟩⟩

end Go.Proofs.Ytaokbaddleplfaa
