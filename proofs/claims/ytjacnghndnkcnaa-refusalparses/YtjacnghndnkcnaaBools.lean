/-
  Slices of bools: what came in, 'append', 'make', a literal.
-/
import Derived.Test.YtjacnghndnkcnaaStep
import Derived.Deep.Grids
namespace Go.Proofs.Ytjacnghndnkcnaa
open Go.RowKit

abbrev boolV (x : Bool) : Value := .bool x
abbrev Ls := @Sl Bool boolV

/-- A slice of bools that came in, as the law's text opens it. -/
theorem Ls.ofNone (w : World) : Ls w none 0 0 [] := Sl.nil _ _ (by unfold maxLen; omega)
theorem Ls.ofCells {w : World} {x : Addr} {len cap : Nat} {z : Nat → Bool} (hl : len ≤ cap) (hm : cap ≤ maxLen) (hc : ∀ i, i < cap → w.cell? (x.add i) = some (.bool (z i))) :
    Ls w (some x) len cap ((List.range len).map z) := by
  refine ⟨by simp, hl, hm, fun i hi => ?_⟩
  have hi' : i < len := by simpa using hi
  obtain ⟨b, off, spot⟩ := x
  have h1 := hc i (by omega)
  have hspot : spot = none := by simpa [Addr.add] using World.cell?_spot (hc 0 (by omega))
  subst hspot
  have hadd : (⟨b, off, none⟩ : Addr).add i = ⟨b, off + i, none⟩ := by simp [Addr.add]
  rw [hadd] at h1
  refine ⟨b, off, rfl, ?_, ?_⟩
  · rcases Nat.lt_or_ge b w.heap.size with hlt | hge
    · exact hlt
    · simp [World.cell?, Array.getElem?_eq_none hge] at h1
  · rw [h1]; simp

theorem Try.infoL : (Try.prog.info? 4).map (fun i => (i.zero, i.size, i.bytes)) = some (some (.bool false), 1, 1) := by kernel_rfl

/-- 'append(dst, src...)' of bools. -/
theorem appL {w : World} {ops : Array Oper} {rest : List Oper} {o : Oper} {act : Act} {Q : Exit → Act → World → Prop} (hw : Region.wanted o (yielded ops act.tmps) = true) (s x : Operand)
    (ho : o.op = .call { callee := .builtin .append, args := #[s, x], argTypes := #[26, 26] }) (B : Nat) {a a2 : Option Addr} {len cap m c2 : Nat} {xs ys : List Bool}
    (hs : act.eval s = .slice a len cap) (hd : Own boolV w B a len cap xs) (hx : act.eval x = .slice a2 m c2) (hsrc : Ls w a2 m c2 ys) (hsmall : len + m ≤ 1000000) (hB : B ≤ w.heap.size)
    (h : ∀ a' cap' w', Own boolV w' B a' (len + m) cap' (xs ++ ys) → Below B w w' → wpList Try.prog ops Q rest (act.put o.dst (.slice a' (len + m) cap')) w') : wpList Try.prog ops Q (o :: rest) act w := by
  obtain ⟨i0, hi, hz0, hz1, hz2⟩ := info_parts Try.infoL
  exact wpList_append hw s x 26 26 ho B 4 i0 (.bool false) Try.underlying26 hi hz0 hz1 rfl a len cap xs hs hd _ m ys hx (hsrc.src (fun _ => rfl) Try.underlying26) (by rw [hz2]; omega) (by unfold maxLen; omega) hB h

/-- The same, at a step of a region that draws its order. -/
theorem step_appL {w : World} {ops : Array Oper} {o : Oper} {act : Act} {K : Act → World → Prop} {Q : Exit → Act → World → Prop} {E : Prop} (hw : o.guard = none) (s x : Operand)
    (ho : o.op = .call { callee := .builtin .append, args := #[s, x], argTypes := #[26, 26] }) (B : Nat) {a a2 : Option Addr} {len cap m c2 : Nat} {xs ys : List Bool}
    (hs : act.eval s = .slice a len cap) (hd : Own boolV w B a len cap xs) (hx : act.eval x = .slice a2 m c2) (hsrc : Ls w a2 m c2 ys) (hsmall : len + m ≤ 1000000) (hB : B ≤ w.heap.size)
    (h : ∀ a' cap' w', Own boolV w' B a' (len + m) cap' (xs ++ ys) → Below B w w' → K (act.put o.dst (.slice a' (len + m) cap')) w') : if Region.wanted o (yielded ops act.tmps) = true then Oper.wp Try.prog o act w K Q else E := by
  have hw' : Region.wanted o (yielded ops act.tmps) = true := by simp [Region.wanted, hw]
  rw [if_pos hw']
  obtain ⟨i0, hi, hz0, hz1, hz2⟩ := info_parts Try.infoL
  exact wp_append s x 26 26 ho B 4 i0 (.bool false) Try.underlying26 hi hz0 hz1 rfl a len cap xs hs hd _ m ys hx (hsrc.src (fun _ => rfl) Try.underlying26) (by rw [hz2]; omega) (by unfold maxLen; omega) hB h

/-- 'make([]bool, l, c)'. -/
theorem make_bools (l c : Nat) (hlc : l ≤ c) (hc : c ≤ 1000000) (w : World) :
    (Instr.makeSlice 26 (.int .i64 l) (.int .i64 c)).run Try.prog w = .ok (.slice (some ⟨w.heap.size, 0, none⟩) l c) (w.alloc (.cells (madeCells #[.bool false] c) 4)) := by
  obtain ⟨i0, hi, hz0, hz1, hz2⟩ := info_parts Try.infoL
  have := run_make (P := Try.prog) w 26 4 i0 _ Try.underlying26 hi hz0 .i64 .i64 l c (by omega) (by omega) (by rw [hz2]; omega) (by omega)
  rw [hz1] at this
  simpa [Value.cells] using this

theorem madeCells_one (v : Value) (c i : Nat) (h : i < c) : (madeCells #[v] c)[i]? = some v := by
  unfold madeCells
  simp [h, Nat.mod_one]

/-- What 'make' lays, read whole. -/
theorem made_all {α : Type} {f : α → Value} (z : α) (w : World) (c : Nat) (hc : c ≤ 1000000) (t : TypeId) : Own f (w.alloc (.cells (madeCells #[f z] c) t)) w.heap.size (some ⟨w.heap.size, 0, none⟩) c c (List.replicate c z) :=
  Own.block (Nat.le_refl _) (heap_alloc_new _ _) (by simp) (Nat.le_refl _) (by unfold maxLen; omega) (by simp [size_madeCells]) fun i hi => by
    have : i < c := by simpa using hi
    rw [madeCells_one _ _ _ this]; simp

/-- A literal of one bool. -/
theorem one_ownL (w : World) (v : Bool) (t : TypeId) : Own boolV (w.alloc (.cells #[.bool v] t)) w.heap.size (some ⟨w.heap.size, 0, none⟩) 1 1 [v] :=
  Own.fresh w [v] [.bool v] t 1 rfl (by unfold maxLen; omega) rfl

end Go.Proofs.Ytjacnghndnkcnaa
