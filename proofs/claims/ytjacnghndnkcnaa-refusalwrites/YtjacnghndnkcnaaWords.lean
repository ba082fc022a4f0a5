/-
  Slices of numbers of 16 bits: what came in, 'append', 'make', a literal.
-/
import Derived.Test.YtjacnghndnkcnaaStep
namespace Go.Proofs.Ytjacnghndnkcnaa
open Go.RowKit

abbrev wordV (x : UInt16) : Value := .int .u16 (x.toNat : Int)
abbrev Ws := @Sl UInt16 wordV
theorem word_lt (x : UInt16) : x.toNat < 65536 := x.toNat_lt

/-- A slice of numbers that came in, as the shell hands it. -/
theorem Ws.ofRow {w : World} {a : Option Addr} {len cap : Nat} {zs : List Int}
    (h : (a = none ∧ len = 0 ∧ cap = 0 ∧ zs = []) ∨ ∃ x, a = some x ∧ len ≤ cap ∧ cap ≤ maxLen ∧ zs.length = cap ∧ (∀ i, i < zs.length → w.cell? (x.add i) = some (.int .u16 (zs.getD i 0))) ∧ ∀ n ∈ zs, (Lit.int .u16 n).wf = true) :
    ∃ xs : List UInt16, Ws w a len cap xs := by
  rcases h with ⟨rfl, rfl, rfl, rfl⟩ | ⟨x, rfl, hl, hm, hz, hc, hw⟩
  · exact ⟨[], Sl.nil _ _ (by unfold maxLen; omega)⟩
  · refine ⟨(zs.take len).map fun n => UInt16.ofNat n.toNat, by simp; omega, hl, hm, fun i hi => ?_⟩
    have hi' : i < len := by simp at hi; omega
    obtain ⟨b, off, spot⟩ := x
    have h1 := hc i (by omega)
    have hspot : spot = none := by simpa [Addr.add] using World.cell?_spot (hc 0 (by omega))
    subst hspot
    have hadd : (⟨b, off, none⟩ : Addr).add i = ⟨b, off + i, none⟩ := by simp [Addr.add]
    rw [hadd] at h1
    refine ⟨b, off, rfl, ?_, ?_⟩
    · rcases Nat.lt_or_ge b w.heap.size with hlt | hge
      · exact hlt
      · simp [World.cell?, Array.getElem?_eq_none hge] at h1
    · rw [h1]
      have hmem : zs.getD i 0 ∈ zs := by
        rw [List.getD_eq_getElem?_getD, List.getElem?_eq_getElem (by omega)]; simp
      have hb := bounds_u16 (hw _ hmem)
      have : ((zs.take len).map fun n => UInt16.ofNat n.toNat)[i]'hi = UInt16.ofNat (zs.getD i 0).toNat := by
        rw [List.getElem_map, List.getElem_take, List.getD_eq_getElem?_getD, List.getElem?_eq_getElem (by omega)]; rfl
      rw [this]
      show some (Value.int .u16 _) = some (.int .u16 _)
      rw [UInt16.toNat_ofNat']
      congr 2
      omega

theorem Try.infoW : (Try.prog.info? 24).map (fun i => (i.zero, i.size, i.bytes)) = some (some (.int .u16 0), 1, 2) := by kernel_rfl

/-- 'append(dst, src...)' of numbers. -/
theorem app16 {w : World} {ops : Array Oper} {rest : List Oper} {o : Oper} {act : Act} {Q : Exit → Act → World → Prop} (hw : Region.wanted o (yielded ops act.tmps) = true) (s x : Operand)
    (ho : o.op = .call { callee := .builtin .append, args := #[s, x], argTypes := #[25, 25] }) (B : Nat) {a a2 : Option Addr} {len cap m c2 : Nat} {xs ys : List UInt16}
    (hs : act.eval s = .slice a len cap) (hd : Own wordV w B a len cap xs) (hx : act.eval x = .slice a2 m c2) (hsrc : Ws w a2 m c2 ys) (hsmall : len + m ≤ 1000000) (hB : B ≤ w.heap.size)
    (h : ∀ a' cap' w', Own wordV w' B a' (len + m) cap' (xs ++ ys) → Below B w w' → wpList Try.prog ops Q rest (act.put o.dst (.slice a' (len + m) cap')) w') : wpList Try.prog ops Q (o :: rest) act w := by
  obtain ⟨i0, hi, hz0, hz1, hz2⟩ := info_parts Try.infoW
  exact wpList_append hw s x 25 25 ho B 24 i0 (.int .u16 0) Try.underlying25 hi hz0 hz1 rfl a len cap xs hs hd _ m ys hx (hsrc.src (fun _ => rfl) Try.underlying25) (by rw [hz2]; omega) (by unfold maxLen; omega) hB h

/-- The same, at a step of a region that draws its order. -/
theorem step_app16 {w : World} {ops : Array Oper} {o : Oper} {act : Act} {K : Act → World → Prop} {Q : Exit → Act → World → Prop} {E : Prop} (hw : o.guard = none) (s x : Operand)
    (ho : o.op = .call { callee := .builtin .append, args := #[s, x], argTypes := #[25, 25] }) (B : Nat) {a a2 : Option Addr} {len cap m c2 : Nat} {xs ys : List UInt16}
    (hs : act.eval s = .slice a len cap) (hd : Own wordV w B a len cap xs) (hx : act.eval x = .slice a2 m c2) (hsrc : Ws w a2 m c2 ys) (hsmall : len + m ≤ 1000000) (hB : B ≤ w.heap.size)
    (h : ∀ a' cap' w', Own wordV w' B a' (len + m) cap' (xs ++ ys) → Below B w w' → K (act.put o.dst (.slice a' (len + m) cap')) w') : if Region.wanted o (yielded ops act.tmps) = true then Oper.wp Try.prog o act w K Q else E := by
  have hw' : Region.wanted o (yielded ops act.tmps) = true := by simp [Region.wanted, hw]
  rw [if_pos hw']
  obtain ⟨i0, hi, hz0, hz1, hz2⟩ := info_parts Try.infoW
  exact wp_append s x 25 25 ho B 24 i0 (.int .u16 0) Try.underlying25 hi hz0 hz1 rfl a len cap xs hs hd _ m ys hx (hsrc.src (fun _ => rfl) Try.underlying25) (by rw [hz2]; omega) (by unfold maxLen; omega) hB h

/-- 'make([]uint16, l, c)'. -/
theorem make_words (l c : Nat) (hlc : l ≤ c) (hc : c ≤ 1000000) (w : World) :
    (Instr.makeSlice 25 (.int .i64 l) (.int .i64 c)).run Try.prog w = .ok (.slice (some ⟨w.heap.size, 0, none⟩) l c) (w.alloc (.cells (madeCells #[.int .u16 0] c) 24)) := by
  obtain ⟨i0, hi, hz0, hz1, hz2⟩ := info_parts Try.infoW
  have := run_make (P := Try.prog) w 25 24 i0 _ Try.underlying25 hi hz0 .i64 .i64 l c (by omega) (by omega) (by rw [hz2]; omega) (by omega)
  rw [hz1] at this
  simpa [Value.cells] using this
theorem made_own16 (w : World) (c : Nat) (hc : c ≤ 1000000) (t : TypeId) : Own wordV (w.alloc (.cells (madeCells #[.int .u16 0] c) t)) w.heap.size (some ⟨w.heap.size, 0, none⟩) 0 c [] :=
  Own.block (Nat.le_refl _) (heap_alloc_new _ _) rfl (Nat.zero_le _) (by unfold maxLen; omega) (by simp [size_madeCells]) fun i hi => absurd hi (by simp)

/-- A literal of one number; of two bytes. -/
theorem one_own16 (w : World) (v : Int) (n : Nat) (hv : v = n) (h : n < 65536) (t : TypeId) : Own wordV (w.alloc (.cells #[.int .u16 v] t)) w.heap.size (some ⟨w.heap.size, 0, none⟩) 1 1 [UInt16.ofNat n] :=
  Own.fresh w [UInt16.ofNat n] [.int .u16 v] t 1 rfl (by unfold maxLen; omega) (by simp only [List.map_cons, List.map_nil, wordV, UInt16.toNat_ofNat']; congr 2; omega)
theorem two_own (w : World) (u v : Int) (m n : Nat) (hu : u = m) (hv : v = n) (hm : m < 256) (hn : n < 256) (t : TypeId) : Own byteV (w.alloc (.cells #[.int .u8 u, .int .u8 v] t)) w.heap.size (some ⟨w.heap.size, 0, none⟩) 2 2 [UInt8.ofNat m, UInt8.ofNat n] :=
  Own.fresh w [UInt8.ofNat m, UInt8.ofNat n] [.int .u8 u, .int .u8 v] t 2 rfl (by unfold maxLen; omega) (by
    subst hu hv
    simp only [List.map_cons, List.map_nil, byteV, UInt8.toNat_ofNat']
    rw [Nat.mod_eq_of_lt hm, Nat.mod_eq_of_lt hn])

end Go.Proofs.Ytjacnghndnkcnaa
