/-
  'append' of bytes at a step of a region that draws its order; 'make' of bytes.
-/
import Derived.Test.YtjacnghndnkcnaaBytes
import Derived.Laws.MakeOwn
namespace Go.Proofs.Ytjacnghndnkcnaa
open Go.RowKit

/-- 'append(dst, src...)' of bytes, at a step of a region that draws its order. -/
theorem step_app {w : World} {ops : Array Oper} {o : Oper} {act : Act} {K : Act → World → Prop} {Q : Exit → Act → World → Prop} {E : Prop} (hw : o.guard = none) (s x : Operand)
    (ho : o.op = .call { callee := .builtin .append, args := #[s, x], argTypes := #[22, 22] }) (B : Nat) {a a2 : Option Addr} {len cap m c2 : Nat} {xs ys : List UInt8}
    (hs : act.eval s = .slice a len cap) (hd : Own byteV w B a len cap xs) (hx : act.eval x = .slice a2 m c2) (hsrc : Bs w a2 m c2 ys) (hsmall : len + m ≤ 1000000) (hB : B ≤ w.heap.size)
    (h : ∀ a' cap' w', Own byteV w' B a' (len + m) cap' (xs ++ ys) → Below B w w' → K (act.put o.dst (.slice a' (len + m) cap')) w') : if Region.wanted o (yielded ops act.tmps) = true then Oper.wp Try.prog o act w K Q else E := by
  have hw' : Region.wanted o (yielded ops act.tmps) = true := by simp [Region.wanted, hw]
  rw [if_pos hw']
  obtain ⟨i0, hi, hz0, hz1, hz2⟩ := info_parts Try.infoB
  exact wp_append s x 22 22 ho B 5 i0 (.int .u8 0) Try.underlying22 hi hz0 hz1 rfl a len cap xs hs hd _ m ys hx (hsrc.src (fun _ => rfl) Try.underlying22) (by rw [hz2]; omega) (by unfold maxLen; omega) hB h

/-- 'make([]byte, l, c)'. -/
theorem make_bytes (l c : Nat) (hlc : l ≤ c) (hc : c ≤ 1000000) (w : World) :
    (Instr.makeSlice 22 (.int .i64 l) (.int .i64 c)).run Try.prog w = .ok (.slice (some ⟨w.heap.size, 0, none⟩) l c) (w.alloc (.cells (madeCells #[.int .u8 0] c) 5)) := by
  obtain ⟨i0, hi, hz0, hz1, hz2⟩ := info_parts Try.infoB
  have := run_make (P := Try.prog) w 22 5 i0 _ Try.underlying22 hi hz0 .i64 .i64 l c (by omega) (by omega) (by rw [hz2]; omega) (by omega)
  rw [hz1] at this
  simpa [Value.cells] using this
theorem made_own (w : World) (c : Nat) (hc : c ≤ 1000000) (t : TypeId) : Own byteV (w.alloc (.cells (madeCells #[.int .u8 0] c) t)) w.heap.size (some ⟨w.heap.size, 0, none⟩) 0 c [] :=
  Own.block (Nat.le_refl _) (heap_alloc_new _ _) rfl (Nat.zero_le _) (by unfold maxLen; omega) (by simp [size_madeCells]) fun i hi => absurd hi (by simp)

end Go.Proofs.Ytjacnghndnkcnaa
