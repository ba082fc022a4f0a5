/-
  'append' of bytes, over this program's types.
-/
import Derived.Test.YtjacnghndnkcnaaRows
import Derived.Test.YtjacnghndnkcnaaApp
import Derived.Outline
import Derived.Laws.BytesArg
import Derived.Deep.RegionHeld3
import Derived.Deep.QuietTactic
import Derived.BigQuiet
namespace Go.Proofs.Ytjacnghndnkcnaa
open Go.RowKit

theorem Try.infoB : (Try.prog.info? 5).map (fun i => (i.zero, i.size, i.bytes)) = some (some (.int .u8 0), 1, 1) := by kernel_rfl

/-- 'append(dst, src...)' of bytes. -/
theorem app {w : World} {ops : Array Oper} {rest : List Oper} {o : Oper} {act : Act} {Q : Exit → Act → World → Prop} (hw : Region.wanted o (yielded ops act.tmps) = true) (s x : Operand)
    (ho : o.op = .call { callee := .builtin .append, args := #[s, x], argTypes := #[22, 22] }) (B : Nat) {a a2 : Option Addr} {len cap m c2 : Nat} {xs ys : List UInt8}
    (hs : act.eval s = .slice a len cap) (hd : Own byteV w B a len cap xs) (hx : act.eval x = .slice a2 m c2) (hsrc : Bs w a2 m c2 ys) (hsmall : len + m ≤ 1000000) (hB : B ≤ w.heap.size)
    (h : ∀ a' cap' w', Own byteV w' B a' (len + m) cap' (xs ++ ys) → Below B w w' → wpList Try.prog ops Q rest (act.put o.dst (.slice a' (len + m) cap')) w') : wpList Try.prog ops Q (o :: rest) act w := by
  obtain ⟨i0, hi, hz0, hz1, hz2⟩ := info_parts Try.infoB
  exact wpList_append hw s x 22 22 ho B 5 i0 (.int .u8 0) Try.underlying22 hi hz0 hz1 rfl a len cap xs hs hd _ m ys hx (hsrc.src (fun _ => rfl) Try.underlying22) (by rw [hz2]; omega) (by unfold maxLen; omega) hB h

/-- A literal of one byte. -/
theorem one_own (w : World) (v : Int) (n : Nat) (hv : v = n) (h : n < 256) (t : TypeId) : Own byteV (w.alloc (.cells #[.int .u8 v] t)) w.heap.size (some ⟨w.heap.size, 0, none⟩) 1 1 [UInt8.ofNat n] :=
  Own.fresh w [UInt8.ofNat n] [.int .u8 v] t 1 rfl (by unfold maxLen; omega) (by simp only [List.map_cons, List.map_nil, byteV, UInt8.toNat_ofNat']; congr 2; omega)

end Go.Proofs.Ytjacnghndnkcnaa
