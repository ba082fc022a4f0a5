/-
  A struct is stored, at a step of a region that draws its order.
-/
import Derived.Test.YtjacnghndnkcnaaTabWalk
import Derived.Test.YtjacnghndnkcnaaRows
namespace Go.Proofs.Ytjacnghndnkcnaa
open Go.RowKit

/-- A struct is stored, at a step of a region that draws its order. -/
theorem step_store {w : World} {ops : Array Oper} {o : Oper} {act : Act} {K : Act → World → Prop} {Q : Exit → Act → World → Prop} {E : Prop} (hgd : o.guard = none) (ty : TypeId) (x y : Operand) (ho : o.op = .store ty x y)
    (g : Nat) (cells : Array Value) (hx : act.eval x = .pointer (some ⟨g, 0, none⟩)) (hy : act.eval y = .agg cells)
    (t : TypeId) (old : Array Value) (hg : w.heap[g]? = some (.cells old t (0, 0))) (hi : (Try.prog.info? ty).map (·.size) = some cells.size)
    (hold : old.size = cells.size) (h1 : cells.all (·.oneCell') = true)
    (h : ∀ w1, w1.heap[g]? = some (.cells cells t (0, 0)) → (∀ B, B ≤ g → Below B w w1) → (∀ k, k ≠ g → w1.heap[k]? = w.heap[k]?) → w1.heap.size = w.heap.size → K (act.put o.dst undef) w1) : if Region.wanted o (yielded ops act.tmps) = true then Oper.wp Try.prog o act w K Q else E := by
  have hw' : Region.wanted o (yielded ops act.tmps) = true := by simp [Region.wanted, hgd]
  rw [if_pos hw']
  refine wp_store_row ty x y ho g cells hx hy t old hg hi hold h1 (h _ ?_ (fun B hB => below_setRow (Below.refl _ _) hB _) (fun k hk => setRow_other w g k cells hk) (by simp))
  have hlt := lt_of_block hg
  have h' : w.heap[g] = .cells old t (0, 0) := by simpa [Array.getElem?_eq_getElem hlt] using hg
  show (w.heap.modify g _)[g]? = _
  rw [Array.getElem?_eq_getElem (by simpa using hlt), Array.getElem_modify_self, h']

end Go.Proofs.Ytjacnghndnkcnaa
