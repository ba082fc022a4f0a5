/-
  For walks: a struct laid into a new block, a struct loaded whole, one more entry of a map by bytes.
-/
import Derived.Test.YtjacnghndnkcnaaTab
import Derived.Deep.WholeRow
import Derived.Laws.Rows
import Derived.Laws.Tables
namespace Go.Proofs.Ytjacnghndnkcnaa
open Go.RowKit

/-- A struct is stored into the block that was made last. -/
theorem wpList_store_new {P : Program} {ops : Array Oper} {rest : List Oper} {o : Oper} {a : Act} {w0 : World} {t : TypeId} {old : Array Value} {Q : Exit → Act → World → Prop} (hgd : o.guard = none) (ty : TypeId) (x y : Operand) (ho : o.op = .store ty x y)
    (cells : Array Value) (hx : a.eval x = .pointer (some ⟨w0.heap.size, 0, none⟩)) (hy : a.eval y = .agg cells) (hi : (P.info? ty).map (·.size) = some cells.size) (hold : old.size = cells.size) (h1 : cells.all (·.oneCell') = true)
    (h : ∀ w1, w1.heap[w0.heap.size]? = some (.cells cells t (0, 0)) → Below w0.heap.size w0 w1 → wpList P ops Q rest (a.put o.dst undef) w1) : wpList P ops Q (o :: rest) a (w0.alloc (.cells old t (0, 0))) := by
  refine wpList_store_row hgd ty x y ho w0.heap.size cells hx hy t old (heap_alloc_new _ _) hi hold h1 ?_
  rw [World.setRow_alloc_new]
  exact h _ (heap_alloc_new _ _) ((Below.refl _ _).alloc (Nat.le_refl _) _)

/-- A struct is stored into a block that lies there. -/
theorem wpList_store_lies {P : Program} {ops : Array Oper} {rest : List Oper} {o : Oper} {a : Act} {w : World} {Q : Exit → Act → World → Prop} (hgd : o.guard = none) (ty : TypeId) (x y : Operand) (ho : o.op = .store ty x y)
    (g : Nat) (cells : Array Value) (hx : a.eval x = .pointer (some ⟨g, 0, none⟩)) (hy : a.eval y = .agg cells)
    (t : TypeId) (old : Array Value) (hg : w.heap[g]? = some (.cells old t (0, 0))) (hi : (P.info? ty).map (·.size) = some cells.size)
    (hold : old.size = cells.size) (h1 : cells.all (·.oneCell') = true)
    (h : ∀ w1, w1.heap[g]? = some (.cells cells t (0, 0)) → (∀ B, B ≤ g → Below B w w1) → (∀ k, k ≠ g → w1.heap[k]? = w.heap[k]?) → w1.heap.size = w.heap.size → wpList P ops Q rest (a.put o.dst undef) w1) : wpList P ops Q (o :: rest) a w := by
  refine wpList_store_row hgd ty x y ho g cells hx hy t old hg hi hold h1 (h _ ?_ (fun B hB => below_setRow (Below.refl _ _) hB _) (fun k hk => setRow_other w g k cells hk) (by simp))
  have hlt := lt_of_block hg
  have h' : w.heap[g] = .cells old t (0, 0) := by simpa [Array.getElem?_eq_getElem hlt] using hg
  show (w.heap.modify g _)[g]? = _
  rw [Array.getElem?_eq_getElem (by simpa using hlt), Array.getElem_modify_self, h']

/-- One more entry. -/
theorem wpList_insertT {P : Program} {w : World} {ops : Array Oper} {rest : List Oper} {o : Oper} {a : Act} {Q : Exit → Act → World → Prop} (hg : o.guard = none) (m x v : Operand) (t : TypeId) (hop : o.op = Op.insert t m x v)
    (k e : TypeId) (ht : P.underlying t = some (.map k e)) (hk : P.underlying k = some (.int .u8)) (b : Nat) (l : List (Nat × Value)) (hm : a.eval m = .map (some b)) (hT : Tab w b l) (y : Nat) (hx : a.eval x = .int .u8 (y : Int)) (hfree : tabAt l y = none) (vv : Value) (hv : a.eval v = vv)
    (hK : ∀ w', Tab w' b (l ++ [(y, vv)]) → (∀ c, c ≠ b → w'.heap[c]? = w.heap[c]?) → (∀ B, B ≤ b → Below B w w') → wpList P ops Q rest (a.put o.dst undef) w') : wpList P ops Q (o :: rest) a w := by
  refine wpList_plain hg fun K' hK' => ?_
  obtain ⟨ob, hrun, hT'⟩ := run_put (P := P) hT t k e ht hk y hfree vv
  unfold Oper.wp
  simp only [execOp, hop, hm, hx, hv, hrun, Sem.run_bind, Sem.run_pure, Result.andThen_ok]
  exact hK' _ _ (hK _ hT' (fun c hc => setObj_other hc ob) (fun B hB => below_setObj (Below.refl _ _) hB ob))

end Go.Proofs.Ytjacnghndnkcnaa
