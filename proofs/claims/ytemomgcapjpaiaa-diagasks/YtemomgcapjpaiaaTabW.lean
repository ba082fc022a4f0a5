/-
  A map by numbers of 16 bits that the call made, of values whatever: what is put is there, what isn't is not.
-/
import Derived.Test.YtemomgcapjpaiaaJoinB
import Derived.Laws.Rows
import Derived.Laws.Tables
namespace Go.Proofs.Ytemomgcapjpaiaa
open Go.RowKit

/-- The entries of a map, one behind the other. -/
def tabWs : List (Nat × Value) → Nat → List MapEntry
  | [], _ => []
  | (k, v) :: r, i => ⟨.int .u16 (k : Int), v, i⟩ :: tabWs r (i + 1)
/-- Block 'b' is a map that holds just 'l'. -/
def TabW (w : World) (b : Nat) (l : List (Nat × Value)) : Prop := w.heap[b]? = some (.map (tabWs l 0).toArray l.length)
theorem tabWs_append : ∀ (l : List (Nat × Value)) (i k : Nat) (v : Value), tabWs (l ++ [(k, v)]) i = tabWs l i ++ [⟨.int .u16 (k : Int), v, i + l.length⟩]
  | [], i, k, v => rfl
  | x :: r, i, k, v => by
    simp only [List.cons_append, tabWs, List.cons_append, List.length_cons]
    rw [tabWs_append r (i + 1) k v, show i + 1 + r.length = i + (r.length + 1) by omega]

theorem tabW_find : ∀ (l : List (Nat × Value)) (i j x : Nat), ∃ n, Instr.findNow (.int .u16) (.int .u16 (x : Int)) (tabWs l i) j = some ((tabAt l x).map fun v => (n, v))
  | [], i, j, x => ⟨0, rfl⟩
  | (k, v) :: r, i, j, x => by
    by_cases h : x = k
    · subst h
      exact ⟨j, by simp [tabWs, Instr.findNow, Instr.sameNow, tabAt]⟩
    · obtain ⟨n, hn⟩ := tabW_find r (i + 1) (j + 1) x
      have h' : ¬ ((x : Int) = (k : Int)) := by omega
      refine ⟨n, ?_⟩
      simp only [tabWs, Instr.findNow, Instr.sameNow, if_true, tabAt, if_neg h]
      have : ((x : Int) == (k : Int)) = false := by simp [h']
      rw [this]
      exact hn

theorem TabW.lt {w : World} {b : Nat} {l : List (Nat × Value)} (h : TabW w b l) : b < w.heap.size := (Array.getElem?_eq_some_iff.1 h).1
theorem TabW.made (w : World) : TabW (w.alloc (.map #[] 0)) w.heap.size [] := heap_alloc_new _ _
theorem TabW.mono {w w' : World} {b : Nat} {l : List (Nat × Value)} (h : TabW w b l) (hb : Below w.heap.size w w') : TabW w' b l := (hb.block b h.lt).trans h

/-- 'm[x], ok'. -/
theorem run_tabW {P : Program} {w : World} {b : Nat} {l : List (Nat × Value)} (h : TabW w b l) (t k e : TypeId) (ht : P.underlying t = some (.map k e)) (hk : P.underlying k = some (.int .u16)) (z : Value) (hz : (zeroValue e).run P w = .ok z w) (x : Nat) :
    (Instr.lookup t (.map (some b)) (.int .u16 (x : Int)) true).run P w = .ok (.tuple #[(tabAt l x).getD z, .bool (tabAt l x).isSome]) w := by
  obtain ⟨n, hn⟩ := tabW_find l 0 0 x
  unfold Instr.lookup
  simp only [Sem.run_bind, run_underlying ht, Result.andThen_ok, MapKept.run_getObj_map h, Sem.run_pure]
  have hck : ∀ em, (Instr.checkKey em 10000 k (.int .u16 (x : Int))).run P w = .ok () w := fun em => by
    unfold Instr.checkKey
    simp [run_underlying hk]
  rw [hck]
  simp only [Result.andThen_ok]
  rw [MapKept.run_findKey (k := .int .u16 (x : Int)) hk (by simpa using hn)]
  cases tabAt l x with
  | none => simp [hz]
  | some v => simp

/-- 'm[x], ok' of a map that is nil. -/
theorem run_tabW_nil {P : Program} {w : World} (t k e : TypeId) (ht : P.underlying t = some (.map k e)) (hk : P.underlying k = some (.int .u16)) (z : Value) (hz : (zeroValue e).run P w = .ok z w) (x : Nat) :
    (Instr.lookup t (.map none) (.int .u16 (x : Int)) true).run P w = .ok (.tuple #[z, .bool false]) w := by
  unfold Instr.lookup
  simp only [Sem.run_bind, run_underlying ht, Result.andThen_ok, Sem.run_pure]
  have hck : ∀ em, (Instr.checkKey em 10000 k (.int .u16 (x : Int))).run P w = .ok () w := fun em => by
    unfold Instr.checkKey
    simp [run_underlying hk]
  rw [hck]
  simp only [Result.andThen_ok]
  rw [MapKept.run_findKey (k := .int .u16 (x : Int)) (a := none) hk rfl]
  simp [hz]

/-- One more is put in. -/
theorem run_putW {P : Program} {w : World} {b : Nat} {l : List (Nat × Value)} (h : TabW w b l) (t k e : TypeId) (ht : P.underlying t = some (.map k e)) (hk : P.underlying k = some (.int .u16)) (x : Nat) (hx : tabAt l x = none) (v : Value) :
    ∃ o, (Instr.mapUpdate t (.map (some b)) (.int .u16 (x : Int)) v).run P w = .ok () (setObjW w b o) ∧ TabW (setObjW w b o) b (l ++ [(x, v)]) := by
  obtain ⟨n, hn⟩ := tabW_find l 0 0 x
  rw [hx] at hn
  refine ⟨.map ((tabWs l 0).toArray.push ⟨.int .u16 (x : Int), v, l.length⟩) (l.length + 1), ?_, ?_⟩
  · unfold Instr.mapUpdate
    simp only [Sem.run_bind, run_underlying ht, Result.andThen_ok, MapKept.run_getObj_map h]
    have hck : ∀ em, (Instr.checkKey em 10000 k (.int .u16 (x : Int))).run P w = .ok () w := fun em => by
      unfold Instr.checkKey
      simp [run_underlying hk]
    rw [hck]
    simp only [Result.andThen_ok]
    rw [MapKept.run_findKey (k := .int .u16 (x : Int)) (a := none) hk (by simpa using hn)]
    simp only [Result.andThen_ok]
    rw [MapKept.run_setObj_map _ h]
    rfl
  · show (w.heap.setIfInBounds b _)[b]? = _
    rw [Array.getElem?_setIfInBounds_self_of_lt h.lt]
    rw [tabWs_append, List.length_append]
    simp


/-- 'm[x]'. -/
theorem run_tabW1 {P : Program} {w : World} {b : Nat} {l : List (Nat × Value)} (h : TabW w b l) (t k e : TypeId) (ht : P.underlying t = some (.map k e)) (hk : P.underlying k = some (.int .u16)) (z : Value) (hz : (zeroValue e).run P w = .ok z w) (x : Nat) :
    (Instr.lookup t (.map (some b)) (.int .u16 (x : Int)) false).run P w = .ok ((tabAt l x).getD z) w := by
  obtain ⟨n, hn⟩ := tabW_find l 0 0 x
  unfold Instr.lookup
  simp only [Sem.run_bind, run_underlying ht, Result.andThen_ok, MapKept.run_getObj_map h, Sem.run_pure]
  have hck : ∀ em, (Instr.checkKey em 10000 k (.int .u16 (x : Int))).run P w = .ok () w := fun em => by
    unfold Instr.checkKey
    simp [run_underlying hk]
  rw [hck]
  simp only [Result.andThen_ok]
  rw [MapKept.run_findKey (k := .int .u16 (x : Int)) hk (by simpa using hn)]
  cases tabAt l x with
  | none => simp [hz]
  | some v => simp

/-- One more entry. -/
theorem wpList_putW {P : Program} {w : World} {ops : Array Oper} {rest : List Oper} {o : Oper} {a : Act} {Q : Exit → Act → World → Prop} (hg : o.guard = none) (m x v : Operand) (t : TypeId) (hop : o.op = Op.insert t m x v ∨ o.op = Op.mapUpdate t m x v)
    (k e : TypeId) (ht : P.underlying t = some (.map k e)) (hk : P.underlying k = some (.int .u16)) (b : Nat) (l : List (Nat × Value)) (hm : a.eval m = .map (some b)) (hT : TabW w b l) (y : Nat) (hx : a.eval x = .int .u16 (y : Int)) (hfree : tabAt l y = none) (vv : Value) (hv : a.eval v = vv)
    (hK : ∀ w', TabW w' b (l ++ [(y, vv)]) → (∀ c, c ≠ b → w'.heap[c]? = w.heap[c]?) → (∀ B, B ≤ b → Below B w w') → wpList P ops Q rest (a.put o.dst undef) w') : wpList P ops Q (o :: rest) a w := by
  refine wpList_plain hg fun K' hK' => ?_
  obtain ⟨ob, hrun, hT'⟩ := run_putW (P := P) hT t k e ht hk y hfree vv
  unfold Oper.wp
  rcases hop with hop | hop
  all_goals
    simp only [execOp, hop, hm, hx, hv, hrun, Sem.run_bind, Sem.run_pure, Result.andThen_ok]
    exact hK' _ _ (hK _ hT' (fun c hc => setObj_other hc ob) (fun B hB => below_setObj (Below.refl _ _) hB ob))

end Go.Proofs.Ytemomgcapjpaiaa
