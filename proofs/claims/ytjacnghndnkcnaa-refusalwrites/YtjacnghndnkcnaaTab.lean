/-
  A map by bytes that the call made, of values whatever: what is put is there, what isn't is not.
-/
import Derived.Test.YtjacnghndnkcnaaBase
import Derived.MapKept
import Derived.Carry
namespace Go.Proofs.Ytjacnghndnkcnaa
open Go.RowKit

/-- The entries of a map, one behind the other. -/
def tabEs : List (Nat × Value) → Nat → List MapEntry
  | [], _ => []
  | (k, v) :: r, i => ⟨.int .u8 (k : Int), v, i⟩ :: tabEs r (i + 1)
/-- Block 'b' is a map that holds just 'l'. -/
def Tab (w : World) (b : Nat) (l : List (Nat × Value)) : Prop := w.heap[b]? = some (.map (tabEs l 0).toArray l.length)
def tabAt : List (Nat × Value) → Nat → Option Value
  | [], _ => none
  | (k, v) :: r, x => if x = k then some v else tabAt r x

theorem tabEs_append : ∀ (l : List (Nat × Value)) (i k : Nat) (v : Value), tabEs (l ++ [(k, v)]) i = tabEs l i ++ [⟨.int .u8 (k : Int), v, i + l.length⟩]
  | [], i, k, v => rfl
  | x :: r, i, k, v => by
    simp only [List.cons_append, tabEs, List.cons_append, List.length_cons]
    rw [tabEs_append r (i + 1) k v, show i + 1 + r.length = i + (r.length + 1) by omega]

theorem tab_find : ∀ (l : List (Nat × Value)) (i j x : Nat), ∃ n, Instr.findNow (.int .u8) (.int .u8 (x : Int)) (tabEs l i) j = some ((tabAt l x).map fun v => (n, v))
  | [], i, j, x => ⟨0, rfl⟩
  | (k, v) :: r, i, j, x => by
    by_cases h : x = k
    · subst h
      exact ⟨j, by simp [tabEs, Instr.findNow, Instr.sameNow, tabAt]⟩
    · obtain ⟨n, hn⟩ := tab_find r (i + 1) (j + 1) x
      have h' : ¬ ((x : Int) = (k : Int)) := by omega
      refine ⟨n, ?_⟩
      simp only [tabEs, Instr.findNow, Instr.sameNow, if_true, tabAt, if_neg h]
      have : ((x : Int) == (k : Int)) = false := by simp [h']
      rw [this]
      exact hn

theorem Tab.lt {w : World} {b : Nat} {l : List (Nat × Value)} (h : Tab w b l) : b < w.heap.size := (Array.getElem?_eq_some_iff.1 h).1
theorem Tab.made (w : World) : Tab (w.alloc (.map #[] 0)) w.heap.size [] := heap_alloc_new _ _
theorem Tab.mono {w w' : World} {b : Nat} {l : List (Nat × Value)} (h : Tab w b l) (hb : Below w.heap.size w w') : Tab w' b l := (hb.block b h.lt).trans h

/-- 'm[x], ok'. -/
theorem run_tab {P : Program} {w : World} {b : Nat} {l : List (Nat × Value)} (h : Tab w b l) (t k e : TypeId) (ht : P.underlying t = some (.map k e)) (hk : P.underlying k = some (.int .u8)) (z : Value) (hz : (zeroValue e).run P w = .ok z w) (x : Nat) :
    (Instr.lookup t (.map (some b)) (.int .u8 (x : Int)) true).run P w = .ok (.tuple #[(tabAt l x).getD z, .bool (tabAt l x).isSome]) w := by
  obtain ⟨n, hn⟩ := tab_find l 0 0 x
  unfold Instr.lookup
  simp only [Sem.run_bind, run_underlying ht, Result.andThen_ok, MapKept.run_getObj_map h, Sem.run_pure]
  have hck : ∀ em, (Instr.checkKey em 10000 k (.int .u8 (x : Int))).run P w = .ok () w := fun em => by
    unfold Instr.checkKey
    simp [run_underlying hk]
  rw [hck]
  simp only [Result.andThen_ok]
  rw [MapKept.run_findKey (k := .int .u8 (x : Int)) hk (by simpa using hn)]
  cases tabAt l x with
  | none => simp [hz]
  | some v => simp

/-- 'm[x], ok' of a map that is nil. -/
theorem run_tab_nil {P : Program} {w : World} (t k e : TypeId) (ht : P.underlying t = some (.map k e)) (hk : P.underlying k = some (.int .u8)) (z : Value) (hz : (zeroValue e).run P w = .ok z w) (x : Nat) :
    (Instr.lookup t (.map none) (.int .u8 (x : Int)) true).run P w = .ok (.tuple #[z, .bool false]) w := by
  unfold Instr.lookup
  simp only [Sem.run_bind, run_underlying ht, Result.andThen_ok, Sem.run_pure]
  have hck : ∀ em, (Instr.checkKey em 10000 k (.int .u8 (x : Int))).run P w = .ok () w := fun em => by
    unfold Instr.checkKey
    simp [run_underlying hk]
  rw [hck]
  simp only [Result.andThen_ok]
  rw [MapKept.run_findKey (k := .int .u8 (x : Int)) (a := none) hk rfl]
  simp [hz]

def setObjW (w : World) (b : Nat) (o : Obj) : World := { w with heap := w.heap.setIfInBounds b o }
theorem below_setObj {B : Nat} {a w : World} (h : Below B a w) {b : Nat} (hb : B ≤ b) (o : Obj) : Below B a (setObjW w b o) :=
  h.trans ⟨rfl, rfl, rfl, by simp [setObjW], fun k hk => by
    show (w.heap.setIfInBounds b o)[k]? = w.heap[k]?
    rw [Array.getElem?_setIfInBounds_ne (by omega)]⟩
theorem setObj_other {w : World} {b c : Nat} (hn : c ≠ b) (o : Obj) : (setObjW w b o).heap[c]? = w.heap[c]? := by
  show (w.heap.setIfInBounds b o)[c]? = w.heap[c]?
  rw [Array.getElem?_setIfInBounds_ne (by omega)]

/-- One more is put in. -/
theorem run_put {P : Program} {w : World} {b : Nat} {l : List (Nat × Value)} (h : Tab w b l) (t k e : TypeId) (ht : P.underlying t = some (.map k e)) (hk : P.underlying k = some (.int .u8)) (x : Nat) (hx : tabAt l x = none) (v : Value) :
    ∃ o, (Instr.mapUpdate t (.map (some b)) (.int .u8 (x : Int)) v).run P w = .ok () (setObjW w b o) ∧ Tab (setObjW w b o) b (l ++ [(x, v)]) := by
  obtain ⟨n, hn⟩ := tab_find l 0 0 x
  rw [hx] at hn
  refine ⟨.map ((tabEs l 0).toArray.push ⟨.int .u8 (x : Int), v, l.length⟩) (l.length + 1), ?_, ?_⟩
  · unfold Instr.mapUpdate
    simp only [Sem.run_bind, run_underlying ht, Result.andThen_ok, MapKept.run_getObj_map h]
    have hck : ∀ em, (Instr.checkKey em 10000 k (.int .u8 (x : Int))).run P w = .ok () w := fun em => by
      unfold Instr.checkKey
      simp [run_underlying hk]
    rw [hck]
    simp only [Result.andThen_ok]
    rw [MapKept.run_findKey (k := .int .u8 (x : Int)) (a := none) hk (by simpa using hn)]
    simp only [Result.andThen_ok]
    rw [MapKept.run_setObj_map _ h]
    rfl
  · show (w.heap.setIfInBounds b _)[b]? = _
    rw [Array.getElem?_setIfInBounds_self_of_lt h.lt]
    rw [tabEs_append, List.length_append]
    simp

end Go.Proofs.Ytjacnghndnkcnaa
