/-
  Sets of numbers, kept in a map that the call made: what is put is there; a look-up of a bool.
-/
import Derived.Test.YtjacnghndnkcnaaWords
import Derived.Maps.OwnOps
import Derived.Maps.Views
namespace Go.Proofs.Ytjacnghndnkcnaa
open Go.RowKit Go.Maps

theorem plainElem_bool_inv {H : Type} {P : Program} {e : TypeId} (he : P.underlying e = some .bool) {v : Value} {z : DataW H × List MemPlace} (h : plainElem P e v = some z) : ∃ x, v = .bool x ∧ z = (.lit (.bool x), []) := by
  unfold plainElem at h
  rw [he] at h
  cases v <;> simp at h
  exact ⟨_, rfl, h.symm⟩

/-- 'm[k]' (without 'ok') at elements that are bools. -/
theorem wpList_lookup_own_bool {H : Type} {P : Program} (w : World) {ops : Array Oper} {rest : List Oper} {o : Oper} {a : Act} {Q : Exit → Act → World → Prop}
    (hg : o.guard = none) (m x : Operand) (t : TypeId) (hop : o.op = Op.lookup t m x false)
    (k e : TypeId) (K : Keyed P k) (ht : P.underlying t = some (.map k e)) (he : P.underlying e = some .bool) (hz : (zeroValue e).run P w = .ok (.bool false) w) (b n : Nat) (D : DataW H)
    (hm : a.eval m = .map (some b)) (hown : w.ownsMap P k (plainElem P e) b n D) (key : Value) (kl : Lit) (hx : a.eval x = key) (hkey : keyOf P k key = some kl)
    (c : Bool) (hat : D.atKey kl (.lit (.bool false)) = .lit (.bool c))
    (hK : wpList P ops Q rest (a.put o.dst (.bool c)) w) :
    wpList P ops Q (o :: rest) a w := by
  refine wpList_plain hg fun K' hK' => ?_
  obtain ⟨v, ps, hrun, hv⟩ := hown.lookup K ht hz (plainElem_bool he false) hkey
  obtain ⟨c', rfl, hc⟩ := plainElem_bool_inv he hv
  simp only [Prod.mk.injEq] at hc
  rw [hat] at hc
  obtain rfl : c = c' := by simpa using hc.1
  unfold Oper.wp
  simp [execOp, hop, hm, hx, hrun, Result.andThen]
  exact hK' _ _ hK

/-- Block 'b' is a map in which just the numbers of 'xs' stand. -/
def SetIn (P : Program) (k e : TypeId) (q : IntKind) (w : World) (b n : Nat) (xs : List Int) : Prop :=
  ∃ D : DataW Unit, w.ownsMap P k (plainElem P e) b n D ∧ IsMap D ∧ ∀ x : Int, D.atKey (.int q x) (.lit (.bool false)) = .lit (.bool (xs.contains x))

theorem SetIn.made (P : Program) (k e : TypeId) (q : IntKind) (w : World) : SetIn P k e q (w.alloc (.map #[] 0)) w.heap.size 0 [] :=
  ⟨.map [], World.ownsMap_made _ _ _ _, isMap_empty, fun _ => rfl⟩

/-- A number is put in. -/
theorem wpList_setIn {P : Program} (w : World) {ops : Array Oper} {rest : List Oper} {o : Oper} {a : Act} {Q : Exit → Act → World → Prop}
    (hg : o.guard = none) (m x v : Operand) (t : TypeId) (hop : o.op = Op.mapUpdate t m x v)
    (k e : TypeId) (q : IntKind) (hk : P.underlying k = some (.int q)) (he : P.underlying e = some .bool) (ht : P.underlying t = some (.map k e)) (b n : Nat) (xs : List Int)
    (hm : a.eval m = .map (some b)) (hown : SetIn P k e q w b n xs) (hn : n < maxLen) (y : Int) (hx : a.eval x = .int q y) (hv : a.eval v = .bool true) (hwf : (Lit.int q y).wf = true)
    (hK : ∀ w', SetIn P k e q w' b (n + 1) (xs ++ [y]) → w.grownBy w' (some b) → wpList P ops Q rest (a.put o.dst undef) w') :
    wpList P ops Q (o :: rest) a w := by
  obtain ⟨D, hD, hM, hat⟩ := hown
  refine wpList_mapUpdate_own w hg m x v t hop k e (int_keyed hk) ht _ b n D hm hD hn _ _ (.int q y) hx hv (keyOf_int_mk hk hwf) _ [] (plainElem_bool he true) ?_
  intro w' h1 h2
  refine hK w' ⟨_, h1, hM.put _ _, fun z => ?_⟩ h2
  by_cases hz : z = y
  · subst hz
    rw [atKey_put_same (k := .int q z) hM trivial]
    simp
  · rw [atKey_put_other (by intro h; cases h; exact hz rfl), hat z]
    simp [hz]

/-- A number is asked for. -/
theorem wpList_askIn {P : Program} (w : World) {ops : Array Oper} {rest : List Oper} {o : Oper} {a : Act} {Q : Exit → Act → World → Prop}
    (hg : o.guard = none) (m x : Operand) (t : TypeId) (hop : o.op = Op.lookup t m x false)
    (k e : TypeId) (q : IntKind) (hk : P.underlying k = some (.int q)) (he : P.underlying e = some .bool) (ht : P.underlying t = some (.map k e)) (hz : (zeroValue e).run P w = .ok (.bool false) w) (b n : Nat) (xs : List Int)
    (hm : a.eval m = .map (some b)) (hown : SetIn P k e q w b n xs) (y : Int) (hx : a.eval x = .int q y) (hwf : (Lit.int q y).wf = true) (r : Bool) (hr : xs.contains y = r)
    (hK : wpList P ops Q rest (a.put o.dst (.bool r)) w) :
    wpList P ops Q (o :: rest) a w := by
  subst hr
  obtain ⟨D, hD, hM, hat⟩ := hown
  exact wpList_lookup_own_bool w hg m x t hop k e (int_keyed hk) ht he hz b n D hm hD _ _ hx (keyOf_int_mk hk hwf) _ (hat y) hK

end Go.Proofs.Ytjacnghndnkcnaa
