/-
  Arrays of numbers of 16 bits, held against each other.
-/
import Derived.Test.YtjacnghndnkcnaaWords
import Derived.DeepKeys
namespace Go.Proofs.Ytjacnghndnkcnaa
set_option maxRecDepth 20000
open Go.RowKit

theorem mapM_each {α β : Type} (f : α → Option β) (g : α → β) : ∀ (L : List α), (∀ i ∈ L, f i = some (g i)) → L.mapM f = some (L.map g)
  | [], _ => rfl
  | i :: L, h => by
    rw [List.mapM_cons, h i (by simp), mapM_each f g L (fun j hj => h j (by simp [hj]))]
    rfl

def num16 (n : Nat) : Value := .int .u16 (n : Int)
def lit16 (n : Nat) : Lit := .int .u16 (n : Int)
theorem lit16_inj : ∀ {xs ys : List Nat}, xs.map lit16 = ys.map lit16 → xs = ys
  | [], [], _ => rfl
  | [], _ :: _, h => by simp at h
  | _ :: _, [], h => by simp at h
  | x :: xs, y :: ys, h => by
    simp only [List.map_cons, List.cons.injEq] at h
    obtain ⟨h1, h2⟩ := h
    unfold lit16 at h1
    simp only [Lit.int.injEq, true_and] at h1
    rw [lit16_inj h2, Int.ofNat.inj h1]

theorem flatten_ones (xs : List Nat) : ((List.range xs.length).map fun i => [lit16 (xs.getD i 0)]).flatten = xs.map lit16 := by
  rw [← List.flatMap_def]
  apply List.ext_getElem?
  intro i
  rw [show ((List.range xs.length).flatMap fun i => [lit16 (xs.getD i 0)]) = (List.range xs.length).map fun i => lit16 (xs.getD i 0) from by
    rw [List.flatMap_def]; induction (List.range xs.length) with
    | nil => rfl
    | cons a l ih => rw [List.map_cons, List.flatten_cons, ih]; rfl]
  by_cases h : i < xs.length
  · simp [h]
  · simp [h]

theorem keys16 (t n : Nat) (ht : Try.prog.underlying t = some (.array n 24)) (hc : Try.prog.cellsOf t = n) (xs : List Nat) (hx : xs.length = n) (hb : ∀ x ∈ xs, x < 65536) :
    Try.prog.keyLits 2 t (xs.map num16) = some (xs.map lit16) := by
  have c1 : Try.prog.cellsOf 24 = 1 := by kernel_rfl
  unfold Program.keyLits
  simp only [ht, c1, Nat.mul_one]
  rw [if_pos (by simp [hc, hx]), mapM_each _ (fun i => [lit16 (xs.getD i 0)])]
  · rw [← hx, Option.map_some, flatten_ones]
  · intro i hi
    have hi' : i < xs.length := by rw [hx]; simpa using hi
    have e : ((xs.map num16).drop i).take 1 = [num16 (xs.getD i 0)] := by
      rw [List.drop_eq_getElem_cons (by simpa using hi')]
      simp [hi']
    rw [e]
    have hm : xs.getD i 0 < 65536 := by
      rw [List.getD_eq_getElem?_getD, List.getElem?_eq_getElem hi']
      exact hb _ (List.getElem_mem hi')
    unfold Program.keyLits num16 lit16
    simp only [Try.underlying24]
    rw [if_pos ⟨trivial, WalkArith.wf_u16 ⟨by omega, by omega⟩⟩]

theorem arr_eq (t n : Nat) (ht : Try.prog.underlying t = some (.array n 24)) (hk : Try.prog.keyTypeAt 2 t = true) (hc : Try.prog.cellsOf t = n) (xs ys : List Nat) (hx : xs.length = n) (hy : ys.length = n) (hbx : ∀ x ∈ xs, x < 65536) (hby : ∀ x ∈ ys, x < 65536) (w : World) :
    (Op.equalIn 10000 t (.agg (xs.map num16).toArray) (.agg (ys.map num16).toArray)).run Try.prog w = .ok (decide (xs = ys)) w := by
  obtain ⟨r, hr, hiff⟩ := run_equalIn_deep (P := Try.prog) 9998 2 t hk w 2 2 (.agg (xs.map num16).toArray) (.agg (ys.map num16).toArray) (xs.map lit16) (ys.map lit16) (by simp [Value.formed, ht, hc, hx]) (by simp [Value.formed, ht, hc, hy])
    (by simpa [Value.cells] using keys16 t n ht hc xs hx hbx) (by simpa [Value.cells] using keys16 t n ht hc ys hy hby)
  rw [show (10000 : Nat) = 9998 + 2 from rfl, hr]
  congr 1
  rw [Bool.eq_iff_iff, hiff]
  simp only [decide_eq_true_eq]
  exact ⟨lit16_inj, fun h => by rw [h]⟩

end Go.Proofs.Ytjacnghndnkcnaa
