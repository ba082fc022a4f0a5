/-
  A slice of structs of two numbers that came in.
-/
import Derived.Test.YtcnilpnehddanaaBase
import Derived.Deep.SlicePairs
import Derived.ChangeArms
import Derived.Test.YtcnilpnehddanaaRows
namespace Go.Proofs.Ytcnilpnehddanaa
open Go.RowKit

/-- The slice at 'a' reads 'xs', each element in two cells. -/
structure Ps (w : World) (a : Option Addr) (len cap : Nat) (xs : List (Int × Int)) : Prop where
  hlen : xs.length = len
  hle : len ≤ cap
  hmax : cap ≤ maxLen
  hcell : ∀ i (h : i < xs.length), ∃ b off, a = some ⟨b, off, none⟩ ∧ b < w.heap.size ∧ w.cell? ⟨b, off + i * 2, none⟩ = some (.int .i64 xs[i].1) ∧ w.cell? ⟨b, off + (i * 2 + 1), none⟩ = some (.int .i64 xs[i].2)
  hwf : ∀ i (h : i < xs.length), (Lit.int .i64 xs[i].1).wf = true ∧ (Lit.int .i64 xs[i].2).wf = true

theorem Ps.mono {w w' : World} {a : Option Addr} {len cap : Nat} {xs : List (Int × Int)} (h : Ps w a len cap xs) (hb : Below w.heap.size w w') : Ps w' a len cap xs :=
  ⟨h.hlen, h.hle, h.hmax, fun i hi => by
    obtain ⟨b, off, ha, hlt, h0, h1⟩ := h.hcell i hi
    exact ⟨b, off, ha, Nat.lt_of_lt_of_le hlt hb.size, (hb.cell (p := ⟨b, _, none⟩) hlt).trans h0, (hb.cell (p := ⟨b, _, none⟩) hlt).trans h1⟩, h.hwf⟩

theorem Ps.ofTrod {H : Type} {enc : TypeId × Value → H} {w : World} {base : Nat} {spare : Nat → Bool} {held : Bool} {fuel : Nat} {a : Option Addr} {len cap : Nat} {x : DataW H × List MemPlace}
    (h : DataW.trod enc Try.prog w base spare held fuel 23 [.slice a len cap] = some x) : ∃ xs, Ps w a len cap xs := by
  rcases Go.Deep.open_slice_pairs Try.underlying23 Try.underlying32 (by kernel_rfl) rfl rfl (by kernel_rfl) (by kernel_rfl) h with ⟨hcs, _⟩ | ⟨y, l, c, m, n, V0, V1, D0, D1, P0, P1, hcs, _, hl, hm, hmm, _, hx⟩
  · simp at hcs
    obtain ⟨rfl, rfl, rfl⟩ := hcs
    exact ⟨[], rfl, Nat.le_refl _, by unfold maxLen; omega, fun i hi => absurd hi (by simp), fun i hi => absurd hi (by simp)⟩
  · simp at hcs
    obtain ⟨rfl, rfl, rfl⟩ := hcs
    have hlm : len ≤ m := by rw [hmm]; split <;> omega
    have get : ∀ i, i < len → ∃ u v : Int, w.cell? (y.add (i * 2)) = some (.int .i64 u) ∧ w.cell? (y.add (i * 2 + 1)) = some (.int .i64 v) ∧ (Lit.int .i64 u).wf = true ∧ (Lit.int .i64 v).wf = true := fun i hi => by
      obtain ⟨h0, h1, t0, t1⟩ := hx i (by omega)
      obtain ⟨u, e0, _, f0⟩ := DataW.trod_int Try.underlying3 t0
      obtain ⟨v, e1, _, f1⟩ := DataW.trod_int Try.underlying3 t1
      simp at e0 e1
      exact ⟨u, v, by rw [h0, e0], by rw [h1, e1], f0, f1⟩
    refine ⟨(List.range len).map fun i => match w.cell? (y.add (i * 2)), w.cell? (y.add (i * 2 + 1)) with | some (.int _ u), some (.int _ v) => (u, v) | _, _ => (0, 0), by simp, hl, hm, fun i hi => ?_, fun i hi => ?_⟩
    · have hi' : i < len := by simpa using hi
      obtain ⟨u, v, h0, h1, _, _⟩ := get i hi'
      obtain ⟨u', v', h0', _, _, _⟩ := get 0 (by omega)
      obtain ⟨b, off, spot⟩ := y
      have hspot : spot = none := by simpa [Addr.add] using World.cell?_spot h0'
      subst hspot
      have hadd : ∀ n, (⟨b, off, none⟩ : Addr).add n = ⟨b, off + n, none⟩ := fun n => by
        by_cases h : n = 0
        · subst h; simp [Addr.add]
        · simp [Addr.add, h]
      simp only [hadd] at h0 h1 ⊢
      refine ⟨b, off, rfl, ?_, ?_, ?_⟩
      · rcases Nat.lt_or_ge b w.heap.size with hlt | hge
        · exact hlt
        · simp [World.cell?, Array.getElem?_eq_none hge] at h0
      · simp only [List.getElem_map, List.getElem_range, h0, h1]
      · simp only [List.getElem_map, List.getElem_range, h0, h1]
    · have hi' : i < len := by simpa using hi
      obtain ⟨u, v, h0, h1, f0, f1⟩ := get i hi'
      simp only [List.getElem_map, List.getElem_range, h0, h1]
      exact ⟨f0, f1⟩

end Go.Proofs.Ytcnilpnehddanaa
