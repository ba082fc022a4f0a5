/-
  Forms, on lists: where nothing was wrong, each step read what it should.
-/
import Derived.Test.YtaokbaddleplfaaForm
namespace Go.Proofs.Ytaokbaddleplfaa
open Go.RowKit
open Word Bits Cursor

namespace Cursor
theorem St.need_zero {c : St} {ok : Bool} {e : Int} (h : (c.need ok e).e = 0) (he : e ≠ 0) : c.e = 0 ∧ ok = true ∧ c.need ok e = c := by
  unfold St.need at h ⊢
  split at h
  · exact absurd h he
  · rename_i hn
    rw [if_neg hn]
    refine ⟨h, ?_, rfl⟩
    cases ok
    · exact absurd ⟨h, rfl⟩ hn
    · rfl
theorem St.end_zero {c : St} (h : c.end_.e = 0) : c.e = 0 ∧ c.xs = [] := by
  unfold St.end_ at h
  obtain ⟨h1, h2, _⟩ := St.need_zero h (by omega)
  exact ⟨h1, List.eq_nil_of_length_eq_zero (by simpa using h2)⟩
theorem St.next_zero {b : List UInt8} {n size : Nat} (h : ((St.new b).next n size).e = 0) : n * size ≤ b.length := by
  apply Nat.le_of_not_lt
  intro hlt
  rw [St.next_short b n size hlt] at h
  simp at h
theorem St.afterW_zero {b : List UInt8} (h : (St.new b).afterW.e = 0) : ∃ x y r, b = x :: y :: r := by
  have := St.next_zero (n := 1) (size := 2) h
  match b, this with
  | x :: y :: r, _ => exact ⟨x, y, r, rfl⟩
  | [], h => simp at h
  | [_], h => simp at h
theorem St.afterB_zero {b : List UInt8} (h : (St.new b).afterB.e = 0) : ∃ x r, b = x :: r := by
  have := St.next_zero (n := 1) (size := 1) h
  match b, this with
  | x :: r, _ => exact ⟨x, r, rfl⟩
  | [], h => simp at h
theorem St.next_e {c : St} {n : Int} {size : Nat} (h : (c.next n size).e = 0) : c.e = 0 := by
  by_cases hc : c.e = 0
  · exact hc
  · rw [St.next_bad c n size hc] at h; exact h
theorem St.afterW_e {c : St} (h : c.afterW.e = 0) : c.e = 0 := St.next_e h
theorem St.afterB_e {c : St} (h : c.afterB.e = 0) : c.e = 0 := St.next_e h
theorem St.need_e {c : St} {ok : Bool} {e : Int} (h : (c.need ok e).e = 0) (he : e ≠ 0) : c.e = 0 := (St.need_zero h he).1
end Cursor

theorem finish_ok {r : MsgM × St} (h : (finish r).2 = 0) : r.2.end_.e = 0 ∧ (finish r).1 = r.1 := by
  unfold finish at h ⊢
  split
  · rename_i h0; exact ⟨h0, rfl⟩
  · rename_i h0; rw [if_neg h0] at h; exact absurd h h0

end Go.Proofs.Ytaokbaddleplfaa
