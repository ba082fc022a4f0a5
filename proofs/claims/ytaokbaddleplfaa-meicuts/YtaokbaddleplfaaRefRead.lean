/-
  The document's own cursor: the contracts of the reads.
-/
import Derived.Test.YtaokbaddleplfaaRefCursor
namespace Go.Proofs.Ytaokbaddleplfaa
open Go.RowKit
open Word Cursor

section
variable (g : Nat) (a : Option Addr) (len cap : Nat) (all : List UInt8) (c : St) (w : World)

/-- The bytes that are read are a part of all: they read so wherever all do. -/
theorem refBytes_sub (h : RCur w g a len cap all c) (n : Int) :
    Calls Try.prog 28 #[.pointer (some ⟨g, 0, none⟩), .int .i64 n] w fun r w' =>
      (∃ a' cap', r = .returned (.slice a' (c.got n 1).length cap') ∧ ∀ v, Bs v a len cap all → Bs v a' (c.got n 1).length cap' (c.got n 1)) ∧ RCur w' g a len cap all (c.next n 1) ∧ But g w w' := by
  cases hl : c.lack n 1 with
  | false => exact refBytes_enough g a len cap all c w h n hl
  | true =>
    refine (refBytes_short g a len cap all c w h n hl).mono ?_
    rintro r w' ⟨rfl, hc, hb⟩
    have : c.got n 1 = [] := by unfold St.got; rw [if_pos hl]
    rw [this]
    exact ⟨⟨none, 0, rfl, fun _ _ => Sl.nil _ _ (by unfold maxLen; omega)⟩, hc, hb⟩

theorem refBytes_any (h : RCur w g a len cap all c) (n : Int) :
    Calls Try.prog 28 #[.pointer (some ⟨g, 0, none⟩), .int .i64 n] w fun r w' =>
      (∃ a' cap', r = .returned (.slice a' (c.got n 1).length cap') ∧ Bs w' a' (c.got n 1).length cap' (c.got n 1)) ∧ RCur w' g a len cap all (c.next n 1) ∧ But g w w' := by
  refine (refBytes_sub g a len cap all c w h n).mono ?_
  rintro r w' ⟨⟨a', cap', hr, hx⟩, hc, hb⟩
  exact ⟨⟨a', cap', hr, hx _ hc.whole⟩, hc, hb⟩

theorem refByte_any (h : RCur w g a len cap all c) :
    Calls Try.prog 25 #[.pointer (some ⟨g, 0, none⟩)] w fun r w' =>
      r = .returned (.int .u8 (head8 (c.got 1 1))) ∧ RCur w' g a len cap all (c.next 1 1) ∧ But g w w' := by
  go_enter Try.func25, Try.ntmps25
  go_wp2_with fail
  refine (refBytes_any g a len cap all c w h 1).mono ?_
  rintro r w1 ⟨⟨a1, c1, rfl, hx1⟩, hc1, hb1⟩
  have hm := hx1.hle
  have hm2 := hx1.hmax
  unfold maxLen at hm2
  obtain ⟨xs, HQ⟩ : ∃ xs, Hid (c.got 1 1 = xs) := ⟨_, rfl⟩
  rw [HQ.out] at hx1 hm ⊢
  cases xs with
  | nil =>
    go_wp2
    go_ret
    exact ⟨by rw [HQ.out]; rfl, hc1, hb1⟩
  | cons x xs =>
    obtain ⟨b, off, rfl, _, hc⟩ := hx1.at (by simp)
    have c0 : w1.cell? ⟨b, off, none⟩ = some (.int .u8 (x.toNat : Int)) := hc 0 (by simp)
    clear hc hx1
    have hp : 0 < (x :: xs).length := by simp
    generalize (x :: xs).length = l at *
    go_wp2
    go_ret
    exact ⟨by rw [HQ.out]; rfl, hc1, hb1⟩

end
end Go.Proofs.Ytaokbaddleplfaa
