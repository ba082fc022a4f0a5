/-
  Package cursor: the contracts of the reads.
-/
import Derived.Test.YtaokbaddleplfaaCursor
namespace Go.Proofs.Ytaokbaddleplfaa
open Go.RowKit
open Word Cursor

namespace Cursor
def head8 : List UInt8 → Nat
  | [] => 0
  | x :: _ => x.toNat
def head16 : List UInt16 → Nat
  | [] => 0
  | x :: _ => x.toNat
end Cursor

theorem first8_any (a : Option Addr) (len cap : Nat) (xs : List UInt8) (w : World) (hx : Bs w a len cap xs) :
    Calls Try.prog 40 #[.slice a len cap] w fun e w' => e = .returned (.int .u8 (head8 xs)) ∧ w' = w := by
  have hl := hide hx.hlen
  have hm := hx.hle
  have hm2 := hx.hmax
  unfold maxLen at hm2
  go_enter Try.func40, Try.ntmps40
  cases xs with
  | nil =>
    obtain rfl : len = 0 := by have := hl.out; simpa using this.symm
    go_wp2
    go_ret
    exact ⟨rfl, rfl⟩
  | cons x xs =>
    have hpos : 0 < len := by have := hl.out; simp at this; omega
    obtain ⟨b, off, rfl, _, hc⟩ := hx.at hpos
    have c0 : w.cell? ⟨b, off, none⟩ = some (.int .u8 (x.toNat : Int)) := hc 0 (by simp)
    clear hc
    go_wp2
    go_ret
    exact ⟨rfl, rfl⟩

/-- One thing or the other. -/
theorem ctake_any (g : Nat) (c : St) (n : Int) (size : Nat) (hsz : size = 1 ∨ size = 2) (w : World) (h : Cur w g c) :
    Calls Try.prog 39 #[.pointer (some ⟨g, 0, none⟩), .int .i64 n, .int .i64 size] w fun r w' =>
      (∃ a cap, r = .returned (.slice a (c.got n size).length cap) ∧ Bs w' a (c.got n size).length cap (c.got n size)) ∧ Cur w' g (c.next n size) ∧ But g w w' := by
  cases hl : c.lack n size with
  | false => exact take_enough g c n size hsz w h hl
  | true =>
    refine (take_short g c n size hsz w h hl).mono ?_
    rintro r w' ⟨rfl, hc, hb⟩
    have : c.got n size = [] := by unfold St.got; rw [if_pos hl]
    rw [this]
    exact ⟨⟨none, 0, rfl, Sl.nil _ _ (by unfold maxLen; omega)⟩, hc, hb⟩
theorem St.got_length (c : St) (n : Int) (size : Nat) : (c.got n size).length ≤ c.xs.length := by
  unfold St.got
  split
  · simp
  · simp; omega

theorem bytes_any (g : Nat) (c : St) (n : Int) (w : World) (h : Cur w g c) :
    Calls Try.prog 53 #[.pointer (some ⟨g, 0, none⟩), .int .i64 n] w fun r w' =>
      (∃ a cap, r = .returned (.slice a (c.got n 1).length cap) ∧ Bs w' a (c.got n 1).length cap (c.got n 1)) ∧ Cur w' g (c.next n 1) ∧ But g w w' := by
  have hs := Nat.le_trans (St.got_length c n 1) h.small
  have H := hide h
  obtain ⟨a0, l0, c0, hg, _, _⟩ := h
  have c3 := cur_c3 hg
  clear hg
  go_enter Try.func53, Try.ntmps53
  go_wp2_with fail
  refine (ctake_any g c n 1 (.inl rfl) w H.out).mono ?_
  rintro r w1 ⟨⟨a1, c1, rfl, hx1⟩, hc1, hb1⟩
  go_wp2_with fail
  refine (clone_any _ _ _ _ _ hx1 hs).mono ?_
  rintro r w2 ⟨⟨a2, c2, rfl, hx2⟩, hb2⟩
  go_wp2
  go_ret
  exact ⟨⟨a2, c2, rfl, hx2.toSl⟩, hc1.mono hb2, hb1.trans (But.of hb2)⟩

theorem byte_any (g : Nat) (c : St) (w : World) (h : Cur w g c) :
    Calls Try.prog 21 #[.pointer (some ⟨g, 0, none⟩)] w fun r w' =>
      r = .returned (.int .u8 (head8 (c.got 1 1))) ∧ Cur w' g (c.next 1 1) ∧ But g w w' := by
  have H := hide h
  obtain ⟨a0, l0, c0, hg, _, _⟩ := h
  have c3 := cur_c3 hg
  clear hg
  go_enter Try.func21, Try.ntmps21
  go_wp2_with fail
  refine (ctake_any g c 1 1 (.inl rfl) w H.out).mono ?_
  rintro r w1 ⟨⟨a1, c1, rfl, hx1⟩, hc1, hb1⟩
  go_wp2_with fail
  refine (first8_any _ _ _ _ _ hx1).mono ?_
  rintro r w2 ⟨rfl, rfl⟩
  go_wp2
  go_ret
  exact ⟨rfl, hc1, hb1⟩

end Go.Proofs.Ytaokbaddleplfaa
