/-
  The document's own cursor: the contracts of the reads.
-/
import Derived.Test.YtolkcohmoalnhaaRefCursor
namespace Go.Proofs.Ytolkcohmoalnhaa
open Go.RowKit
open Word Cursor

section
variable (g : Nat) (a : Option Addr) (len cap : Nat) (all : List UInt8) (c : St) (w : World)

/-- The bytes that are read are a part of all: they read so wherever all do. -/
theorem refBytes_sub (h : RCur w g a len cap all c) (n : Int) :
    Calls Try.prog 72 #[.pointer (some ⟨g, 0, none⟩), .int .i64 n] w fun r w' =>
      (∃ a' cap', r = .returned (.slice a' (c.got n 1).length cap') ∧ ∀ v, Bs v a len cap all → Bs v a' (c.got n 1).length cap' (c.got n 1)) ∧ RCur w' g a len cap all (c.next n 1) ∧ But g w w' := by
  cases hl : c.lack n 1 with
  | false => exact refBytes_enough g a len cap all c w h n hl
  | true =>
    refine (refBytes_short g a len cap all c w h n hl).mono ?_
    rintro r w' ⟨rfl, hc, hb⟩
    have : c.got n 1 = [] := by unfold St.got; rw [if_pos hl]
    rw [this]
    exact ⟨⟨none, 0, rfl, fun _ _ => Sl.nil _ _ (by unfold maxLen; omega)⟩, hc, hb⟩

theorem refBytes_any (h : RCur w g a len cap all c) (n : Int) :
    Calls Try.prog 72 #[.pointer (some ⟨g, 0, none⟩), .int .i64 n] w fun r w' =>
      (∃ a' cap', r = .returned (.slice a' (c.got n 1).length cap') ∧ Bs w' a' (c.got n 1).length cap' (c.got n 1)) ∧ RCur w' g a len cap all (c.next n 1) ∧ But g w w' := by
  refine (refBytes_sub g a len cap all c w h n).mono ?_
  rintro r w' ⟨⟨a', cap', hr, hx⟩, hc, hb⟩
  exact ⟨⟨a', cap', hr, hx _ hc.whole⟩, hc, hb⟩

theorem refByte_any (h : RCur w g a len cap all c) :
    Calls Try.prog 42 #[.pointer (some ⟨g, 0, none⟩)] w fun r w' =>
      r = .returned (.int .u8 (head8 (c.got 1 1))) ∧ RCur w' g a len cap all (c.next 1 1) ∧ But g w w' := by
  go_enter Try.func42, Try.ntmps42
  go_wp2_with fail
  refine (refBytes_any g a len cap all c w h 1).mono ?_
  rintro r w1 ⟨⟨a1, c1, rfl, hx1⟩, hc1, hb1⟩
  have hm := hx1.hle
  have hm2 := hx1.hmax
  unfold maxLen at hm2
  obtain ⟨xs, HQ⟩ : ∃ xs, Hid (c.got 1 1 = xs) := ⟨_, rfl⟩
  rw [HQ.out] at hx1 hm ⊢
  cases xs with
  | nil =>
    go_wp2
    go_ret
    exact ⟨by rw [HQ.out]; rfl, hc1, hb1⟩
  | cons x xs =>
    obtain ⟨b, off, rfl, _, hc⟩ := hx1.at (by simp)
    have c0 : w1.cell? ⟨b, off, none⟩ = some (.int .u8 (x.toNat : Int)) := hc 0 (by simp)
    clear hc hx1
    have hp : 0 < (x :: xs).length := by simp
    generalize (x :: xs).length = l at *
    go_wp2
    go_ret
    exact ⟨by rw [HQ.out]; rfl, hc1, hb1⟩

set_option maxHeartbeats 400000 in
theorem refWords_any (h : RCur w g a len cap all c) (n : Int) :
    Calls Try.prog 44 #[.pointer (some ⟨g, 0, none⟩), .int .i64 n] w fun r w' =>
      (∃ a' cap', r = .returned (.slice a' (takeW (c.got n 2)).length cap') ∧ Own wordV w' w.heap.size a' (takeW (c.got n 2)).length cap' (takeW (c.got n 2))) ∧ RCur w' g a len cap all (c.next n 2) ∧ But g w w' := by
  have hsm := h.small
  have H := hide h
  obtain ⟨k, hk, hxs, hg, hx, hle⟩ := h
  have c0 := rcur_c0 hg
  have HX : Hid (c.xs.length = len - k) := hide (by rw [hxs, List.length_drop, hx.hlen])
  clear hg hx hxs
  by_cases hout : n < 0 ∨ (len : Int) < n
  · have hl : c.lack n 2 = true := by
      unfold St.lack
      rw [HX.out]
      rcases hout with h | h
      · simp [h]
      · have : ((len - k : Nat) : Int) < n * (2 : Nat) := by omega
        simp only [this, decide_true, Bool.or_true]
    have hl1 : c.lack (-1) 1 = true := by unfold St.lack; simp
    have E1 : Hid (c.got (-1) 1 = c.got n 2) := hide (by unfold St.got; rw [if_pos hl, if_pos hl1])
    have E2 : Hid (c.next (-1) 1 = c.next n 2) := hide (by unfold St.next; rw [if_pos hl, if_pos hl1])
    clear hl hl1
    go_enter Try.func44, Try.ntmps44
    rcases hout with hn | hn
    · go_wp2_with fail
      refine (refBytes_any g a len cap all c w H.out (-1)).mono ?_
      rintro r w1 ⟨⟨a1, c1, rfl, hx1⟩, hc1, hb1⟩
      rw [E1.out] at hx1 ⊢
      rw [E2.out] at hc1
      go_wp2_with fail
      refine (refTake_any _ _ _ _ _ hx1 (Nat.le_trans (St.got_length c n 2) hsm)).mono ?_
      rintro r w2 ⟨⟨a2, c2, rfl, hx2⟩, hb2⟩
      go_wp2
      go_ret
      exact ⟨⟨a2, c2, rfl, hx2.base hb1.size⟩, hc1.mono hb2, hb1.trans (But.of hb2)⟩
    · have hn0 : ¬ n < 0 := by omega
      go_wp2_with fail
      refine (refBytes_any g a len cap all c w H.out (-1)).mono ?_
      rintro r w1 ⟨⟨a1, c1, rfl, hx1⟩, hc1, hb1⟩
      rw [E1.out] at hx1 ⊢
      rw [E2.out] at hc1
      go_wp2_with fail
      refine (refTake_any _ _ _ _ _ hx1 (Nat.le_trans (St.got_length c n 2) hsm)).mono ?_
      rintro r w2 ⟨⟨a2, c2, rfl, hx2⟩, hb2⟩
      go_wp2
      go_ret
      exact ⟨⟨a2, c2, rfl, hx2.base hb1.size⟩, hc1.mono hb2, hb1.trans (But.of hb2)⟩
  · obtain ⟨m, rfl⟩ : ∃ m : Nat, n = m := ⟨n.toNat, by omega⟩
    have hml : m ≤ len := by omega
    have e0 : c.lack ((m : Int) + (m : Int)) 1 = c.lack (m : Int) 2 := by
      unfold St.lack
      rw [show (m : Int) + (m : Int) = (m : Int) * (2 : Nat) by omega]
      have : decide ((m : Int) * (2 : Nat) < 0) = decide ((m : Int) < 0) := by rw [Bool.eq_iff_iff]; simp; omega
      rw [this]; simp
    have E1 : Hid (c.got ((m : Int) + (m : Int)) 1 = c.got (m : Int) 2) := hide (by
      unfold St.got; rw [e0, show ((m : Int) + (m : Int)).toNat * 1 = (m : Int).toNat * 2 by omega])
    have E2 : Hid (c.next ((m : Int) + (m : Int)) 1 = c.next (m : Int) 2) := hide (by
      unfold St.next; rw [e0, show ((m : Int) + (m : Int)).toNat * 1 = (m : Int).toNat * 2 by omega])
    clear e0 hout
    go_enter Try.func44, Try.ntmps44
    go_wp2_with fail
    refine (refBytes_any g a len cap all c w H.out _).mono ?_
    rintro r w1 ⟨⟨a1, c1, rfl, hx1⟩, hc1, hb1⟩
    rw [E1.out] at hx1 ⊢
    rw [E2.out] at hc1
    go_wp2_with fail
    refine (refTake_any _ _ _ _ _ hx1 (Nat.le_trans (St.got_length c m 2) hsm)).mono ?_
    rintro r w2 ⟨⟨a2, c2, rfl, hx2⟩, hb2⟩
    go_wp2
    go_ret
    exact ⟨⟨a2, c2, rfl, hx2.base hb1.size⟩, hc1.mono hb2, hb1.trans (But.of hb2)⟩

theorem refWord_any (h : RCur w g a len cap all c) :
    Calls Try.prog 74 #[.pointer (some ⟨g, 0, none⟩)] w fun r w' =>
      r = .returned (.int .u16 (head16 (takeW (c.got 1 2)))) ∧ RCur w' g a len cap all (c.next 1 2) ∧ But g w w' := by
  go_enter Try.func74, Try.ntmps74
  go_wp2_with fail
  refine (refWords_any g a len cap all c w h 1).mono ?_
  rintro r w1 ⟨⟨a1, c1, rfl, hx0⟩, hc1, hb1⟩
  have hx1 := hx0.sl
  clear hx0
  have hm := hx1.hle
  have hm2 := hx1.hmax
  unfold maxLen at hm2
  obtain ⟨xs, HQ⟩ : ∃ xs, Hid (takeW (c.got 1 2) = xs) := ⟨_, rfl⟩
  rw [HQ.out] at hx1 hm ⊢
  cases xs with
  | nil =>
    go_wp2
    go_ret
    exact ⟨by rw [HQ.out]; rfl, hc1, hb1⟩
  | cons x xs =>
    obtain ⟨b, off, rfl, _, hc⟩ := hx1.at (by simp)
    have c0 : w1.cell? ⟨b, off, none⟩ = some (.int .u16 (x.toNat : Int)) := hc 0 (by simp)
    clear hc hx1
    have hp : 0 < (x :: xs).length := by simp
    generalize (x :: xs).length = l at *
    go_wp2
    go_ret
    exact ⟨by rw [HQ.out]; rfl, hc1, hb1⟩

end
end Go.Proofs.Ytolkcohmoalnhaa
