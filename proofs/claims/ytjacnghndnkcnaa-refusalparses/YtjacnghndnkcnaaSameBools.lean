/-
  When two lists of bools are the same.
-/
import Derived.Test.YtjacnghndnkcnaaBools
namespace Go.Proofs.Ytjacnghndnkcnaa
open Go.RowKit

set_option maxHeartbeats 1000000 in
theorem bools_any (a1 a2 : Option Addr) (l1 c1 l2 c2 : Nat) (xs ys : List Bool) (w : World) (hx : Ls w a1 l1 c1 xs) (hy : Ls w a2 l2 c2 ys) :
    Calls Try.prog 22 #[.slice a1 l1 c1, .slice a2 l2 c2] w fun e w' => e = .returned (.bool (decide (xs = ys))) ∧ Below w.heap.size w w' := by
  have h1 := hx.hlen
  have h2 := hy.hlen
  have hle := hx.hle
  have hmx := hx.hmax
  have hle2 := hy.hle
  have hmx2 := hy.hmax
  unfold maxLen at hmx hmx2
  have HX := hide hx
  have HY := hide hy
  have H1 := hide h1
  have H2 := hide h2
  clear hx hy h1 h2
  go_enter Try.func22, Try.ntmps22
  by_cases hne : l1 = l2
  · subst hne
    go_wp2
    go_loopw [5] (fun i wr => ∃ k : Nat, k ≤ l1 ∧ i = .int .i64 k ∧ xs.take k = ys.take k ∧ Below w.heap.size w wr) (fun i _ => l1 - (intOf i).toNat)
    case atStart => exact ⟨0, Nat.zero_le _, rfl, rfl, Below.refl _ _⟩
    case round =>
      obtain ⟨k, hk, rfl, heq, hbr⟩ := hrel
      have HQ := hide heq
      clear heq
      by_cases hlt : k < l1
      · have hk1 : k < xs.length := by have := H1.out; omega
        have hk2 : k < ys.length := by have := H2.out; omega
        obtain ⟨b, off, rfl, hbl, hc0⟩ := HX.out.hcell k hk1
        obtain ⟨b', off', rfl, hbl', hd0⟩ := HY.out.hcell k hk2
        have hc : wr.cell? ⟨b, off + k, none⟩ = some (.bool xs[k]) := (hbr.cell (p := ⟨b, off + k, none⟩) hbl).trans hc0
        have hd : wr.cell? ⟨b', off' + k, none⟩ = some (.bool ys[k]) := (hbr.cell (p := ⟨b', off' + k, none⟩) hbl').trans hd0
        clear hc0 hd0
        have HT : Hid (xs[k] = ys[k] → xs.take (k + 1) = ys.take (k + 1)) := hide fun h => by
          rw [List.take_succ_eq_append_getElem hk1, List.take_succ_eq_append_getElem hk2, HQ.out, h]
        have HN : Hid (xs[k] ≠ ys[k] → xs ≠ ys) := hide fun h e => by subst e; exact h rfl
        generalize xs[k] = m at *
        generalize ys[k] = n at *
        by_cases hmn : m = n
        · subst hmn
          go_wp2
          go_quiet (fail)
          go_wp2
          go_roundw
          case rel => exact ⟨k + 1, by omega, by go_num, HT.out trivial, below_draws hbr _⟩
          case measure => simp [intOf]; omega
        · have hmb : (m == n) = false := by simpa using hmn
          go_wp2
          go_quiet (fail)
          go_wp2
          go_ret
          exact ⟨ret_bool (by have := HN.out hmn; simp [this]), below_draws hbr _⟩
      · go_wp2
        go_ret
        exact ⟨ret_bool (by
          have := HQ.out
          rw [List.take_of_length_le (by rw [H1.out]; omega), List.take_of_length_le (by rw [H2.out]; omega)] at this
          simp [this]), hbr⟩
  · go_wp2
    go_ret
    exact ⟨ret_bool (by
      have : xs ≠ ys := fun e => hne (by rw [← H1.out, ← H2.out, e])
      simp [this]), Below.refl _ _⟩

end Go.Proofs.Ytjacnghndnkcnaa
