/-
  The document's answer for package word: Put, Take, Within; when two lists of numbers, or of bytes, are the same.
-/
import Derived.Test.YtaollhpecgeiiaaWord
namespace Go.Proofs.Ytaollhpecgeiiaa
open Go.RowKit
open Word

set_option maxHeartbeats 400000 in
theorem same_any (a1 a2 : Option Addr) (l1 c1 l2 c2 : Nat) (xs ys : List UInt8) (w : World) (hx : Bs w a1 l1 c1 xs) (hy : Bs w a2 l2 c2 ys) :
    Calls Try.prog 8 #[.slice a1 l1 c1, .slice a2 l2 c2] w fun e w' => e = .returned (.bool (decide (xs = ys))) ∧ w' = w := by
  have h1 := Bs.conv (P := Try.prog) hx 23 5 Try.underlying23 Try.underlying5 9 Try.underlying9
  have h2 := Bs.conv (P := Try.prog) hy 23 5 Try.underlying23 Try.underlying5 9 Try.underlying9
  have hst := strOf_toList
  go_enter Try.func8, Try.ntmps8
  go_wp2
  go_ret
  exact ⟨ret_bool (by first | rfl | (rw [Bool.eq_iff_iff]; simp)), rfl⟩

set_option maxHeartbeats 1000000 in
theorem words_any (a1 a2 : Option Addr) (l1 c1 l2 c2 : Nat) (xs ys : List UInt16) (w : World) (hx : Ws w a1 l1 c1 xs) (hy : Ws w a2 l2 c2 ys) :
    Calls Try.prog 11 #[.slice a1 l1 c1, .slice a2 l2 c2] w fun e w' => e = .returned (.bool (decide (xs = ys))) ∧ Below w.heap.size w w' := by
  have h1 := hx.hlen
  have h2 := hy.hlen
  have hle := hx.hle
  have hmx := hx.hmax
  have hle2 := hy.hle
  have hmx2 := hy.hmax
  unfold maxLen at hmx hmx2
  have HX := hide hx
  have HY := hide hy
  have H1 := hide h1
  have H2 := hide h2
  clear hx hy h1 h2
  go_enter Try.func11, Try.ntmps11
  by_cases hne : l1 = l2
  · subst hne
    go_wp2
    go_loopw [5] (fun i wr => ∃ k : Nat, k ≤ l1 ∧ i = .int .i64 k ∧ xs.take k = ys.take k ∧ Below w.heap.size w wr) (fun i _ => l1 - (intOf i).toNat)
    case atStart => exact ⟨0, Nat.zero_le _, rfl, rfl, Below.refl _ _⟩
    case round =>
      obtain ⟨k, hk, rfl, heq, hbr⟩ := hrel
      have HQ := hide heq
      clear heq
      by_cases hlt : k < l1
      · have hk1 : k < xs.length := by have := H1.out; omega
        have hk2 : k < ys.length := by have := H2.out; omega
        obtain ⟨b, off, rfl, hbl, hc0⟩ := HX.out.hcell k hk1
        obtain ⟨b', off', rfl, hbl', hd0⟩ := HY.out.hcell k hk2
        have hc : wr.cell? ⟨b, off + k, none⟩ = some (.int .u16 (xs[k].toNat : Int)) := (hbr.cell (p := ⟨b, off + k, none⟩) hbl).trans hc0
        have hd : wr.cell? ⟨b', off' + k, none⟩ = some (.int .u16 (ys[k].toNat : Int)) := (hbr.cell (p := ⟨b', off' + k, none⟩) hbl').trans hd0
        clear hc0 hd0
        have HT : Hid (xs[k].toNat = ys[k].toNat → xs.take (k + 1) = ys.take (k + 1)) := hide fun h => by
          rw [List.take_succ_eq_append_getElem hk1, List.take_succ_eq_append_getElem hk2, HQ.out, UInt16.toNat.inj h]
        have HN : Hid (xs[k].toNat ≠ ys[k].toNat → xs ≠ ys) := hide fun h e => by subst e; exact h rfl
        have hx := word_lt xs[k]
        have hy := word_lt ys[k]
        generalize xs[k].toNat = m at *
        generalize ys[k].toNat = n at *
        by_cases hmn : m = n
        · subst hmn
          go_wp2
          go_quiet (fail)
          go_wp2
          go_roundw
          case rel => exact ⟨k + 1, by omega, by go_num, HT.out trivial, below_draws hbr _⟩
          case measure => simp [intOf]; omega
        · go_wp2
          go_quiet (fail)
          go_wp2
          go_ret
          exact ⟨ret_bool (by have := HN.out hmn; simp [this]), below_draws hbr _⟩
      · go_wp2
        go_ret
        exact ⟨ret_bool (by
          have := HQ.out
          rw [List.take_of_length_le (by rw [H1.out]; omega), List.take_of_length_le (by rw [H2.out]; omega)] at this
          simp [this]), hbr⟩
  · go_wp2
    go_ret
    exact ⟨ret_bool (by
      have : xs ≠ ys := fun e => hne (by rw [← H1.out, ← H2.out, e])
      simp [this]), Below.refl _ _⟩

set_option maxHeartbeats 1000000 in
theorem refPut_any (a : Option Addr) (len cap : Nat) (xs : List UInt16) (w : World) (hx : Ws w a len cap xs) (hlen : len ≤ 100000) :
    Calls Try.prog 10 #[.slice a len cap] w fun e w' => (∃ a' c', e = .returned (.slice a' (2 * len) c') ∧ Bs w' a' (2 * len) c' (putW xs)) ∧ Below w.heap.size w w' := by
  have hml := hide hx.hlen
  have HX := hide hx
  have hle := hx.hle
  have hmx := hx.hmax
  unfold maxLen at hmx
  clear hx
  go_enter Try.func10, Try.ntmps10
  go_wp2
  generalize hB : w.heap.size = B at *
  have ho1 : Own byteV w B none 0 0 [] := Own.empty _ _ _
  go_loopw [4, 3] (fun i s wr => ∃ (k : Nat) (a' : Option Addr) (c' : Nat), k ≤ len ∧ i = .int .i64 k ∧ s = .slice a' (2 * k) c' ∧ Own byteV wr B a' (2 * k) c' (putW (xs.take k)) ∧ Below B w wr) (fun i _ _ => len - (intOf i).toNat)
  case atStart => exact ⟨0, _, _, Nat.zero_le _, rfl, rfl, ho1, Below.refl _ _⟩
  case round =>
    clear ho1
    obtain ⟨k, a', c', hk, rfl, rfl, ho, hbr⟩ := hrel
    by_cases hlt : k < len
    · have hlt' : k < xs.length := by have := hml.out; omega
      obtain ⟨b, off, rfl, hbl, hc0⟩ := HX.out.hcell k hlt'
      have hbB : b < B := by rw [← hB]; exact hbl
      have hc : wr.cell? ⟨b, off + k, none⟩ = some (.int .u16 (xs[k].toNat : Int)) := (hbr.cell (p := ⟨b, off + k, none⟩) hbB).trans hc0
      clear hc0
      have HT := hide (putW_take xs k hlt')
      unfold hiB loB at HT
      have hn := word_lt xs[k]
      generalize xs[k].toNat = n at *
      have hszr : B ≤ wr.heap.size := hB ▸ hbr.size
      have T1 : IntKind.u8.wrap (IntKind.u16.wrap ((n : Int) / 256)) = ((n / 256 : Nat) : Int) := by rw [IntKind.wrap_u8, IntKind.wrap_u16]; omega
      have T2 : IntKind.u8.wrap ((n : Int).tmod 256) = ((n % 256 : Nat) : Int) := by rw [IntKind.wrap_u8, Int.tmod_eq_emod_of_nonneg (by omega)]; omega
      have hal := ((Below.refl wr.heap.size wr).alloc (Nat.le_refl _) (.cells #[.int .u8 ((n / 256 : Nat) : Int), .int .u8 ((n % 256 : Nat) : Int)] 5)).drew
      have hoA := ho.mono hal
      have hlit := (two_own wr _ _ (n / 256) (n % 256) rfl rfl (by omega) (by omega) 5).sl.drew
      have hbA := hbr.trans (hal.mono hszr)
      have hszA := hB ▸ hbA.size
      have ne1 := World.new_ne wr _ hc
      have l0 : (0 : Int) ≤ (k : Int) := by omega
      have l1 : (k : Int) < (len : Int) := by omega
      go_wp2
      go_region_held3 (fun w' => w'.cell? ⟨b, off + k, none⟩ = some (.int .u16 (n : Int)))
        (first
          | go_keep
          | (rw [hb3.cell (p := ⟨b, off + k, none⟩) hbB]; assumption))
        ((refine step_app (by rfl) _ _ (by rfl) B (by rfl) hoA (by rfl) hlit (by omega) hszA ?_; intro a3 c3 w3 ho3 hb3))
      go_wp2
      go_roundw
      case rel => exact ⟨k + 1, a3, c3, by omega, by go_num, by rw [show 2 * (k + 1) = 2 * k + 2 by omega], by rw [show 2 * (k + 1) = 2 * k + 2 by omega, HT.out]; exact ho3, hbA.trans hb3⟩
      case measure => simp [intOf]; omega
    · obtain rfl : k = len := by omega
      rw [List.take_of_length_le (by rw [hml.out]; omega)] at ho
      go_wp2
      go_ret
      exact ⟨⟨_, _, rfl, ho.sl⟩, by first | exact hbr | (rw [hB]; exact hbr)⟩

set_option maxHeartbeats 1000000 in
theorem refTake_any (a : Option Addr) (len cap : Nat) (xs : List UInt8) (w : World) (hx : Bs w a len cap xs) (hlen : len ≤ 100000) :
    Calls Try.prog 13 #[.slice a len cap] w fun e w' => (∃ a' c', e = .returned (.slice a' (takeW xs).length c') ∧ Ws w' a' (takeW xs).length c' (takeW xs)) ∧ Below w.heap.size w w' := by
  have hml := hide hx.hlen
  have HX := hide hx
  have hle := hx.hle
  have hmx := hx.hmax
  unfold maxLen at hmx
  clear hx
  go_enter Try.func13, Try.ntmps13
  by_cases hodd : len % 2 = 1
  · have e0 : takeW xs = [] := by unfold takeW; rw [if_pos (by rw [hml.out]; exact hodd)]
    have E0 := hide e0
    clear e0
    go_wp2
    go_ret
    exact ⟨⟨none, 0, by rw [E0.out]; rfl, by rw [E0.out]; exact Sl.nil _ _ (by unfold maxLen; omega)⟩, Below.refl _ _⟩
  · obtain ⟨m, rfl⟩ : ∃ m, len = 2 * m := ⟨len / 2, by omega⟩
    have e0 : takeW xs = pairs xs := by unfold takeW; rw [if_neg (by rw [hml.out]; exact hodd)]
    have E0 := hide e0
    clear e0
    go_wp2
    generalize hB : w.heap.size = B at *
    have ho1 : Own wordV w B none 0 0 [] := Own.empty _ _ _
    go_loopw [4, 3] (fun i s wr => ∃ (k : Nat) (a' : Option Addr) (c' : Nat), k ≤ m ∧ i = .int .i64 (2 * (k : Int)) ∧ s = .slice a' k c' ∧ Own wordV wr B a' k c' (pairs (xs.take (2 * k))) ∧ Below B w wr) (fun i _ _ => 2 * m - (intOf i).toNat)
    case atStart => exact ⟨0, _, _, Nat.zero_le _, rfl, rfl, ho1, Below.refl _ _⟩
    case round =>
      clear ho1
      obtain ⟨k, a', c', hk, rfl, rfl, ho, hbr⟩ := hrel
      by_cases hlt : k < m
      · have hi1 : 2 * k + 1 < xs.length := by have := hml.out; omega
        obtain ⟨b, off, rfl, hbl, hc0⟩ := HX.out.hcell (2 * k) (by omega)
        obtain ⟨b', off', hh, _, hc1⟩ := HX.out.hcell (2 * k + 1) hi1
        cases hh
        have hbB : b < B := by rw [← hB]; exact hbl
        have hc : wr.cell? ⟨b, off + 2 * k, none⟩ = some (.int .u8 ((xs[2 * k]'(by omega)).toNat : Int)) := (hbr.cell (p := ⟨b, off + 2 * k, none⟩) hbB).trans hc0
        have hd : wr.cell? ⟨b, off + (2 * k + 1), none⟩ = some (.int .u8 (xs[2 * k + 1].toNat : Int)) := (hbr.cell (p := ⟨b, off + (2 * k + 1), none⟩) hbB).trans hc1
        clear hc0 hc1
        have HT := hide (pairs_more xs k hi1)
        unfold word at HT
        have hn1 := byte_lt (xs[2 * k]'(by omega))
        have hn2 := byte_lt xs[2 * k + 1]
        generalize (xs[2 * k]'(by omega)).toNat = n1 at *
        generalize xs[2 * k + 1].toNat = n2 at *
        have hszr : B ≤ wr.heap.size := hB ▸ hbr.size
        have hwr : IntKind.i64.wrap (2 * (k : Int) + 1) = 2 * (k : Int) + 1 := by rw [IntKind.wrap_i64]; omega
        obtain ⟨r, hr⟩ : ∃ r, r = 256 * n1 + n2 := ⟨_, rfl⟩
        have hor : IntKind.u16.wrap (IntKind.u16.wrap (256 * IntKind.u16.wrap (n1 : Int)) + IntKind.u16.wrap (n2 : Int)) = (r : Int) := by rw [hr]; simp only [IntKind.wrap_u16]; omega
        have hr2 : r < 65536 := by omega
        rw [← hr] at HT
        clear hr
        have hal := ((Below.refl wr.heap.size wr).alloc (Nat.le_refl _) (.cells #[.int .u16 (r : Int)] 24)).drew
        have hoA := ho.mono hal
        have hlit := (one_own16 wr (r : Int) r rfl hr2 24).sl.drew
        have hbA := hbr.trans (hal.mono hszr)
        have hszA := hB ▸ hbA.size
        have ne1 := World.new_ne wr _ hc
        have ne2 := World.new_ne wr _ hd
        have l0 : (0 : Int) ≤ 2 * (k : Int) := by omega
        have l1 : 2 * (k : Int) < 2 * (m : Int) := by omega
        have l2 : (0 : Int) ≤ 2 * (k : Int) + 1 := by omega
        have l3 : 2 * (k : Int) + 1 < 2 * (m : Int) := by omega
        have t1 : (2 * (k : Int)).toNat = 2 * k := by omega
        have t2 : (2 * (k : Int) + 1).toNat = 2 * k + 1 := by omega
        go_wp2
        go_region_held3 (fun w' => w'.cell? ⟨b, off + 2 * k, none⟩ = some (.int .u8 (n1 : Int)) ∧ w'.cell? ⟨b, off + (2 * k + 1), none⟩ = some (.int .u8 (n2 : Int)))
          (first
            | go_keep
            | (go_split_ands
               refine ⟨?_, ?_⟩
               · (rw [hb3.cell (p := ⟨b, off + 2 * k, none⟩) hbB]; assumption)
               · (rw [hb3.cell (p := ⟨b, off + (2 * k + 1), none⟩) hbB]; assumption)))
          ((refine step_app16 (by rfl) _ _ (by rfl) B (by rfl) hoA (by rfl) hlit (by omega) hszA ?_; intro a3 c3 w3 ho3 hb3))
        go_wp2
        go_roundw
        case rel => exact ⟨k + 1, a3, c3, by omega, by go_num, rfl, by rw [HT.out]; exact ho3, hbA.trans hb3⟩
        case measure => simp [intOf]; omega
      · obtain rfl : k = m := by omega
        rw [List.take_of_length_le (by rw [hml.out]; omega)] at ho
        go_wp2
        go_ret
        exact ⟨⟨a', c', by rw [E0.out, ho.sl.hlen]; rfl, by rw [E0.out, ho.sl.hlen]; exact ho.sl⟩, by first | exact hbr | (rw [hB]; exact hbr)⟩

theorem refWithin_any (n : Nat) (hn : n < 65536) (c : Int) (hc : (Lit.int .i64 c).wf = true) (w : World) :
    Calls Try.prog 15 #[.int .u16 (n : Int), .int .i64 c] w fun e w' => e = .returned (.bool (within n c)) ∧ w' = w := by
  have hb := bounds_i64 hc
  have HC := hide hc
  clear hc
  go_enter Try.func15, Try.ntmps15
  by_cases h1 : c < 1
  · go_wp2
    go_ret
    exact ⟨ret_bool (by unfold within; simp; omega), rfl⟩
  by_cases h2 : 65536 < c
  · go_wp2
    go_ret
    exact ⟨ret_bool (by unfold within; simp; omega), rfl⟩
  by_cases h3 : (n : Int) + c ≤ 65536
  · go_wp2
    go_ret
    exact ⟨ret_bool (by unfold within; simp; omega), rfl⟩
  · go_wp2
    go_ret
    exact ⟨ret_bool (by unfold within; simp; omega), rfl⟩

end Go.Proofs.Ytaollhpecgeiiaa
