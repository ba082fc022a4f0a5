/-
  The library's slices.EqualFunc of parts of files, and of things that devices tell of themselves.
-/
import Derived.Test.YtjacnghndnkcnaaSameParts
namespace Go.Proofs.Ytjacnghndnkcnaa
open Go.RowKit

def allSame {α : Type} (f : α → α → Bool) : List α → List α → Bool
  | [], [] => true
  | x :: xs, y :: ys => f x y && allSame f xs ys
  | _, _ => false
theorem allSame_iff {α : Type} {f : α → α → Bool} (hf : ∀ x y, f x y = true ↔ x = y) : ∀ (xs ys : List α), allSame f xs ys = true ↔ xs = ys
  | [], [] => by simp [allSame]
  | [], _ :: _ => by simp [allSame]
  | _ :: _, [] => by simp [allSame]
  | x :: xs, y :: ys => by simp [allSame, hf, allSame_iff hf xs ys]

set_option maxRecDepth 20000 in
set_option maxHeartbeats 2000000 in
theorem equalRecs_any (a1 a2 : Option Addr) (l1 c1 l2 c2 : Nat) (xs ys : List RecM) (w : World) (hx : Rs w a1 l1 c1 xs) (hy : Rs w a2 l2 c2 ys) :
    Calls Try.prog 31 #[.slice a1 l1 c1, .slice a2 l2 c2, .func (.func 32) #[] #[]] w fun e w' => e = .returned (.bool (allSame RecM.same xs ys)) ∧ Below w.heap.size w w' := by
  have HE : Hid (allSame RecM.same xs ys = true ↔ xs = ys) := hide (allSame_iff RecM.same_iff xs ys)
  generalize allSame RecM.same xs ys = R at *
  have h1 := hx.hlen
  have h2 := hy.hlen
  have hle := hx.hle
  have hmx := hx.hmax
  have hle2 := hy.hle
  have hmx2 := hy.hmax
  unfold maxLen at hmx hmx2
  have HX := hide hx
  have HY := hide hy
  have H1 := hide h1
  have H2 := hide h2
  clear hx hy h1 h2
  go_enter Try.func31, Try.ntmps31
  by_cases hne : l1 = l2
  · subst hne
    go_wp2
    go_loopw [17] (fun i wr => ∃ k : Nat, k ≤ l1 ∧ i = .int .i64 k ∧ xs.take k = ys.take k ∧ Below w.heap.size w wr) (fun i _ => l1 - (intOf i).toNat)
    case atStart => exact ⟨0, Nat.zero_le _, rfl, rfl, Below.refl _ _⟩
    case round =>
      obtain ⟨k, hk, rfl, heq, hbr⟩ := hrel
      have HQ := hide heq
      clear heq
      by_cases hlt : k < l1
      · have hk1 : k < xs.length := by have := H1.out; omega
        have hk2 : k < ys.length := by have := H2.out; omega
        obtain ⟨b, off, aw, lw, cw, rfl, hbl, hc0, hc1, hc2, hc3, hw1⟩ := (HX.out.mono hbr).hcell k hk1
        obtain ⟨b', off', aw', lw', cw', rfl, hbl', hd0, hd1, hd2, hd3, hw2⟩ := (HY.out.mono hbr).hcell k hk2
        have HT : Hid (xs[k] = ys[k] → xs.take (k + 1) = ys.take (k + 1)) := hide fun h => by
          rw [List.take_succ_eq_append_getElem hk1, List.take_succ_eq_append_getElem hk2, HQ.out, h]
        have HN : Hid (xs[k] ≠ ys[k] → xs ≠ ys) := hide fun h e => by subst e; exact h rfl
        generalize xs[k] = x at *
        generalize ys[k] = y at *
        go_wp2_with fail
        have hb0 : Below w.heap.size w ((wr.alloc (.cells #[wordV x.file, wordV x.record, wordV x.count, .slice aw lw cw] 50)).alloc (.cells #[wordV y.file, wordV y.record, wordV y.count, .slice aw' lw' cw'] 50)) :=
          (hbr.alloc hbr.size _).alloc (by have := hbr.size; simp; omega) _
        have hb00 : Below wr.heap.size wr ((wr.alloc (.cells #[wordV x.file, wordV x.record, wordV x.count, .slice aw lw cw] 50)).alloc (.cells #[wordV y.file, wordV y.record, wordV y.count, .slice aw' lw' cw'] 50)) :=
          ((Below.refl _ _).alloc (Nat.le_refl _) _).alloc (by simp) _
        refine (sameRec_any x y _ _ _ _ _ _ _ (hw1.mono hb00) (hw2.mono hb00)).mono ?_
        rintro e w1 ⟨rfl, hb1⟩
        replace hb1 := below_next hb0 hb1 (Nat.le_refl _)
        clear hb0 hb00 hc0 hc1 hc2 hc3 hd0 hd1 hd2 hd3 hw1 hw2
        have HI : Hid (RecM.same x y = true ↔ x = y) := hide (RecM.same_iff x y)
        generalize RecM.same x y = D at *
        cases D
        · go_wp2
          go_ret
          exact ⟨ret_bool (by
            cases R
            · rfl
            · exact absurd (HE.out.1 rfl) (HN.out (fun e => by simpa using HI.out.2 e))), hb1⟩
        · go_wp2
          go_roundw
          case rel => exact ⟨k + 1, by omega, by go_num, HT.out (HI.out.1 (by simp)), hb1⟩
          case measure => simp [intOf]; omega
      · go_wp2
        go_ret
        exact ⟨ret_bool (by
          have := HQ.out
          rw [List.take_of_length_le (by rw [H1.out]; omega), List.take_of_length_le (by rw [H2.out]; omega)] at this
          exact (HE.out.2 this).symm), hbr⟩
  · go_wp2
    go_ret
    exact ⟨ret_bool (by
      have : xs ≠ ys := fun e => hne (by rw [← H1.out, ← H2.out, e])
      cases R
      · rfl
      · exact absurd (HE.out.1 rfl) this), Below.refl _ _⟩

set_option maxRecDepth 20000 in
set_option maxHeartbeats 2000000 in
theorem equalObjs_any (a1 a2 : Option Addr) (l1 c1 l2 c2 : Nat) (xs ys : List ObjM) (w : World) (hx : Obs w a1 l1 c1 xs) (hy : Obs w a2 l2 c2 ys) :
    Calls Try.prog 33 #[.slice a1 l1 c1, .slice a2 l2 c2, .func (.func 34) #[] #[]] w fun e w' => e = .returned (.bool (allSame ObjM.same xs ys)) ∧ Below w.heap.size w w' := by
  have HE : Hid (allSame ObjM.same xs ys = true ↔ xs = ys) := hide (allSame_iff ObjM.same_iff xs ys)
  generalize allSame ObjM.same xs ys = R at *
  have h1 := hx.hlen
  have h2 := hy.hlen
  have hle := hx.hle
  have hmx := hx.hmax
  have hle2 := hy.hle
  have hmx2 := hy.hmax
  unfold maxLen at hmx hmx2
  have HX := hide hx
  have HY := hide hy
  have H1 := hide h1
  have H2 := hide h2
  clear hx hy h1 h2
  go_enter Try.func33, Try.ntmps33
  by_cases hne : l1 = l2
  · subst hne
    go_wp2
    go_loopw [17] (fun i wr => ∃ k : Nat, k ≤ l1 ∧ i = .int .i64 k ∧ xs.take k = ys.take k ∧ Below w.heap.size w wr) (fun i _ => l1 - (intOf i).toNat)
    case atStart => exact ⟨0, Nat.zero_le _, rfl, rfl, Below.refl _ _⟩
    case round =>
      obtain ⟨k, hk, rfl, heq, hbr⟩ := hrel
      have HQ := hide heq
      clear heq
      by_cases hlt : k < l1
      · have hk1 : k < xs.length := by have := H1.out; omega
        have hk2 : k < ys.length := by have := H2.out; omega
        obtain ⟨b, off, aw, lw, cw, rfl, hbl, hc0, hc1, hw1⟩ := (HX.out.mono hbr).hcell k hk1
        obtain ⟨b', off', aw', lw', cw', rfl, hbl', hd0, hd1, hw2⟩ := (HY.out.mono hbr).hcell k hk2
        have HT : Hid (xs[k] = ys[k] → xs.take (k + 1) = ys.take (k + 1)) := hide fun h => by
          rw [List.take_succ_eq_append_getElem hk1, List.take_succ_eq_append_getElem hk2, HQ.out, h]
        have HN : Hid (xs[k] ≠ ys[k] → xs ≠ ys) := hide fun h e => by subst e; exact h rfl
        generalize xs[k] = x at *
        generalize ys[k] = y at *
        go_wp2_with fail
        have hb0 : Below w.heap.size w ((wr.alloc (.cells #[byteV x.id, .slice aw lw cw] 52)).alloc (.cells #[byteV y.id, .slice aw' lw' cw'] 52)) :=
          (hbr.alloc hbr.size _).alloc (by have := hbr.size; simp; omega) _
        have hb00 : Below wr.heap.size wr ((wr.alloc (.cells #[byteV x.id, .slice aw lw cw] 52)).alloc (.cells #[byteV y.id, .slice aw' lw' cw'] 52)) :=
          ((Below.refl _ _).alloc (Nat.le_refl _) _).alloc (by simp) _
        refine (sameObject_any x y _ _ _ _ _ _ _ (hw1.mono hb00) (hw2.mono hb00)).mono ?_
        rintro e w1 ⟨rfl, hb1⟩
        replace hb1 := below_next hb0 hb1 (Nat.le_refl _)
        clear hb0 hb00 hc0 hc1 hd0 hd1 hw1 hw2
        have HI : Hid (ObjM.same x y = true ↔ x = y) := hide (ObjM.same_iff x y)
        generalize ObjM.same x y = D at *
        cases D
        · go_wp2
          go_ret
          exact ⟨ret_bool (by
            cases R
            · rfl
            · exact absurd (HE.out.1 rfl) (HN.out (fun e => by simpa using HI.out.2 e))), hb1⟩
        · go_wp2
          go_roundw
          case rel => exact ⟨k + 1, by omega, by go_num, HT.out (HI.out.1 (by simp)), hb1⟩
          case measure => simp [intOf]; omega
      · go_wp2
        go_ret
        exact ⟨ret_bool (by
          have := HQ.out
          rw [List.take_of_length_le (by rw [H1.out]; omega), List.take_of_length_le (by rw [H2.out]; omega)] at this
          exact (HE.out.2 this).symm), hbr⟩
  · go_wp2
    go_ret
    exact ⟨ret_bool (by
      have : xs ≠ ys := fun e => hne (by rw [← H1.out, ← H2.out, e])
      cases R
      · rfl
      · exact absurd (HE.out.1 rfl) this), Below.refl _ _⟩

end Go.Proofs.Ytjacnghndnkcnaa
