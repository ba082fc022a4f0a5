/-
  Package coils, on lists: what is written is read, and what is read is written; what is cut off is too short.
-/
import Derived.Test.YtgacfocbdeohaaaFormBack
import Derived.Test.YtgacfocbdeohaaaCoilMath
namespace Go.Proofs.Ytgacfocbdeohaaa
open Go.RowKit
open Word Bits Cursor

namespace Coils
theorem data_new (m : MsgM) (d r : List UInt8) (h1 : 1 ≤ d.length) (h2 : d.length ≤ 250) : readData (m, St.new (counted [] d ++ r)) = (m.put_data d, St.new r) := by
  have hb : counted [] d ++ r = UInt8.ofNat d.length :: (d ++ r) := by simp [counted]
  have hn : (UInt8.ofNat d.length).toNat = d.length := by rw [UInt8.toNat_ofNat']; omega
  unfold readData needData
  simp only [hb, St.byte_new, St.afterB_new, hn]
  rw [show (decide (1 ≤ d.length) && decide (d.length ≤ 250)) = true by simp [h1, h2], St.need_true, St.got_new _ _ _ (by simp), St.next_new _ _ _ (by simp)]
  simp
theorem bits_new (m : MsgM) (l : List Bool) (k : UInt16) (r : List UInt8) (hk : m.count = k) (hl : l.length = k.toNat) (h : k.toNat ≤ 1968) :
    readBits (m, St.new (UInt8.ofNat (packB l).length :: (packB l ++ r))) = (m.put_bits l, St.new r) := by
  have hp : (packB l).length = many k.toNat := by rw [packB_length, hl]
  have hn : (UInt8.ofNat (packB l).length).toNat = (packB l).length := by rw [UInt8.toNat_ofNat', hp]; unfold many; omega
  unfold readBits needSome
  simp only [St.byte_new, St.afterB_new, hn, hk]
  rw [show (decide (((packB l).length : Int) = manyI (k.toNat : Int))) = true by rw [manyI_nat, hp]; simp, St.need_true, St.got_new _ _ _ (by simp), St.next_new _ _ _ (by simp)]
  rw [Nat.mul_one, List.take_left, ← hl, good_pack, outU_pack, St.need_true]
  simp
theorem read_ok (c : UInt8) (f : Frm) (m : MsgM) (r : List UInt8) (h : f.valid c m) : f.read (MsgM.of c, St.new (f.bytes m ++ r)) = (m, St.new r) := by
  rcases Frm.five f with rfl | rfl | rfl | rfl | rfl
  · obtain ⟨a, k, rfl, h1, h2, h3⟩ := h
    exact places_ok 2000 _ a k r h1 h2 h3
  · obtain ⟨d, rfl, h1, h2⟩ := h
    exact data_new _ d r h1 h2
  · obtain ⟨a, v, rfl, h1⟩ := h
    show readOne (MsgM.of c, St.new (hiB a :: loB a :: hiB v :: loB v :: r)) = _
    unfold readOne
    simp only [St.afterW_new, St.word_new, word_hi_lo]
    rw [show (decide (v.toNat = 0) || decide (v.toNat = 65280)) = true by simpa using h1, St.need_true]
  · obtain ⟨a, k, l, rfl, h1, h2, h3, h4⟩ := h
    show readBits (readPlaces 1968 (MsgM.of c, St.new (counted (putW [a, k]) (packB l) ++ r))) = _
    rw [show counted (putW [a, k]) (packB l) ++ r = putW [a, k] ++ (UInt8.ofNat (packB l).length :: (packB l ++ r)) by simp [counted], places_ok 1968 _ a k _ h1 h2 h3, bits_new _ l k r rfl h4 h2]
  · obtain ⟨a, k, rfl, h1, h2, h3⟩ := h
    exact places_ok 1968 _ a k r h1 h2 h3

theorem places_back (most : Nat) (m : MsgM) (b : List UInt8) (h : (readPlaces most (m, St.new b)).2.e = 0) :
    ∃ a k r, b = putW [a, k] ++ r ∧ 1 ≤ k.toNat ∧ k.toNat ≤ most ∧ a.toNat + k.toNat ≤ 65536 ∧ readPlaces most (m, St.new b) = ((m.put_addr a).put_count k, St.new r) := by
  have h4 : 4 ≤ b.length := by
    apply Nat.le_of_not_lt
    intro hlt
    rw [places_short most m b hlt] at h
    simp at h
  match b, h4 with
  | x :: y :: z :: v :: r, _ =>
    rw [places_new] at h
    obtain ⟨h1, h2, _⟩ := St.need_zero h (by omega)
    obtain ⟨_, h3, _⟩ := St.need_zero h1 (by omega)
    simp only [Bool.and_eq_true, decide_eq_true_eq] at h3
    rw [within_iff _ _ h3.1, decide_eq_true_eq] at h2
    refine ⟨word x y, word z v, r, ?_, h3.1, h3.2, h2, ?_⟩
    · simp [putW, hi_word, lo_word]
    · rw [places_new, within_iff _ _ h3.1]
      simp [h3.1, h3.2, h2, St.need_true]
  | [], h => simp at h
  | [_], h => simp at h
  | [_, _], h => simp at h
  | [_, _, _], h => simp at h
theorem bits_back (m : MsgM) (b : List UInt8) (h : (readBits (m, St.new b)).2.end_.e = 0) :
    ∃ l, l.length = m.count.toNat ∧ b = UInt8.ofNat (packB l).length :: packB l ∧ (readBits (m, St.new b)).1 = m.put_bits l := by
  obtain ⟨h0, hx⟩ := St.end_zero h
  unfold readBits at h0
  obtain ⟨h1, h2, h3⟩ := St.need_zero h0 (by omega)
  have h4 := St.next_e h1
  obtain ⟨h5, h6, h7⟩ := St.need_zero (show ((St.new b).afterB.need _ 5).e = 0 from h4) (by omega)
  obtain ⟨x, r, rfl⟩ := St.afterB_zero h5
  unfold readBits at hx ⊢
  have hns : needSome (m, St.new (x :: r)) = St.new r := by
    unfold needSome
    rw [h7, St.afterB_new]
  simp only [hns, St.byte_new] at h1 h2 h6 hx ⊢
  have h8 := St.next_zero (n := x.toNat) (size := 1) h1
  have hpos : x.toNat ≤ r.length := by omega
  rw [St.got_new _ _ _ h8] at h2 hx ⊢
  rw [h2, St.need_true, St.next_new _ _ _ h8] at hx
  have hr : r.length = x.toNat := by
    have : (r.drop (x.toNat * 1)).length = 0 := by simpa [St.new] using congrArg List.length hx
    simp at this
    omega
  have ht : r.take (x.toNat * 1) = r := List.take_of_length_le (by omega)
  rw [ht] at h2 ⊢
  rw [good_iff, decide_eq_true_eq] at h2
  refine ⟨unpackL r m.count.toNat, unpackL_length _ _, ?_, ?_⟩
  · rw [h2, hr, UInt8.ofNat_toNat]
  · have hg : good r (m.count.toNat : Int) = true := by rw [good_iff]; simpa using h2
    unfold outU
    rw [if_pos hg]
    simp
theorem read_back (c : UInt8) (f : Frm) (b : List UInt8) (h : (finish (f.read (MsgM.of c, St.new b))).2 = 0) : f.valid c (finish (f.read (MsgM.of c, St.new b))).1 ∧ b = f.bytes (finish (f.read (MsgM.of c, St.new b))).1 := by
  obtain ⟨h0, h1⟩ := finish_ok h
  rw [h1]
  obtain ⟨h2, h3⟩ := St.end_zero h0
  have places : ∀ most, (readPlaces most (MsgM.of c, St.new b)).2.e = 0 → (readPlaces most (MsgM.of c, St.new b)).2.xs = [] → ∃ a k, (readPlaces most (MsgM.of c, St.new b)).1 = ((MsgM.of c).put_addr a).put_count k ∧ 1 ≤ k.toNat ∧ k.toNat ≤ most ∧ a.toNat + k.toNat ≤ 65536 ∧ b = putW [a, k] := by
    intro most h2 h3
    obtain ⟨a, k, r, hb, q1, q2, q3, q4⟩ := places_back most _ b h2
    rw [q4] at h3 ⊢
    have : r = [] := h3
    subst this
    exact ⟨a, k, rfl, q1, q2, q3, by simpa using hb⟩
  rcases Frm.five f with rfl | rfl | rfl | rfl | rfl
  · obtain ⟨a, k, q0, q1, q2, q3, q4⟩ := places 2000 h2 h3
    exact ⟨⟨a, k, q0, q1, q2, q3⟩, by show b = putW [_, _]; rw [show Frm.asked.read (MsgM.of c, St.new b) = readPlaces 2000 (MsgM.of c, St.new b) from rfl, q0]; exact q4⟩
  · have hr : Frm.told.read (MsgM.of c, St.new b) = readData (MsgM.of c, St.new b) := rfl
    rw [hr] at h2 h3 ⊢
    unfold readData at h2 h3 ⊢
    have h4 := St.next_e h2
    obtain ⟨h5, h6, h7⟩ := St.need_zero (show ((St.new b).afterB.need _ 5).e = 0 from h4) (by omega)
    obtain ⟨x, r, rfl⟩ := St.afterB_zero h5
    have hns : needData (St.new (x :: r)) = St.new r := by unfold needData; rw [h7, St.afterB_new]
    simp only [hns, St.byte_new] at h2 h3 h6 ⊢
    simp only [Bool.and_eq_true, decide_eq_true_eq] at h6
    have h8 := St.next_zero (n := x.toNat) (size := 1) h2
    rw [St.got_new _ _ _ h8] at ⊢
    rw [St.next_new _ _ _ h8] at h3
    have hl : r.length = x.toNat := by
      have : (r.drop (x.toNat * 1)).length = 0 := by simpa [St.new] using congrArg List.length h3
      simp at this
      omega
    have ht : r.take (x.toNat * 1) = r := List.take_of_length_le (by omega)
    rw [ht]
    refine ⟨⟨r, rfl, by omega, by omega⟩, ?_⟩
    show x :: r = counted [] r
    simp [counted, hl]
  · have hr : Frm.one.read (MsgM.of c, St.new b) = readOne (MsgM.of c, St.new b) := rfl
    rw [hr] at h2 h3 ⊢
    unfold readOne at h2 h3 ⊢
    obtain ⟨h5, h6, h7⟩ := St.need_zero (show ((St.new b).afterW.afterW.need _ 6).e = 0 from h2) (by omega)
    obtain ⟨x, y, r, rfl⟩ := St.afterW_zero (St.afterW_e h5)
    simp only [St.afterW_new] at h2 h3 h5 h6 h7 ⊢
    obtain ⟨z, v, r, rfl⟩ := St.afterW_zero h5
    simp only [St.afterW_new, St.word_new] at h2 h3 h5 h6 h7 ⊢
    rw [h7] at h3
    have : r = [] := h3
    subst this
    refine ⟨⟨word x y, word z v, rfl, by simpa using h6⟩, ?_⟩
    show [x, y, z, v] = putW [word x y, word z v]
    simp [putW, hi_word, lo_word]
  · have hr : Frm.some.read (MsgM.of c, St.new b) = readBits (readPlaces 1968 (MsgM.of c, St.new b)) := rfl
    rw [hr] at h0 ⊢
    have he : (readPlaces 1968 (MsgM.of c, St.new b)).2.e = 0 := by
      have := (St.end_zero h0).1
      unfold readBits at this
      have := (St.need_zero this (by omega)).1
      have := St.next_e this
      unfold needSome at this
      have := (St.need_zero this (by omega)).1
      exact St.afterB_e this
    obtain ⟨a, k, r, hb, q1, q2, q3, q4⟩ := places_back 1968 _ b he
    rw [q4] at h0 ⊢
    obtain ⟨l, p1, p2, p3⟩ := bits_back _ r h0
    rw [p3]
    refine ⟨⟨a, k, l, rfl, q1, q2, q3, p1⟩, ?_⟩
    show b = counted (putW [a, k]) (packB l)
    rw [hb, p2]
    simp [counted]
  · obtain ⟨a, k, q0, q1, q2, q3, q4⟩ := places 1968 h2 h3
    exact ⟨⟨a, k, q0, q1, q2, q3⟩, by show b = putW [_, _]; rw [show Frm.done.read (MsgM.of c, St.new b) = readPlaces 1968 (MsgM.of c, St.new b) from rfl, q0]; exact q4⟩

/-! cut off -/
theorem data_short (m : MsgM) (d : List UInt8) (h1 : 1 ≤ d.length) (h2 : d.length ≤ 250) (k : Nat) (hk : k < (counted [] d).length) : (readData (m, St.new ((counted [] d).take k))).2.e = 2 := by
  have hb : counted [] d = UInt8.ofNat d.length :: d := by simp [counted]
  rw [hb] at hk ⊢
  have hn : (UInt8.ofNat d.length).toNat = d.length := by rw [UInt8.toNat_ofNat']; omega
  cases k with
  | zero => unfold readData needData; simp [St.afterB_nil, St.need, St.next, St.lack]
  | succ k =>
    simp at hk
    unfold readData needData
    simp only [List.take_succ_cons, St.byte_new, St.afterB_new, hn]
    rw [show (decide (1 ≤ d.length) && decide (d.length ≤ 250)) = true by simp [h1, h2], St.need_true, St.next_short _ _ _ (by simp; omega)]
theorem bits_short (m : MsgM) (l : List Bool) (k : UInt16) (hk : m.count = k) (hl : l.length = k.toNat) (h : k.toNat ≤ 1968) (n : Nat) (hn : n < (packB l).length + 1) :
    (readBits (m, St.new ((UInt8.ofNat (packB l).length :: packB l).take n))).2.e = 2 := by
  have hp : (packB l).length = many k.toNat := by rw [packB_length, hl]
  have hv : (UInt8.ofNat (packB l).length).toNat = (packB l).length := by rw [UInt8.toNat_ofNat', hp]; unfold many; omega
  cases n with
  | zero => unfold readBits needSome; simp [St.afterB_nil, St.need, St.next, St.lack]
  | succ n =>
    unfold readBits needSome
    simp only [List.take_succ_cons, St.byte_new, St.afterB_new, hv, hk]
    rw [show (decide (((packB l).length : Int) = manyI (k.toNat : Int))) = true by rw [manyI_nat, hp]; simp, St.need_true, St.next_short _ _ _ (by simp; omega), St.need_bad _ _ _ (by simp)]
theorem bits_bad (m : MsgM) (c : St) (e : Int) (h : c.e = e) (he : e ≠ 0) : (readBits (m, c)).2.e = e := by
  have h0 : c.e ≠ 0 := by rw [h]; exact he
  have h1 : (needSome (m, c)).e = e := by
    unfold needSome
    rw [St.need_bad _ _ _ (by rw [St.afterB_bad _ h0]; exact h0), St.afterB_bad _ h0, h]
  have h2 : ((needSome (m, c)).next (c.byte.toNat : Int) 1).e = e := by rw [St.next_bad _ _ _ (by rw [h1]; exact he), h1]
  unfold readBits
  rw [St.need_bad _ _ _ (by rw [h2]; exact he), h2]
theorem read_short (c : UInt8) (f : Frm) (m : MsgM) (k : Nat) (h : f.valid c m) (hk : k < (f.bytes m).length) : (f.read (MsgM.of c, St.new ((f.bytes m).take k))).2.e = 2 := by
  rcases Frm.five f with rfl | rfl | rfl | rfl | rfl
  · obtain ⟨a, n, rfl, h1, h2, h3⟩ := h
    exact places_short 2000 _ _ (by simp [Frm.bytes, putW_length] at hk ⊢; omega)
  · obtain ⟨d, rfl, h1, h2⟩ := h
    exact data_short _ d h1 h2 k hk
  · obtain ⟨a, v, rfl, h1⟩ := h
    have hk' : k < 4 := by simpa [Frm.bytes, putW_length] using hk
    show (readOne (MsgM.of c, St.new ([hiB a, loB a, hiB v, loB v].take k))).2.e = 2
    unfold readOne
    match k, hk' with
    | 0, _ => rw [List.take_zero, St.afterW_short [] (by simp)]; rfl
    | 1, _ => rw [show [hiB a, loB a, hiB v, loB v].take 1 = [hiB a] from rfl, St.afterW_short _ (by simp)]; rfl
    | 2, _ => rw [show [hiB a, loB a, hiB v, loB v].take 2 = [hiB a, loB a] from rfl, St.afterW_new, St.afterW_short [] (by simp)]; rfl
    | 3, _ => rw [show [hiB a, loB a, hiB v, loB v].take 3 = [hiB a, loB a, hiB v] from rfl, St.afterW_new, St.afterW_short _ (by simp)]; rfl
  · obtain ⟨a, n, l, rfl, h1, h2, h3, h4⟩ := h
    have hb : Frm.some.bytes ((((MsgM.of c).put_addr a).put_count n).put_bits l) = putW [a, n] ++ (UInt8.ofNat (packB l).length :: packB l) := by show counted (putW [a, n]) (packB l) = _; simp [counted]
    rw [hb] at hk ⊢
    show (readBits (readPlaces 1968 (MsgM.of c, St.new _))).2.e = 2
    by_cases h4' : k < 4
    · have hs := places_short 1968 (MsgM.of c) ((putW [a, n] ++ (UInt8.ofNat (packB l).length :: packB l)).take k) (by simp; omega)
      exact bits_bad _ _ 2 hs (by omega)
    · have ht : (putW [a, n] ++ (UInt8.ofNat (packB l).length :: packB l)).take k = putW [a, n] ++ (UInt8.ofNat (packB l).length :: packB l).take (k - 4) := by
        rw [List.take_append, List.take_of_length_le (by simp [putW_length]; omega)]
        simp [putW_length]
      rw [ht, places_ok 1968 _ a n _ h1 h2 h3]
      exact bits_short _ l n rfl h4 h2 (k - 4) (by simp [putW_length] at hk; omega)
  · obtain ⟨a, n, rfl, h1, h2, h3⟩ := h
    exact places_short 1968 _ _ (by simp [Frm.bytes, putW_length] at hk ⊢; omega)

theorem bytes_pos (f : Frm) (m : MsgM) : 0 < (f.bytes m).length := by
  rcases Frm.five f with rfl | rfl | rfl | rfl | rfl <;> simp [Frm.bytes, putW_length, counted]
  omega
theorem valid_code {c : UInt8} {f : Frm} {m : MsgM} (h : f.valid c m) : m.code = c := by
  rcases Frm.five f with rfl | rfl | rfl | rfl | rfl
  · obtain ⟨a, k, rfl, _⟩ := h; rfl
  · obtain ⟨d, rfl, _⟩ := h; rfl
  · obtain ⟨a, v, rfl, _⟩ := h; rfl
  · obtain ⟨a, k, l, rfl, _⟩ := h; rfl
  · obtain ⟨a, k, rfl, _⟩ := h; rfl
theorem form_dir {dir : Int} {c : UInt8} {f : Frm} (h : formOf dir c = Option.some f) : dir = 0 ∨ dir = 1 := by
  unfold formOf at h
  by_cases h0 : dir = 0
  · exact .inl h0
  by_cases h1 : dir = 1
  · exact .inr h1
  · rw [if_neg h0, if_neg h1] at h; cases h
theorem parse_form {dir : Int} {c : UInt8} {f : Frm} (h : formOf dir c = Option.some f) (b : List UInt8) : parse dir c b = finish (f.read (MsgM.of c, St.new b)) := by
  unfold parse
  rw [if_pos (form_dir h), h]
theorem parse_ok {dir : Int} {c : UInt8} {f : Frm} (h : formOf dir c = Option.some f) {m : MsgM} (hv : f.valid c m) : parse dir c (f.bytes m) = (m, 0) := by
  have := read_ok c f m [] hv
  rw [List.append_nil] at this
  rw [parse_form h, this, finish_new]
  rfl
theorem parse_long {dir : Int} {c : UInt8} {f : Frm} (h : formOf dir c = Option.some f) {m : MsgM} (hv : f.valid c m) (x : UInt8) : parse dir c (f.bytes m ++ [x]) = (MsgM.zero, 3) := by
  rw [parse_form h, read_ok c f m [x] hv, finish_new]
  rfl
theorem parse_short {dir : Int} {c : UInt8} {f : Frm} (h : formOf dir c = Option.some f) {m : MsgM} (hv : f.valid c m) (k : Nat) (hk : k < (f.bytes m).length) : parse dir c ((f.bytes m).take k) = (MsgM.zero, 2) := by
  rw [parse_form h]
  exact finish_bad (read_short c f m k hv hk) (by omega)
/-- What is read has a form, and that form's bytes. -/
theorem parse_back {dir : Int} {c : UInt8} {b : List UInt8} (h : (parse dir c b).2 = 0) : ∃ f, formOf dir c = Option.some f ∧ f.valid c (parse dir c b).1 ∧ b = f.bytes (parse dir c b).1 := by
  by_cases hd : dir = 0 ∨ dir = 1
  · cases hf : formOf dir c with
    | none => unfold parse at h; rw [if_pos hd, hf] at h; simp at h
    | some f =>
      rw [parse_form hf] at h ⊢
      exact ⟨f, rfl, read_back c f b h⟩
  · unfold parse at h; rw [if_neg hd] at h; simp at h
theorem parse_zero {dir : Int} {c : UInt8} {b : List UInt8} (h : (parse dir c b).2 ≠ 0) : (parse dir c b).1 = MsgM.zero := by
  unfold parse at h ⊢
  split
  · rename_i hd
    rw [if_pos hd] at h
    cases hf : formOf dir c with
    | none => rfl
    | some f => rw [hf] at h; exact finish_zero h
  · rfl
theorem write_ok {dir : Int} {f : Frm} {m : MsgM} (h : formOf dir m.code = Option.some f) (hv : f.valid m.code m) : write dir m = Option.some (f.bytes m) := by
  unfold write
  rw [h]
  show (if _ then _ else _) = _
  rw [parse_ok h hv, if_pos ⟨rfl, (MsgM.same_iff m m).2 rfl⟩]
theorem write_back {dir : Int} {m : MsgM} {b : List UInt8} (h : write dir m = Option.some b) : ∃ f, formOf dir m.code = Option.some f ∧ f.valid m.code m ∧ b = f.bytes m := by
  unfold write at h
  cases hf : formOf dir m.code with
  | none => rw [hf] at h; cases h
  | some f =>
    rw [hf] at h
    have h' : (if (parse dir m.code (f.bytes m)).2 = 0 ∧ MsgM.same (parse dir m.code (f.bytes m)).1 m = true then Option.some (f.bytes m) else none) = Option.some b := h
    split at h'
    · rename_i hc
      injection h' with h'
      obtain ⟨g, hg, hv, _⟩ := parse_back hc.1
      rw [(MsgM.same_iff _ _).1 hc.2] at hv
      rw [hf] at hg
      injection hg with hg
      subst hg
      exact ⟨f, rfl, hv, h'.symm⟩
    · cases h'
theorem write_iff (dir : Int) (m : MsgM) : (∃ b, write dir m = Option.some b) ↔ ∃ f, formOf dir m.code = Option.some f ∧ f.valid m.code m := by
  constructor
  · rintro ⟨b, h⟩
    obtain ⟨f, h1, h2, _⟩ := write_back h
    exact ⟨f, h1, h2⟩
  · rintro ⟨f, h1, h2⟩
    exact ⟨_, write_ok h1 h2⟩
end Coils

end Go.Proofs.Ytgacfocbdeohaaa
