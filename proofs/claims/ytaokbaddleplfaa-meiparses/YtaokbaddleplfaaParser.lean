/-
  Readers of forms, put together: what is written is read, what is read is written, what is cut off is too short.
-/
import Derived.Test.YtaokbaddleplfaaFormBack
namespace Go.Proofs.Ytaokbaddleplfaa
open Go.RowKit
open Word Bits Cursor

/-- A reader, what writes it, and what it may tell. -/
structure Rdr {α : Type} (P : St → α × St) (enc : α → List UInt8) (valid : α → Prop) : Prop where
  ok : ∀ a r, valid a → P (St.new (enc a ++ r)) = (a, St.new r)
  back : ∀ b, (P (St.new b)).2.e = 0 → ∃ r, valid (P (St.new b)).1 ∧ b = enc (P (St.new b)).1 ++ r ∧ (P (St.new b)).2 = St.new r
  short : ∀ a k, valid a → k < (enc a).length → (P (St.new ((enc a).take k))).2.e = 2
  bad : ∀ s, s.e ≠ 0 → (P s).2.e = s.e

theorem Rdr.word : Rdr (fun s => (s.word, s.afterW)) (fun x => [hiB x, loB x]) (fun _ => True) where
  ok a r _ := by
    show ((St.new (hiB a :: loB a :: r)).word, (St.new (hiB a :: loB a :: r)).afterW) = _
    rw [St.word_new, St.afterW_new, word_hi_lo]
  back b h := by
    obtain ⟨x, y, r, rfl⟩ := St.afterW_zero h
    refine ⟨r, trivial, ?_, ?_⟩
    · show x :: y :: r = [hiB (St.new (x :: y :: r)).word, loB (St.new (x :: y :: r)).word] ++ r
      rw [St.word_new, hi_word, lo_word]; rfl
    · exact St.afterW_new x y r
  short a k _ hk := by
    show (St.new _).afterW.e = 2
    rw [St.afterW_short _ (by simp at hk ⊢; omega)]
  bad s h := St.afterW_bad s h
theorem Rdr.byte : Rdr (fun s => (s.byte, s.afterB)) (fun x => [x]) (fun _ => True) where
  ok a r _ := by
    show ((St.new (a :: r)).byte, (St.new (a :: r)).afterB) = _
    rw [St.byte_new, St.afterB_new]
  back b h := by
    obtain ⟨x, r, rfl⟩ := St.afterB_zero h
    refine ⟨r, trivial, ?_, ?_⟩
    · show x :: r = [(St.new (x :: r)).byte] ++ r
      rw [St.byte_new]; rfl
    · exact St.afterB_new x r
  short a k _ hk := by
    have : k = 0 := by simpa using hk
    subst this
    show (St.new _).afterB.e = 2
    rw [List.take_zero, St.afterB_nil]
  bad s h := St.afterB_bad s h
theorem Rdr.bytes (n : Nat) : Rdr (fun s => (s.got (n : Int) 1, s.next (n : Int) 1)) (fun d => d) (fun d => d.length = n) where
  ok a r h := by
    subst h
    show ((St.new (a ++ r)).got (a.length : Int) 1, (St.new (a ++ r)).next (a.length : Int) 1) = _
    rw [St.got_new _ _ _ (by simp), St.next_new _ _ _ (by simp)]
    simp
  back b h := by
    have hn := St.next_zero (n := n) (size := 1) h
    refine ⟨b.drop n, ?_, ?_, ?_⟩
    · show ((St.new b).got (n : Int) 1).length = n
      rw [St.got_new _ _ _ hn]; simp; omega
    · show b = (St.new b).got (n : Int) 1 ++ b.drop n
      rw [St.got_new _ _ _ hn]; simp
    · show (St.new b).next (n : Int) 1 = _
      rw [St.next_new _ _ _ hn]; simp
  short a k h hk := by
    show ((St.new _).next (n : Int) 1).e = 2
    rw [St.next_short _ _ _ (by simp at hk ⊢; omega)]
  bad s h := St.next_bad s _ _ h
theorem Rdr.words (n : Nat) : Rdr (fun s => (takeW (s.got (n : Int) 2), s.next (n : Int) 2)) putW (fun l => l.length = n) where
  ok a r h := by
    subst h
    have hl := putW_length a
    show (takeW ((St.new (putW a ++ r)).got (a.length : Int) 2), (St.new (putW a ++ r)).next (a.length : Int) 2) = _
    rw [St.got_new _ _ _ (by simp [hl]; omega), St.next_new _ _ _ (by simp [hl]; omega), show a.length * 2 = (putW a).length by omega, List.take_left, List.drop_left, takeW_putW]
  back b h := by
    have hn := St.next_zero (n := n) (size := 2) h
    have hg : (St.new b).got (n : Int) 2 = b.take (n * 2) := St.got_new _ _ _ hn
    have he : (b.take (n * 2)).length = n * 2 := by simp; omega
    have hw : takeW (b.take (n * 2)) = pairs (b.take (n * 2)) := by unfold takeW; rw [if_neg (by rw [he]; omega)]
    refine ⟨b.drop (n * 2), ?_, ?_, ?_⟩
    · show (takeW ((St.new b).got (n : Int) 2)).length = n
      rw [hg, hw]
      have := pairs_length (b.take (n * 2)) (by rw [he]; omega)
      omega
    · show b = putW (takeW ((St.new b).got (n : Int) 2)) ++ b.drop (n * 2)
      rw [hg, hw, putW_pairs _ (by rw [he]; omega), List.take_append_drop]
    · show (St.new b).next (n : Int) 2 = _
      rw [St.next_new _ _ _ hn]
  short a k h hk := by
    show ((St.new _).next (n : Int) 2).e = 2
    have hl := putW_length a
    rw [St.next_short _ _ _ (by simp at hk ⊢; omega)]
  bad s h := St.next_bad s _ _ h

section
variable {α β : Type} {P : St → α × St} {enc : α → List UInt8} {valid : α → Prop}

/-- A rule on what was read. -/
theorem Rdr.need (h : Rdr P enc valid) (p : α → Bool) (e : Int) (he : e ≠ 0) : Rdr (fun s => ((P s).1, (P s).2.need (p (P s).1) e)) enc (fun a => valid a ∧ p a = true) where
  ok a r hv := by
    show ((P _).1, (P _).2.need (p (P _).1) e) = _
    rw [h.ok a r hv.1]
    show (a, (St.new r).need (p a) e) = _
    rw [hv.2, St.need_true]
  back b hb := by
    obtain ⟨h1, h2, h3⟩ := St.need_zero (show ((P (St.new b)).2.need (p (P (St.new b)).1) e).e = 0 from hb) he
    obtain ⟨r, hv, hr, hs⟩ := h.back b h1
    exact ⟨r, ⟨hv, h2⟩, hr, h3.trans hs⟩
  short a k hv hk := by
    have h2 := h.short a k hv.1 hk
    show ((P _).2.need (p (P _).1) e).e = 2
    rw [St.need_bad _ _ _ (by rw [h2]; omega), h2]
  bad s hs := by
    have h2 := h.bad s hs
    show ((P s).2.need (p (P s).1) e).e = _
    rw [St.need_bad _ _ _ (by rw [h2]; exact hs), h2]
/-- One behind another. -/
theorem Rdr.bind (h : Rdr P enc valid) {Q : α → St → β × St} {enc' : α → β → List UInt8} {valid' : α → β → Prop} (h' : ∀ a, valid a → Rdr (Q a) (enc' a) (valid' a)) (hb : ∀ a s, s.e ≠ 0 → (Q a s).2.e = s.e) :
    Rdr (fun s => (((P s).1, (Q (P s).1 (P s).2).1), (Q (P s).1 (P s).2).2)) (fun x => enc x.1 ++ enc' x.1 x.2) (fun x => valid x.1 ∧ valid' x.1 x.2) where
  ok a r hv := by
    obtain ⟨x, y⟩ := a
    have h1 := h.ok x (enc' x y ++ r) hv.1
    have h2 := (h' x hv.1).ok y r hv.2
    show (((P (St.new (enc x ++ enc' x y ++ r))).1, _), _) = _
    rw [List.append_assoc, h1]
    show ((x, (Q x (St.new (enc' x y ++ r))).1), (Q x (St.new (enc' x y ++ r))).2) = _
    rw [h2]
  back b hz := by
    have hz' : (Q (P (St.new b)).1 (P (St.new b)).2).2.e = 0 := hz
    have h0 : (P (St.new b)).2.e = 0 := by
      by_cases h0 : (P (St.new b)).2.e = 0
      · exact h0
      · rw [hb _ _ h0] at hz'; exact hz'
    obtain ⟨r, hv, hr, hs⟩ := h.back b h0
    rw [hs] at hz'
    obtain ⟨r', hv', hr', hs'⟩ := (h' _ hv).back r hz'
    refine ⟨r', ⟨hv, ?_⟩, ?_, ?_⟩
    · show valid' (P (St.new b)).1 (Q (P (St.new b)).1 (P (St.new b)).2).1
      rw [hs]; exact hv'
    · show b = enc (P (St.new b)).1 ++ enc' (P (St.new b)).1 (Q (P (St.new b)).1 (P (St.new b)).2).1 ++ r'
      rw [hs, List.append_assoc, ← hr', ← hr]
    · show (Q (P (St.new b)).1 (P (St.new b)).2).2 = _
      rw [hs]; exact hs'
  short a k hv hk := by
    obtain ⟨x, y⟩ := a
    show (Q (P (St.new ((enc x ++ enc' x y).take k))).1 (P (St.new ((enc x ++ enc' x y).take k))).2).2.e = 2
    by_cases hx : k < (enc x).length
    · have ht : (enc x ++ enc' x y).take k = (enc x).take k := by rw [List.take_append_of_le_length (by omega)]
      rw [ht]
      have h2 := h.short x k hv.1 hx
      rw [hb _ _ (by rw [h2]; omega), h2]
    · have ht : (enc x ++ enc' x y).take k = enc x ++ (enc' x y).take (k - (enc x).length) := by
        rw [List.take_append, List.take_of_length_le (by omega)]
      rw [ht, h.ok x _ hv.1]
      have hk' : k < (enc x ++ enc' x y).length := hk
      rw [List.length_append] at hk'
      exact (h' x hv.1).short y _ hv.2 (by omega)
  bad s hs := by
    show (Q (P s).1 (P s).2).2.e = s.e
    have h2 := h.bad s hs
    rw [hb _ _ (by rw [h2]; exact hs), h2]
/-- What was read, told otherwise. -/
theorem Rdr.map (h : Rdr P enc valid) (f : α → β) (enc' : β → List UInt8) (he : ∀ a, valid a → enc' (f a) = enc a) : Rdr (fun s => (f (P s).1, (P s).2)) enc' (fun b => ∃ a, b = f a ∧ valid a) where
  ok b r hv := by
    obtain ⟨a, rfl, hv⟩ := hv
    show (f (P _).1, (P _).2) = _
    rw [he a hv, h.ok a r hv]
  back b hb := by
    obtain ⟨r, hv, hr, hs⟩ := h.back b hb
    exact ⟨r, ⟨_, rfl, hv⟩, by rw [show enc' (f (P (St.new b)).1) = _ from he _ hv]; exact hr, hs⟩
  short b k hv hk := by
    obtain ⟨a, rfl, hv⟩ := hv
    rw [he a hv] at hk ⊢
    exact h.short a k hv hk
  bad s hs := h.bad s hs
theorem Rdr.congr (h : Rdr P enc valid) {P' : St → α × St} (hp : ∀ s, P' s = P s) {enc' : α → List UInt8} (he : ∀ a, valid a → enc' a = enc a) {valid' : α → Prop} (hv : ∀ a, valid' a ↔ valid a) : Rdr P' enc' valid' where
  ok a r h1 := by rw [hp, he a ((hv a).1 h1)]; exact h.ok a r ((hv a).1 h1)
  back b hb := by
    rw [hp] at hb ⊢
    obtain ⟨r, h1, h2, h3⟩ := h.back b hb
    exact ⟨r, (hv _).2 h1, by rw [he _ h1]; exact h2, h3⟩
  short a k h1 hk := by
    rw [he a ((hv a).1 h1)] at hk ⊢
    rw [hp]; exact h.short a k ((hv a).1 h1) hk
  bad s hs := by rw [hp]; exact h.bad s hs
end

/-! a whole form -/
section
variable {P : St → MsgM × St} {enc : MsgM → List UInt8} {valid : MsgM → Prop}
theorem Rdr.fin_ok (h : Rdr P enc valid) {m : MsgM} (hv : valid m) : finish (P (St.new (enc m))) = (m, 0) := by
  have := h.ok m [] hv
  rw [List.append_nil] at this
  rw [this, finish_new]; rfl
theorem Rdr.fin_long (h : Rdr P enc valid) {m : MsgM} (hv : valid m) (x : UInt8) : finish (P (St.new (enc m ++ [x]))) = (MsgM.zero, 3) := by
  rw [h.ok m [x] hv, finish_new]; rfl
theorem Rdr.fin_short (h : Rdr P enc valid) {m : MsgM} (hv : valid m) (k : Nat) (hk : k < (enc m).length) : finish (P (St.new ((enc m).take k))) = (MsgM.zero, 2) :=
  finish_bad (h.short m k hv hk) (by omega)
theorem Rdr.fin_back (h : Rdr P enc valid) {b : List UInt8} (hz : (finish (P (St.new b))).2 = 0) : valid (finish (P (St.new b))).1 ∧ b = enc (finish (P (St.new b))).1 := by
  obtain ⟨h0, h1⟩ := finish_ok hz
  obtain ⟨h2, h3⟩ := St.end_zero h0
  obtain ⟨r, hv, hr, hs⟩ := h.back b h2
  rw [hs] at h3
  have : r = [] := h3
  subst this
  rw [List.append_nil] at hr
  rw [h1]
  exact ⟨hv, hr⟩
end

end Go.Proofs.Ytaokbaddleplfaa
