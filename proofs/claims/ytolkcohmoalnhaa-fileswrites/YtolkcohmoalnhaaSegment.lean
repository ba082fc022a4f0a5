/-
  Readers within a block, put together: what is written is read, what is read is written; a rule may ask how much is left.
-/
import Derived.Test.YtolkcohmoalnhaaParser
namespace Go.Proofs.Ytolkcohmoalnhaa
open Go.RowKit
open Word Bits Cursor

structure Seg {α : Type} (P : St → α × St) (enc : α → List UInt8) (valid : α → Prop) : Prop where
  ok : ∀ a r, valid a → P (St.new (enc a ++ r)) = (a, St.new r)
  back : ∀ b, (P (St.new b)).2.e = 0 → ∃ r, valid (P (St.new b)).1 ∧ b = enc (P (St.new b)).1 ++ r ∧ (P (St.new b)).2 = St.new r
  bad : ∀ s, s.e ≠ 0 → (P s).2.e = s.e

section
variable {α β : Type} {P : St → α × St} {enc : α → List UInt8} {valid : α → Prop}
theorem Rdr.seg (h : Rdr P enc valid) : Seg P enc valid := ⟨h.ok, h.back, h.bad⟩
theorem Seg.need (h : Seg P enc valid) (p : α → Bool) (e : Int) (he : e ≠ 0) : Seg (fun s => ((P s).1, (P s).2.need (p (P s).1) e)) enc (fun a => valid a ∧ p a = true) where
  ok a r hv := by
    show ((P _).1, (P _).2.need (p (P _).1) e) = _
    rw [h.ok a r hv.1]
    show (a, (St.new r).need (p a) e) = _
    rw [hv.2, St.need_true]
  back b hb := by
    obtain ⟨h1, h2, h3⟩ := St.need_zero (show ((P (St.new b)).2.need (p (P (St.new b)).1) e).e = 0 from hb) he
    obtain ⟨r, hv, hr, hs⟩ := h.back b h1
    exact ⟨r, ⟨hv, h2⟩, hr, h3.trans hs⟩
  bad s hs := by
    have h2 := h.bad s hs
    show ((P s).2.need (p (P s).1) e).e = _
    rw [St.need_bad _ _ _ (by rw [h2]; exact hs), h2]
/-- One behind another; between them a rule that asks how much is left. -/
theorem Seg.guard (h : Seg P enc valid) {Q : α → St → β × St} {enc' : α → β → List UInt8} {valid' : α → β → Prop} (h' : ∀ a, valid a → Seg (Q a) (enc' a) (valid' a)) (p : α → Nat → Bool) (e : Int) (he : e ≠ 0)
    (hp : ∀ a b r, valid a → valid' a b → p a (enc' a b ++ r).length = true) (hb : ∀ a s, s.e ≠ 0 → (Q a s).2.e = s.e) :
    Seg (fun s => (((P s).1, (Q (P s).1 ((P s).2.need (p (P s).1 (P s).2.xs.length) e)).1), (Q (P s).1 ((P s).2.need (p (P s).1 (P s).2.xs.length) e)).2)) (fun x => enc x.1 ++ enc' x.1 x.2) (fun x => valid x.1 ∧ valid' x.1 x.2) where
  ok a r hv := by
    obtain ⟨x, y⟩ := a
    have h1 := h.ok x (enc' x y ++ r) hv.1
    have h2 := (h' x hv.1).ok y r hv.2
    show (((P (St.new (enc x ++ enc' x y ++ r))).1, _), _) = _
    rw [List.append_assoc, h1]
    show ((x, (Q x ((St.new (enc' x y ++ r)).need (p x (enc' x y ++ r).length) e)).1), (Q x ((St.new (enc' x y ++ r)).need (p x (enc' x y ++ r).length) e)).2) = _
    rw [hp x y r hv.1 hv.2, St.need_true, h2]
  back b hz := by
    have hz' : (Q (P (St.new b)).1 ((P (St.new b)).2.need (p (P (St.new b)).1 (P (St.new b)).2.xs.length) e)).2.e = 0 := hz
    have hn : ((P (St.new b)).2.need (p (P (St.new b)).1 (P (St.new b)).2.xs.length) e).e = 0 := by
      by_cases h0 : ((P (St.new b)).2.need (p (P (St.new b)).1 (P (St.new b)).2.xs.length) e).e = 0
      · exact h0
      · rw [hb _ _ h0] at hz'; exact hz'
    obtain ⟨h0, _, h3⟩ := St.need_zero hn he
    rw [h3] at hz'
    obtain ⟨r, hv, hr, hs⟩ := h.back b h0
    rw [hs] at hz'
    obtain ⟨r', hv', hr', hs'⟩ := (h' _ hv).back r hz'
    refine ⟨r', ⟨hv, ?_⟩, ?_, ?_⟩
    · show valid' (P (St.new b)).1 (Q (P (St.new b)).1 ((P (St.new b)).2.need _ e)).1
      rw [h3, hs]; exact hv'
    · show b = enc (P (St.new b)).1 ++ enc' (P (St.new b)).1 (Q (P (St.new b)).1 ((P (St.new b)).2.need _ e)).1 ++ r'
      rw [h3, hs, List.append_assoc, ← hr', ← hr]
    · show (Q (P (St.new b)).1 ((P (St.new b)).2.need _ e)).2 = _
      rw [h3, hs]; exact hs'
  bad s hs := by
    have h2 := h.bad s hs
    have h3 : (P s).2.need (p (P s).1 (P s).2.xs.length) e = (P s).2 := St.need_bad _ _ _ (by rw [h2]; exact hs)
    show (Q (P s).1 ((P s).2.need _ e)).2.e = s.e
    rw [h3, hb _ _ (by rw [h2]; exact hs), h2]
theorem Seg.bind (h : Seg P enc valid) {Q : α → St → β × St} {enc' : α → β → List UInt8} {valid' : α → β → Prop} (h' : ∀ a, valid a → Seg (Q a) (enc' a) (valid' a)) (hb : ∀ a s, s.e ≠ 0 → (Q a s).2.e = s.e) :
    Seg (fun s => (((P s).1, (Q (P s).1 (P s).2).1), (Q (P s).1 (P s).2).2)) (fun x => enc x.1 ++ enc' x.1 x.2) (fun x => valid x.1 ∧ valid' x.1 x.2) := by
  have := h.guard h' (fun _ _ => true) 1 (by omega) (fun _ _ _ _ _ => rfl) hb
  simpa only [St.need_true] using this
theorem Seg.map (h : Seg P enc valid) (f : α → β) (enc' : β → List UInt8) (he : ∀ a, valid a → enc' (f a) = enc a) : Seg (fun s => (f (P s).1, (P s).2)) enc' (fun b => ∃ a, b = f a ∧ valid a) where
  ok b r hv := by
    obtain ⟨a, rfl, hv⟩ := hv
    show (f (P _).1, (P _).2) = _
    rw [he a hv, h.ok a r hv]
  back b hb := by
    obtain ⟨r, hv, hr, hs⟩ := h.back b hb
    exact ⟨r, ⟨_, rfl, hv⟩, by rw [show enc' (f (P (St.new b)).1) = _ from he _ hv]; exact hr, hs⟩
  bad s hs := h.bad s hs
theorem Seg.congr (h : Seg P enc valid) {P' : St → α × St} (hp : ∀ s, P' s = P s) {enc' : α → List UInt8} (he : ∀ a, valid a → enc' a = enc a) {valid' : α → Prop} (hv : ∀ a, valid' a ↔ valid a) : Seg P' enc' valid' where
  ok a r h1 := by rw [hp, he a ((hv a).1 h1)]; exact h.ok a r ((hv a).1 h1)
  back b hb := by
    rw [hp] at hb ⊢
    obtain ⟨r, h1, h2, h3⟩ := h.back b hb
    exact ⟨r, (hv _).2 h1, by rw [he _ h1]; exact h2, h3⟩
  bad s hs := by rw [hp]; exact h.bad s hs
end

/-! many, one behind another, with a number that is carried on -/
section
variable {α : Type} (part : Nat → St → α × St) (step : α → Nat) (enc : α → List UInt8) (valid : Nat → α → Prop)

def many : Nat → Nat → St → List α × St
  | 0, _, s => ([], s)
  | f + 1, sum, s => if s.xs = [] ∨ s.e ≠ 0 then ([], s) else ((part sum s).1 :: (many f (sum + step (part sum s).1) (part sum s).2).1, (many f (sum + step (part sum s).1) (part sum s).2).2)
def okMany : Nat → List α → Prop
  | _, [] => True
  | sum, x :: l => valid sum x ∧ okMany (sum + step x) l
def encMany : List α → List UInt8
  | [] => []
  | x :: l => enc x ++ encMany l

variable {part step enc valid}
theorem many_stop (f sum : Nat) {s : St} (h : s.xs = [] ∨ s.e ≠ 0) : many part step f sum s = ([], s) := by
  cases f with
  | zero => rfl
  | succ f => rw [many, if_pos h]
theorem many_go (f sum : Nat) {s : St} (h : ¬ (s.xs = [] ∨ s.e ≠ 0)) : many part step (f + 1) sum s = ((part sum s).1 :: (many part step f (sum + step (part sum s).1) (part sum s).2).1, (many part step f (sum + step (part sum s).1) (part sum s).2).2) := by
  rw [many, if_neg h]
theorem encMany_append (l r : List α) : encMany enc (l ++ r) = encMany enc l ++ encMany enc r := by
  induction l with
  | nil => rfl
  | cons x l ih => rw [List.cons_append, encMany, encMany, ih, List.append_assoc]
theorem many_ok (hg : ∀ sum, Seg (part sum) enc (valid sum)) (hpos : ∀ sum x, valid sum x → 0 < (enc x).length) :
    ∀ (l : List α) (f sum : Nat), okMany step valid sum l → (encMany enc l).length ≤ f → many part step f sum (St.new (encMany enc l)) = (l, St.new [])
  | [], f, sum, _, _ => many_stop f sum (.inl rfl)
  | x :: l, f, sum, hv, hf => by
    have hp := hpos sum x hv.1
    rw [encMany, List.length_append] at hf
    have hn : ¬ ((St.new (encMany enc (x :: l))).xs = [] ∨ (St.new (encMany enc (x :: l))).e ≠ 0) := by
      rintro (h | h)
      · have : (enc x ++ encMany enc l).length = 0 := congrArg List.length h
        rw [List.length_append] at this; omega
      · exact h rfl
    obtain ⟨f', rfl⟩ : ∃ f', f = f' + 1 := ⟨f - 1, by omega⟩
    have h1 : part sum (St.new (encMany enc (x :: l))) = (x, St.new (encMany enc l)) := (hg sum).ok x _ hv.1
    rw [many_go f' sum hn, h1]
    show (x :: (many part step f' (sum + step x) (St.new (encMany enc l))).1, (many part step f' (sum + step x) (St.new (encMany enc l))).2) = _
    rw [many_ok hg hpos l f' (sum + step x) hv.2 (by omega)]
theorem many_back (hg : ∀ sum, Seg (part sum) enc (valid sum)) (hpos : ∀ sum x, valid sum x → 0 < (enc x).length) :
    ∀ (f sum : Nat) (b : List UInt8), b.length ≤ f → (many part step f sum (St.new b)).2.e = 0 → okMany step valid sum (many part step f sum (St.new b)).1 ∧ b = encMany enc (many part step f sum (St.new b)).1 ∧ (many part step f sum (St.new b)).2 = St.new []
  | 0, sum, b, hb, _ => by
    have : b = [] := List.eq_nil_of_length_eq_zero (by omega)
    subst this
    exact ⟨trivial, rfl, rfl⟩
  | f + 1, sum, b, hb, hz => by
    by_cases hn : (St.new b).xs = [] ∨ (St.new b).e ≠ 0
    · have hbn : b = [] := by
        rcases hn with h | h
        · exact h
        · exact absurd rfl h
      subst hbn
      rw [many_stop (f + 1) sum hn]
      exact ⟨trivial, rfl, rfl⟩
    · rw [many_go f sum hn] at hz ⊢
      have h0 : (part sum (St.new b)).2.e = 0 := by
        by_cases h0 : (part sum (St.new b)).2.e = 0
        · exact h0
        · have hz' : (many part step f (sum + step (part sum (St.new b)).1) (part sum (St.new b)).2).2.e = 0 := hz
          rw [many_stop f _ (.inr h0)] at hz'
          exact absurd hz' h0
      obtain ⟨r, hv, hr, hs⟩ := (hg sum).back b h0
      have hp := hpos sum _ hv
      have hl : r.length ≤ f := by
        have := congrArg List.length hr
        rw [List.length_append] at this; omega
      have hz' : (many part step f (sum + step (part sum (St.new b)).1) (part sum (St.new b)).2).2.e = 0 := hz
      rw [hs] at hz'
      obtain ⟨i1, i2, i3⟩ := many_back hg hpos f _ r hl hz'
      refine ⟨⟨hv, ?_⟩, ?_, ?_⟩
      · rw [hs]; exact i1
      · show b = enc (part sum (St.new b)).1 ++ encMany enc (many part step f (sum + step (part sum (St.new b)).1) (part sum (St.new b)).2).1
        rw [hs, ← i2, ← hr]
      · show (many part step f (sum + step (part sum (St.new b)).1) (part sum (St.new b)).2).2 = _
        rw [hs]; exact i3
end

/-! a block of so many bytes, read whole, with many within it -/
section
variable {α : Type} (part : Nat → St → α × St) (step : α → Nat) (enc : α → List UInt8) (valid : Nat → α → Prop)
/-- What is wrong within a block: what can't be read is a wrong count. -/
def blockE (D : List UInt8) : Int := if (many part step D.length 0 (St.new D)).2.e = 2 then 5 else (many part step D.length 0 (St.new D)).2.e
def rBlock (n : Nat) (s : St) : List α × St :=
  ((many part step (s.got (n : Int) 1).length 0 (St.new (s.got (n : Int) 1))).1, (s.next (n : Int) 1).need (decide (blockE part step (s.got (n : Int) 1) = 0)) (blockE part step (s.got (n : Int) 1)))
variable {part step enc valid}
theorem blockE_zero {D : List UInt8} : blockE part step D = 0 ↔ (many part step D.length 0 (St.new D)).2.e = 0 := by
  unfold blockE
  split
  · rename_i h; rw [h]; omega
  · exact Iff.rfl
theorem block_good (hg : ∀ sum, Seg (part sum) enc (valid sum)) (hpos : ∀ sum x, valid sum x → 0 < (enc x).length) (n : Nat) :
    Rdr (rBlock part step n) (encMany enc) (fun l => okMany step valid 0 l ∧ (encMany enc l).length = n) where
  ok l r h := by
    obtain ⟨h1, h2⟩ := h
    subst h2
    unfold rBlock
    rw [St.got_new _ _ _ (by simp), St.next_new _ _ _ (by simp), Nat.mul_one, List.take_left, List.drop_left]
    have hm := many_ok hg hpos l (encMany enc l).length 0 h1 (Nat.le_refl _)
    have hz : blockE part step (encMany enc l) = 0 := blockE_zero.2 (by rw [hm]; rfl)
    rw [hm, hz, show decide ((0 : Int) = 0) = true from rfl, St.need_true]
  back b hb := by
    have hb' : ((St.new b).next (n : Int) 1 |>.need (decide (blockE part step ((St.new b).got (n : Int) 1) = 0)) (blockE part step ((St.new b).got (n : Int) 1))).e = 0 := hb
    by_cases hz : blockE part step ((St.new b).got (n : Int) 1) = 0
    · rw [hz, show decide ((0 : Int) = 0) = true from rfl, St.need_true] at hb'
      have hn := St.next_zero (n := n) (size := 1) hb'
      have hg' : (St.new b).got (n : Int) 1 = b.take n := by rw [St.got_new _ _ _ hn, Nat.mul_one]
      rw [hg'] at hz
      obtain ⟨i1, i2, i3⟩ := many_back hg hpos (b.take n).length 0 (b.take n) (Nat.le_refl _) (blockE_zero.1 hz)
      refine ⟨b.drop n, ?_, ?_, ?_⟩
      · show okMany step valid 0 (rBlock part step n (St.new b)).1 ∧ _
        unfold rBlock
        rw [hg']
        exact ⟨i1, by rw [← i2]; simp; omega⟩
      · unfold rBlock
        rw [hg']
        show b = encMany enc (many part step (b.take n).length 0 (St.new (b.take n))).1 ++ b.drop n
        rw [← i2, List.take_append_drop]
      · unfold rBlock
        rw [hg', hz, show decide ((0 : Int) = 0) = true from rfl, St.need_true, St.next_new _ _ _ hn, Nat.mul_one]
    · exfalso
      rw [show decide (blockE part step ((St.new b).got (n : Int) 1) = 0) = false from decide_eq_false hz] at hb'
      by_cases h0 : ((St.new b).next (n : Int) 1).e = 0
      · unfold St.need at hb'
        rw [if_pos ⟨h0, rfl⟩] at hb'
        exact hz hb'
      · rw [St.need_bad _ _ _ h0] at hb'
        exact h0 hb'
  short l k h hk := by
    obtain ⟨h1, h2⟩ := h
    unfold rBlock
    have hs := St.next_short ((encMany enc l).take k) n 1 (by simp; omega)
    show ((St.new ((encMany enc l).take k)).next (n : Int) ((1 : Nat)) |>.need _ _).e = 2
    rw [hs]
    rw [St.need_bad _ _ _ (by show (2 : Int) ≠ 0; omega)]
  bad s hs := by
    have h2 := St.next_bad s (n : Int) 1 hs
    show ((s.next (n : Int) 1).need _ _).e = s.e
    rw [St.need_bad _ _ _ (by rw [h2]; exact hs), h2]
end

end Go.Proofs.Ytolkcohmoalnhaa
