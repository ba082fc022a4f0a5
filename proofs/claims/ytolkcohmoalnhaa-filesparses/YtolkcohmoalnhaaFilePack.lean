/-
  Package files, on lists: parts of files, read within a block; messages and forms are one to one.
-/
import Derived.Test.YtolkcohmoalnhaaPack
import Derived.Test.YtolkcohmoalnhaaSegment
namespace Go.Proofs.Ytolkcohmoalnhaa
open Go.RowKit
open Word Bits Cursor

namespace Files
/-- The forms, by numbers: parts asked for, parts told, parts written (both ways). -/
abbrev Frm := Fin 3
theorem Frm.three (f : Frm) : f = 0 ∨ f = 1 ∨ f = 2 := by
  revert f
  decide
def enc2 (x : UInt16) : List UInt8 := [hiB x, loB x]

/-! a part's head -/
def rHead (s : St) : (((UInt8 × UInt16) × UInt16) × UInt16) × St :=
  let s1 := s.afterB.need (decide (s.byte.toNat = 6)) 9
  let s2 := s1.afterW.need (decide (0 < s1.word.toNat)) 6
  let s3 := s2.afterW.need (decide (s2.word.toNat ≤ 9999)) 7
  ((((s.byte, s1.word), s2.word), s3.word), s3.afterW.need (decide (0 < s3.word.toNat)) 5)
theorem head_good : Rdr rHead (fun x => (([x.1.1.1] ++ enc2 x.1.1.2) ++ enc2 x.1.2) ++ enc2 x.2) (fun x => ((x.1.1.1.toNat = 6 ∧ 0 < x.1.1.2.toNat) ∧ x.1.2.toNat ≤ 9999) ∧ 0 < x.2.toNat) :=
  ((((Rdr.byte.need (fun k => decide (k.toNat = 6)) 9 (by omega)).bind (fun _ _ => Rdr.word.need (fun x => decide (0 < x.toNat)) 6 (by omega)) (fun _ s h => (Rdr.word.need (fun x => decide (0 < x.toNat)) 6 (by omega)).bad s h)).bind (fun _ _ => Rdr.word.need (fun x => decide (x.toNat ≤ 9999)) 7 (by omega)) (fun _ s h => (Rdr.word.need (fun x => decide (x.toNat ≤ 9999)) 7 (by omega)).bad s h)).bind (fun _ _ => Rdr.word.need (fun x => decide (0 < x.toNat)) 5 (by omega)) (fun _ s h => (Rdr.word.need (fun x => decide (0 < x.toNat)) 5 (by omega)).bad s h)).congr (fun _ => rfl) (fun _ _ => rfl) (fun _ => by simp)
def headRec (x : ((UInt8 × UInt16) × UInt16) × UInt16) (l : List UInt16) : RecM := ⟨x.1.1.2, x.1.2, x.2, l⟩
def step (x : RecM) : Nat := 2 + 2 * x.count.toNat

/-! parts -/
def rAsk (sum : Nat) (s : St) : RecM × St := (headRec (rHead s).1 [], (rHead s).2.need (decide (sum + (2 + 2 * (rHead s).1.2.toNat) ≤ 245)) 5)
def rBoth (s : St) : RecM × St :=
  let t := (rHead s).2.need (decide (2 * (rHead s).1.2.toNat ≤ (rHead s).2.xs.length)) 5
  (headRec (rHead s).1 (takeW (t.got ((rHead s).1.2.toNat : Int) 2)), t.next ((rHead s).1.2.toNat : Int) 2)
def toldOk (k left : Nat) : Bool := decide (k % 2 = 1) && decide (3 ≤ k) && decide (k ≤ left)
def rTold (s : St) : RecM × St :=
  let t := s.afterB.need (toldOk s.byte.toNat s.afterB.xs.length) 5
  let u := t.afterB.need (decide (t.byte.toNat = 6)) 9
  (⟨0, 0, 0, takeW (u.got (((s.byte.toNat - 1) / 2 : Nat) : Int) 2)⟩, u.next (((s.byte.toNat - 1) / 2 : Nat) : Int) 2)
def part : Frm → Nat → St → RecM × St
  | 0, sum, s => rAsk sum s
  | 1, _, s => rTold s
  | 2, _, s => rBoth s
def enc : Frm → RecM → List UInt8
  | 0, x => [6] ++ putW [x.file, x.record, x.count] ++ putW x.words
  | 1, x => [UInt8.ofNat (2 * x.words.length + 1), 6] ++ putW x.words
  | 2, x => [6] ++ putW [x.file, x.record, x.count] ++ putW x.words
def valid : Frm → Nat → RecM → Prop
  | 0, sum, x => 0 < x.file.toNat ∧ x.record.toNat ≤ 9999 ∧ 0 < x.count.toNat ∧ x.words = [] ∧ sum + step x ≤ 245
  | 1, _, x => x.file = 0 ∧ x.record = 0 ∧ x.count = 0 ∧ 1 ≤ x.words.length ∧ x.words.length ≤ 127
  | 2, _, x => 0 < x.file.toNat ∧ x.record.toNat ≤ 9999 ∧ 0 < x.count.toNat ∧ x.words.length = x.count.toNat
theorem six {k : UInt8} (h : k.toNat = 6) : k = 6 := UInt8.toNat_inj.1 h
theorem recM_eq {x : RecM} {f r c : UInt16} {l : List UInt16} (h1 : x.file = f) (h2 : x.record = r) (h3 : x.count = c) (h4 : x.words = l) : x = ⟨f, r, c, l⟩ := by
  cases x; simp_all
theorem ask_good (sum : Nat) : Seg (rAsk sum) (enc 0) (valid 0 sum) :=
  ((head_good.need (fun x => decide (sum + (2 + 2 * x.2.toNat) ≤ 245)) 5 (by omega)).seg.map (fun x => headRec x []) (enc 0) (fun x h => by
    show [6] ++ putW [x.1.1.2, x.1.2, x.2] ++ putW [] = _
    rw [six h.1.1.1.1]; rfl)).congr (fun _ => rfl) (fun _ _ => rfl) (fun x => by
    constructor
    · rintro ⟨h1, h2, h3, h4, h5⟩
      exact ⟨(((6, x.file), x.record), x.count), recM_eq rfl rfl rfl h4, ⟨⟨⟨rfl, h1⟩, h2⟩, h3⟩, decide_eq_true h5⟩
    · rintro ⟨y, rfl, ⟨⟨⟨_, h1⟩, h2⟩, h3⟩, h4⟩
      exact ⟨h1, h2, h3, rfl, of_decide_eq_true h4⟩)
theorem both_good : Seg rBoth (enc 2) (valid 2 0) :=
  ((head_good.seg.guard (fun x _ => (Rdr.words x.2.toNat).seg) (fun x left => decide (2 * x.2.toNat ≤ left)) 5 (by omega) (fun x l r _ h => by
    simp only [decide_eq_true_eq, List.length_append, putW_length]; omega) (fun x s h => (Rdr.words x.2.toNat).bad s h)).map (fun x => headRec x.1 x.2) (enc 2) (fun x h => by
    show [6] ++ putW [x.1.1.1.2, x.1.1.2, x.1.2] ++ putW x.2 = _
    rw [six h.1.1.1.1]; rfl)).congr (fun _ => rfl) (fun _ _ => rfl) (fun x => by
    constructor
    · rintro ⟨h1, h2, h3, h4⟩
      exact ⟨((((6, x.file), x.record), x.count), x.words), rfl, ⟨⟨⟨rfl, h1⟩, h2⟩, h3⟩, h4⟩
    · rintro ⟨y, rfl, ⟨⟨⟨_, h1⟩, h2⟩, h3⟩, h4⟩
      exact ⟨h1, h2, h3, h4⟩)
theorem need_and (s : St) (p q : Bool) (e : Int) (he : e ≠ 0) : s.need (p && q) e = (s.need p e).need q e := by
  unfold St.need
  by_cases h0 : s.e = 0 <;> cases p <;> cases q <;> simp [h0, he]
theorem told_good : Seg rTold (enc 1) (valid 1 0) :=
  (((Rdr.byte.need (fun k => decide (k.toNat % 2 = 1) && decide (3 ≤ k.toNat)) 5 (by omega)).seg.guard (fun k _ => (Rdr.byte.need (fun j => decide (j.toNat = 6)) 9 (by omega)).bind (fun _ _ => Rdr.words ((k.toNat - 1) / 2)) (fun _ s h => (Rdr.words ((k.toNat - 1) / 2)).bad s h) |>.seg) (fun k left => decide (k.toNat ≤ left)) 5 (by omega) (fun k x r hk hx => by
    have h1 := hk.2
    have h2 := hx.2
    simp only [Bool.and_eq_true, decide_eq_true_eq] at h1
    simp only [decide_eq_true_eq, List.length_append, putW_length, List.length_cons, List.length_nil]
    omega) (fun k s h => ((Rdr.byte.need (fun j => decide (j.toNat = 6)) 9 (by omega)).bind (fun _ _ => Rdr.words ((k.toNat - 1) / 2)) (fun _ s h => (Rdr.words ((k.toNat - 1) / 2)).bad s h)).bad s h)).map (fun x => (⟨0, 0, 0, x.2.2⟩ : RecM)) (enc 1) (fun x h => by
    have h1 := h.1.2
    have h2 := h.2.2
    have h3 := h.2.1.2
    simp only [Bool.and_eq_true, decide_eq_true_eq] at h1 h3
    show [UInt8.ofNat (2 * x.2.2.length + 1), 6] ++ putW x.2.2 = _
    rw [h2, show 2 * ((x.1.toNat - 1) / 2) + 1 = x.1.toNat by omega, UInt8.ofNat_toNat, six h3]; rfl)).congr (fun s => by
    unfold rTold toldOk
    rw [need_and _ _ _ _ (by omega)]
    have hl : (s.afterB.need (decide (s.byte.toNat % 2 = 1) && decide (3 ≤ s.byte.toNat)) 5).xs = s.afterB.xs := by unfold St.need; split <;> rfl
    simp only [hl]) (fun _ _ => rfl) (fun x => by
    constructor
    · rintro ⟨h1, h2, h3, h4, h5⟩
      have hn : (UInt8.ofNat (2 * x.words.length + 1)).toNat = 2 * x.words.length + 1 := by rw [UInt8.toNat_ofNat', Nat.mod_eq_of_lt (by omega)]
      exact ⟨(UInt8.ofNat (2 * x.words.length + 1), (6, x.words)), recM_eq h1 h2 h3 rfl, ⟨trivial, by rw [hn]; simp; omega⟩, ⟨trivial, rfl⟩, by show x.words.length = _; rw [hn]; omega⟩
    · rintro ⟨y, rfl, ⟨_, h1⟩, ⟨_, h2⟩, h3⟩
      have hb := byte_lt y.1
      simp only [Bool.and_eq_true, decide_eq_true_eq] at h1
      have h3' : y.2.2.length = (y.1.toNat - 1) / 2 := h3
      exact ⟨rfl, rfl, rfl, by show 1 ≤ y.2.2.length; omega, by show y.2.2.length ≤ 127; omega⟩)
theorem part_good (f : Frm) (sum : Nat) : Seg (part f sum) (enc f) (valid f sum) := by
  rcases Frm.three f with rfl | rfl | rfl
  · exact ask_good sum
  · exact told_good
  · exact both_good
theorem enc_pos (f : Frm) (x : RecM) : 2 ≤ (enc f x).length := by
  rcases Frm.three f with rfl | rfl | rfl <;> simp [enc, putW_length] <;> omega

/-! a form -/
def ruleN : Frm → Nat → Bool
  | 0, n => decide (7 ≤ n) && decide (n ≤ 245) && decide (n % 7 = 0)
  | 1, n => decide (4 ≤ n) && decide (n ≤ 245)
  | 2, n => decide (9 ≤ n) && decide (n ≤ 251)
def rForm (f : Frm) (s : St) : (UInt8 × List RecM) × St :=
  ((s.byte, (rBlock (part f) step s.byte.toNat (s.afterB.need (ruleN f s.byte.toNat) 5)).1), (rBlock (part f) step s.byte.toNat (s.afterB.need (ruleN f s.byte.toNat) 5)).2)
theorem form_good (f : Frm) : Rdr (rForm f) (fun x => [x.1] ++ encMany (enc f) x.2) (fun x => ruleN f x.1.toNat = true ∧ okMany step (valid f) 0 x.2 ∧ (encMany (enc f) x.2).length = x.1.toNat) :=
  ((Rdr.byte.need (fun n => ruleN f n.toNat) 5 (by omega)).bind (fun n _ => block_good (part_good f) (fun _ x _ => by have := enc_pos f x; omega) n.toNat) (fun n s h => (block_good (part_good f) (fun _ x _ => by have := enc_pos f x; omega) n.toNat).bad s h)).congr (fun _ => rfl) (fun _ _ => rfl) (fun _ => by simp)
def putRecs (m : MsgM) (x : UInt8 × List RecM) : MsgM := m.put_recs x.2
def Frm.read (f : Frm) (r : MsgM × St) : MsgM × St := (putRecs r.1 (rForm f r.2).1, (rForm f r.2).2)
def Frm.bytes (f : Frm) (m : MsgM) : List UInt8 := [UInt8.ofNat (encMany (enc f) m.recs).length] ++ encMany (enc f) m.recs
def Frm.valid (c : UInt8) (f : Frm) (m : MsgM) : Prop := ∃ x, m = putRecs (MsgM.of c) x ∧ ruleN f x.1.toNat = true ∧ okMany step (Files.valid f) 0 x.2 ∧ (encMany (enc f) x.2).length = x.1.toNat
theorem good (c : UInt8) (f : Frm) : Rdr (fun s => f.read (MsgM.of c, s)) f.bytes (f.valid c) :=
  (form_good f).map (putRecs (MsgM.of c)) f.bytes (fun x h => by
    show [UInt8.ofNat (encMany (enc f) x.2).length] ++ encMany (enc f) x.2 = _
    rw [h.2.2, UInt8.ofNat_toNat])
def formOf (dir : Int) (c : UInt8) : Option Frm :=
  if dir = 0 then (if c = 20 then some 0 else if c = 21 then some 2 else none)
  else if dir = 1 then (if c = 20 then some 1 else if c = 21 then some 2 else none)
  else none
theorem form_dir (d : Int) (c : UInt8) (f : Frm) (h : formOf d c = some f) : d = 0 ∨ d = 1 := by
  unfold formOf at h
  by_cases h0 : d = 0
  · exact .inl h0
  by_cases h1 : d = 1
  · exact .inr h1
  · rw [if_neg h0, if_neg h1] at h; cases h
theorem valid_code (c : UInt8) (f : Frm) (m : MsgM) (h : f.valid c m) : m.code = c := by obtain ⟨x, rfl, _⟩ := h; rfl
theorem valid_pos (c : UInt8) (f : Frm) (m : MsgM) (_h : f.valid c m) : 0 < (f.bytes m).length := Nat.succ_pos _
theorem valid_bytes (c : UInt8) (f : Frm) (m : MsgM) (h : f.valid c m) : (encMany (enc f) m.recs).length ≤ 251 := by
  obtain ⟨x, rfl, h1, _, h3⟩ := h
  show (encMany (enc f) x.2).length ≤ 251
  rw [h3]
  rcases Frm.three f with rfl | rfl | rfl <;> simp [ruleN] at h1 <;> omega
theorem valid_len (c : UInt8) (f : Frm) (m : MsgM) (h : f.valid c m) : (f.bytes m).length ≤ 90000 := by
  have := valid_bytes c f m h
  unfold Frm.bytes
  rw [List.length_append]
  simp only [List.length_cons, List.length_nil]
  omega
theorem many_len (f : Frm) : ∀ l : List RecM, 2 * l.length ≤ (encMany (enc f) l).length ∧ ∀ x ∈ l, 2 * x.words.length ≤ (encMany (enc f) l).length
  | [] => ⟨Nat.le_refl _, fun _ h => by cases h⟩
  | x :: l => by
    obtain ⟨h1, h2⟩ := many_len f l
    have hp := enc_pos f x
    have hx : 2 * x.words.length ≤ (enc f x).length := by
      rcases Frm.three f with rfl | rfl | rfl <;> simp [enc, putW_length] <;> omega
    rw [encMany, List.length_append, List.length_cons]
    refine ⟨by omega, fun y hy => ?_⟩
    rcases List.mem_cons.1 hy with rfl | hy
    · omega
    · have := h2 y hy; omega
theorem told_len : ∀ (l : List RecM) (sum : Nat), okMany step (Files.valid 1) sum l → 4 * l.length ≤ (encMany (enc 1) l).length
  | [], _, _ => Nat.le_refl _
  | x :: l, sum, h => by
    have h1 := told_len l _ h.2
    have h2 := h.1.2.2.2.1
    rw [encMany, List.length_append, List.length_cons]
    simp only [enc, List.length_append, List.length_cons, List.length_nil, putW_length]
    omega
theorem head_len (f : Frm) (hf : f ≠ 1) : ∀ l : List RecM, 7 * l.length ≤ (encMany (enc f) l).length
  | [] => Nat.le_refl _
  | x :: l => by
    have h1 := head_len f hf l
    rw [encMany, List.length_append, List.length_cons]
    rcases Frm.three f with rfl | rfl | rfl
    · simp only [enc, List.length_append, List.length_cons, List.length_nil, putW_length]; omega
    · exact absurd rfl hf
    · simp only [enc, List.length_append, List.length_cons, List.length_nil, putW_length]; omega
theorem valid_small (c : UInt8) (f : Frm) (m : MsgM) (h : f.valid c m) : m.Small := by
  have hb := valid_bytes c f m h
  obtain ⟨h1, h2⟩ := many_len f m.recs
  obtain ⟨x, rfl, _, h3, _⟩ := h
  have h4 : x.2.length ≤ 62 := by
    have hb' : (encMany (enc f) x.2).length ≤ 251 := hb
    by_cases hf : f = 1
    · subst hf
      have := told_len x.2 0 h3; omega
    · have := head_len f hf x.2; omega
  refine ⟨Nat.zero_le _, Nat.zero_le _, Nat.zero_le _, by show x.2.length ≤ _; omega, Nat.zero_le _, fun r hr => ?_, fun o ho => by cases ho⟩
  have := h2 r hr
  omega
def pack : Pack := ⟨Frm, formOf, Frm.read, Frm.bytes, fun c f m => f.valid c m, good, valid_code, form_dir, valid_pos, valid_len, valid_small⟩
end Files

end Go.Proofs.Ytolkcohmoalnhaa
