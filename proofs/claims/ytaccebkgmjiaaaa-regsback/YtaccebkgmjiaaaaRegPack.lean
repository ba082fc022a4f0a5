/-
  Package regs, on lists: its forms by directions and codes.
-/
import Derived.Test.YtaccebkgmjiaaaaPack
import Derived.Test.YtaccebkgmjiaaaaRegMath
namespace Go.Proofs.Ytaccebkgmjiaaaa
open Go.RowKit
open Word Bits Cursor

namespace Regs
/-- The forms, by numbers: asked, told, one, some, done, mask, both, queue, list. -/
abbrev Frm := Fin 9
theorem Frm.nine (f : Frm) : f = 0 ∨ f = 1 ∨ f = 2 ∨ f = 3 ∨ f = 4 ∨ f = 5 ∨ f = 6 ∨ f = 7 ∨ f = 8 := by
  revert f
  decide
def rWord (s : St) : UInt16 × St := (s.word, s.afterW)
def putAsk (m : MsgM) (x : UInt16 × UInt16) : MsgM := (m.put_addr x.1).put_count x.2
def putOne (m : MsgM) (x : UInt16 × UInt16) : MsgM := (m.put_addr x.1).put_value x.2
def putTold (m : MsgM) (x : UInt8 × List UInt16) : MsgM := m.put_words x.2
def putSome (m : MsgM) (x : (UInt16 × UInt16) × (UInt8 × List UInt16)) : MsgM := (putAsk m x.1).put_words x.2.2
def putMask (m : MsgM) (x : (UInt16 × UInt16) × UInt16) : MsgM := ((m.put_addr x.1.1).put_and x.1.2).put_or x.2
def putBoth (m : MsgM) (x : ((UInt16 × UInt16) × (UInt16 × UInt16)) × (UInt8 × List UInt16)) : MsgM := ((putAsk m x.1.1).put_addr2 x.1.2.1).put_words x.2.2
def putQueue (m : MsgM) (x : (UInt16 × UInt16) × List UInt16) : MsgM := m.put_words x.2
def Frm.read : Frm → MsgM × St → MsgM × St
  | 0 => fun r => (putAsk r.1 (rAsk 125 r.2).1, (rAsk 125 r.2).2)
  | 1 => fun r => (putTold r.1 (rTold r.2).1, (rTold r.2).2)
  | 2 => fun r => (putOne r.1 (rTwo r.2).1, (rTwo r.2).2)
  | 3 => fun r => (putSome r.1 (rSome r.2).1, (rSome r.2).2)
  | 4 => fun r => (putAsk r.1 (rAsk 123 r.2).1, (rAsk 123 r.2).2)
  | 5 => fun r => (putMask r.1 (rThree r.2).1, (rThree r.2).2)
  | 6 => fun r => (putBoth r.1 (rBoth r.2).1, (rBoth r.2).2)
  | 7 => fun r => (r.1.put_addr (rWord r.2).1, (rWord r.2).2)
  | 8 => fun r => (putQueue r.1 (rQueue r.2).1, (rQueue r.2).2)
/-- Words behind two times their number. -/
def counted (l : List UInt16) : List UInt8 := UInt8.ofNat (2 * l.length) :: putW l
def Frm.bytes : Frm → MsgM → List UInt8
  | 0, m => putW [m.addr, m.count]
  | 1, m => counted m.words
  | 2, m => putW [m.addr, m.value]
  | 3, m => putW [m.addr, m.count] ++ counted m.words
  | 4, m => putW [m.addr, m.count]
  | 5, m => putW [m.addr, m.and_, m.or_]
  | 6, m => putW [m.addr, m.count, m.addr2, UInt16.ofNat m.words.length] ++ counted m.words
  | 7, m => putW [m.addr]
  | 8, m => putW [UInt16.ofNat (2 * m.words.length + 2), UInt16.ofNat m.words.length] ++ putW m.words
def Frm.valid (c : UInt8) : Frm → MsgM → Prop
  | 0, m => ∃ x, m = putAsk (MsgM.of c) x ∧ okSpan 125 x.1 x.2
  | 1, m => ∃ x, m = putTold (MsgM.of c) x ∧ (x.1.toNat % 2 = 0 ∧ 1 ≤ x.1.toNat ∧ x.1.toNat ≤ 250) ∧ x.2.length = x.1.toNat / 2
  | 2, m => ∃ x, m = putOne (MsgM.of c) x ∧ True
  | 3, m => ∃ x, m = putSome (MsgM.of c) x ∧ okSpan 123 x.1.1 x.1.2 ∧ x.2.1.toNat = 2 * x.1.2.toNat ∧ x.2.2.length = x.1.2.toNat
  | 4, m => ∃ x, m = putAsk (MsgM.of c) x ∧ okSpan 123 x.1 x.2
  | 5, m => ∃ x, m = putMask (MsgM.of c) x ∧ True
  | 6, m => ∃ x, m = putBoth (MsgM.of c) x ∧ (okSpan 125 x.1.1.1 x.1.1.2 ∧ okSpan 121 x.1.2.1 x.1.2.2) ∧ x.2.1.toNat = 2 * x.1.2.2.toNat ∧ x.2.2.length = x.1.2.2.toNat
  | 7, m => ∃ x, m = (MsgM.of c).put_addr x ∧ True
  | 8, m => ∃ x, m = putQueue (MsgM.of c) x ∧ ((x.1.1.toNat % 2 = 0 ∧ 2 ≤ x.1.1.toNat ∧ x.1.1.toNat ≤ 64) ∧ x.1.1.toNat = 2 * x.1.2.toNat + 2) ∧ x.2.length = x.1.2.toNat
theorem byte_of {n : UInt8} {k : Nat} (h : n.toNat = k) : UInt8.ofNat k = n := by rw [← h]; simp
theorem word_of {n : UInt16} {k : Nat} (h : n.toNat = k) : UInt16.ofNat k = n := by rw [← h]; simp
theorem counted_eq {n : UInt8} {l : List UInt16} (h : n.toNat = 2 * l.length) : counted l = [n] ++ putW l := by
  unfold counted
  rw [byte_of h]; rfl
theorem good (c : UInt8) (f : Frm) : Rdr (fun s => f.read (MsgM.of c, s)) f.bytes (f.valid c) := by
  rcases Frm.nine f with rfl | rfl | rfl | rfl | rfl | rfl | rfl | rfl | rfl
  · exact (ask_good 125).map (putAsk (MsgM.of c)) (Frm.bytes 0) (fun _ _ => rfl)
  · exact told_good.map (putTold (MsgM.of c)) (Frm.bytes 1) (fun x h => counted_eq (l := x.2) (by omega))
  · exact two_good.map (putOne (MsgM.of c)) (Frm.bytes 2) (fun _ _ => rfl)
  · exact some_good.map (putSome (MsgM.of c)) (Frm.bytes 3) (fun x h => by
      show putW [x.1.1, x.1.2] ++ counted x.2.2 = _
      rw [counted_eq (n := x.2.1) (by omega)]; rfl)
  · exact (ask_good 123).map (putAsk (MsgM.of c)) (Frm.bytes 4) (fun _ _ => rfl)
  · exact three_good.map (putMask (MsgM.of c)) (Frm.bytes 5) (fun _ _ => rfl)
  · exact both_good.map (putBoth (MsgM.of c)) (Frm.bytes 6) (fun x h => by
      show putW [x.1.1.1, x.1.1.2, x.1.2.1, UInt16.ofNat x.2.2.length] ++ counted x.2.2 = _
      rw [counted_eq (n := x.2.1) (by omega), word_of (n := x.1.2.2) h.2.2.symm]; rfl)
  · exact Rdr.word.map (fun x => (MsgM.of c).put_addr x) (Frm.bytes 7) (fun _ _ => rfl)
  · exact queue_good.map (putQueue (MsgM.of c)) (Frm.bytes 8) (fun x h => by
      show putW [UInt16.ofNat (2 * x.2.length + 2), UInt16.ofNat x.2.length] ++ putW x.2 = _
      rw [word_of (n := x.1.1) (by omega), word_of (n := x.1.2) (by omega)]; rfl)
def formOf (dir : Int) (c : UInt8) : Option Frm :=
  if dir = 0 then (if c = 3 ∨ c = 4 then some 0 else if c = 6 then some 2 else if c = 16 then some 3 else if c = 22 then some 5 else if c = 23 then some 6 else if c = 24 then some 7 else none)
  else if dir = 1 then (if c = 3 ∨ c = 4 ∨ c = 23 then some 1 else if c = 6 then some 2 else if c = 16 then some 4 else if c = 22 then some 5 else if c = 24 then some 8 else none)
  else none
theorem form_dir (d : Int) (c : UInt8) (f : Frm) (h : formOf d c = some f) : d = 0 ∨ d = 1 := by
  unfold formOf at h
  by_cases h0 : d = 0
  · exact .inl h0
  by_cases h1 : d = 1
  · exact .inr h1
  · rw [if_neg h0, if_neg h1] at h; cases h
theorem valid_code (c : UInt8) (f : Frm) (m : MsgM) (h : f.valid c m) : m.code = c := by
  rcases Frm.nine f with rfl | rfl | rfl | rfl | rfl | rfl | rfl | rfl | rfl <;> (obtain ⟨x, rfl, _⟩ := h; rfl)
theorem valid_pos (c : UInt8) (f : Frm) (m : MsgM) (_h : f.valid c m) : 0 < (f.bytes m).length := by
  rcases Frm.nine f with rfl | rfl | rfl | rfl | rfl | rfl | rfl | rfl | rfl <;> exact Nat.succ_pos _
/-- Few words. -/
theorem valid_words (c : UInt8) (f : Frm) (m : MsgM) (h : f.valid c m) : m.words.length ≤ 125 ∧ m.bits = [] ∧ m.data = [] ∧ m.recs = [] ∧ m.objects = [] := by
  rcases Frm.nine f with rfl | rfl | rfl | rfl | rfl | rfl | rfl | rfl | rfl
  · obtain ⟨x, rfl, _⟩ := h; exact ⟨Nat.zero_le _, rfl, rfl, rfl, rfl⟩
  · obtain ⟨x, rfl, h⟩ := h; exact ⟨by show x.2.length ≤ 125; omega, rfl, rfl, rfl, rfl⟩
  · obtain ⟨x, rfl, _⟩ := h; exact ⟨Nat.zero_le _, rfl, rfl, rfl, rfl⟩
  · obtain ⟨x, rfl, h, _, h2⟩ := h; exact ⟨by show x.2.2.length ≤ 125; have := h.2.1; omega, rfl, rfl, rfl, rfl⟩
  · obtain ⟨x, rfl, _⟩ := h; exact ⟨Nat.zero_le _, rfl, rfl, rfl, rfl⟩
  · obtain ⟨x, rfl, _⟩ := h; exact ⟨Nat.zero_le _, rfl, rfl, rfl, rfl⟩
  · obtain ⟨x, rfl, h, _, h2⟩ := h; exact ⟨by show x.2.2.length ≤ 125; have := h.2.2.1; omega, rfl, rfl, rfl, rfl⟩
  · obtain ⟨x, rfl, _⟩ := h; exact ⟨Nat.zero_le _, rfl, rfl, rfl, rfl⟩
  · obtain ⟨x, rfl, h⟩ := h; exact ⟨by show x.2.length ≤ 125; omega, rfl, rfl, rfl, rfl⟩
theorem valid_len (c : UInt8) (f : Frm) (m : MsgM) (h : f.valid c m) : (f.bytes m).length ≤ 90000 := by
  have hw := (valid_words c f m h).1
  have hl := putW_length m.words
  rcases Frm.nine f with rfl | rfl | rfl | rfl | rfl | rfl | rfl | rfl | rfl <;> simp [Frm.bytes, counted, putW_length] <;> omega
theorem valid_small (c : UInt8) (f : Frm) (m : MsgM) (h : f.valid c m) : m.Small := by
  obtain ⟨h0, h1, h2, h3, h4⟩ := valid_words c f m h
  exact ⟨by omega, by rw [h1]; simp, by rw [h2]; simp, by rw [h3]; simp, by rw [h4]; simp, by rw [h3]; simp, by rw [h4]; simp⟩
def pack : Pack := ⟨Frm, formOf, Frm.read, Frm.bytes, fun c f m => f.valid c m, good, valid_code, form_dir, valid_pos, valid_len, valid_small⟩
end Regs

end Go.Proofs.Ytaccebkgmjiaaaa
