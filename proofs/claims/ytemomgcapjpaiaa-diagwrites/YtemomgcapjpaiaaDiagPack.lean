/-
  Package diag, on lists: how forms are read and written; messages and forms are one to one.
-/
import Derived.Test.YtemomgcapjpaiaaWhole
namespace Go.Proofs.Ytemomgcapjpaiaa
open Go.RowKit
open Word Bits Cursor

namespace Diag
def enc2 (x : UInt16) : List UInt8 := [hiB x, loB x]
def sub_is (c : Nat) : Bool := decide (c ≤ 4 ∨ 10 ≤ c ∧ c ≤ 18 ∨ c = 20)
/-- Code 8's word. -/
def may (dir : Int) (sub v : Nat) : Bool :=
  if sub = 1 then decide (v = 0 ∨ v = 65280) else if sub = 3 then decide (v % 256 = 0) else if dir = 1 ∧ (sub = 2 ∨ 11 ≤ sub ∧ sub ≤ 18) then true else decide (v = 0)

/-! all that is left, as words -/
def restOk (n : Nat) : Bool := decide (n % 2 = 0) && decide (2 ≤ n) && decide (n ≤ 250)
def rRest (s : St) : List UInt16 × St :=
  (takeW ((s.need (restOk s.xs.length) 5).got ((s.xs.length / 2 : Nat) : Int) 2), (s.need (restOk s.xs.length) 5).next ((s.xs.length / 2 : Nat) : Int) 2)
theorem rest_good : Whl rRest putW (fun l => 1 ≤ l.length ∧ l.length ≤ 125) where
  ok l h := by
    have hl := putW_length l
    have hr : restOk (putW l).length = true := by unfold restOk; rw [hl]; simp; omega
    show (takeW (((St.new (putW l)).need (restOk (putW l).length) 5).got (((putW l).length / 2 : Nat) : Int) 2), ((St.new (putW l)).need (restOk (putW l).length) 5).next (((putW l).length / 2 : Nat) : Int) 2) = _
    rw [hr, St.need_true, St.got_new _ _ _ (by omega), St.next_new _ _ _ (by omega), List.take_of_length_le (by omega), List.drop_eq_nil_of_le (by omega), takeW_putW]
  back b hb := by
    have h0 := (St.end_zero hb).1
    have h1 := St.next_e h0
    obtain ⟨_, hr, he⟩ := St.need_zero h1 (by omega)
    have hb' : restOk b.length = true := hr
    unfold restOk at hb'
    simp at hb'
    have e1 : (rRest (St.new b)).1 = takeW b := by
      show takeW (((St.new b).need (restOk b.length) 5).got ((b.length / 2 : Nat) : Int) 2) = _
      have he' : (St.new b).need (restOk b.length) 5 = St.new b := he
      rw [he', St.got_new _ _ _ (by omega), List.take_of_length_le (by omega)]
    have e2 : putW (takeW b) = b := by rw [putW_takeW, if_neg (by omega)]
    have e3 : (takeW b).length * 2 = b.length := by have := putW_length (takeW b); rw [e2] at this; omega
    rw [e1]
    exact ⟨by omega, e2.symm⟩
theorem rest_bad (s : St) (h : s.e ≠ 0) : (rRest s).2.e = s.e := by
  show ((s.need _ 5).next _ 2).e = s.e
  rw [St.need_bad _ _ _ h, St.next_bad _ _ _ h]
/-! code 8 -/
def rEnd (dir : Int) (sub : UInt16) (s : St) : List UInt16 × St := if sub = 0 then rRest s else ([s.word], s.afterW.need (may dir sub.toNat s.word.toNat) 6)
def okEnd (dir : Int) (sub : UInt16) (l : List UInt16) : Prop := if sub = 0 then 1 ≤ l.length ∧ l.length ≤ 125 else ∃ v, l = [v] ∧ may dir sub.toNat v.toNat = true
theorem end_good (dir : Int) (sub : UInt16) : Whl (rEnd dir sub) putW (okEnd dir sub) := by
  by_cases h : sub = 0
  · exact rest_good.congr (fun s => by unfold rEnd; rw [if_pos h]) (fun _ _ => rfl) (fun l => by unfold okEnd; rw [if_pos h])
  · refine (((Rdr.word.need (fun v => may dir sub.toNat v.toNat) 6 (by omega)).map (fun v => [v]) putW (fun _ _ => rfl)).whole).congr (fun s => by unfold rEnd; rw [if_neg h]) (fun _ _ => rfl) (fun l => ?_)
    unfold okEnd
    rw [if_neg h]
    exact ⟨fun ⟨v, h1, h2⟩ => ⟨v, h1, trivial, h2⟩, fun ⟨v, h1, _, h2⟩ => ⟨v, h1, h2⟩⟩
theorem end_bad (dir : Int) (sub : UInt16) (s : St) (h : s.e ≠ 0) : (rEnd dir sub s).2.e = s.e := by
  unfold rEnd
  split
  · exact rest_bad s h
  · show (s.afterW.need _ 6).e = s.e
    have h1 := St.afterW_bad s h
    rw [St.need_bad _ _ _ (by rw [h1]; exact h), h1]
def okSub (dir : Int) (sub : UInt16) : Bool := sub_is sub.toNat && (decide (sub.toNat ≠ 4) || decide (dir = 0))
def rSub (dir : Int) (s : St) : (UInt16 × List UInt16) × St :=
  ((s.word, (rEnd dir s.word (s.afterW.need (okSub dir s.word) 8)).1), (rEnd dir s.word (s.afterW.need (okSub dir s.word) 8)).2)
theorem sub_good (dir : Int) : Whl (rSub dir) (fun x => enc2 x.1 ++ putW x.2) (fun x => okSub dir x.1 = true ∧ okEnd dir x.1 x.2) :=
  ((Rdr.word.need (okSub dir) 8 (by omega)).rest (fun a _ => end_good dir a) (fun a s h => end_bad dir a s h)).congr (fun _ => rfl) (fun _ _ => rfl) (fun _ => by simp)
/-! codes 11, 12 and 17 -/
def isBusy (x : UInt16) : Bool := decide (x.toNat = 0) || decide (x.toNat = 65535)
def rStat (s : St) : (UInt16 × UInt16) × St := ((s.word, (s.afterW.need (isBusy s.word) 6).word), (s.afterW.need (isBusy s.word) 6).afterW)
theorem stat_good : Rdr rStat (fun x => enc2 x.1 ++ enc2 x.2) (fun x => isBusy x.1 = true) :=
  ((Rdr.word.need isBusy 6 (by omega)).bind (fun _ _ => Rdr.word) (fun _ s h => Rdr.word.bad s h)).congr (fun _ => rfl) (fun _ _ => rfl) (fun _ => by simp)
def rStat3 (s : St) : ((UInt16 × UInt16) × UInt16) × St := (((rStat s).1, (rStat s).2.word), (rStat s).2.afterW)
theorem stat3_good : Rdr rStat3 (fun x => (enc2 x.1.1 ++ enc2 x.1.2) ++ enc2 x.2) (fun x => isBusy x.1.1 = true) :=
  (stat_good.bind (fun _ _ => Rdr.word) (fun _ s h => Rdr.word.bad s h)).congr (fun _ => rfl) (fun _ _ => rfl) (fun _ => by simp)
def rLog (s : St) : (UInt8 × (((UInt16 × UInt16) × UInt16) × List UInt8)) × St :=
  let n := s.byte
  let t := s.afterB.need (decide (6 ≤ s.byte.toNat) && decide (s.byte.toNat ≤ 70)) 5
  ((n, ((rStat3 t).1, (rStat3 t).2.got ((n.toNat : Int) - 6) 1)), (rStat3 t).2.next ((n.toNat : Int) - 6) 1)
theorem tail_good (n : UInt8) (h : 6 ≤ n.toNat) : Rdr (fun s => (s.got ((n.toNat : Int) - 6) 1, s.next ((n.toNat : Int) - 6) 1)) (fun d => d) (fun d => d.length = n.toNat - 6) := by
  rw [show (n.toNat : Int) - 6 = ((n.toNat - 6 : Nat) : Int) by omega]
  exact Rdr.bytes _
theorem tail_bad (n : UInt8) (s : St) (h : s.e ≠ 0) : (s.next ((n.toNat : Int) - 6) 1).e = s.e := St.next_bad _ _ _ h
theorem log_good : Rdr rLog (fun x => [x.1] ++ (((enc2 x.2.1.1.1 ++ enc2 x.2.1.1.2) ++ enc2 x.2.1.2) ++ x.2.2)) (fun x => (6 ≤ x.1.toNat ∧ x.1.toNat ≤ 70) ∧ isBusy x.2.1.1.1 = true ∧ x.2.2.length = x.1.toNat - 6) :=
  ((Rdr.byte.need (fun n => decide (6 ≤ n.toNat) && decide (n.toNat ≤ 70)) 5 (by omega)).bind (fun n hn => stat3_good.bind (fun _ _ => tail_good n (by simp at hn; omega)) (fun _ s h => tail_bad n s h)) (fun n s h => by
    show ((rStat3 s).2.next ((n.toNat : Int) - 6) 1).e = s.e
    have h3 := stat3_good.bad s h
    rw [St.next_bad _ _ _ (by rw [h3]; exact h), h3])).congr (fun _ => rfl) (fun _ _ => rfl) (fun _ => by simp)
def rName (s : St) : (UInt8 × List UInt8) × St :=
  ((s.byte, (s.afterB.need (decide (1 ≤ s.byte.toNat) && decide (s.byte.toNat ≤ 251)) 5).got (s.byte.toNat : Int) 1), (s.afterB.need (decide (1 ≤ s.byte.toNat) && decide (s.byte.toNat ≤ 251)) 5).next (s.byte.toNat : Int) 1)
theorem name_good : Rdr rName (fun x => [x.1] ++ x.2) (fun x => (1 ≤ x.1.toNat ∧ x.1.toNat ≤ 251) ∧ x.2.length = x.1.toNat) :=
  ((Rdr.byte.need (fun n => decide (1 ≤ n.toNat) && decide (n.toNat ≤ 251)) 5 (by omega)).bind (fun n _ => Rdr.bytes n.toNat) (fun n s h => (Rdr.bytes n.toNat).bad s h)).congr (fun _ => rfl) (fun _ _ => rfl) (fun _ => by simp)

/-- The forms, by numbers: nothing, value, sub (asked), sub (told), status, log, name. -/
abbrev Frm := Fin 7
theorem Frm.seven (f : Frm) : f = 0 ∨ f = 1 ∨ f = 2 ∨ f = 3 ∨ f = 4 ∨ f = 5 ∨ f = 6 := by
  revert f
  decide
def putVal (m : MsgM) (x : UInt8) : MsgM := m.put_value (UInt16.ofNat x.toNat)
def putSub (m : MsgM) (x : UInt16 × List UInt16) : MsgM := (m.put_sub x.1).put_words x.2
def putStat (m : MsgM) (x : UInt16 × UInt16) : MsgM := (m.put_status x.1).put_events x.2
def putLog (m : MsgM) (x : UInt8 × (((UInt16 × UInt16) × UInt16) × List UInt8)) : MsgM := ((putStat m x.2.1.1).put_messages x.2.1.2).put_data x.2.2
def putName (m : MsgM) (x : UInt8 × List UInt8) : MsgM := m.put_data x.2
def Frm.read : Frm → MsgM × St → MsgM × St
  | 0 => fun r => r
  | 1 => fun r => (putVal r.1 r.2.byte, r.2.afterB)
  | 2 => fun r => (putSub r.1 (rSub 0 r.2).1, (rSub 0 r.2).2)
  | 3 => fun r => (putSub r.1 (rSub 1 r.2).1, (rSub 1 r.2).2)
  | 4 => fun r => (putStat r.1 (rStat r.2).1, (rStat r.2).2)
  | 5 => fun r => (putLog r.1 (rLog r.2).1, (rLog r.2).2)
  | 6 => fun r => (putName r.1 (rName r.2).1, (rName r.2).2)
def Frm.bytes : Frm → MsgM → List UInt8
  | 0, _ => []
  | 1, m => [UInt8.ofNat m.value.toNat]
  | 2, m => putW (m.sub :: m.words)
  | 3, m => putW (m.sub :: m.words)
  | 4, m => putW [m.status, m.events]
  | 5, m => [UInt8.ofNat (m.data.length + 6)] ++ putW [m.status, m.events, m.messages] ++ m.data
  | 6, m => [UInt8.ofNat m.data.length] ++ m.data
def Frm.valid (c : UInt8) : Frm → MsgM → Prop
  | 0, m => ∃ _ : Unit, m = MsgM.of c ∧ True
  | 1, m => ∃ x, m = putVal (MsgM.of c) x ∧ True
  | 2, m => ∃ x, m = putSub (MsgM.of c) x ∧ okSub 0 x.1 = true ∧ okEnd 0 x.1 x.2
  | 3, m => ∃ x, m = putSub (MsgM.of c) x ∧ okSub 1 x.1 = true ∧ okEnd 1 x.1 x.2
  | 4, m => ∃ x, m = putStat (MsgM.of c) x ∧ isBusy x.1 = true
  | 5, m => ∃ x, m = putLog (MsgM.of c) x ∧ (6 ≤ x.1.toNat ∧ x.1.toNat ≤ 70) ∧ isBusy x.2.1.1.1 = true ∧ x.2.2.length = x.1.toNat - 6
  | 6, m => ∃ x, m = putName (MsgM.of c) x ∧ (1 ≤ x.1.toNat ∧ x.1.toNat ≤ 251) ∧ x.2.length = x.1.toNat
theorem byte_of' {n : UInt8} {k : Nat} (h : n.toNat = k) : UInt8.ofNat k = n := by rw [← h]; simp
theorem nothing_good (c : UInt8) : Whl (fun s => (MsgM.of c, s)) (fun _ => ([] : List UInt8)) (fun m => ∃ _ : Unit, m = MsgM.of c ∧ True) where
  ok a h := by obtain ⟨_, rfl, _⟩ := h; rfl
  back b hb := ⟨⟨(), rfl, trivial⟩, (St.end_zero hb).2⟩
theorem good (c : UInt8) (f : Frm) : Whl (fun s => f.read (MsgM.of c, s)) f.bytes (f.valid c) := by
  rcases Frm.seven f with rfl | rfl | rfl | rfl | rfl | rfl | rfl
  · exact nothing_good c
  · exact (Rdr.byte.map (putVal (MsgM.of c)) (Frm.bytes 1) (fun x _ => by
      show [UInt8.ofNat (UInt16.ofNat x.toNat).toNat] = [x]
      rw [UInt16.toNat_ofNat', Nat.mod_eq_of_lt (Nat.lt_trans x.toNat_lt (by omega))]; simp)).whole
  · exact (sub_good 0).map (putSub (MsgM.of c)) (Frm.bytes 2) (fun _ _ => rfl)
  · exact (sub_good 1).map (putSub (MsgM.of c)) (Frm.bytes 3) (fun _ _ => rfl)
  · exact (stat_good.map (putStat (MsgM.of c)) (Frm.bytes 4) (fun _ _ => rfl)).whole
  · exact (log_good.map (putLog (MsgM.of c)) (Frm.bytes 5) (fun x h => by
      show [UInt8.ofNat (x.2.2.length + 6)] ++ putW [x.2.1.1.1, x.2.1.1.2, x.2.1.2] ++ x.2.2 = _
      rw [byte_of' (n := x.1) (by omega)]; rfl)).whole
  · exact (name_good.map (putName (MsgM.of c)) (Frm.bytes 6) (fun x h => by
      show [UInt8.ofNat x.2.length] ++ x.2 = _
      rw [byte_of' (n := x.1) h.2.symm])).whole
def formOf (dir : Int) (c : UInt8) : Option Frm :=
  if dir = 0 then (if c = 8 then some 2 else if c = 7 ∨ c = 11 ∨ c = 12 ∨ c = 17 then some 0 else none)
  else if dir = 1 then (if c = 8 then some 3 else if c = 7 then some 1 else if c = 11 then some 4 else if c = 12 then some 5 else if c = 17 then some 6 else none)
  else none
theorem form_dir (d : Int) (c : UInt8) (f : Frm) (h : formOf d c = some f) : d = 0 ∨ d = 1 := by
  unfold formOf at h
  by_cases h0 : d = 0
  · exact .inl h0
  by_cases h1 : d = 1
  · exact .inr h1
  · rw [if_neg h0, if_neg h1] at h; cases h
theorem valid_code (c : UInt8) (f : Frm) (m : MsgM) (h : f.valid c m) : m.code = c := by
  rcases Frm.seven f with rfl | rfl | rfl | rfl | rfl | rfl | rfl <;> (obtain ⟨x, rfl, _⟩ := h; rfl)
theorem ok_end_len {dir : Int} {sub : UInt16} {l : List UInt16} (h : okEnd dir sub l) : l.length ≤ 125 := by
  unfold okEnd at h
  split at h
  · exact h.2
  · obtain ⟨v, rfl, _⟩ := h; simp
theorem valid_lists (c : UInt8) (f : Frm) (m : MsgM) (h : f.valid c m) : m.words.length ≤ 125 ∧ m.data.length ≤ 251 ∧ m.bits = [] ∧ m.recs = [] ∧ m.objects = [] := by
  rcases Frm.seven f with rfl | rfl | rfl | rfl | rfl | rfl | rfl
  · obtain ⟨x, rfl, _⟩ := h; exact ⟨Nat.zero_le _, Nat.zero_le _, rfl, rfl, rfl⟩
  · obtain ⟨x, rfl, _⟩ := h; exact ⟨Nat.zero_le _, Nat.zero_le _, rfl, rfl, rfl⟩
  · obtain ⟨x, rfl, _, h⟩ := h; exact ⟨ok_end_len h, Nat.zero_le _, rfl, rfl, rfl⟩
  · obtain ⟨x, rfl, _, h⟩ := h; exact ⟨ok_end_len h, Nat.zero_le _, rfl, rfl, rfl⟩
  · obtain ⟨x, rfl, _⟩ := h; exact ⟨Nat.zero_le _, Nat.zero_le _, rfl, rfl, rfl⟩
  · obtain ⟨x, rfl, h, _, h2⟩ := h; exact ⟨Nat.zero_le _, by show x.2.2.length ≤ 251; omega, rfl, rfl, rfl⟩
  · obtain ⟨x, rfl, h, h2⟩ := h; exact ⟨Nat.zero_le _, by show x.2.length ≤ 251; omega, rfl, rfl, rfl⟩
theorem valid_len (c : UInt8) (f : Frm) (m : MsgM) (h : f.valid c m) : (f.bytes m).length ≤ 90000 := by
  have hw := valid_lists c f m h
  rcases Frm.seven f with rfl | rfl | rfl | rfl | rfl | rfl | rfl <;> simp [Frm.bytes, putW_length] <;> omega
theorem valid_small (c : UInt8) (f : Frm) (m : MsgM) (h : f.valid c m) : m.Small := by
  obtain ⟨h0, h1, h2, h3, h4⟩ := valid_lists c f m h
  exact ⟨by omega, by rw [h2]; simp, by omega, by rw [h3]; simp, by rw [h4]; simp, by rw [h3]; simp, by rw [h4]; simp⟩
def pack : PackW := ⟨Frm, formOf, Frm.read, Frm.bytes, fun c f m => f.valid c m, good, valid_code, form_dir, valid_len, valid_small⟩
end Diag

end Go.Proofs.Ytemomgcapjpaiaa
