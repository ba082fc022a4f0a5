/-
  Forms, on lists: bytes that are read field by field; what is wrong first stays.
-/
import Derived.Test.YtaokbaddleplfaaCursorRead
import Derived.Test.YtaokbaddleplfaaBitMath
import Derived.Test.YtaokbaddleplfaaMsgPut
namespace Go.Proofs.Ytaokbaddleplfaa
open Go.RowKit
open Word Bits Cursor

namespace Cursor
def St.byte (c : St) : UInt8 := UInt8.ofNat (head8 (c.got 1 1))
def St.word (c : St) : UInt16 := UInt16.ofNat (head16 (takeW (c.got 1 2)))
def St.afterB (c : St) : St := c.next 1 1
def St.afterW (c : St) : St := c.next 1 2

theorem head8_lt (xs : List UInt8) : head8 xs < 256 := by
  cases xs with
  | nil => simp [head8]
  | cons x r => exact x.toNat_lt
theorem head16_lt (xs : List UInt16) : head16 xs < 65536 := by
  cases xs with
  | nil => simp [head16]
  | cons x r => exact x.toNat_lt
theorem St.byte_nat (c : St) : c.byte.toNat = head8 (c.got 1 1) := by
  unfold St.byte
  rw [UInt8.toNat_ofNat']
  exact Nat.mod_eq_of_lt (head8_lt _)
theorem St.word_nat (c : St) : c.word.toNat = head16 (takeW (c.got 1 2)) := by
  unfold St.word
  rw [UInt16.toNat_ofNat']
  exact Nat.mod_eq_of_lt (head16_lt _)

/-! a cursor at which nothing was wrong -/
theorem St.need_true (c : St) (e : Int) : c.need true e = c := by simp [St.need]
theorem St.need_new (xs : List UInt8) (ok : Bool) (e : Int) : (St.new xs).need ok e = if ok then St.new xs else ⟨xs, false, e⟩ := by
  cases ok <;> simp [St.need, St.new]
theorem St.need_new' (xs : List UInt8) (p : Prop) [Decidable p] (e : Int) (h : p) : (St.new xs).need (decide p) e = St.new xs := by simp [St.need, h]
theorem St.end_new (xs : List UInt8) : (St.new xs).end_ = if xs = [] then St.new [] else ⟨xs, false, 3⟩ := by
  cases xs with
  | nil => simp [St.end_, St.need, St.new]
  | cons x r => simp [St.end_, St.need, St.new]
theorem St.next_new (xs : List UInt8) (n size : Nat) (h : n * size ≤ xs.length) : (St.new xs).next n size = St.new (xs.drop (n * size)) := by
  have h' : ((n : Int) * (size : Int)) ≤ (xs.length : Int) := by rw [← Int.natCast_mul]; omega
  have hl : (St.new xs).lack n size = false := by
    unfold St.lack St.new
    simp
    omega
  unfold St.next
  rw [if_neg (by simp [hl])]
  simp [St.new]
theorem St.got_new (xs : List UInt8) (n size : Nat) (h : n * size ≤ xs.length) : (St.new xs).got n size = xs.take (n * size) := by
  have h' : ((n : Int) * (size : Int)) ≤ (xs.length : Int) := by rw [← Int.natCast_mul]; omega
  have hl : (St.new xs).lack n size = false := by
    unfold St.lack St.new
    simp
    omega
  unfold St.got
  rw [if_neg (by simp [hl])]
  simp [St.new]
theorem St.next_short (xs : List UInt8) (n size : Nat) (h : xs.length < n * size) : (St.new xs).next n size = ⟨[], true, 2⟩ := by
  have h' : (xs.length : Int) < ((n : Int) * (size : Int)) := by rw [← Int.natCast_mul]; omega
  have hl : (St.new xs).lack n size = true := by
    unfold St.lack St.new
    simp
    omega
  unfold St.next
  rw [if_pos hl]
  simp [St.new]

/-! a cursor at which something was -/
theorem St.need_bad (c : St) (ok : Bool) (e : Int) (h : c.e ≠ 0) : c.need ok e = c := by simp [St.need, h]
theorem St.next_bad (c : St) (n : Int) (size : Nat) (h : c.e ≠ 0) : (c.next n size).e = c.e := by
  unfold St.next
  rw [if_neg h]
  split <;> rfl
theorem St.end_bad (c : St) (h : c.e ≠ 0) : c.end_ = c := St.need_bad c _ _ h
theorem St.got_le (c : St) (n : Int) (size : Nat) : (c.got n size).length ≤ n.toNat * size := by
  unfold St.got
  split
  · simp
  · simp; omega

theorem St.byte_new (x : UInt8) (r : List UInt8) : (St.new (x :: r)).byte = x := by
  have h := St.got_new (x :: r) 1 1 (by simp)
  have : (St.new (x :: r)).byte.toNat = x.toNat := by
    rw [St.byte_nat, show ((1 : Int)) = ((1 : Nat) : Int) from rfl, h]; rfl
  exact UInt8.toNat_inj.1 this
theorem St.afterB_new (x : UInt8) (r : List UInt8) : (St.new (x :: r)).afterB = St.new r := by
  have h := St.next_new (x :: r) 1 1 (by simp)
  exact h
theorem St.word_new (x y : UInt8) (r : List UInt8) : (St.new (x :: y :: r)).word = Word.word x y := by
  have h := St.got_new (x :: y :: r) 1 2 (by simp)
  have : (St.new (x :: y :: r)).word.toNat = (Word.word x y).toNat := by
    rw [St.word_nat, show ((1 : Int)) = ((1 : Nat) : Int) from rfl, h]; simp [takeW, pairs, head16]
  exact UInt16.toNat_inj.1 this
theorem St.afterW_new (x y : UInt8) (r : List UInt8) : (St.new (x :: y :: r)).afterW = St.new r := by
  have h := St.next_new (x :: y :: r) 1 2 (by simp)
  exact h
theorem St.afterB_nil : (St.new []).afterB = ⟨[], true, 2⟩ := St.next_short [] 1 1 (by simp)
theorem St.afterW_short (xs : List UInt8) (h : xs.length < 2) : (St.new xs).afterW = ⟨[], true, 2⟩ := St.next_short xs 1 2 (by omega)
theorem St.afterB_bad (c : St) (h : c.e ≠ 0) : c.afterB.e = c.e := St.next_bad c _ _ h
theorem St.afterW_bad (c : St) (h : c.e ≠ 0) : c.afterW.e = c.e := St.next_bad c _ _ h
end Cursor

/-- What is left of a reading: a message, or the first error and none. -/
def finish (r : MsgM × St) : MsgM × Int := if r.2.end_.e = 0 then (r.1, 0) else (MsgM.zero, r.2.end_.e)
theorem finish_bad {r : MsgM × St} {e : Int} (h : r.2.e = e) (he : e ≠ 0) : finish r = (MsgM.zero, e) := by
  have h' : r.2.e ≠ 0 := by rw [h]; exact he
  unfold finish
  rw [St.end_bad _ h', if_neg h', h]
theorem finish_new (m : MsgM) (xs : List UInt8) : finish (m, St.new xs) = if xs = [] then (m, 0) else (MsgM.zero, 3) := by
  unfold finish
  rw [St.end_new]
  by_cases h : xs = []
  · simp [h, St.new]
  · simp [h]
theorem finish_zero {r : MsgM × St} (h : (finish r).2 ≠ 0) : (finish r).1 = MsgM.zero := by
  unfold finish at h ⊢
  split
  · rename_i h0; rw [if_pos h0] at h; exact absurd rfl h
  · rfl
theorem wordV_word (c : St) : (.int .u16 (head16 (takeW (c.got 1 2))) : Value) = wordV c.word := by rw [← St.word_nat]
theorem byteV_byte (c : St) : (.int .u8 (head8 (c.got 1 1)) : Value) = byteV c.byte := by rw [← St.byte_nat]

end Go.Proofs.Ytaokbaddleplfaa
