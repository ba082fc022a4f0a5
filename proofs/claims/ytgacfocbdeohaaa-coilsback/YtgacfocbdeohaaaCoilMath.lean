/-
  Package coils, on lists: how forms are read and written.
-/
import Derived.Test.YtgacfocbdeohaaaForm
import Derived.Test.YtgacfocbdeohaaaCodeSame
namespace Go.Proofs.Ytgacfocbdeohaaa
open Go.RowKit
open Word Bits Cursor

namespace Coils
def readPlaces (most : Nat) (r : MsgM × St) : MsgM × St :=
  ((r.1.put_addr r.2.word).put_count r.2.afterW.word,
    (r.2.afterW.afterW.need (decide (1 ≤ r.2.afterW.word.toNat) && decide (r.2.afterW.word.toNat ≤ most)) 5).need (within r.2.word.toNat (r.2.afterW.word.toNat : Int)) 7)
def needData (c : St) : St := c.afterB.need (decide (1 ≤ c.byte.toNat) && decide (c.byte.toNat ≤ 250)) 5
def readData (r : MsgM × St) : MsgM × St := (r.1.put_data ((needData r.2).got (r.2.byte.toNat : Int) 1), (needData r.2).next (r.2.byte.toNat : Int) 1)
def readOne (r : MsgM × St) : MsgM × St :=
  ((r.1.put_addr r.2.word).put_value r.2.afterW.word, r.2.afterW.afterW.need (decide (r.2.afterW.word.toNat = 0) || decide (r.2.afterW.word.toNat = 65280)) 6)
def needSome (r : MsgM × St) : St := r.2.afterB.need (decide ((r.2.byte.toNat : Int) = manyI (r.1.count.toNat : Int))) 5
def readBits (r : MsgM × St) : MsgM × St :=
  (r.1.put_bits (outU ((needSome r).got (r.2.byte.toNat : Int) 1) (r.1.count.toNat : Int)), ((needSome r).next (r.2.byte.toNat : Int) 1).need (good ((needSome r).got (r.2.byte.toNat : Int) 1) (r.1.count.toNat : Int)) 6)
def readSome (r : MsgM × St) : MsgM × St := readBits (readPlaces 1968 r)

/-- The forms, by numbers. -/
abbrev Frm := Fin 5
abbrev Frm.asked : Frm := 0
abbrev Frm.told : Frm := 1
abbrev Frm.one : Frm := 2
abbrev Frm.some : Frm := 3
abbrev Frm.done : Frm := 4
theorem Frm.five (f : Frm) : f = Frm.asked ∨ f = Frm.told ∨ f = Frm.one ∨ f = Frm.some ∨ f = Frm.done := by
  revert f
  decide
def Frm.read : Frm → MsgM × St → MsgM × St
  | 0 => readPlaces 2000
  | 1 => readData
  | 2 => readOne
  | 3 => readSome
  | 4 => readPlaces 1968
def counted (ahead b : List UInt8) : List UInt8 := ahead ++ [UInt8.ofNat b.length] ++ b
def Frm.bytes : Frm → MsgM → List UInt8
  | 0, m => putW [m.addr, m.count]
  | 1, m => counted [] m.data
  | 2, m => putW [m.addr, m.value]
  | 3, m => counted (putW [m.addr, m.count]) (packB m.bits)
  | 4, m => putW [m.addr, m.count]
def formOf (dir : Int) (c : UInt8) : Option Frm :=
  if dir = 0 then (if c = 1 ∨ c = 2 then Option.some .asked else if c = 5 then Option.some .one else if c = 15 then Option.some .some else none)
  else if dir = 1 then (if c = 1 ∨ c = 2 then Option.some .told else if c = 5 then Option.some .one else if c = 15 then Option.some .done else none)
  else none
/-- What Parse tells. -/
def parse (dir : Int) (c : UInt8) (b : List UInt8) : MsgM × Int :=
  if dir = 0 ∨ dir = 1 then (match formOf dir c with | Option.some f => finish (f.read (MsgM.of c, St.new b)) | none => (MsgM.zero, 4)) else (MsgM.zero, 1)
/-- What Write tells: bytes, or none. -/
def write (dir : Int) (m : MsgM) : Option (List UInt8) :=
  match formOf dir m.code with
  | Option.some f => if (parse dir m.code (f.bytes m)).2 = 0 ∧ MsgM.same (parse dir m.code (f.bytes m)).1 m = true then Option.some (f.bytes m) else none
  | none => none
def outW (r : Option (List UInt8)) : List UInt8 := r.getD []
def errW (r : Option (List UInt8)) : Int := if r.isSome then 0 else 1

/-- A message that has a form, field by field. -/
def Frm.valid (c : UInt8) : Frm → MsgM → Prop
  | 0, m => ∃ a k, m = ((MsgM.of c).put_addr a).put_count k ∧ 1 ≤ k.toNat ∧ k.toNat ≤ 2000 ∧ a.toNat + k.toNat ≤ 65536
  | 1, m => ∃ d, m = (MsgM.of c).put_data d ∧ 1 ≤ d.length ∧ d.length ≤ 250
  | 2, m => ∃ a v, m = ((MsgM.of c).put_addr a).put_value v ∧ (v.toNat = 0 ∨ v.toNat = 65280)
  | 3, m => ∃ a k l, m = (((MsgM.of c).put_addr a).put_count k).put_bits l ∧ 1 ≤ k.toNat ∧ k.toNat ≤ 1968 ∧ a.toNat + k.toNat ≤ 65536 ∧ l.length = k.toNat
  | 4, m => ∃ a k, m = ((MsgM.of c).put_addr a).put_count k ∧ 1 ≤ k.toNat ∧ k.toNat ≤ 1968 ∧ a.toNat + k.toNat ≤ 65536

theorem within_iff (a k : Nat) (h : 1 ≤ k) : within a (k : Int) = decide (a + k ≤ 65536) := by
  unfold within
  rw [Bool.eq_iff_iff]
  simp
  omega

/-! where bytes end too early -/
theorem places_short (most : Nat) (m : MsgM) (b : List UInt8) (h : b.length < 4) : (readPlaces most (m, St.new b)).2.e = 2 := by
  unfold readPlaces
  match b, h with
  | [], _ => rw [St.afterW_short [] (by simp)]; rfl
  | [x], _ => rw [St.afterW_short [x] (by simp)]; rfl
  | [x, y], _ => rw [St.afterW_new, St.afterW_short [] (by simp)]; rfl
  | [x, y, z], _ => rw [St.afterW_new, St.afterW_short [z] (by simp)]; rfl
theorem places_new (most : Nat) (m : MsgM) (x y z v : UInt8) (r : List UInt8) : readPlaces most (m, St.new (x :: y :: z :: v :: r)) =
    ((m.put_addr (word x y)).put_count (word z v), ((St.new r).need (decide (1 ≤ (word z v).toNat) && decide ((word z v).toNat ≤ most)) 5).need (within (word x y).toNat ((word z v).toNat : Int)) 7) := by
  unfold readPlaces
  simp only [St.afterW_new, St.word_new]
theorem places_ok (most : Nat) (m : MsgM) (a k : UInt16) (r : List UInt8) (h1 : 1 ≤ k.toNat) (h2 : k.toNat ≤ most) (h3 : a.toNat + k.toNat ≤ 65536) :
    readPlaces most (m, St.new (putW [a, k] ++ r)) = ((m.put_addr a).put_count k, St.new r) := by
  show readPlaces most (m, St.new (hiB a :: loB a :: hiB k :: loB k :: r)) = _
  rw [places_new, word_hi_lo, word_hi_lo, within_iff _ _ h1]
  simp [h1, h2, h3, St.need_true]
end Coils

end Go.Proofs.Ytgacfocbdeohaaa
