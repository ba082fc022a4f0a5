/-
  Package regs, on lists: how forms are read and written; messages and forms are one to one.
-/
import Derived.Test.YtaccebkgmjiaaaaParser
import Derived.Test.YtaccebkgmjiaaaaCodeSame
namespace Go.Proofs.Ytaccebkgmjiaaaa
open Go.RowKit
open Word Bits Cursor

namespace Regs
theorem within_iff (a k : Nat) (h : 1 ≤ k) : within a (k : Int) = decide (a + k ≤ 65536) := by
  unfold within
  rw [Bool.eq_iff_iff]
  simp
  omega
def enc2 (x : UInt16) : List UInt8 := [hiB x, loB x]

/-! how many, from a place on -/
def span (most : Nat) (a : UInt16) (s : St) : UInt16 × St :=
  (s.word, (s.afterW.need (decide (1 ≤ s.word.toNat) && decide (s.word.toNat ≤ most)) 5).need (within a.toNat (s.word.toNat : Int)) 7)
def okSpan (most : Nat) (a k : UInt16) : Prop := 1 ≤ k.toNat ∧ k.toNat ≤ most ∧ a.toNat + k.toNat ≤ 65536
theorem span_good (most : Nat) (a : UInt16) : Rdr (span most a) enc2 (okSpan most a) :=
  ((Rdr.word.need (fun k => decide (1 ≤ k.toNat) && decide (k.toNat ≤ most)) 5 (by omega)).need (fun k => within a.toNat (k.toNat : Int)) 7 (by omega)).congr (fun _ => rfl) (fun _ _ => rfl) (fun k => by
    unfold okSpan
    simp only [Bool.and_eq_true, decide_eq_true_eq, true_and]
    constructor
    · rintro ⟨h1, h2, h3⟩; exact ⟨⟨h1, h2⟩, by rw [within_iff _ _ h1]; simpa using h3⟩
    · rintro ⟨⟨h1, h2⟩, h3⟩; exact ⟨h1, h2, by rw [within_iff _ _ h1] at h3; simpa using h3⟩)

/-! a place, and how many -/
def rAsk (most : Nat) (s : St) : (UInt16 × UInt16) × St := ((s.word, (span most s.word s.afterW).1), (span most s.word s.afterW).2)
theorem ask_good (most : Nat) : Rdr (rAsk most) (fun x => enc2 x.1 ++ enc2 x.2) (fun x => okSpan most x.1 x.2) :=
  (Rdr.word.bind (fun a _ => span_good most a) (fun a s h => (span_good most a).bad s h)).congr (fun _ => rfl) (fun _ _ => rfl) (fun _ => by simp)
/-! two, and three numbers -/
def rTwo (s : St) : (UInt16 × UInt16) × St := ((s.word, s.afterW.word), s.afterW.afterW)
theorem two_good : Rdr rTwo (fun x => enc2 x.1 ++ enc2 x.2) (fun _ => True) :=
  (Rdr.word.bind (fun _ _ => Rdr.word) (fun _ s h => Rdr.word.bad s h)).congr (fun _ => rfl) (fun _ _ => rfl) (fun _ => by simp)
def rThree (s : St) : ((UInt16 × UInt16) × UInt16) × St := (((s.word, s.afterW.word), s.afterW.afterW.word), s.afterW.afterW.afterW)
theorem three_good : Rdr rThree (fun x => (enc2 x.1.1 ++ enc2 x.1.2) ++ enc2 x.2) (fun _ => True) :=
  (two_good.bind (fun _ _ => Rdr.word) (fun _ s h => Rdr.word.bad s h)).congr (fun _ => rfl) (fun _ _ => rfl) (fun _ => by simp)
/-! words behind two times their number -/
def sized (k : Nat) (s : St) : (UInt8 × List UInt16) × St :=
  ((s.byte, takeW ((s.afterB.need (decide (s.byte.toNat = 2 * k)) 5).got (k : Int) 2)), (s.afterB.need (decide (s.byte.toNat = 2 * k)) 5).next (k : Int) 2)
theorem sized_good (k : Nat) : Rdr (sized k) (fun x => [x.1] ++ putW x.2) (fun x => x.1.toNat = 2 * k ∧ x.2.length = k) :=
  ((Rdr.byte.need (fun n => decide (n.toNat = 2 * k)) 5 (by omega)).bind (fun _ _ => Rdr.words k) (fun _ s h => (Rdr.words k).bad s h)).congr (fun _ => rfl) (fun _ _ => rfl) (fun _ => by simp)
/-! words behind how many bytes they are -/
def rTold (s : St) : (UInt8 × List UInt16) × St :=
  ((s.byte, takeW ((s.afterB.need (decide (s.byte.toNat % 2 = 0) && decide (1 ≤ s.byte.toNat) && decide (s.byte.toNat ≤ 250)) 5).got ((s.byte.toNat / 2 : Nat) : Int) 2)),
    (s.afterB.need (decide (s.byte.toNat % 2 = 0) && decide (1 ≤ s.byte.toNat) && decide (s.byte.toNat ≤ 250)) 5).next ((s.byte.toNat / 2 : Nat) : Int) 2)
theorem told_good : Rdr rTold (fun x => [x.1] ++ putW x.2) (fun x => (x.1.toNat % 2 = 0 ∧ 1 ≤ x.1.toNat ∧ x.1.toNat ≤ 250) ∧ x.2.length = x.1.toNat / 2) :=
  ((Rdr.byte.need (fun n => decide (n.toNat % 2 = 0) && decide (1 ≤ n.toNat) && decide (n.toNat ≤ 250)) 5 (by omega)).bind (fun n _ => Rdr.words (n.toNat / 2)) (fun n s h => (Rdr.words (n.toNat / 2)).bad s h)).congr (fun _ => rfl) (fun _ _ => rfl) (fun _ => by simp [and_assoc])
/-! a place, how many, and words -/
def rSome (s : St) : ((UInt16 × UInt16) × (UInt8 × List UInt16)) × St :=
  (((rAsk 123 s).1, (sized (rAsk 123 s).1.2.toNat (rAsk 123 s).2).1), (sized (rAsk 123 s).1.2.toNat (rAsk 123 s).2).2)
theorem some_good : Rdr rSome (fun x => (enc2 x.1.1 ++ enc2 x.1.2) ++ ([x.2.1] ++ putW x.2.2)) (fun x => okSpan 123 x.1.1 x.1.2 ∧ x.2.1.toNat = 2 * x.1.2.toNat ∧ x.2.2.length = x.1.2.toNat) :=
  ((ask_good 123).bind (fun x _ => sized_good x.2.toNat) (fun x s h => (sized_good x.2.toNat).bad s h)).congr (fun _ => rfl) (fun _ _ => rfl) (fun _ => Iff.rfl)
/-! what is read, and what is written -/
def rBoth (s : St) : (((UInt16 × UInt16) × (UInt16 × UInt16)) × (UInt8 × List UInt16)) × St :=
  ((((rAsk 125 s).1, (rAsk 121 (rAsk 125 s).2).1), (sized (rAsk 121 (rAsk 125 s).2).1.2.toNat (rAsk 121 (rAsk 125 s).2).2).1), (sized (rAsk 121 (rAsk 125 s).2).1.2.toNat (rAsk 121 (rAsk 125 s).2).2).2)
theorem both_good : Rdr rBoth (fun x => ((enc2 x.1.1.1 ++ enc2 x.1.1.2) ++ (enc2 x.1.2.1 ++ enc2 x.1.2.2)) ++ ([x.2.1] ++ putW x.2.2))
    (fun x => (okSpan 125 x.1.1.1 x.1.1.2 ∧ okSpan 121 x.1.2.1 x.1.2.2) ∧ x.2.1.toNat = 2 * x.1.2.2.toNat ∧ x.2.2.length = x.1.2.2.toNat) :=
  (((ask_good 125).bind (fun _ _ => ask_good 121) (fun _ s h => (ask_good 121).bad s h)).bind (fun x _ => sized_good x.2.2.toNat) (fun x s h => (sized_good x.2.2.toNat).bad s h)).congr (fun _ => rfl) (fun _ _ => rfl) (fun _ => Iff.rfl)
/-! a queue -/
def rCount (n : UInt16) (s : St) : UInt16 × St := (s.word, s.afterW.need (decide (n.toNat = 2 * s.word.toNat + 2)) 5)
theorem count_good (n : UInt16) : Rdr (rCount n) enc2 (fun k => n.toNat = 2 * k.toNat + 2) :=
  (Rdr.word.need (fun k => decide (n.toNat = 2 * k.toNat + 2)) 5 (by omega)).congr (fun _ => rfl) (fun _ _ => rfl) (fun _ => by simp)
def rSize (s : St) : UInt16 × St := (s.word, s.afterW.need (decide (s.word.toNat % 2 = 0) && decide (2 ≤ s.word.toNat) && decide (s.word.toNat ≤ 64)) 5)
theorem size_good : Rdr rSize enc2 (fun n => n.toNat % 2 = 0 ∧ 2 ≤ n.toNat ∧ n.toNat ≤ 64) :=
  (Rdr.word.need (fun n => decide (n.toNat % 2 = 0) && decide (2 ≤ n.toNat) && decide (n.toNat ≤ 64)) 5 (by omega)).congr (fun _ => rfl) (fun _ _ => rfl) (fun _ => by simp [and_assoc])
def rQueue (s : St) : ((UInt16 × UInt16) × List UInt16) × St :=
  ((((rSize s).1, (rCount (rSize s).1 (rSize s).2).1), takeW ((rCount (rSize s).1 (rSize s).2).2.got ((rCount (rSize s).1 (rSize s).2).1.toNat : Int) 2)), (rCount (rSize s).1 (rSize s).2).2.next ((rCount (rSize s).1 (rSize s).2).1.toNat : Int) 2)
theorem queue_good : Rdr rQueue (fun x => (enc2 x.1.1 ++ enc2 x.1.2) ++ putW x.2) (fun x => ((x.1.1.toNat % 2 = 0 ∧ 2 ≤ x.1.1.toNat ∧ x.1.1.toNat ≤ 64) ∧ x.1.1.toNat = 2 * x.1.2.toNat + 2) ∧ x.2.length = x.1.2.toNat) :=
  ((size_good.bind (fun n _ => count_good n) (fun n s h => (count_good n).bad s h)).bind (fun x _ => Rdr.words x.2.toNat) (fun x s h => (Rdr.words x.2.toNat).bad s h)).congr (fun _ => rfl) (fun _ _ => rfl) (fun _ => Iff.rfl)
end Regs

end Go.Proofs.Ytaccebkgmjiaaaa
