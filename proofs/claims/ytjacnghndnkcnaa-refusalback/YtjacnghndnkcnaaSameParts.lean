/-
  Package code: when two parts of files, two things that devices tell of themselves, are one.
-/
import Derived.Test.YtjacnghndnkcnaaMsg
import Derived.Test.YtjacnghndnkcnaaEqual
import Derived.Test.YtjacnghndnkcnaaArrEq
namespace Go.Proofs.Ytjacnghndnkcnaa
open Go.RowKit

def RecM.same (x y : RecM) : Bool := decide (x.file = y.file ∧ x.record = y.record ∧ x.count = y.count ∧ x.words = y.words)
def ObjM.same (x y : ObjM) : Bool := decide (x.id = y.id ∧ x.value = y.value)
theorem RecM.same_iff (x y : RecM) : RecM.same x y = true ↔ x = y := by
  cases x; cases y; simp [RecM.same]
theorem ObjM.same_iff (x y : ObjM) : ObjM.same x y = true ↔ x = y := by
  cases x; cases y; simp [ObjM.same]

theorem w16_ne {x y : UInt16} (h : x.toNat ≠ y.toNat) : x ≠ y := fun e => h (by rw [e])
theorem w16_eq {x y : UInt16} (h : x.toNat = y.toNat) : x = y := UInt16.toNat.inj h
theorem w8_eq {x y : UInt8} (h : x.toNat = y.toNat) : x = y := UInt8.toNat.inj h

theorem eq3 (f1 r1 n1 f2 r2 n2 : Nat) (h1 : f1 < 65536) (h2 : r1 < 65536) (h3 : n1 < 65536) (h4 : f2 < 65536) (h5 : r2 < 65536) (h6 : n2 < 65536) (w : World) :
    (Op.equalIn 10000 62 (.agg #[.int .u16 (f1 : Int), .int .u16 (r1 : Int), .int .u16 (n1 : Int)]) (.agg #[.int .u16 (f2 : Int), .int .u16 (r2 : Int), .int .u16 (n2 : Int)])).run Try.prog w = .ok (decide ([f1, r1, n1] = [f2, r2, n2])) w :=
  arr_eq 62 3 Try.underlying62 (by kernel_rfl) (by kernel_rfl) [f1, r1, n1] [f2, r2, n2] rfl rfl (by simp; omega) (by simp; omega) w

set_option maxHeartbeats 1000000 in
theorem sameRec_any (x y : RecM) (a1 a2 : Option Addr) (l1 c1 l2 c2 : Nat) (w : World) (hx : Ws w a1 l1 c1 x.words) (hy : Ws w a2 l2 c2 y.words) :
    Calls Try.prog 32 #[.agg #[wordV x.file, wordV x.record, wordV x.count, .slice a1 l1 c1], .agg #[wordV y.file, wordV y.record, wordV y.count, .slice a2 l2 c2]] w
      fun e w' => e = .returned (.bool (RecM.same x y)) ∧ Below w.heap.size w w' := by
  have heq := eq3 x.file.toNat x.record.toNat x.count.toNat y.file.toNat y.record.toNat y.count.toNat (word_lt _) (word_lt _) (word_lt _) (word_lt _) (word_lt _) (word_lt _)
  have HS : Hid (RecM.same x y = (decide ([x.file.toNat, x.record.toNat, x.count.toNat] = [y.file.toNat, y.record.toNat, y.count.toNat]) && decide (x.words = y.words))) := hide (by
    unfold RecM.same
    rw [Bool.eq_iff_iff]
    simp [UInt16.toNat_inj, and_assoc])
  generalize RecM.same x y = R at *
  generalize decide ([x.file.toNat, x.record.toNat, x.count.toNat] = [y.file.toNat, y.record.toNat, y.count.toNat]) = D at *
  simp only [wordV]
  generalize x.file.toNat = f1 at *
  generalize x.record.toNat = r1 at *
  generalize x.count.toNat = n1 at *
  generalize y.file.toNat = f2 at *
  generalize y.record.toNat = r2 at *
  generalize y.count.toNat = n2 at *
  have HX := hide hx
  have HY := hide hy
  clear hx hy
  go_enter Try.func32, Try.ntmps32
  cases D
  · go_wp2
    go_ret
    exact ⟨ret_bool (by rw [HS.out]; rfl), ((Below.refl _ _).alloc (Nat.le_refl _) _).alloc (by simp) _⟩
  · go_wp2_with fail
    have hb0 : Below w.heap.size w ((w.alloc (.cells #[.int .u16 (f1 : Int), .int .u16 (r1 : Int), .int .u16 (n1 : Int), .slice a1 l1 c1] 50)).alloc (.cells #[.int .u16 (f2 : Int), .int .u16 (r2 : Int), .int .u16 (n2 : Int), .slice a2 l2 c2] 50)) :=
      ((Below.refl _ _).alloc (Nat.le_refl _) _).alloc (by simp) _
    refine (equal16_any _ _ _ _ _ _ _ _ _ (HX.out.mono hb0) (HY.out.mono hb0)).mono ?_
    rintro e w1 ⟨rfl, hb1⟩
    replace hb1 := below_next hb0 hb1 (Nat.le_refl _)
    have HR : Hid (R = decide (x.words = y.words)) := hide (by rw [HS.out]; rfl)
    generalize decide (x.words = y.words) = D2 at *
    go_wp2
    go_ret
    exact ⟨ret_bool (by rw [HR.out]), hb1⟩

set_option maxHeartbeats 1000000 in
theorem sameObject_any (x y : ObjM) (a1 a2 : Option Addr) (l1 c1 l2 c2 : Nat) (w : World) (hx : Bs w a1 l1 c1 x.value) (hy : Bs w a2 l2 c2 y.value) :
    Calls Try.prog 34 #[.agg #[byteV x.id, .slice a1 l1 c1], .agg #[byteV y.id, .slice a2 l2 c2]] w
      fun e w' => e = .returned (.bool (ObjM.same x y)) ∧ Below w.heap.size w w' := by
  have HS : Hid (ObjM.same x y = (decide (x.id.toNat = y.id.toNat) && decide (x.value = y.value))) := hide (by
    unfold ObjM.same
    rw [Bool.eq_iff_iff]
    simp [UInt8.toNat_inj])
  generalize ObjM.same x y = R at *
  simp only [byteV]
  generalize x.id.toNat = f1 at *
  generalize y.id.toNat = f2 at *
  have HX := hide hx
  have HY := hide hy
  clear hx hy
  go_enter Try.func34, Try.ntmps34
  by_cases h : f1 = f2
  · subst h
    go_wp2_with fail
    have hb0 : Below w.heap.size w ((w.alloc (.cells #[.int .u8 (f1 : Int), .slice a1 l1 c1] 52)).alloc (.cells #[.int .u8 (f1 : Int), .slice a2 l2 c2] 52)) :=
      ((Below.refl _ _).alloc (Nat.le_refl _) _).alloc (by simp) _
    refine (bytesEqual_any _ _ _ _ _ _ _ _ _ (HX.out.mono hb0) (HY.out.mono hb0)).mono ?_
    rintro e w1 ⟨rfl, rfl⟩
    have HR : Hid (R = decide (x.value = y.value)) := hide (by rw [HS.out]; simp)
    generalize decide (x.value = y.value) = D2 at *
    go_wp2
    go_ret
    exact ⟨ret_bool (by rw [HR.out]), hb0⟩
  · have hne : ((f1 : Int) == (f2 : Int)) = false := by rw [beq_cast]; simp [h]
    have HN := hide h
    clear h
    go_wp2
    go_ret
    exact ⟨ret_bool (by rw [HS.out]; simp [HN.out]), ((Below.refl _ _).alloc (Nat.le_refl _) _).alloc (by simp) _⟩

end Go.Proofs.Ytjacnghndnkcnaa
