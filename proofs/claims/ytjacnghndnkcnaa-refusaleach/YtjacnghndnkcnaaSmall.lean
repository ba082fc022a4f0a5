/-
  Messages whose lists are not too long for the walks.
-/
import Derived.Test.YtjacnghndnkcnaaFew
import Derived.Test.YtjacnghndnkcnaaMsgPut
namespace Go.Proofs.Ytjacnghndnkcnaa
open Go.RowKit

structure MsgM.Small (m : MsgM) : Prop where
  words : m.words.length ≤ 40000
  bits : m.bits.length ≤ 50000
  data : m.data.length ≤ 50000
  recs : m.recs.length ≤ 100
  objects : m.objects.length ≤ 300
  part : ∀ r ∈ m.recs, r.words.length ≤ 300
  obj : ∀ o ∈ m.objects, o.value.length ≤ 300
theorem MsgM.small_of {m : MsgM} (h : m.few = true) : m.Small := by
  unfold MsgM.few at h
  rw [decide_eq_true_eq] at h
  obtain ⟨h0, h1, h2, h3, h4, h5, h6⟩ := h
  exact ⟨by omega, by omega, by omega, by omega, by omega, fun r hr => Nat.le_trans (h5 r hr) (by omega), fun o ho => Nat.le_trans (h6 o ho) (by omega)⟩
theorem MsgM.Bare.small {m : MsgM} (h : m.Bare) : m.Small := by
  obtain ⟨h0, h1, h2, h3, h4⟩ := h
  exact ⟨by rw [h0]; simp, by rw [h1]; simp, by rw [h2]; simp, by rw [h3]; simp, by rw [h4]; simp, by rw [h3]; simp, by rw [h4]; simp⟩
theorem byte_arg {n : Int} (h : (Lit.int .u8 n).wf = true) : ∃ c : UInt8, n = (c.toNat : Int) := by
  obtain ⟨s, rfl, hs⟩ := nat_u8 h
  exact ⟨UInt8.ofNat s, by rw [UInt8.toNat_ofNat']; congr 1; omega⟩
theorem word_arg {n : Int} (h : (Lit.int .u16 n).wf = true) : ∃ c : UInt16, n = (c.toNat : Int) := by
  obtain ⟨s, rfl, hs⟩ := nat_u16 h
  exact ⟨UInt16.ofNat s, by rw [UInt16.toNat_ofNat']; congr 1; omega⟩
theorem lit_four (w : World) (u0 u1 u2 u3 : Int) (x0 x1 x2 x3 : UInt8) (h0 : u0 = x0.toNat) (h1 : u1 = x1.toNat) (h2 : u2 = x2.toNat) (h3 : u3 = x3.toNat) (t : TypeId) :
    Bs (w.alloc (.cells #[.int .u8 u0, .int .u8 u1, .int .u8 u2, .int .u8 u3] t)) (some ⟨w.heap.size, 0, none⟩) 4 4 [x0, x1, x2, x3] :=
  Sl.fresh w [x0, x1, x2, x3] _ t _ 4 rfl (by unfold maxLen; omega) (by subst h0 h1 h2 h3; rfl)

end Go.Proofs.Ytjacnghndnkcnaa
