/-
  Package code: the numbers of a message, as one array.
-/
import Derived.Test.YtjacnghndnkcnaaMsg
import Derived.Test.YtjacnghndnkcnaaArrEq
namespace Go.Proofs.Ytjacnghndnkcnaa
open Go.RowKit

/-- All numbers of a message, in the order of the array. -/
def MsgM.nums (m : MsgM) : List Nat := [m.code.toNat, m.fail.toNat, m.addr.toNat, m.count.toNat, m.value.toNat, m.and_.toNat, m.or_.toNat, m.addr2.toNat, m.sub.toNat, m.status.toNat, m.events.toNat, m.messages.toNat, m.mei.toNat, m.kind.toNat, m.level.toNat, m.more.toNat, m.next.toNat]
theorem MsgM.nums_lt (m : MsgM) : ∀ x ∈ m.nums, x < 65536 := by
  intro x hx
  simp only [MsgM.nums, List.mem_cons, List.not_mem_nil, or_false] at hx
  rcases hx with rfl | rfl | rfl | rfl | rfl | rfl | rfl | rfl | rfl | rfl | rfl | rfl | rfl | rfl | rfl | rfl | rfl
  · have := byte_lt m.code; omega
  · have := byte_lt m.fail; omega
  · have := word_lt m.addr; omega
  · have := word_lt m.count; omega
  · have := word_lt m.value; omega
  · have := word_lt m.and_; omega
  · have := word_lt m.or_; omega
  · have := word_lt m.addr2; omega
  · have := word_lt m.sub; omega
  · have := word_lt m.status; omega
  · have := word_lt m.events; omega
  · have := word_lt m.messages; omega
  · have := byte_lt m.mei; omega
  · have := byte_lt m.kind; omega
  · have := byte_lt m.level; omega
  · have := byte_lt m.more; omega
  · have := byte_lt m.next; omega

set_option maxRecDepth 20000 in
set_option maxHeartbeats 2000000 in
theorem numbers_nat (a0 a1 a2 a3 a4 a5 a6 a7 a8 a9 a10 a11 a16 a17 a18 a19 a20 : Nat) (vw vl vd vr vo : Value) (w : World) (h0 : a0 < 256) (h1 : a1 < 256) (h16 : a16 < 256) (h17 : a17 < 256) (h18 : a18 < 256) (h19 : a19 < 256) (h20 : a20 < 256) :
    Calls Try.prog 27 #[.agg #[.int .u8 (a0 : Int), .int .u8 (a1 : Int), .int .u16 (a2 : Int), .int .u16 (a3 : Int), .int .u16 (a4 : Int), .int .u16 (a5 : Int), .int .u16 (a6 : Int), .int .u16 (a7 : Int), .int .u16 (a8 : Int), .int .u16 (a9 : Int), .int .u16 (a10 : Int), .int .u16 (a11 : Int), vw, vl, vd, vr, .int .u8 (a16 : Int), .int .u8 (a17 : Int), .int .u8 (a18 : Int), .int .u8 (a19 : Int), .int .u8 (a20 : Int), vo]] w fun e w' => e = .returned (.agg #[.int .u16 (a0 : Int), .int .u16 (a1 : Int), .int .u16 (a2 : Int), .int .u16 (a3 : Int), .int .u16 (a4 : Int), .int .u16 (a5 : Int), .int .u16 (a6 : Int), .int .u16 (a7 : Int), .int .u16 (a8 : Int), .int .u16 (a9 : Int), .int .u16 (a10 : Int), .int .u16 (a11 : Int), .int .u16 (a16 : Int), .int .u16 (a17 : Int), .int .u16 (a18 : Int), .int .u16 (a19 : Int), .int .u16 (a20 : Int)]) ∧ Below w.heap.size w w' := by
  go_enter Try.func27, Try.ntmps27
  go_wp2
  refine bodyPost_ret (results_cell_row Try.results27 _ _ _ _ _ _ _ rfl (heap_alloc2_new _ _ _) Try.underlying56 rfl (by kernel_rfl)) rfl ⟨rfl, ?_⟩
  exact ((Below.refl _ _).alloc (Nat.le_refl _) _).alloc (by simp) _

theorem numbers_any (m : MsgM) (vw vl vd vr vo : Value) (w : World) :
    Calls Try.prog 27 #[.agg #[byteV m.code, byteV m.fail, wordV m.addr, wordV m.count, wordV m.value, wordV m.and_, wordV m.or_, wordV m.addr2, wordV m.sub, wordV m.status, wordV m.events, wordV m.messages, vw, vl, vd, vr, byteV m.mei, byteV m.kind, byteV m.level, byteV m.more, byteV m.next, vo]] w fun e w' => e = .returned (.agg (m.nums.map num16).toArray) ∧ Below w.heap.size w w' :=
  numbers_nat m.code.toNat m.fail.toNat m.addr.toNat m.count.toNat m.value.toNat m.and_.toNat m.or_.toNat m.addr2.toNat m.sub.toNat m.status.toNat m.events.toNat m.messages.toNat m.mei.toNat m.kind.toNat m.level.toNat m.more.toNat m.next.toNat vw vl vd vr vo w (byte_lt _) (byte_lt _) (byte_lt _) (byte_lt _) (byte_lt _) (byte_lt _) (byte_lt _)

theorem nums_eq (m n : MsgM) (w : World) :
    (Op.equalIn 10000 56 (.agg (m.nums.map num16).toArray) (.agg (n.nums.map num16).toArray)).run Try.prog w = .ok (decide (m.nums = n.nums)) w :=
  arr_eq 56 17 Try.underlying56 (by kernel_rfl) (by kernel_rfl) m.nums n.nums rfl rfl m.nums_lt n.nums_lt w

end Go.Proofs.Ytjacnghndnkcnaa
