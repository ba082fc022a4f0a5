/-
  Package files: the contracts by their common names; what is written of messages of one form.
-/
import Derived.Test.YtolkcohmoalnhaaFileAwake
import Derived.Test.YtolkcohmoalnhaaSmall
namespace Go.Proofs.Ytolkcohmoalnhaa
open Go.RowKit
open Word Bits Cursor

namespace Files
def outW (r : Option (List UInt8)) : List UInt8 := r.getD []
def errW (r : Option (List UInt8)) : Int := if r.isSome then 0 else 1
theorem code_parse (dir : Int) (c : UInt8) (a : Option Addr) (len cap : Nat) (xs : List UInt8) (w : World) (hx : Bs w a len cap xs) (hlen : len ≤ 100000) :
    Calls Try.prog 12 #[.int .i64 dir, byteV c, .slice a len cap] w fun e w' =>
      (∃ v, e = .returned (.tuple #[v, .int .i64 (parse dir c xs).2]) ∧ MsgAt w' v (parse dir c xs).1) ∧ Below w.heap.size w w' := filesParse_any dir c a len cap xs w hx hlen
theorem code_write (dir : Int) (v : Value) (m : MsgM) (w : World) (hm : MsgAt w v m) (_hs : m.Small) :
    Calls Try.prog 16 #[.int .i64 dir, v] w fun e w' =>
      (∃ a l c, e = .returned (.tuple #[.slice a l c, .int .i64 (errW (write dir m))]) ∧ Bs w' a l c (outW (write dir m))) ∧ Below w.heap.size w w' := filesWrite_any dir v m w hm

theorem there {dir : Int} {c : UInt8} {b : List UInt8} (h : (parse dir c b).2 = 0) : write dir (parse dir c b).1 = Option.some b ∧ (parse dir c b).1.code = c := Pack.there (X := pack) h
theorem back {dir : Int} {m : MsgM} {b : List UInt8} (h : write dir m = Option.some b) : parse dir m.code b = (m, 0) := Pack.back (X := pack) h
theorem pos {dir : Int} {m : MsgM} {b : List UInt8} (h : write dir m = Option.some b) : 0 < b.length := Pack.first (X := pack) h
theorem cut {dir : Int} {m : MsgM} {b : List UInt8} (h : write dir m = Option.some b) (k : Nat) (hk : k < b.length) : (parse dir m.code (b.take k)).2 = 2 := Pack.cut (X := pack) h k hk
theorem more {dir : Int} {m : MsgM} {b : List UInt8} (h : write dir m = Option.some b) (x : UInt8) : (parse dir m.code (b ++ [x])).2 = 3 := Pack.more (X := pack) h x
theorem parse_zero {dir : Int} {c : UInt8} {b : List UInt8} (h : (parse dir c b).2 ≠ 0) : (parse dir c b).1 = MsgM.zero := Pack.parse_zero (X := pack) h
theorem parse_small (dir : Int) (c : UInt8) (b : List UInt8) : (parse dir c b).1.Small := Pack.parse_small (X := pack) dir c b
theorem write_len {dir : Int} {m : MsgM} {b : List UInt8} (h : write dir m = Option.some b) : b.length ≤ 90000 := Pack.write_len (X := pack) h

theorem write_form {dir : Int} {f : Frm} {m : MsgM} (h : formOf dir m.code = some f) {p : Prop} [Decidable p] (hp : f.valid m.code m ↔ p) : write dir m = if p then some (f.bytes m) else none :=
  Pack.write_one (X := pack) h hp
theorem first {dir : Int} {m : MsgM} {b : List UInt8} (h : write dir m = some b) : ∃ x, b = x :: b.tail ∧ x.toNat = b.length - 1 := by
  obtain ⟨f, _, hv, rfl⟩ := Pack.write_back (X := pack) h
  have hb := valid_bytes _ f m hv
  refine ⟨UInt8.ofNat (encMany (enc f) m.recs).length, rfl, ?_⟩
  show (UInt8.ofNat (encMany (enc f) m.recs).length).toNat = ([UInt8.ofNat (encMany (enc f) m.recs).length] ++ encMany (enc f) m.recs).length - 1
  rw [UInt8.toNat_ofNat', List.length_append]
  simp only [List.length_cons, List.length_nil]
  omega
end Files

end Go.Proofs.Ytolkcohmoalnhaa
