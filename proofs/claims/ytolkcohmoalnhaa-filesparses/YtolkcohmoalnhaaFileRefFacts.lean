/-
  Package files: the document's contracts by their common names.
-/
import Derived.Test.YtolkcohmoalnhaaFileRefWrite
namespace Go.Proofs.Ytolkcohmoalnhaa
open Go.RowKit

namespace Files
theorem ref_parse (dir : Int) (c : UInt8) (a : Option Addr) (len cap : Nat) (xs : List UInt8) (w : World) (hx : Bs w a len cap xs) (hlen : len ≤ 100000) :
    Calls Try.prog 13 #[.int .i64 dir, byteV c, .slice a len cap] w fun e w' =>
      (∃ v, e = .returned (.tuple #[v, .int .i64 (parse dir c xs).2]) ∧ MsgAt w' v (parse dir c xs).1) ∧ Below w.heap.size w w' := refParse_any dir c a len cap xs w hx hlen
theorem ref_write (dir : Int) (v : Value) (m : MsgM) (w : World) (hm : MsgAt w v m) (hs : m.Small) :
    Calls Try.prog 17 #[.int .i64 dir, v] w fun e w' =>
      (∃ a l c, e = .returned (.tuple #[.slice a l c, .int .i64 (errW (write dir m))]) ∧ Bs w' a l c (outW (write dir m))) ∧ Below w.heap.size w w' := refWrite_any dir v m w hm hs
end Files

end Go.Proofs.Ytolkcohmoalnhaa
