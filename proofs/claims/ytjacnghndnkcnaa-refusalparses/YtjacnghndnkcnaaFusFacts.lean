/-
  Package refusal: the contracts by their common names.
-/
import Derived.Test.YtjacnghndnkcnaaFusAwake
import Derived.Test.YtjacnghndnkcnaaFusRef
import Derived.Test.YtjacnghndnkcnaaSmall
namespace Go.Proofs.Ytjacnghndnkcnaa
open Go.RowKit

namespace Fus
theorem of_all {c y : UInt8} (hp : pub c.toNat = true) (hf : fails y.toNat = true) : of c y = (ofM c y, 0) := by
  unfold of
  rw [write_iff.2 ⟨hp, hf, rfl, rfl⟩]
  rfl
theorem of_good {c y : UInt8} (hp : pub c.toNat = true) (hf : fails y.toNat = true) : (of c y).2 = 0 := by rw [of_all hp hf]
theorem of_bad {c y : UInt8} (h : ¬ (pub c.toNat = true ∧ fails y.toNat = true)) : (of c y).2 = 1 := by
  unfold of
  rw [write_none (fun hh => h ⟨hh.1, hh.2.1⟩)]
  rfl
theorem code_parse (a : Option Addr) (len cap : Nat) (xs : List UInt8) (w : World) (hx : Bs w a len cap xs) (hlen : len ≤ 100000) :
    Calls Try.prog 8 #[.slice a len cap] w fun e w' =>
      (∃ v, e = .returned (.tuple #[v, .int .i64 (parse xs).2]) ∧ MsgAt w' v (parse xs).1) ∧ Below w.heap.size w w' := fusParse_any a len cap xs w hx hlen
theorem code_write (v : Value) (m : MsgM) (w : World) (hm : MsgAt w v m) :
    Calls Try.prog 12 #[v] w fun e w' =>
      (∃ a l c, e = .returned (.tuple #[.slice a l c, .int .i64 (errW (write m))]) ∧ Bs w' a l c (outW (write m))) ∧ Below w.heap.size w w' := fusWrite_any v m w hm
theorem code_of (c y : UInt8) (w : World) :
    Calls Try.prog 14 #[byteV c, byteV y] w fun e w' =>
      (∃ v, e = .returned (.tuple #[v, .int .i64 (of c y).2]) ∧ MsgAt w' v (of c y).1) ∧ Below w.heap.size w w' := fusOf_any c y w
theorem ref_parse (a : Option Addr) (len cap : Nat) (xs : List UInt8) (w : World) (hx : Bs w a len cap xs) (hlen : len ≤ 100000) :
    Calls Try.prog 9 #[.slice a len cap] w fun e w' =>
      (∃ v, e = .returned (.tuple #[v, .int .i64 (parse xs).2]) ∧ MsgAt w' v (parse xs).1) ∧ Below w.heap.size w w' := fusRefParse_any a len cap xs w hx hlen
theorem ref_write (v : Value) (m : MsgM) (w : World) (hm : MsgAt w v m) :
    Calls Try.prog 13 #[v] w fun e w' =>
      (∃ a l c, e = .returned (.tuple #[.slice a l c, .int .i64 (errW (write m))]) ∧ Bs w' a l c (outW (write m))) ∧ Below w.heap.size w w' := fusRefWrite_any v m w hm
end Fus

end Go.Proofs.Ytjacnghndnkcnaa
