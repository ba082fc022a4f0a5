/-
  The contract of word.Take.
-/
import Derived.Test.YtaokbaddleplfaaJoinA
import Derived.BigRegion
namespace Go.Proofs.Ytaokbaddleplfaa
open Go.RowKit
open Word

theorem or256 (p q : Nat) (hp : p < 256) (hq : q < 256) : bits .or .u16 (IntKind.u16.wrap (IntKind.u16.wrap (p : Int) * 256)) (IntKind.u16.wrap (q : Int)) = ((256 * p + q : Nat) : Int) := by
  have h1 : 256 * p ||| q = 256 * p + q := (Nat.two_pow_add_eq_or_of_lt (i := 8) (b := q) (by omega) p).symm
  have e1 : IntKind.u16.wrap (IntKind.u16.wrap (p : Int) * 256) = ((256 * p : Nat) : Int) := by rw [IntKind.wrap_u16, IntKind.wrap_u16]; omega
  have e2 : IntKind.u16.wrap (q : Int) = (q : Int) := by rw [IntKind.wrap_u16]; omega
  rw [e1, e2]
  show IntKind.u16.wrap (((BitVec.ofInt 16 ((256 * p : Nat) : Int) ||| BitVec.ofInt 16 (q : Int)).toNat : Nat) : Int) = _
  rw [BitVec.toNat_or, BitVec.toNat_ofInt, BitVec.toNat_ofInt]
  have f1 : (((256 * p : Nat) : Int) % ((2 ^ 16 : Nat) : Int)).toNat = 256 * p := by omega
  have f2 : ((q : Int) % ((2 ^ 16 : Nat) : Int)).toNat = q := by omega
  rw [f1, f2, h1, IntKind.wrap_u16]
  omega

end Go.Proofs.Ytaokbaddleplfaa
