/-
  A message that a call told of bytes: where it reads as it did.
-/
import Derived.Test.YtjacnghndnkcnaaOff
import Derived.Test.YtjacnghndnkcnaaMsg
namespace Go.Proofs.Ytjacnghndnkcnaa
open Go.RowKit

/-- A message that a call told of those bytes: it reads so wherever they do, and what the call made is as it was. -/
def Told (B : Nat) (a : Option Addr) (len cap : Nat) (xs : List UInt8) (w' : World) (v : Value) (m : MsgM) : Prop :=
  ∀ u, w'.heap.size ≤ u.heap.size → (∀ k, B ≤ k → k < w'.heap.size → u.heap[k]? = w'.heap[k]?) → Bs u a len cap xs → MsgAt u v m
theorem Told.now {w w' : World} {a : Option Addr} {len cap : Nat} {xs : List UInt8} {v : Value} {m : MsgM} (h : Told w.heap.size a len cap xs w' v m) (hx : Bs w a len cap xs) (hb : Below w.heap.size w w') : MsgAt w' v m :=
  h w' (Nat.le_refl _) (fun _ _ _ => rfl) (hx.mono hb)
theorem told_off {P : World → Prop} {B hi g : Nat} {w9 w' : World} (h : ∀ u, Off 0 hi w9 u → P u) (hB : B ≤ hi) (hg : g < hi) (z : w'.heap.size = w9.heap.size) (n : ∀ k, k ≠ g → w'.heap[k]? = w9.heap[k]?) (u : World) (h1 : w'.heap.size ≤ u.heap.size) (h2 : ∀ k, B ≤ k → k < w'.heap.size → u.heap[k]? = w'.heap[k]?) : P u :=
  h u ⟨by omega, fun i hi' hh => (h2 i (by omega) (by omega)).trans (n i (by omega))⟩

end Go.Proofs.Ytjacnghndnkcnaa
