/-
  No cell of these rows narrows 'for every input' (looked for: loops, veiled, ifaces, maps, wideKeys, modest, calm, conditions, laid).
  DERIVED. THE GIVEN ROWS OF THIS SEAT. 4 by the template 'for every input the law returns true; each argument reads behind the call as it read before'; 0 by the template 'total and deterministic' (their statements: YtgkifohjjapifaaTotals.lean).
  GIVEN WITH THE SEED: the statements are not yours to turn. If you find one false, say at which input.
  Laid BY PROGRAM, IN A SANDBOX (cutbox-rows.mjs): the forced cells as the released guide's own fill.sh prints them over the translation 2be17c7f11fc4446… (all of the seat's roots in one cut). By AI agents, Wed Nov 11 2026. No macro, syntax, notation, axiom, sorry.
-/
import Derived.Test.YtgkifohjjapifaaChecked
import GoSem.Claim
import GoSem.ClaimJoined
import GoSem.ClaimMapViews
import Derived.JoinedTies
import Derived.KernelRfl
namespace Go.Proofs.Ytgkifohjjapifaa
/- THE CELL 'sum', in the pinned program and in every row, IS THE sha256 OF THE DUMP (.gsa) THAT YtgkifohjjapifaaProg.lean LOADS. Nothing in Lean hashes anything: it is a label: what it is worth is what the hold of that sum in a sandbox is worth. -/
noncomputable def Try.pinned : Pinned := { name := "ytgkifohjjapifaa", sum := "2be17c7f11fc444664b5839c412ca48f8d4099b06eedc0ffb1ea4413b14698f7", checked := Try.checked }
namespace Rows
def none {H : Type} : Left H := { results := [], args := [] }

/-- 'busbarlaw02.LrcTells': WHATEVER THE INPUT: true; the input reads as it did. -/
def lrcTellsSpec : ChangeSpec := { name := "lrcTells", fn := fun _ => fun
  | [d] => { results := [.lit (.bool true)], args := [d] }
  | _ => none }
def lrcTellsRow : OpenClaim := { program := "ytgkifohjjapifaa", sum := "2be17c7f11fc444664b5839c412ca48f8d4099b06eedc0ffb1ea4413b14698f7", func := "busbar/busbarlaw02.LrcTells", spec := "lrcTells", unfollowed := true, recurses := true, apart := false }
def LrcTellsSaid : Prop := lrcTellsRow.holds Try.pinned (OpenSpec.ofChange lrcTellsSpec)

/-- ITS FALSE NEIGHBOUR: 'it returns false'. Refute it at one input. -/
def lrcTellsWrong : ChangeSpec := { name := "lrcTells", fn := fun _ => fun
  | [d] => { results := [.lit (.bool false)], args := [d] }
  | _ => none }
def LrcTellsWrongFalsely : Prop := lrcTellsRow.holds Try.pinned (OpenSpec.ofChange lrcTellsWrong)

/-- 'busbarlaw02.LrcBack': WHATEVER THE INPUT: true; the input reads as it did. -/
def lrcBackSpec : ChangeSpec := { name := "lrcBack", fn := fun _ => fun
  | [d1, d2, d3] => { results := [.lit (.bool true)], args := [d1, d2, d3] }
  | _ => none }
def lrcBackRow : OpenClaim := { program := "ytgkifohjjapifaa", sum := "2be17c7f11fc444664b5839c412ca48f8d4099b06eedc0ffb1ea4413b14698f7", func := "busbar/busbarlaw02.LrcBack", spec := "lrcBack", unfollowed := true, recurses := true, apart := false }
def LrcBackSaid : Prop := lrcBackRow.holds Try.pinned (OpenSpec.ofChange lrcBackSpec)

/-- ITS FALSE NEIGHBOUR: 'it returns false'. Refute it at one input. -/
def lrcBackWrong : ChangeSpec := { name := "lrcBack", fn := fun _ => fun
  | [d1, d2, d3] => { results := [.lit (.bool false)], args := [d1, d2, d3] }
  | _ => none }
def LrcBackWrongFalsely : Prop := lrcBackRow.holds Try.pinned (OpenSpec.ofChange lrcBackWrong)

/-- 'busbarlaw02.LrcOrder': WHATEVER THE INPUT: true; the input reads as it did. -/
def lrcOrderSpec : ChangeSpec := { name := "lrcOrder", fn := fun _ => fun
  | [d1, d2] => { results := [.lit (.bool true)], args := [d1, d2] }
  | _ => none }
def lrcOrderRow : OpenClaim := { program := "ytgkifohjjapifaa", sum := "2be17c7f11fc444664b5839c412ca48f8d4099b06eedc0ffb1ea4413b14698f7", func := "busbar/busbarlaw02.LrcOrder", spec := "lrcOrder", unfollowed := true, recurses := true, apart := false }
def LrcOrderSaid : Prop := lrcOrderRow.holds Try.pinned (OpenSpec.ofChange lrcOrderSpec)

/-- ITS FALSE NEIGHBOUR: 'it returns false'. Refute it at one input. -/
def lrcOrderWrong : ChangeSpec := { name := "lrcOrder", fn := fun _ => fun
  | [d1, d2] => { results := [.lit (.bool false)], args := [d1, d2] }
  | _ => none }
def LrcOrderWrongFalsely : Prop := lrcOrderRow.holds Try.pinned (OpenSpec.ofChange lrcOrderWrong)

/-- 'busbarlaw02.LrcParts': WHATEVER THE INPUT: true; the input reads as it did. -/
def lrcPartsSpec : ChangeSpec := { name := "lrcParts", fn := fun _ => fun
  | [d1, d2] => { results := [.lit (.bool true)], args := [d1, d2] }
  | _ => none }
def lrcPartsRow : OpenClaim := { program := "ytgkifohjjapifaa", sum := "2be17c7f11fc444664b5839c412ca48f8d4099b06eedc0ffb1ea4413b14698f7", func := "busbar/busbarlaw02.LrcParts", spec := "lrcParts", unfollowed := true, recurses := true, apart := false }
def LrcPartsSaid : Prop := lrcPartsRow.holds Try.pinned (OpenSpec.ofChange lrcPartsSpec)

/-- ITS FALSE NEIGHBOUR: 'it returns false'. Refute it at one input. -/
def lrcPartsWrong : ChangeSpec := { name := "lrcParts", fn := fun _ => fun
  | [d1, d2] => { results := [.lit (.bool false)], args := [d1, d2] }
  | _ => none }
def LrcPartsWrongFalsely : Prop := lrcPartsRow.holds Try.pinned (OpenSpec.ofChange lrcPartsWrong)

/- THE SECOND FORM. 'bulk': how many values and letters a reading holds, each counted each time it is reached (what is shared counts as often as it is met; a slice's spare places count too). A statement '..UptoSaid' is the law's where the arguments, and the package variables that the reading takes, are together of bulk at most 1048576: NARROWER than '..Said'. Prove '..Said' where nothing that the law and all that it calls make is longer than what came in: it says more and counts as full. Else prove '..UptoSaid'. A law counts once. -/
mutual
def uptoBulk {H : Type} : DataW H → Nat
  | .lit (.string bytes) => bytes.length + 1
  | .lit _ => 1
  | .nil => 1
  | .ptr d => uptoBulk d + 1
  | .slice elems spare => uptoBulkAll elems + uptoBulkAll spare + 1
  | .agg parts => uptoBulkAll parts + 1
  | .iface _ d => uptoBulk d + 1
  | .map entries => uptoBulkEntries entries + 1
  | .held _ => 1
def uptoBulkAll {H : Type} : List (DataW H) → Nat
  | [] => 0
  | d :: r => uptoBulk d + uptoBulkAll r
def uptoBulkEntries {H : Type} : List (Lit × DataW H) → Nat
  | [] => 0
  | x :: r => uptoBulkEntry x + uptoBulkEntries r
def uptoBulkEntry {H : Type} : Lit × DataW H → Nat
  | (.string bytes, d) => bytes.length + uptoBulk d + 1
  | (_, d) => uptoBulk d + 1
 end
def uptoSmall : (H : Type) → List (DataW H) → Bool := fun _ ds => decide (uptoBulkAll ds ≤ 1048576)
def OpenSpec.upto (s : _root_.Go.ChangeSpec) : _root_.Go.OpenSpec := { _root_.Go.OpenSpec.ofChange s with cond := some uptoSmall }

/-- 'busbarlaw02.LrcTells', WHERE WHAT IT READS IS OF BULK AT MOST 1048576: true; the input reads as it did. -/
def lrcTellsUptoRow : OpenClaim := { program := "ytgkifohjjapifaa", sum := "2be17c7f11fc444664b5839c412ca48f8d4099b06eedc0ffb1ea4413b14698f7", func := "busbar/busbarlaw02.LrcTells", spec := "lrcTells", unfollowed := true, recurses := true, apart := false, narrowed := true }
def LrcTellsUptoSaid : Prop := lrcTellsUptoRow.holds Try.pinned (OpenSpec.upto lrcTellsSpec)

/-- 'busbarlaw02.LrcBack', WHERE WHAT IT READS IS OF BULK AT MOST 1048576: true; the input reads as it did. -/
def lrcBackUptoRow : OpenClaim := { program := "ytgkifohjjapifaa", sum := "2be17c7f11fc444664b5839c412ca48f8d4099b06eedc0ffb1ea4413b14698f7", func := "busbar/busbarlaw02.LrcBack", spec := "lrcBack", unfollowed := true, recurses := true, apart := false, narrowed := true }
def LrcBackUptoSaid : Prop := lrcBackUptoRow.holds Try.pinned (OpenSpec.upto lrcBackSpec)

/-- 'busbarlaw02.LrcOrder', WHERE WHAT IT READS IS OF BULK AT MOST 1048576: true; the input reads as it did. -/
def lrcOrderUptoRow : OpenClaim := { program := "ytgkifohjjapifaa", sum := "2be17c7f11fc444664b5839c412ca48f8d4099b06eedc0ffb1ea4413b14698f7", func := "busbar/busbarlaw02.LrcOrder", spec := "lrcOrder", unfollowed := true, recurses := true, apart := false, narrowed := true }
def LrcOrderUptoSaid : Prop := lrcOrderUptoRow.holds Try.pinned (OpenSpec.upto lrcOrderSpec)

/-- 'busbarlaw02.LrcParts', WHERE WHAT IT READS IS OF BULK AT MOST 1048576: true; the input reads as it did. -/
def lrcPartsUptoRow : OpenClaim := { program := "ytgkifohjjapifaa", sum := "2be17c7f11fc444664b5839c412ca48f8d4099b06eedc0ffb1ea4413b14698f7", func := "busbar/busbarlaw02.LrcParts", spec := "lrcParts", unfollowed := true, recurses := true, apart := false, narrowed := true }
def LrcPartsUptoSaid : Prop := lrcPartsUptoRow.holds Try.pinned (OpenSpec.upto lrcPartsSpec)

end Rows
end Go.Proofs.Ytgkifohjjapifaa
