/-
  NARROWER THAN 'FOR EVERY INPUT', by the rows' own cells (each row's printed sentence says how): HexaTells: laid · HexaBack: laid · HexaBad: laid · HexaOrder: laid · HexaEach: laid.
  DERIVED. THE GIVEN ROWS OF THIS SEAT. 5 by the template 'for every input the law returns true; each argument reads behind the call as it read before'; 0 by the template 'total and deterministic' (their statements: YtjidokjajkoneaaDoorTotals.lean).
  GIVEN WITH THE SEED: the statements are not yours to turn. If you find one false, say at which input.
  Laid BY PROGRAM, IN A SANDBOX (cutbox-rows.mjs): the forced cells as the released guide's own fill.sh prints them over the translation cd0e03435ba97ba5… (all of the seat's roots in one cut). By AI agents, Wed Nov 11 2026. No macro, syntax, notation, axiom, sorry.
-/
import Derived.Test.YtjidokjajkoneaaDoorChecked
import GoSem.Claim
import GoSem.ClaimJoined
import GoSem.ClaimMapViews
import Derived.JoinedTies
import Derived.KernelRfl
namespace Go.Proofs.YtjidokjajkoneaaDoor
/- THE CELL 'sum', in the pinned program and in every row, IS THE sha256 OF THE DUMP (.gsa) THAT YtjidokjajkoneaaDoorProg.lean LOADS. Nothing in Lean hashes anything: it is a label: what it is worth is what the hold of that sum in a sandbox is worth. -/
noncomputable def Tryd.pinned : Pinned := { name := "ytjidokjajkoneaadoor", sum := "cd0e03435ba97ba503f3fbebc69ca9644e30c7eadc66bff3ee9e1cb7b0f627de", checked := Tryd.checked }
namespace Rows
def none {H : Type} : Left H := { results := [], args := [] }

/- WHAT THE LISTED PACKAGE-LEVEL VARIABLES READ AS WHEN THE CALL BEGINS. Each datum BY PROGRAM (the guide's laid-datum.mjs) off the statement by which the dump's own 'gosem.cut.vars' lays the variable. In a bare row this is a premise. The card (YtjidokjajkoneaaDoorCards.lean) ties it to the program's text. -/
def laid_busbar_hexa_digits {H : Type} : DataW H := .agg [.lit (.int .u8 48), .lit (.int .u8 49), .lit (.int .u8 50), .lit (.int .u8 51), .lit (.int .u8 52), .lit (.int .u8 53), .lit (.int .u8 54), .lit (.int .u8 55), .lit (.int .u8 56), .lit (.int .u8 57), .lit (.int .u8 65), .lit (.int .u8 66), .lit (.int .u8 67), .lit (.int .u8 68), .lit (.int .u8 69), .lit (.int .u8 70)]

/-- 'busbarlaw03.HexaTells': WHATEVER THE INPUT: true; the input reads as it did. -/
def hexaTellsSpec : ChangeSpec := { name := "hexaTells", fn := fun _ => fun
  | [d1, d2, d3] => { results := [.lit (.bool true)], args := [d1, d2, d3] }
  | _ => none }
def hexaTellsRow : OpenClaim := { program := "ytjidokjajkoneaadoor", sum := "cd0e03435ba97ba503f3fbebc69ca9644e30c7eadc66bff3ee9e1cb7b0f627de", func := "busbar/busbarlaw03.HexaTells", spec := "hexaTells", named := ["busbar/hexa.digits"], apart := false, laid := [("busbar/hexa.digits", laid_busbar_hexa_digits)] }
def HexaTellsSaid : Prop := hexaTellsRow.holds Tryd.pinned (OpenSpec.ofChange hexaTellsSpec)

/-- ITS FALSE NEIGHBOUR: 'it returns false'. Refute it at one input. -/
def hexaTellsWrong : ChangeSpec := { name := "hexaTells", fn := fun _ => fun
  | [d1, d2, d3] => { results := [.lit (.bool false)], args := [d1, d2, d3] }
  | _ => none }
def HexaTellsWrongFalsely : Prop := hexaTellsRow.holds Tryd.pinned (OpenSpec.ofChange hexaTellsWrong)

/-- 'busbarlaw03.HexaBack': WHATEVER THE INPUT: true; the input reads as it did. -/
def hexaBackSpec : ChangeSpec := { name := "hexaBack", fn := fun _ => fun
  | [d1, d2] => { results := [.lit (.bool true)], args := [d1, d2] }
  | _ => none }
def hexaBackRow : OpenClaim := { program := "ytjidokjajkoneaadoor", sum := "cd0e03435ba97ba503f3fbebc69ca9644e30c7eadc66bff3ee9e1cb7b0f627de", func := "busbar/busbarlaw03.HexaBack", spec := "hexaBack", named := ["busbar/hexa.digits"], apart := false, laid := [("busbar/hexa.digits", laid_busbar_hexa_digits)] }
def HexaBackSaid : Prop := hexaBackRow.holds Tryd.pinned (OpenSpec.ofChange hexaBackSpec)

/-- ITS FALSE NEIGHBOUR: 'it returns false'. Refute it at one input. -/
def hexaBackWrong : ChangeSpec := { name := "hexaBack", fn := fun _ => fun
  | [d1, d2] => { results := [.lit (.bool false)], args := [d1, d2] }
  | _ => none }
def HexaBackWrongFalsely : Prop := hexaBackRow.holds Tryd.pinned (OpenSpec.ofChange hexaBackWrong)

/-- 'busbarlaw03.HexaBad': WHATEVER THE INPUT: true; the input reads as it did. -/
def hexaBadSpec : ChangeSpec := { name := "hexaBad", fn := fun _ => fun
  | [d1, d2, d3] => { results := [.lit (.bool true)], args := [d1, d2, d3] }
  | _ => none }
def hexaBadRow : OpenClaim := { program := "ytjidokjajkoneaadoor", sum := "cd0e03435ba97ba503f3fbebc69ca9644e30c7eadc66bff3ee9e1cb7b0f627de", func := "busbar/busbarlaw03.HexaBad", spec := "hexaBad", named := ["busbar/hexa.digits"], apart := false, laid := [("busbar/hexa.digits", laid_busbar_hexa_digits)] }
def HexaBadSaid : Prop := hexaBadRow.holds Tryd.pinned (OpenSpec.ofChange hexaBadSpec)

/-- ITS FALSE NEIGHBOUR: 'it returns false'. Refute it at one input. -/
def hexaBadWrong : ChangeSpec := { name := "hexaBad", fn := fun _ => fun
  | [d1, d2, d3] => { results := [.lit (.bool false)], args := [d1, d2, d3] }
  | _ => none }
def HexaBadWrongFalsely : Prop := hexaBadRow.holds Tryd.pinned (OpenSpec.ofChange hexaBadWrong)

/-- 'busbarlaw03.HexaOrder': WHATEVER THE INPUT: true; the input reads as it did. -/
def hexaOrderSpec : ChangeSpec := { name := "hexaOrder", fn := fun _ => fun
  | [d1, d2, d3] => { results := [.lit (.bool true)], args := [d1, d2, d3] }
  | _ => none }
def hexaOrderRow : OpenClaim := { program := "ytjidokjajkoneaadoor", sum := "cd0e03435ba97ba503f3fbebc69ca9644e30c7eadc66bff3ee9e1cb7b0f627de", func := "busbar/busbarlaw03.HexaOrder", spec := "hexaOrder", named := ["busbar/hexa.digits"], apart := false, laid := [("busbar/hexa.digits", laid_busbar_hexa_digits)] }
def HexaOrderSaid : Prop := hexaOrderRow.holds Tryd.pinned (OpenSpec.ofChange hexaOrderSpec)

/-- ITS FALSE NEIGHBOUR: 'it returns false'. Refute it at one input. -/
def hexaOrderWrong : ChangeSpec := { name := "hexaOrder", fn := fun _ => fun
  | [d1, d2, d3] => { results := [.lit (.bool false)], args := [d1, d2, d3] }
  | _ => none }
def HexaOrderWrongFalsely : Prop := hexaOrderRow.holds Tryd.pinned (OpenSpec.ofChange hexaOrderWrong)

/-- 'busbarlaw03.HexaEach': WHATEVER THE INPUT: true; the input reads as it did. -/
def hexaEachSpec : ChangeSpec := { name := "hexaEach", fn := fun _ => fun
  | [d1, d2] => { results := [.lit (.bool true)], args := [d1, d2] }
  | _ => none }
def hexaEachRow : OpenClaim := { program := "ytjidokjajkoneaadoor", sum := "cd0e03435ba97ba503f3fbebc69ca9644e30c7eadc66bff3ee9e1cb7b0f627de", func := "busbar/busbarlaw03.HexaEach", spec := "hexaEach", named := ["busbar/hexa.digits"], apart := false, laid := [("busbar/hexa.digits", laid_busbar_hexa_digits)] }
def HexaEachSaid : Prop := hexaEachRow.holds Tryd.pinned (OpenSpec.ofChange hexaEachSpec)

/-- ITS FALSE NEIGHBOUR: 'it returns false'. Refute it at one input. -/
def hexaEachWrong : ChangeSpec := { name := "hexaEach", fn := fun _ => fun
  | [d1, d2] => { results := [.lit (.bool false)], args := [d1, d2] }
  | _ => none }
def HexaEachWrongFalsely : Prop := hexaEachRow.holds Tryd.pinned (OpenSpec.ofChange hexaEachWrong)

/- THE SECOND FORM. 'bulk': how many values and letters a reading holds, each counted each time it is reached (what is shared counts as often as it is met; a slice's spare places count too). A statement '..UptoSaid' is the law's where the arguments, and the package variables that the reading takes, are together of bulk at most 1048576: NARROWER than '..Said'. Prove '..Said' where nothing that the law and all that it calls make is longer than what came in: it says more and counts as full. Else prove '..UptoSaid'. A law counts once. -/
mutual
def uptoBulk {H : Type} : DataW H → Nat
  | .lit (.string bytes) => bytes.length + 1
  | .lit _ => 1
  | .nil => 1
  | .ptr d => uptoBulk d + 1
  | .slice elems spare => uptoBulkAll elems + uptoBulkAll spare + 1
  | .agg parts => uptoBulkAll parts + 1
  | .iface _ d => uptoBulk d + 1
  | .map entries => uptoBulkEntries entries + 1
  | .held _ => 1
def uptoBulkAll {H : Type} : List (DataW H) → Nat
  | [] => 0
  | d :: r => uptoBulk d + uptoBulkAll r
def uptoBulkEntries {H : Type} : List (Lit × DataW H) → Nat
  | [] => 0
  | x :: r => uptoBulkEntry x + uptoBulkEntries r
def uptoBulkEntry {H : Type} : Lit × DataW H → Nat
  | (.string bytes, d) => bytes.length + uptoBulk d + 1
  | (_, d) => uptoBulk d + 1
 end
def uptoSmall : (H : Type) → List (DataW H) → Bool := fun _ ds => decide (uptoBulkAll ds ≤ 1048576)
def OpenSpec.upto (s : _root_.Go.ChangeSpec) : _root_.Go.OpenSpec := { _root_.Go.OpenSpec.ofChange s with cond := some uptoSmall }

/-- 'busbarlaw03.HexaTells', WHERE WHAT IT READS IS OF BULK AT MOST 1048576: true; the input reads as it did. -/
def hexaTellsUptoRow : OpenClaim := { program := "ytjidokjajkoneaadoor", sum := "cd0e03435ba97ba503f3fbebc69ca9644e30c7eadc66bff3ee9e1cb7b0f627de", func := "busbar/busbarlaw03.HexaTells", spec := "hexaTells", named := ["busbar/hexa.digits"], apart := false, laid := [("busbar/hexa.digits", laid_busbar_hexa_digits)], narrowed := true }
def HexaTellsUptoSaid : Prop := hexaTellsUptoRow.holds Tryd.pinned (OpenSpec.upto hexaTellsSpec)

/-- 'busbarlaw03.HexaBack', WHERE WHAT IT READS IS OF BULK AT MOST 1048576: true; the input reads as it did. -/
def hexaBackUptoRow : OpenClaim := { program := "ytjidokjajkoneaadoor", sum := "cd0e03435ba97ba503f3fbebc69ca9644e30c7eadc66bff3ee9e1cb7b0f627de", func := "busbar/busbarlaw03.HexaBack", spec := "hexaBack", named := ["busbar/hexa.digits"], apart := false, laid := [("busbar/hexa.digits", laid_busbar_hexa_digits)], narrowed := true }
def HexaBackUptoSaid : Prop := hexaBackUptoRow.holds Tryd.pinned (OpenSpec.upto hexaBackSpec)

/-- 'busbarlaw03.HexaBad', WHERE WHAT IT READS IS OF BULK AT MOST 1048576: true; the input reads as it did. -/
def hexaBadUptoRow : OpenClaim := { program := "ytjidokjajkoneaadoor", sum := "cd0e03435ba97ba503f3fbebc69ca9644e30c7eadc66bff3ee9e1cb7b0f627de", func := "busbar/busbarlaw03.HexaBad", spec := "hexaBad", named := ["busbar/hexa.digits"], apart := false, laid := [("busbar/hexa.digits", laid_busbar_hexa_digits)], narrowed := true }
def HexaBadUptoSaid : Prop := hexaBadUptoRow.holds Tryd.pinned (OpenSpec.upto hexaBadSpec)

/-- 'busbarlaw03.HexaOrder', WHERE WHAT IT READS IS OF BULK AT MOST 1048576: true; the input reads as it did. -/
def hexaOrderUptoRow : OpenClaim := { program := "ytjidokjajkoneaadoor", sum := "cd0e03435ba97ba503f3fbebc69ca9644e30c7eadc66bff3ee9e1cb7b0f627de", func := "busbar/busbarlaw03.HexaOrder", spec := "hexaOrder", named := ["busbar/hexa.digits"], apart := false, laid := [("busbar/hexa.digits", laid_busbar_hexa_digits)], narrowed := true }
def HexaOrderUptoSaid : Prop := hexaOrderUptoRow.holds Tryd.pinned (OpenSpec.upto hexaOrderSpec)

/-- 'busbarlaw03.HexaEach', WHERE WHAT IT READS IS OF BULK AT MOST 1048576: true; the input reads as it did. -/
def hexaEachUptoRow : OpenClaim := { program := "ytjidokjajkoneaadoor", sum := "cd0e03435ba97ba503f3fbebc69ca9644e30c7eadc66bff3ee9e1cb7b0f627de", func := "busbar/busbarlaw03.HexaEach", spec := "hexaEach", named := ["busbar/hexa.digits"], apart := false, laid := [("busbar/hexa.digits", laid_busbar_hexa_digits)], narrowed := true }
def HexaEachUptoSaid : Prop := hexaEachUptoRow.holds Tryd.pinned (OpenSpec.upto hexaEachSpec)

end Rows
end Go.Proofs.YtjidokjajkoneaaDoor
