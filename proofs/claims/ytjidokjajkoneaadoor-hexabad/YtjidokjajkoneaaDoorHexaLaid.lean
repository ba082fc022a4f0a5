/-
  The one listed variable, hexa.digits: from the row's condition to what the walks ask of it.
-/
import Derived.Test.YtjidokjajkoneaaDoorRows
import Derived.Test.YtjidokjajkoneaaDoorBase
import Derived.LaidMore
import Derived.Lib.LaidTab
import Derived.MakeChecks
import Derived.Stop.Joined
import Derived.Laws.Rows
namespace Go.Proofs.YtjidokjajkoneaaDoor
open Go.ChangeShapes Go.WideShapes Go.ChangeAt Go.RowKit

def laidL : List (String × DataW Unit) := [("busbar/hexa.digits", Rows.laid_busbar_hexa_digits)]
def digL : List Int := [48, 49, 50, 51, 52, 53, 54, 55, 56, 57, 65, 66, 67, 68, 69, 70]
def digA : Array Value := (digL.map fun z => Value.int .u8 z).toArray
/-- The variable's block holds the sixteen signs. -/
def Laid (w : World) : Prop := ∃ t fr, w.heap[0]? = some (.cells digA t fr)

theorem gD : Tryd.prog.globalNamed "busbar/hexa.digits" = some 0 := by kernel_rfl
theorem tD : (Tryd.prog.globals[0]?).map (·.type) = some 37 := by kernel_rfl
/-- The door's own heap meets the condition. -/
theorem door_met (os : Os) (args : Array Value) : laidMetH Tryd.prog laidL ((World.doorLaid Tryd.prog 400 os).forCall (fun _ _ => 0) ⟨#[], args, []⟩).memory :=
  laidMetH_of_parts3 (fuel := 8) (laidMet_of_run' 8 (by kernel_rfl) (by kernel_rfl)) (by kernel_rfl) (by kernel_rfl)

theorem laid_of_met {W : World} (h : laidMetH Tryd.prog laidL W) : Laid W := by
  rw [MakeChecks.laidMetH_plain _ _ _ (by kernel_rfl)] at h
  have hT : Lib.TabIs Tryd.prog W "busbar/hexa.digits" .u8 digL := Lib.tabIs_of_head (rest := []) gD tD Tryd.underlying37 Tryd.underlying5 (by kernel_rfl) (by kernel_rfl) h
  unfold Lib.TabIs World.var? at hT
  rw [gD, Option.bind_some] at hT
  split at hT
  · rename_i cs t fr hg
    cases hT
    exact ⟨t, fr, hg⟩
  · cases hT

theorem Laid.pos {w : World} (h : Laid w) : 0 < w.heap.size := by
  obtain ⟨t, fr, h⟩ := h
  exact (Array.getElem?_eq_some_iff.1 h).1
theorem Laid.mono {w w' : World} (h : Laid w) (hb : Below w.heap.size w w') : Laid w' := by
  obtain ⟨t, fr, hg⟩ := h
  have := (Array.getElem?_eq_some_iff.1 hg).1
  exact ⟨t, fr, by rw [← hg]; exact hb.block _ this⟩

end Go.Proofs.YtjidokjajkoneaaDoor
