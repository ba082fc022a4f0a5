/-
  The document's own answers of layer 7: codes, reasons, sub-functions, answers.
-/
import Derived.Test.YtemomgcapjpaiaaCode
namespace Go.Proofs.Ytemomgcapjpaiaa
open Go.RowKit

set_option maxRecDepth 20000 in
theorem rsub_any (c : Nat) (w : World) :
    Calls Try.prog 19 #[.int .u16 c] w fun e w' => e = .returned (.bool (isSub c)) ∧ w' = w := by
  go_enter Try.func19, Try.ntmps19
  go_wp2
  all_goals (go_ret; exact ⟨ret_bool (by unfold isSub; rw [Bool.eq_iff_iff]; simp; omega), rfl⟩)

end Go.Proofs.Ytemomgcapjpaiaa
