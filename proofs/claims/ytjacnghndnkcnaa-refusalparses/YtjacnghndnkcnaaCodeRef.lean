/-
  The document's own answers of layer 7: codes, reasons, sub-functions, answers.
-/
import Derived.Test.YtjacnghndnkcnaaCode
namespace Go.Proofs.Ytjacnghndnkcnaa
open Go.RowKit

set_option maxRecDepth 20000 in
theorem rpublic_any (c : Nat) (w : World) :
    Calls Try.prog 16 #[.int .u8 c] w fun e w' => e = .returned (.bool (pub c)) ∧ w' = w := by
  go_enter Try.func16, Try.ntmps16
  go_wp2
  all_goals (go_ret; exact ⟨ret_bool (by unfold pub; rw [Bool.eq_iff_iff]; simp; omega), rfl⟩)

set_option maxRecDepth 20000 in
theorem rfailure_any (c : Nat) (w : World) :
    Calls Try.prog 17 #[.int .u8 c] w fun e w' => e = .returned (.bool (fails c)) ∧ w' = w := by
  go_enter Try.func17, Try.ntmps17
  go_wp2
  all_goals (go_ret; exact ⟨ret_bool (by unfold fails; rw [Bool.eq_iff_iff]; simp; omega), rfl⟩)

end Go.Proofs.Ytjacnghndnkcnaa
