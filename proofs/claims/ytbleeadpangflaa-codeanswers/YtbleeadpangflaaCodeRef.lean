/-
  The document's own answers of layer 7: codes, reasons, sub-functions, answers.
-/
import Derived.Test.YtbleeadpangflaaCode
namespace Go.Proofs.Ytbleeadpangflaa
open Go.RowKit

set_option maxRecDepth 20000 in
theorem rpublic_any (c : Nat) (w : World) :
    Calls Try.prog 9 #[.int .u8 c] w fun e w' => e = .returned (.bool (pub c)) ∧ w' = w := by
  go_enter Try.func9, Try.ntmps9
  go_wp2
  all_goals (go_ret; exact ⟨ret_bool (by unfold pub; rw [Bool.eq_iff_iff]; simp; omega), rfl⟩)

set_option maxRecDepth 20000 in
theorem rfailure_any (c : Nat) (w : World) :
    Calls Try.prog 11 #[.int .u8 c] w fun e w' => e = .returned (.bool (fails c)) ∧ w' = w := by
  go_enter Try.func11, Try.ntmps11
  go_wp2
  all_goals (go_ret; exact ⟨ret_bool (by unfold fails; rw [Bool.eq_iff_iff]; simp; omega), rfl⟩)

set_option maxRecDepth 20000 in
theorem rsub_any (c : Nat) (w : World) :
    Calls Try.prog 16 #[.int .u16 c] w fun e w' => e = .returned (.bool (isSub c)) ∧ w' = w := by
  go_enter Try.func16, Try.ntmps16
  go_wp2
  all_goals (go_ret; exact ⟨ret_bool (by unfold isSub; rw [Bool.eq_iff_iff]; simp; omega), rfl⟩)

set_option maxRecDepth 20000 in
theorem ranswers_any (a b : Nat) (w : World) :
    Calls Try.prog 13 #[.int .u8 a, .int .u8 b] w fun e w' => e = .returned (.bool (ans a b)) ∧ w' = w := by
  go_enter Try.func13, Try.ntmps13
  go_wp2
  all_goals (go_ret; exact ⟨ret_bool (by unfold ans; rw [Bool.eq_iff_iff]; simp; omega), rfl⟩)

end Go.Proofs.Ytbleeadpangflaa
