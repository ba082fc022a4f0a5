/-
  The chapter's examples of layer 7.
-/
import Derived.Test.YtbleeadpangflaaCode
import Derived.Test.YtbleeadpangflaaCodeSame
namespace Go.Proofs.Ytbleeadpangflaa
open Go.RowKit

def msg3 : MsgM := ⟨3, 0, 0, 0, 0, 0, 0, 0, 0, 0, 0, 0, [], [], [], [], 0, 0, 0, 0, 0, []⟩
theorem z0 : 0 ≤ maxLen := Nat.zero_le _

set_option maxRecDepth 20000 in
set_option maxHeartbeats 2000000 in
theorem awake_any (w : World) : Calls Try.prog 7 #[] w fun e w' => e = .returned (.bool true) ∧ Below w.heap.size w w' := by
  go_enter Try.func7, Try.ntmps7
  go_wp2_with fail
  refine (public_any 43 (by omega) _).mono ?_
  rintro e w1 ⟨rfl, hb1⟩
  rw [show pub 43 = true from rfl]
  go_wp2_with fail
  refine (public_any 44 (by omega) _).mono ?_
  rintro e w2 ⟨rfl, hb2⟩
  rw [show pub 44 = false from rfl]
  replace hb2 := below_next hb1 hb2 (Nat.le_refl _)
  clear hb1
  go_wp2_with fail
  refine (answers_any 3 131 _).mono ?_
  rintro e w3 ⟨rfl, rfl⟩
  rw [show ans 3 131 = true from rfl]
  go_wp2_with fail
  refine (failure_any 11 (by omega) _).mono ?_
  rintro e w4 ⟨rfl, hb4⟩
  rw [show fails 11 = true from rfl]
  replace hb4 := below_next hb2 hb4 (Nat.le_refl _)
  clear hb2
  go_wp2_with fail
  refine (broadcast_any 0 _).mono ?_
  rintro e w5 ⟨rfl, rfl⟩
  rw [show decide (0 = 0) = true from rfl]
  go_wp2_with fail
  refine (bits_any 20 (by omega) _).mono ?_
  rintro e w6 ⟨rfl, hb6⟩
  rw [show isSub 20 = true from rfl]
  replace hb6 := below_next hb4 hb6 (Nat.le_refl _)
  clear hb4
  go_wp2_with fail
  have hb7 : Below w.heap.size w (w6.alloc (.cells #[] 5)) := hb6.alloc hb6.size _
  refine (codeSame_any _ _ msg3 msg3 _ ⟨none, 0, 0, none, 0, 0, some ⟨w6.heap.size, 0, none⟩, 0, 0, none, 0, 0, none, 0, 0, rfl, Sl.nil _ _ z0, Sl.nil _ _ z0, Sl.nil _ _ z0, Rs.nil _ _ z0, Obs.nil _ _ z0⟩
    ⟨none, 0, 0, none, 0, 0, none, 0, 0, none, 0, 0, none, 0, 0, rfl, Sl.nil _ _ z0, Sl.nil _ _ z0, Sl.nil _ _ z0, Rs.nil _ _ z0, Obs.nil _ _ z0⟩).mono ?_
  rintro e w7 ⟨rfl, hb8⟩
  rw [(MsgM.same_iff msg3 msg3).2 rfl]
  replace hb8 := below_next hb7 hb8 (Nat.le_refl _)
  go_wp2
  go_ret
  exact ⟨rfl, hb8⟩

end Go.Proofs.Ytbleeadpangflaa
