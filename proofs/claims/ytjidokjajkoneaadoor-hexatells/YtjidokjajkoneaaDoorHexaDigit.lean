/-
  The contract of hexa.Digit: what number any byte has.
-/
import Derived.Test.YtjidokjajkoneaaDoorBytes
import Derived.Test.YtjidokjajkoneaaDoorHexaLaid
import Derived.Test.YtjidokjajkoneaaDoorHexaMath
namespace Go.Proofs.YtjidokjajkoneaaDoor
open Go.RowKit
open Hexa

theorem digL_at (k : Nat) (h : k < 16) : digL[k]? = some (hexN k : Int) := by
  have : ∀ j : Fin 16, digL[j.val]? = some (hexN j.val : Int) := by decide +kernel
  exact this ⟨k, h⟩
theorem digA_at (k : Nat) (h : k < 16) : digA[k]? = some (.int .u8 (hexN k)) := by
  unfold digA
  rw [List.getElem?_toArray, List.getElem?_map, digL_at k h]; rfl
theorem index_digits (k : Nat) (h : k < 16) (w : World) : (Instr.index 37 (.agg digA) (.int .i64 k)).run Tryd.prog w = .ok (.int .u8 (hexN k)) w :=
  match k, h with
  | 0, _ => by kernel_rfl
  | 1, _ => by kernel_rfl
  | 2, _ => by kernel_rfl
  | 3, _ => by kernel_rfl
  | 4, _ => by kernel_rfl
  | 5, _ => by kernel_rfl
  | 6, _ => by kernel_rfl
  | 7, _ => by kernel_rfl
  | 8, _ => by kernel_rfl
  | 9, _ => by kernel_rfl
  | 10, _ => by kernel_rfl
  | 11, _ => by kernel_rfl
  | 12, _ => by kernel_rfl
  | 13, _ => by kernel_rfl
  | 14, _ => by kernel_rfl
  | 15, _ => by kernel_rfl
  | n + 16, h => absurd h (by omega)

set_option maxHeartbeats 400000 in
theorem digit_any (c : Nat) (w : World) (hD : Laid w) :
    Calls Tryd.prog 11 #[.int .u8 c] w fun e w' => e = .returned (.int .i64 (digZ c)) ∧ w' = w := by
  obtain ⟨td, fd, hg⟩ := hD
  have hi := index_digits
  generalize hA : digA = A at *
  have hs : (Tryd.prog.info? 37).map (·.size) = some A.size := by rw [← hA]; kernel_rfl
  have HS := hide hs
  have HG := hide hg
  have HI := hide hi
  clear hs hg hi hA
  go_enter Tryd.func11, Tryd.ntmps11
  go_wp2_with (refine wpList_load_row rfl 37 _ rfl 0 rfl td _ fd _ HG.out Tryd.underlying37 rfl HS.out ?_)
  go_loop [3, 4, 6] (fun _ _ i => ∃ k : Nat, k ≤ 16 ∧ i = .int .i64 k ∧ ∀ j, j < k → hexN j ≠ c) (fun _ _ i => 16 - (intOf i).toNat)
  case atStart => exact ⟨0, by omega, rfl, fun j hj => absurd hj (by omega)⟩
  case round =>
    obtain ⟨k, hk, rfl, hno⟩ := hrel
    have HN := hide hno
    clear hno
    by_cases hlt : k < 16
    · have hix := HI.out k hlt
      by_cases heq : hexN k = c
      · have he : ((hexN k : Int) == (c : Int)) = true := by rw [beq_cast]; simpa using heq
        go_wp2
        go_ret
        exact ⟨ret_int (digZ_of c k hlt heq).symm, rfl⟩
      · have he : ((hexN k : Int) == (c : Int)) = false := by rw [beq_cast]; simpa using heq
        go_wp2
        go_round
        case rel => exact ⟨k + 1, by omega, by go_num, fun j hj => by
          by_cases h : j = k
          · rw [h]; exact heq
          · exact HN.out j (by omega)⟩
        case measure => simp [intOf]; omega
    · go_wp2
      go_ret
      exact ⟨ret_int (digZ_none c fun j hj => HN.out j (by omega)).symm, rfl⟩

end Go.Proofs.YtjidokjajkoneaaDoor
