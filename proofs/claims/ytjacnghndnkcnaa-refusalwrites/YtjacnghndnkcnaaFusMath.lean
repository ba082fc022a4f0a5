/-
  Package refusal, on lists: what was refused; refusals and two bytes are one to one.
-/
import Derived.Test.YtjacnghndnkcnaaCode
import Derived.Test.YtjacnghndnkcnaaMsgRow
namespace Go.Proofs.Ytjacnghndnkcnaa
open Go.RowKit

namespace Fus
def second (x : UInt8) : List UInt8 → MsgM × Int
  | [] => (MsgM.zero, 2)
  | y :: r => if fails y.toNat = false then (MsgM.zero, 6) else if r ≠ [] then (MsgM.zero, 3) else ((MsgM.of (x - 128)).put_fail y, 0)
def parse : List UInt8 → MsgM × Int
  | [] => (MsgM.zero, 2)
  | x :: r => if x.toNat < 128 ∨ pub (x.toNat - 128) = false then (MsgM.zero, 4) else second x r
theorem parse_cons (x : UInt8) (r : List UInt8) : parse (x :: r) = if x.toNat < 128 ∨ pub (x.toNat - 128) = false then (MsgM.zero, 4) else second x r := rfl
theorem second_cons (x y : UInt8) (r : List UInt8) : second x (y :: r) = if fails y.toNat = false then (MsgM.zero, 6) else if r ≠ [] then (MsgM.zero, 3) else ((MsgM.of (x - 128)).put_fail y, 0) := rfl
def bytes (m : MsgM) : List UInt8 := [m.code + 128, m.fail]
def ofM (ask why : UInt8) : MsgM := (MsgM.of ask).put_fail why
/-- What is refused, and why. -/
def write (m : MsgM) : Option (List UInt8) := if m.code.toNat < 128 ∧ (parse (bytes m)).2 = 0 ∧ MsgM.same (parse (bytes m)).1 m = true then some (bytes m) else none
def of (ask why : UInt8) : MsgM × Int := if (write (ofM ask why)).isSome = true then (ofM ask why, 0) else (MsgM.zero, 1)
def outW (r : Option (List UInt8)) : List UInt8 := r.getD []
def errW (r : Option (List UInt8)) : Int := if r.isSome then 0 else 1
theorem pub_lt {c : Nat} (h : pub c = true) : c < 44 := by
  unfold pub at h
  simp at h
  omega
theorem sub_nat {x : UInt8} (h : 128 ≤ x.toNat) : (x - 128).toNat = x.toNat - 128 := by
  rw [UInt8.toNat_sub_of_le _ _ (by exact UInt8.le_iff_toNat_le.2 h)]
  rfl
theorem byte_sub {x : UInt8} (h : 128 ≤ x.toNat) : byteV (x - 128) = .int .u8 ((x.toNat - 128 : Nat) : Int) := by
  show Value.int .u8 ((x - 128).toNat : Int) = _
  rw [sub_nat h]
abbrev cells (k j : Nat) : Array Value := #[.int .u8 (k : Int), .int .u8 (j : Int), .int .u16 0, .int .u16 0, .int .u16 0, .int .u16 0, .int .u16 0, .int .u16 0, .int .u16 0, .int .u16 0, .int .u16 0, .int .u16 0, .slice none 0 0, .slice none 0 0, .slice none 0 0, .slice none 0 0, .int .u8 0, .int .u8 0, .int .u8 0, .int .u8 0, .int .u8 0, .slice none 0 0]
theorem cells_one (k j : Nat) : (cells k j).all (·.oneCell') = true := by simp [Value.oneCell']
theorem at_cells (w : World) {c y : UInt8} {k j : Nat} (hk : byteV c = .int .u8 (k : Int)) (hj : byteV y = .int .u8 (j : Int)) : MsgAt w (.agg (cells k j)) (ofM c y) := by
  refine ⟨none, 0, 0, none, 0, 0, none, 0, 0, none, 0, 0, none, 0, 0, ?_, Sl.nil _ _ (by unfold maxLen; omega), Sl.nil _ _ (by unfold maxLen; omega), Sl.nil _ _ (by unfold maxLen; omega), Rs.nil _ _ (by unfold maxLen; omega), Obs.nil _ _ (by unfold maxLen; omega)⟩
  show Value.agg (cells k j) = .agg #[byteV c, byteV y, _, _, _, _, _, _, _, _, _, _, _, _, _, _, _, _, _, _, _, _]
  rw [hk, hj]
  rfl

theorem parse_two {c y : UInt8} (hp : pub c.toNat = true) (hf : fails y.toNat = true) : parse [c + 128, y] = (ofM c y, 0) := by
  have h1 := pub_lt hp
  have h2 : (c + 128).toNat = c.toNat + 128 := by
    rw [UInt8.toNat_add]
    show (c.toNat + 128) % 256 = _
    omega
  have h3 : c + 128 - 128 = c := UInt8.toNat_inj.1 (by rw [sub_nat (by omega), h2]; omega)
  rw [parse_cons, if_neg (by rw [h2]; simp [hp]), second_cons, if_neg (by simp [hf]), if_neg (by simp), h3]
  rfl
/-- The ways of two bytes and more. -/
theorem ways (x y : UInt8) (r : List UInt8) : (parse (x :: y :: r) = (MsgM.zero, 4) ∧ (x.toNat < 128 ∨ pub (x.toNat - 128) = false)) ∨ (128 ≤ x.toNat ∧ pub (x.toNat - 128) = true ∧ (parse (x :: y :: r) = (MsgM.zero, 6) ∨ (fails y.toNat = true ∧ ((r ≠ [] ∧ parse (x :: y :: r) = (MsgM.zero, 3)) ∨ (r = [] ∧ parse (x :: y :: r) = ((MsgM.of (x - 128)).put_fail y, 0)))))) := by
  by_cases h1 : x.toNat < 128 ∨ pub (x.toNat - 128) = false
  · exact .inl ⟨by rw [parse_cons, if_pos h1], h1⟩
  · refine .inr ⟨by omega, ?_, ?_⟩
    · cases hq : pub (x.toNat - 128)
      · exact absurd (.inr hq) h1
      · rfl
    · by_cases h2 : fails y.toNat = false
      · exact .inl (by rw [parse_cons, if_neg h1, second_cons, if_pos h2])
      · refine .inr ⟨by cases hq : fails y.toNat <;> simp_all, ?_⟩
        by_cases h3 : r ≠ []
        · exact .inl ⟨h3, by rw [parse_cons, if_neg h1, second_cons, if_neg h2, if_pos h3]⟩
        · exact .inr ⟨Classical.not_not.1 h3, by rw [parse_cons, if_neg h1, second_cons, if_neg h2, if_neg h3]⟩
theorem one_bad (x : UInt8) : (parse [x] = (MsgM.zero, 4)) ∨ (parse [x] = (MsgM.zero, 2)) := by
  rw [parse_cons]
  split
  · exact .inl rfl
  · exact .inr rfl
theorem parse_zero {b : List UInt8} (h : (parse b).2 = 0) : ∃ c y : UInt8, b = [c + 128, y] ∧ pub c.toNat = true ∧ fails y.toNat = true ∧ parse b = (ofM c y, 0) := by
  match b, h with
  | [], h => exact absurd h (by decide)
  | [x], h =>
    rcases one_bad x with e | e
    · rw [e] at h; exact absurd h (by decide)
    · rw [e] at h; exact absurd h (by decide)
  | x :: y :: r, h =>
    rcases ways x y r with ⟨e, _⟩ | ⟨h128, hp, e | ⟨hf, ⟨_, e⟩ | ⟨hr, e⟩⟩⟩
    · rw [e] at h; exact absurd h (by decide)
    · rw [e] at h; exact absurd h (by decide)
    · rw [e] at h; exact absurd h (by decide)
    · subst hr
      have hc : x - 128 + 128 = x := UInt8.toNat_inj.1 (by
        rw [UInt8.toNat_add, sub_nat h128]
        show (x.toNat - 128 + 128) % 256 = _
        have := byte_lt x
        omega)
      have hp' : pub (x - 128).toNat = true := by rw [sub_nat h128]; exact hp
      refine ⟨x - 128, y, by rw [hc], hp', hf, ?_⟩
      rw [← parse_two hp' hf, hc]
theorem write_iff {m : MsgM} {b : List UInt8} : write m = some b ↔ pub m.code.toNat = true ∧ fails m.fail.toNat = true ∧ m = ofM m.code m.fail ∧ b = bytes m := by
  unfold write
  constructor
  · intro h
    split at h
    · rename_i hc
      obtain ⟨h1, h2, h3⟩ := hc
      injection h with h
      obtain ⟨c, y, e, hp, hf, he⟩ := parse_zero h2
      rw [he] at h3
      have h4 : ofM c y = m := (MsgM.same_iff _ _).1 h3
      subst h4
      exact ⟨hp, hf, rfl, h.symm⟩
    · cases h
  · rintro ⟨hp, hf, hm, rfl⟩
    have h1 := pub_lt hp
    have h2 : parse (bytes m) = (m, 0) := by
      rw [show bytes m = [m.code + 128, m.fail] from rfl, parse_two hp hf, ← hm]
    rw [if_pos ⟨by omega, by rw [h2], by rw [h2]; exact (MsgM.same_iff _ _).2 rfl⟩]
theorem write_none {m : MsgM} (h : ¬ (pub m.code.toNat = true ∧ fails m.fail.toNat = true ∧ m = ofM m.code m.fail)) : write m = none := by
  cases hw : write m with
  | none => rfl
  | some b =>
    obtain ⟨h1, h2, h3, _⟩ := write_iff.1 hw
    exact absurd ⟨h1, h2, h3⟩ h
theorem there {b : List UInt8} (h : (parse b).2 = 0) : write (parse b).1 = some b := by
  obtain ⟨c, y, rfl, hp, hf, he⟩ := parse_zero h
  rw [he]
  exact write_iff.2 ⟨hp, hf, rfl, rfl⟩
theorem back {m : MsgM} {b : List UInt8} (h : write m = some b) : parse b = (m, 0) := by
  obtain ⟨h1, h2, h3, rfl⟩ := write_iff.1 h
  rw [show bytes m = [m.code + 128, m.fail] from rfl, parse_two h1 h2, ← h3]
theorem zero_of {b : List UInt8} (h : (parse b).2 ≠ 0) : (parse b).1 = MsgM.zero := by
  match b, h with
  | [], _ => rfl
  | [x], h => rcases one_bad x with e | e <;> rw [e]
  | x :: y :: r, h =>
    rcases ways x y r with ⟨e, _⟩ | ⟨_, _, e | ⟨_, ⟨_, e⟩ | ⟨_, e⟩⟩⟩
    · rw [e]
    · rw [e]
    · rw [e]
    · rw [e] at h; exact absurd rfl h
end Fus

end Go.Proofs.Ytjacnghndnkcnaa
