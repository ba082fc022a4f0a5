/-
  A package's forms by directions and codes, on lists: Parse and Write, and that they are one to one.
-/
import Derived.Test.YtolkcohmoalnhaaParser
import Derived.Test.YtolkcohmoalnhaaCodeSame
import Derived.Test.YtolkcohmoalnhaaSmall
namespace Go.Proofs.Ytolkcohmoalnhaa
open Go.RowKit
open Cursor

/-- What Write tells: bytes, or none. -/
def outW (r : Option (List UInt8)) : List UInt8 := r.getD []
def errW (r : Option (List UInt8)) : Int := if r.isSome then 0 else 1

structure Pack where
  F : Type
  formOf : Int → UInt8 → Option F
  read : F → MsgM × St → MsgM × St
  bytes : F → MsgM → List UInt8
  valid : UInt8 → F → MsgM → Prop
  good : ∀ c f, Rdr (fun s => read f (MsgM.of c, s)) (bytes f) (valid c f)
  code : ∀ c f m, valid c f m → m.code = c
  dir : ∀ d c f, formOf d c = some f → d = 0 ∨ d = 1
  pos : ∀ c f m, valid c f m → 0 < (bytes f m).length
  len : ∀ c f m, valid c f m → (bytes f m).length ≤ 90000
  small : ∀ c f m, valid c f m → m.Small

namespace Pack
variable (X : Pack)
def parse (dir : Int) (c : UInt8) (b : List UInt8) : MsgM × Int :=
  if dir = 0 ∨ dir = 1 then (match X.formOf dir c with | some f => finish (X.read f (MsgM.of c, St.new b)) | none => (MsgM.zero, 4)) else (MsgM.zero, 1)
def write (dir : Int) (m : MsgM) : Option (List UInt8) :=
  match X.formOf dir m.code with
  | some f => if (X.parse dir m.code (X.bytes f m)).2 = 0 ∧ MsgM.same (X.parse dir m.code (X.bytes f m)).1 m = true then some (X.bytes f m) else none
  | none => none
variable {X}
theorem parse_form {dir : Int} {c : UInt8} {f : X.F} (h : X.formOf dir c = some f) (b : List UInt8) : X.parse dir c b = finish (X.read f (MsgM.of c, St.new b)) := by
  unfold parse
  rw [if_pos (X.dir dir c f h), h]
theorem parse_ok {dir : Int} {c : UInt8} {f : X.F} (h : X.formOf dir c = some f) {m : MsgM} (hv : X.valid c f m) : X.parse dir c (X.bytes f m) = (m, 0) := by
  rw [parse_form h]; exact (X.good c f).fin_ok hv
theorem parse_long {dir : Int} {c : UInt8} {f : X.F} (h : X.formOf dir c = some f) {m : MsgM} (hv : X.valid c f m) (x : UInt8) : X.parse dir c (X.bytes f m ++ [x]) = (MsgM.zero, 3) := by
  rw [parse_form h]; exact (X.good c f).fin_long hv x
theorem parse_short {dir : Int} {c : UInt8} {f : X.F} (h : X.formOf dir c = some f) {m : MsgM} (hv : X.valid c f m) (k : Nat) (hk : k < (X.bytes f m).length) : X.parse dir c ((X.bytes f m).take k) = (MsgM.zero, 2) := by
  rw [parse_form h]; exact (X.good c f).fin_short hv k hk
/-- What is read has a form, and that form's bytes. -/
theorem parse_back {dir : Int} {c : UInt8} {b : List UInt8} (h : (X.parse dir c b).2 = 0) : ∃ f, X.formOf dir c = some f ∧ X.valid c f (X.parse dir c b).1 ∧ b = X.bytes f (X.parse dir c b).1 := by
  by_cases hd : dir = 0 ∨ dir = 1
  · cases hf : X.formOf dir c with
    | none => unfold parse at h; rw [if_pos hd, hf] at h; simp at h
    | some f =>
      rw [parse_form hf] at h ⊢
      exact ⟨f, rfl, (X.good c f).fin_back h⟩
  · unfold parse at h; rw [if_neg hd] at h; simp at h
theorem parse_zero {dir : Int} {c : UInt8} {b : List UInt8} (h : (X.parse dir c b).2 ≠ 0) : (X.parse dir c b).1 = MsgM.zero := by
  unfold parse at h ⊢
  split
  · rename_i hd
    rw [if_pos hd] at h
    cases hf : X.formOf dir c with
    | none => rfl
    | some f => rw [hf] at h; exact finish_zero h
  · rfl
theorem write_ok {dir : Int} {f : X.F} {m : MsgM} (h : X.formOf dir m.code = some f) (hv : X.valid m.code f m) : X.write dir m = some (X.bytes f m) := by
  unfold write
  rw [h]
  show (if _ then _ else _) = _
  rw [parse_ok h hv, if_pos ⟨rfl, (MsgM.same_iff m m).2 rfl⟩]
theorem write_back {dir : Int} {m : MsgM} {b : List UInt8} (h : X.write dir m = some b) : ∃ f, X.formOf dir m.code = some f ∧ X.valid m.code f m ∧ b = X.bytes f m := by
  unfold write at h
  cases hf : X.formOf dir m.code with
  | none => rw [hf] at h; cases h
  | some f =>
    rw [hf] at h
    have h' : (if (X.parse dir m.code (X.bytes f m)).2 = 0 ∧ MsgM.same (X.parse dir m.code (X.bytes f m)).1 m = true then some (X.bytes f m) else none) = some b := h
    split at h'
    · rename_i hc
      injection h' with h'
      obtain ⟨g, hg, hv, _⟩ := parse_back hc.1
      rw [(MsgM.same_iff _ _).1 hc.2] at hv
      rw [hf] at hg
      injection hg with hg
      subst hg
      exact ⟨f, rfl, hv, h'.symm⟩
    · cases h'
/-- A message of one form has its bytes just if it may be. -/
theorem write_one {dir : Int} {f : X.F} {m : MsgM} (h : X.formOf dir m.code = some f) {p : Prop} [Decidable p] (hp : X.valid m.code f m ↔ p) : X.write dir m = if p then some (X.bytes f m) else none := by
  split
  · rename_i h1; exact write_ok h (hp.2 h1)
  · rename_i h1
    cases hw : X.write dir m with
    | none => rfl
    | some b =>
      obtain ⟨g, h2, h3, _⟩ := write_back hw
      rw [h] at h2; injection h2 with h2; subst h2
      exact absurd (hp.1 h3) h1
theorem there {dir : Int} {c : UInt8} {b : List UInt8} (h : (X.parse dir c b).2 = 0) : X.write dir (X.parse dir c b).1 = some b ∧ (X.parse dir c b).1.code = c := by
  obtain ⟨f, hf, hv, hb⟩ := parse_back h
  have hc := X.code _ _ _ hv
  refine ⟨?_, hc⟩
  have h1 : X.formOf dir (X.parse dir c b).1.code = some f := by rw [hc]; exact hf
  rw [write_ok h1 (by rw [hc]; exact hv), ← hb]
theorem back {dir : Int} {m : MsgM} {b : List UInt8} (h : X.write dir m = some b) : X.parse dir m.code b = (m, 0) := by
  obtain ⟨f, hf, hv, rfl⟩ := write_back h
  exact parse_ok hf hv
theorem first {dir : Int} {m : MsgM} {b : List UInt8} (h : X.write dir m = some b) : 0 < b.length := by
  obtain ⟨f, hf, hv, rfl⟩ := write_back h
  exact X.pos _ _ _ hv
theorem cut {dir : Int} {m : MsgM} {b : List UInt8} (h : X.write dir m = some b) (k : Nat) (hk : k < b.length) : (X.parse dir m.code (b.take k)).2 = 2 := by
  obtain ⟨f, hf, hv, rfl⟩ := write_back h
  rw [parse_short hf hv k hk]
theorem more {dir : Int} {m : MsgM} {b : List UInt8} (h : X.write dir m = some b) (x : UInt8) : (X.parse dir m.code (b ++ [x])).2 = 3 := by
  obtain ⟨f, hf, hv, rfl⟩ := write_back h
  rw [parse_long hf hv x]
theorem parse_small (dir : Int) (c : UInt8) (b : List UInt8) : (X.parse dir c b).1.Small := by
  by_cases h : (X.parse dir c b).2 = 0
  · obtain ⟨f, _, hv, _⟩ := parse_back h
    exact X.small _ _ _ hv
  · rw [parse_zero h]; exact (MsgM.bare_of 0).small
theorem write_len {dir : Int} {m : MsgM} {b : List UInt8} (h : X.write dir m = some b) : b.length ≤ 90000 := by
  obtain ⟨f, _, hv, rfl⟩ := write_back h
  exact X.len _ _ _ hv
/-- Another writer that writes the same where there is a form. -/
theorem write_ref (o : Int → MsgM → List UInt8) (ho : ∀ dir m f, X.formOf dir m.code = some f → o dir m = X.bytes f m) (dir : Int) (m : MsgM) :
    X.write dir m = if (X.parse dir m.code (o dir m)).2 = 0 ∧ MsgM.same (X.parse dir m.code (o dir m)).1 m = true then some (o dir m) else none := by
  unfold write
  cases hf : X.formOf dir m.code with
  | none =>
    have : (X.parse dir m.code (o dir m)).2 ≠ 0 := by
      unfold parse
      split
      · rw [hf]; simp
      · simp
    rw [if_neg (fun h => this h.1)]
  | some f => rw [ho dir m f hf]
end Pack

end Go.Proofs.Ytolkcohmoalnhaa
