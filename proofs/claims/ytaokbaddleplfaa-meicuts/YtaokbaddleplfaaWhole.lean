/-
  Readers that take all there is: what is written is read, what is read is written (a cut may be another one).
  And a package's forms one to one, where no form need tell its own end.
-/
import Derived.Test.YtaokbaddleplfaaParser
import Derived.Test.YtaokbaddleplfaaCodeSame
import Derived.Test.YtaokbaddleplfaaSmall
namespace Go.Proofs.Ytaokbaddleplfaa
open Go.RowKit
open Word Bits Cursor

structure Whl {α : Type} (P : St → α × St) (enc : α → List UInt8) (valid : α → Prop) : Prop where
  ok : ∀ a, valid a → P (St.new (enc a)) = (a, St.new [])
  back : ∀ b, (P (St.new b)).2.end_.e = 0 → valid (P (St.new b)).1 ∧ b = enc (P (St.new b)).1

section
variable {α β : Type} {P : St → α × St} {enc : α → List UInt8} {valid : α → Prop}
theorem Rdr.whole (h : Rdr P enc valid) : Whl P enc valid where
  ok a hv := by
    have := h.ok a [] hv
    rwa [List.append_nil] at this
  back b hb := by
    obtain ⟨h2, h3⟩ := St.end_zero hb
    obtain ⟨r, hv, hr, hs⟩ := h.back b h2
    rw [hs] at h3
    have : r = [] := h3
    subst this
    rw [List.append_nil] at hr
    exact ⟨hv, hr⟩
/-- One behind another; the second takes all. -/
theorem Rdr.rest (h : Rdr P enc valid) {Q : α → St → β × St} {enc' : α → β → List UInt8} {valid' : α → β → Prop} (h' : ∀ a, valid a → Whl (Q a) (enc' a) (valid' a)) (hb : ∀ a s, s.e ≠ 0 → (Q a s).2.e = s.e) :
    Whl (fun s => (((P s).1, (Q (P s).1 (P s).2).1), (Q (P s).1 (P s).2).2)) (fun x => enc x.1 ++ enc' x.1 x.2) (fun x => valid x.1 ∧ valid' x.1 x.2) where
  ok a hv := by
    obtain ⟨x, y⟩ := a
    have h1 := h.ok x (enc' x y) hv.1
    have h2 := (h' x hv.1).ok y hv.2
    show (((P (St.new (enc x ++ enc' x y))).1, _), _) = _
    rw [h1]
    show ((x, (Q x (St.new (enc' x y))).1), (Q x (St.new (enc' x y))).2) = _
    rw [h2]
  back b hz := by
    have hz' : (Q (P (St.new b)).1 (P (St.new b)).2).2.end_.e = 0 := hz
    have h0 : (P (St.new b)).2.e = 0 := by
      by_cases h0 : (P (St.new b)).2.e = 0
      · exact h0
      · have := (St.end_zero hz').1
        rw [hb _ _ h0] at this; exact this
    obtain ⟨r, hv, hr, hs⟩ := h.back b h0
    rw [hs] at hz'
    obtain ⟨hv', hr'⟩ := (h' _ hv).back r hz'
    refine ⟨⟨hv, ?_⟩, ?_⟩
    · show valid' (P (St.new b)).1 (Q (P (St.new b)).1 (P (St.new b)).2).1
      rw [hs]; exact hv'
    · show b = enc (P (St.new b)).1 ++ enc' (P (St.new b)).1 (Q (P (St.new b)).1 (P (St.new b)).2).1
      rw [hs, ← hr', ← hr]
theorem Whl.map (h : Whl P enc valid) (f : α → β) (enc' : β → List UInt8) (he : ∀ a, valid a → enc' (f a) = enc a) : Whl (fun s => (f (P s).1, (P s).2)) enc' (fun b => ∃ a, b = f a ∧ valid a) where
  ok b hv := by
    obtain ⟨a, rfl, hv⟩ := hv
    show (f (P _).1, (P _).2) = _
    rw [he a hv, h.ok a hv]
  back b hb := by
    obtain ⟨hv, hr⟩ := h.back b hb
    exact ⟨⟨_, rfl, hv⟩, by rw [show enc' (f (P (St.new b)).1) = _ from he _ hv]; exact hr⟩
theorem Whl.congr (h : Whl P enc valid) {P' : St → α × St} (hp : ∀ s, P' s = P s) {enc' : α → List UInt8} (he : ∀ a, valid a → enc' a = enc a) {valid' : α → Prop} (hv : ∀ a, valid' a ↔ valid a) : Whl P' enc' valid' where
  ok a h1 := by rw [hp, he a ((hv a).1 h1)]; exact h.ok a ((hv a).1 h1)
  back b hb := by
    rw [hp] at hb ⊢
    obtain ⟨h1, h2⟩ := h.back b hb
    exact ⟨(hv _).2 h1, by rw [he _ h1]; exact h2⟩
end
section
variable {P : St → MsgM × St} {enc : MsgM → List UInt8} {valid : MsgM → Prop}
theorem Whl.fin_ok (h : Whl P enc valid) {m : MsgM} (hv : valid m) : finish (P (St.new (enc m))) = (m, 0) := by
  rw [h.ok m hv, finish_new]; rfl
theorem Whl.fin_back (h : Whl P enc valid) {b : List UInt8} (hz : (finish (P (St.new b))).2 = 0) : valid (finish (P (St.new b))).1 ∧ b = enc (finish (P (St.new b))).1 := by
  obtain ⟨h0, h1⟩ := finish_ok hz
  rw [h1]
  exact h.back b h0
end

/-- What Write tells: bytes, or none. -/
def outO (r : Option (List UInt8)) : List UInt8 := r.getD []
def errO (r : Option (List UInt8)) : Int := if r.isSome then 0 else 1

structure PackW where
  F : Type
  formOf : Int → UInt8 → Option F
  read : F → MsgM × St → MsgM × St
  bytes : F → MsgM → List UInt8
  valid : UInt8 → F → MsgM → Prop
  good : ∀ c f, Whl (fun s => read f (MsgM.of c, s)) (bytes f) (valid c f)
  code : ∀ c f m, valid c f m → m.code = c
  dir : ∀ d c f, formOf d c = some f → d = 0 ∨ d = 1
  len : ∀ c f m, valid c f m → (bytes f m).length ≤ 90000
  small : ∀ c f m, valid c f m → m.Small

namespace PackW
variable (X : PackW)
def parse (dir : Int) (c : UInt8) (b : List UInt8) : MsgM × Int :=
  if dir = 0 ∨ dir = 1 then (match X.formOf dir c with | some f => finish (X.read f (MsgM.of c, St.new b)) | none => (MsgM.zero, 4)) else (MsgM.zero, 1)
def write (dir : Int) (m : MsgM) : Option (List UInt8) :=
  match X.formOf dir m.code with
  | some f => if (X.parse dir m.code (X.bytes f m)).2 = 0 ∧ MsgM.same (X.parse dir m.code (X.bytes f m)).1 m = true then some (X.bytes f m) else none
  | none => none
variable {X}
theorem parse_form {dir : Int} {c : UInt8} {f : X.F} (h : X.formOf dir c = some f) (b : List UInt8) : X.parse dir c b = finish (X.read f (MsgM.of c, St.new b)) := by
  unfold parse
  rw [if_pos (X.dir dir c f h), h]
theorem parse_ok {dir : Int} {c : UInt8} {f : X.F} (h : X.formOf dir c = some f) {m : MsgM} (hv : X.valid c f m) : X.parse dir c (X.bytes f m) = (m, 0) := by
  rw [parse_form h]; exact (X.good c f).fin_ok hv
theorem parse_back {dir : Int} {c : UInt8} {b : List UInt8} (h : (X.parse dir c b).2 = 0) : ∃ f, X.formOf dir c = some f ∧ X.valid c f (X.parse dir c b).1 ∧ b = X.bytes f (X.parse dir c b).1 := by
  by_cases hd : dir = 0 ∨ dir = 1
  · cases hf : X.formOf dir c with
    | none => unfold parse at h; rw [if_pos hd, hf] at h; simp at h
    | some f =>
      rw [parse_form hf] at h ⊢
      exact ⟨f, rfl, (X.good c f).fin_back h⟩
  · unfold parse at h; rw [if_neg hd] at h; simp at h
theorem parse_zero {dir : Int} {c : UInt8} {b : List UInt8} (h : (X.parse dir c b).2 ≠ 0) : (X.parse dir c b).1 = MsgM.zero := by
  unfold parse at h ⊢
  split
  · rename_i hd
    rw [if_pos hd] at h
    cases hf : X.formOf dir c with
    | none => rfl
    | some f => rw [hf] at h; exact finish_zero h
  · rfl
theorem write_ok {dir : Int} {f : X.F} {m : MsgM} (h : X.formOf dir m.code = some f) (hv : X.valid m.code f m) : X.write dir m = some (X.bytes f m) := by
  unfold write
  rw [h]
  show (if _ then _ else _) = _
  rw [parse_ok h hv, if_pos ⟨rfl, (MsgM.same_iff m m).2 rfl⟩]
theorem write_back {dir : Int} {m : MsgM} {b : List UInt8} (h : X.write dir m = some b) : ∃ f, X.formOf dir m.code = some f ∧ X.valid m.code f m ∧ b = X.bytes f m := by
  unfold write at h
  cases hf : X.formOf dir m.code with
  | none => rw [hf] at h; cases h
  | some f =>
    rw [hf] at h
    have h' : (if (X.parse dir m.code (X.bytes f m)).2 = 0 ∧ MsgM.same (X.parse dir m.code (X.bytes f m)).1 m = true then some (X.bytes f m) else none) = some b := h
    split at h'
    · rename_i hc
      injection h' with h'
      obtain ⟨g, hg, hv, _⟩ := parse_back hc.1
      rw [(MsgM.same_iff _ _).1 hc.2] at hv
      rw [hf] at hg
      injection hg with hg
      subst hg
      exact ⟨f, rfl, hv, h'.symm⟩
    · cases h'
theorem write_one {dir : Int} {f : X.F} {m : MsgM} (h : X.formOf dir m.code = some f) {p : Prop} [Decidable p] (hp : X.valid m.code f m ↔ p) : X.write dir m = if p then some (X.bytes f m) else none := by
  split
  · rename_i h1; exact write_ok h (hp.2 h1)
  · rename_i h1
    cases hw : X.write dir m with
    | none => rfl
    | some b =>
      obtain ⟨g, h2, h3, _⟩ := write_back hw
      rw [h] at h2; injection h2 with h2; subst h2
      exact absurd (hp.1 h3) h1
theorem there {dir : Int} {c : UInt8} {b : List UInt8} (h : (X.parse dir c b).2 = 0) : X.write dir (X.parse dir c b).1 = some b ∧ (X.parse dir c b).1.code = c := by
  obtain ⟨f, hf, hv, hb⟩ := parse_back h
  have hc := X.code _ _ _ hv
  refine ⟨?_, hc⟩
  have h1 : X.formOf dir (X.parse dir c b).1.code = some f := by rw [hc]; exact hf
  rw [write_ok h1 (by rw [hc]; exact hv), ← hb]
theorem back {dir : Int} {m : MsgM} {b : List UInt8} (h : X.write dir m = some b) : X.parse dir m.code b = (m, 0) := by
  obtain ⟨f, hf, hv, rfl⟩ := write_back h
  exact parse_ok hf hv
/-- Other bytes are never the same message. -/
theorem other {dir : Int} {m : MsgM} {b b' : List UInt8} (h : X.write dir m = some b) (hn : b' ≠ b) : (X.parse dir m.code b').2 ≠ 0 ∨ (X.parse dir m.code b').1 ≠ m := by
  by_cases h0 : (X.parse dir m.code b').2 = 0
  · refine .inr fun e => ?_
    have h1 := (there h0).1
    rw [e, h] at h1
    injection h1 with h1
    exact hn h1.symm
  · exact .inl h0
theorem parse_small (dir : Int) (c : UInt8) (b : List UInt8) : (X.parse dir c b).1.Small := by
  by_cases h : (X.parse dir c b).2 = 0
  · obtain ⟨f, _, hv, _⟩ := parse_back h
    exact X.small _ _ _ hv
  · rw [parse_zero h]; exact (MsgM.bare_of 0).small
theorem write_len {dir : Int} {m : MsgM} {b : List UInt8} (h : X.write dir m = some b) : b.length ≤ 90000 := by
  obtain ⟨f, _, hv, rfl⟩ := write_back h
  exact X.len _ _ _ hv
theorem write_ref (o : Int → MsgM → List UInt8) (ho : ∀ dir m f, X.formOf dir m.code = some f → o dir m = X.bytes f m) (dir : Int) (m : MsgM) :
    X.write dir m = if (X.parse dir m.code (o dir m)).2 = 0 ∧ MsgM.same (X.parse dir m.code (o dir m)).1 m = true then some (o dir m) else none := by
  unfold write
  cases hf : X.formOf dir m.code with
  | none =>
    have : (X.parse dir m.code (o dir m)).2 ≠ 0 := by
      unfold parse
      split
      · rw [hf]; simp
      · simp
    rw [if_neg (fun h => this h.1)]
  | some f => rw [ho dir m f hf]
end PackW

end Go.Proofs.Ytaokbaddleplfaa
