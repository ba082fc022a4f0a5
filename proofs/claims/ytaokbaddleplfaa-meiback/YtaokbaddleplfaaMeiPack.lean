/-
  Package mei, on lists: what a device is; messages and forms are one to one.
-/
import Derived.Test.YtaokbaddleplfaaWhole
namespace Go.Proofs.Ytaokbaddleplfaa
open Go.RowKit
open Word Bits Cursor

namespace Mei
/-! one thing, and many -/
def encObj (o : ObjM) : List UInt8 := [o.id, UInt8.ofNat o.value.length] ++ o.value
def encObjs : List ObjM → List UInt8
  | [] => []
  | o :: l => encObj o ++ encObjs l
def rObj (s : St) : ObjM × St := (⟨s.byte, s.afterB.afterB.got (s.afterB.byte.toNat : Int) 1⟩, s.afterB.afterB.next (s.afterB.byte.toNat : Int) 1)
def rObjs : Nat → St → List ObjM × St
  | 0, s => ([], s)
  | k + 1, s => ((rObj s).1 :: (rObjs k (rObj s).2).1, (rObjs k (rObj s).2).2)
theorem byte_is {n : UInt8} {k : Nat} (h : k = n.toNat) : UInt8.ofNat k = n := by rw [h]; simp
theorem obj_good : Rdr rObj encObj (fun o => o.value.length ≤ 255) :=
  ((Rdr.byte.bind (fun _ _ => Rdr.byte.bind (fun j _ => Rdr.bytes j.toNat) (fun j s h => (Rdr.bytes j.toNat).bad s h)) (fun _ s h => (Rdr.byte.bind (fun j _ => Rdr.bytes j.toNat) (fun j s h => (Rdr.bytes j.toNat).bad s h)).bad s h)).map (fun x => (⟨x.1, x.2.2⟩ : ObjM)) encObj (fun x h => by
    show [x.1, UInt8.ofNat x.2.2.length] ++ x.2.2 = _
    rw [byte_is h.2.2]; rfl)).congr (fun _ => rfl) (fun _ _ => rfl) (fun o => by
    constructor
    · intro h
      exact ⟨(o.id, (UInt8.ofNat o.value.length, o.value)), rfl, trivial, trivial, by show o.value.length = (UInt8.ofNat o.value.length).toNat; rw [UInt8.toNat_ofNat', Nat.mod_eq_of_lt (by omega)]⟩
    · rintro ⟨x, rfl, _, _, h⟩
      show x.2.2.length ≤ 255
      have := byte_lt x.2.1
      have h' : x.2.2.length = x.2.1.toNat := h
      omega)
def okObjs (k : Nat) (l : List ObjM) : Prop := l.length = k ∧ ∀ o ∈ l, o.value.length ≤ 255
theorem objs_good : ∀ k, Rdr (rObjs k) encObjs (okObjs k)
  | 0 => ⟨fun a r h => by
      have : a = [] := List.eq_nil_of_length_eq_zero h.1
      subst this; rfl, fun b _ => ⟨b, ⟨rfl, fun o h => by cases h⟩, rfl, rfl⟩, fun a k h hk => by
      have : a = [] := List.eq_nil_of_length_eq_zero h.1
      subst this
      exact absurd hk (by simp [encObjs]), fun _ _ => rfl⟩
  | k + 1 => ((obj_good.bind (fun _ _ => objs_good k) (fun _ s h => (objs_good k).bad s h)).map (fun x => x.1 :: x.2) encObjs (fun _ _ => rfl)).congr (fun _ => rfl) (fun _ _ => rfl) (fun l => by
    constructor
    · rintro ⟨h1, h2⟩
      cases l with
      | nil => simp at h1
      | cons o l => exact ⟨(o, l), rfl, h2 o List.mem_cons_self, by simpa using h1, fun p hp => h2 p (List.mem_cons_of_mem _ hp)⟩
    · rintro ⟨x, rfl, h1, h2, h3⟩
      refine ⟨by show x.2.length + 1 = k + 1; rw [h2], fun p hp => ?_⟩
      rcases List.mem_cons.1 hp with rfl | hp
      · exact h1
      · exact h3 p hp)
theorem objs_append (l r : List ObjM) : encObjs (l ++ r) = encObjs l ++ encObjs r := by
  induction l with
  | nil => rfl
  | cons o l ih => rw [List.cons_append, encObjs, encObjs, ih, List.append_assoc]
theorem objs_len : ∀ l : List ObjM, (∀ o ∈ l, o.value.length ≤ 300) → (encObjs l).length ≤ 302 * l.length
  | [], _ => Nat.zero_le _
  | o :: l, h => by
    have h1 := objs_len l fun p hp => h p (List.mem_cons_of_mem _ hp)
    have h2 := h o List.mem_cons_self
    rw [encObjs, List.length_append, List.length_cons]
    have : (encObj o).length = 2 + o.value.length := by simp [encObj]; omega
    omega

/-! another protocol's -/
def rOther (s : St) : List UInt8 × St := ((s.need (decide (s.xs.length ≤ 251)) 5).got (s.xs.length : Int) 1, (s.need (decide (s.xs.length ≤ 251)) 5).next (s.xs.length : Int) 1)
theorem other_good : Whl rOther (fun d => d) (fun d => d.length ≤ 251) where
  ok a h := by
    show (((St.new a).need (decide (a.length ≤ 251)) 5).got (a.length : Int) 1, ((St.new a).need (decide (a.length ≤ 251)) 5).next (a.length : Int) 1) = _
    rw [decide_eq_true h, St.need_true, St.got_new _ _ _ (by omega), St.next_new _ _ _ (by omega), List.take_of_length_le (by omega), List.drop_eq_nil_of_le (by omega)]
  back b hb := by
    have h0 := (St.end_zero hb).1
    have h1 := St.next_e h0
    obtain ⟨_, hr, he⟩ := St.need_zero h1 (by omega)
    have hb' : b.length ≤ 251 := of_decide_eq_true hr
    have he' : (St.new b).need (decide (b.length ≤ 251)) 5 = St.new b := he
    have e1 : (rOther (St.new b)).1 = b := by
      show ((St.new b).need (decide (b.length ≤ 251)) 5).got (b.length : Int) 1 = b
      rw [he', St.got_new _ _ _ (by omega), List.take_of_length_le (by omega)]
    rw [e1]
    exact ⟨hb', rfl⟩
theorem other_bad (s : St) (h : s.e ≠ 0) : (rOther s).2.e = s.e := by
  show ((s.need _ 5).next _ 1).e = s.e
  rw [St.need_bad _ _ _ h, St.next_bad _ _ _ h]

/-! what a device is -/
def okKind (x : UInt8) : Bool := decide (0 < x.toNat) && decide (x.toNat < 5)
def okLevel (x : UInt8) : Bool := decide (1 ≤ x.toNat % 128) && decide (x.toNat % 128 ≤ 3)
def okMore (x : UInt8) : Bool := decide (x.toNat = 0) || decide (x.toNat = 255)
def okNext (more x : UInt8) : Bool := decide (x.toNat = 0) || decide (more.toNat = 255)
def okCount (kind k : UInt8) : Bool := decide (k.toNat = 1) || decide (kind.toNat ≠ 4)
def rAsk (s : St) : (UInt8 × UInt8) × St := ((s.byte, (s.afterB.need (okKind s.byte) 6).byte), (s.afterB.need (okKind s.byte) 6).afterB)
theorem ask_good : Rdr rAsk (fun x => [x.1] ++ [x.2]) (fun x => okKind x.1 = true) :=
  ((Rdr.byte.need okKind 6 (by omega)).bind (fun _ _ => Rdr.byte) (fun _ s h => Rdr.byte.bad s h)).congr (fun _ => rfl) (fun _ _ => rfl) (fun _ => by simp)
abbrev Told := ((((UInt8 × UInt8) × UInt8) × UInt8) × UInt8) × List ObjM
def rKind (s : St) : UInt8 × St := (s.byte, s.afterB.need (okKind s.byte) 6)
def rLevel (s : St) : (UInt8 × UInt8) × St := (((rKind s).1, (rKind s).2.byte), (rKind s).2.afterB.need (okLevel (rKind s).2.byte) 6)
def rMore (s : St) : ((UInt8 × UInt8) × UInt8) × St := (((rLevel s).1, (rLevel s).2.byte), (rLevel s).2.afterB.need (okMore (rLevel s).2.byte) 6)
def rNext (s : St) : (((UInt8 × UInt8) × UInt8) × UInt8) × St := (((rMore s).1, (rMore s).2.byte), (rMore s).2.afterB.need (okNext (rMore s).1.2 (rMore s).2.byte) 6)
def rCount (s : St) : ((((UInt8 × UInt8) × UInt8) × UInt8) × UInt8) × St := (((rNext s).1, (rNext s).2.byte), (rNext s).2.afterB.need (okCount (rNext s).1.1.1.1 (rNext s).2.byte) 5)
def rTold (s : St) : Told × St := (((rCount s).1, (rObjs (rCount s).1.2.toNat (rCount s).2).1), (rObjs (rCount s).1.2.toNat (rCount s).2).2)
def okTold (x : Told) : Prop := okKind x.1.1.1.1.1 = true ∧ okLevel x.1.1.1.1.2 = true ∧ okMore x.1.1.1.2 = true ∧ okNext x.1.1.1.2 x.1.1.2 = true ∧ okCount x.1.1.1.1.1 x.1.2 = true ∧ okObjs x.1.2.toNat x.2
def encTold (x : Told) : List UInt8 := ((((([x.1.1.1.1.1] ++ [x.1.1.1.1.2]) ++ [x.1.1.1.2]) ++ [x.1.1.2]) ++ [x.1.2]) ++ encObjs x.2)
theorem byte_need (p : UInt8 → Bool) (e : Int) (he : e ≠ 0) : Rdr (fun s => (s.byte, s.afterB.need (p s.byte) e)) (fun x => [x]) (fun x => p x = true) :=
  (Rdr.byte.need p e he).congr (fun _ => rfl) (fun _ _ => rfl) (fun _ => by simp)
theorem count_good : Rdr rCount (fun x => (((([x.1.1.1.1] ++ [x.1.1.1.2]) ++ [x.1.1.2]) ++ [x.1.2]) ++ [x.2])) (fun x => (((okKind x.1.1.1.1 = true ∧ okLevel x.1.1.1.2 = true) ∧ okMore x.1.1.2 = true) ∧ okNext x.1.1.2 x.1.2 = true) ∧ okCount x.1.1.1.1 x.2 = true) :=
  (((((byte_need okKind 6 (by omega)).bind (fun _ _ => byte_need okLevel 6 (by omega)) (fun _ s h => (byte_need okLevel 6 (by omega)).bad s h)).bind (fun _ _ => byte_need okMore 6 (by omega)) (fun _ s h => (byte_need okMore 6 (by omega)).bad s h)).bind (fun x _ => byte_need (okNext x.2) 6 (by omega)) (fun x s h => (byte_need (okNext x.2) 6 (by omega)).bad s h)).bind (fun x _ => byte_need (okCount x.1.1.1) 5 (by omega)) (fun x s h => (byte_need (okCount x.1.1.1) 5 (by omega)).bad s h)).congr (fun _ => rfl) (fun _ _ => rfl) (fun _ => Iff.rfl)
theorem told_good : Rdr rTold encTold okTold :=
  (count_good.bind (fun x _ => objs_good x.2.toNat) (fun x s h => (objs_good x.2.toNat).bad s h)).congr (fun _ => rfl) (fun _ _ => rfl) (fun x => by
    unfold okTold
    exact ⟨fun ⟨a, b, c, d, e, f⟩ => ⟨⟨⟨⟨⟨a, b⟩, c⟩, d⟩, e⟩, f⟩, fun ⟨⟨⟨⟨⟨a, b⟩, c⟩, d⟩, e⟩, f⟩ => ⟨a, b, c, d, e, f⟩⟩)

/-! the forms, by numbers: a request's, an answer's -/
abbrev Frm := Fin 2
theorem Frm.two (f : Frm) : f = 0 ∨ f = 1 := by
  revert f
  decide
def isMei (x : UInt8) : Bool := decide (x.toNat = 13) || decide (x.toNat = 14)
def putAsk (m : MsgM) (x : UInt8 × UInt8) : MsgM := (m.put_kind x.1).put_next x.2
def putTold (m : MsgM) (x : Told) : MsgM := (((((m.put_kind x.1.1.1.1.1).put_level x.1.1.1.1.2).put_more x.1.1.1.2).put_next x.1.1.2).put_objects x.2)
def own : Frm → MsgM → St → MsgM × St
  | 0, m, s => (putAsk m (rAsk s).1, (rAsk s).2)
  | 1, m, s => (putTold m (rTold s).1, (rTold s).2)
def body (f : Frm) (m : MsgM) (a : UInt8) (s : St) : MsgM × St := if a = 13 then (m.put_data (rOther s).1, (rOther s).2) else own f m s
def Frm.read (f : Frm) (r : MsgM × St) : MsgM × St := body f (r.1.put_mei r.2.byte) r.2.byte (r.2.afterB.need (isMei r.2.byte) 8)
def tailOf (f : Frm) (m : MsgM) : List UInt8 := if f = 0 then [m.kind] ++ [m.next] else encTold (((((m.kind, m.level), m.more), m.next), UInt8.ofNat m.objects.length), m.objects)
def Frm.bytes (f : Frm) (m : MsgM) : List UInt8 := [m.mei] ++ (if m.mei = 13 then m.data else tailOf f m)
def okOwn (f : Frm) (m0 m : MsgM) : Prop := if f = 0 then ∃ x, m = putAsk m0 x ∧ okKind x.1 = true else ∃ x, m = putTold m0 x ∧ okTold x
def Frm.valid (c : UInt8) (f : Frm) (m : MsgM) : Prop := (m.mei = 13 ∧ ∃ d, m = ((MsgM.of c).put_mei 13).put_data d ∧ d.length ≤ 251) ∨ (m.mei = 14 ∧ okOwn f ((MsgM.of c).put_mei 14) m)
theorem own_good (f : Frm) (m0 : MsgM) : Rdr (own f m0) (tailOf f) (okOwn f m0) := by
  rcases Frm.two f with rfl | rfl
  · exact (ask_good.map (putAsk m0) (tailOf 0) (fun _ _ => rfl)).congr (fun _ => rfl) (fun _ _ => rfl) (fun _ => Iff.rfl)
  · exact (told_good.map (putTold m0) (tailOf 1) (fun x h => by
      show encTold (_, x.2) = encTold x
      rw [show (((((putTold m0 x).kind, (putTold m0 x).level), (putTold m0 x).more), (putTold m0 x).next), UInt8.ofNat (putTold m0 x).objects.length) = x.1 from by
        show ((((x.1.1.1.1.1, x.1.1.1.1.2), x.1.1.1.2), x.1.1.2), UInt8.ofNat x.2.length) = x.1
        rw [byte_is (n := x.1.2) h.2.2.2.2.2.1]])).congr (fun _ => rfl) (fun _ _ => rfl) (fun _ => Iff.rfl)
theorem mei_of {a : UInt8} (h : isMei a = true) (n : a ≠ 13) : a = 14 := by
  unfold isMei at h
  simp only [Bool.or_eq_true, decide_eq_true_eq] at h
  rcases h with h | h
  · exact absurd (UInt8.toNat_inj.1 h) n
  · exact UInt8.toNat_inj.1 h
theorem body_bad (f : Frm) (m : MsgM) (a : UInt8) (s : St) (h : s.e ≠ 0) : (body f m a s).2.e = s.e := by
  unfold body
  split
  · exact other_bad s h
  · exact (own_good f m).bad s h
theorem body_good (f : Frm) (m0 : MsgM) (a : UInt8) : Whl (body f m0 a) (fun m => if a = 13 then m.data else tailOf f m) (fun m => if a = 13 then ∃ d, m = m0.put_data d ∧ d.length ≤ 251 else okOwn f m0 m) := by
  by_cases h : a = 13
  · have h1 : Whl (fun s => (m0.put_data (rOther s).1, (rOther s).2)) (fun m : MsgM => m.data) (fun m => ∃ d, m = m0.put_data d ∧ d.length ≤ 251) := other_good.map (fun d => m0.put_data d) (fun m => m.data) (fun _ _ => rfl)
    have e1 : body f m0 a = fun s => (m0.put_data (rOther s).1, (rOther s).2) := funext fun s => if_pos h
    have e2 : (fun m : MsgM => if a = 13 then m.data else tailOf f m) = fun m => m.data := funext fun m => if_pos h
    have e3 : (fun m : MsgM => if a = 13 then ∃ d, m = m0.put_data d ∧ d.length ≤ 251 else okOwn f m0 m) = fun m => ∃ d, m = m0.put_data d ∧ d.length ≤ 251 := funext fun m => if_pos h
    rw [e1, e2, e3]
    exact h1
  · have e1 : body f m0 a = own f m0 := funext fun s => if_neg h
    have e2 : (fun m : MsgM => if a = 13 then m.data else tailOf f m) = tailOf f := funext fun m => if_neg h
    have e3 : (fun m : MsgM => if a = 13 then ∃ d, m = m0.put_data d ∧ d.length ≤ 251 else okOwn f m0 m) = okOwn f m0 := funext fun m => if_neg h
    rw [e1, e2, e3]
    exact (own_good f m0).whole
theorem mei_own {f : Frm} {m0 m : MsgM} (h : okOwn f m0 m) : m.mei = m0.mei ∧ m.code = m0.code := by
  unfold okOwn at h
  split at h
  · obtain ⟨x, rfl, _⟩ := h
    simp only [putAsk, MsgM.put_kind, MsgM.put_next, and_self]
  · obtain ⟨x, rfl, _⟩ := h
    simp only [putTold, MsgM.put_kind, MsgM.put_level, MsgM.put_more, MsgM.put_next, MsgM.put_objects, and_self]
def okBody (f : Frm) (c a : UInt8) (m : MsgM) : Prop := if a = 13 then ∃ d, m = ((MsgM.of c).put_mei a).put_data d ∧ d.length ≤ 251 else okOwn f ((MsgM.of c).put_mei a) m
def encBody (f : Frm) (a : UInt8) (m : MsgM) : List UInt8 := if a = 13 then m.data else tailOf f m
theorem okBody_mei {f : Frm} {c a : UInt8} {m : MsgM} (h : okBody f c a m) : m.mei = a := by
  unfold okBody at h
  split at h
  · obtain ⟨d, rfl, _⟩ := h; rfl
  · exact (mei_own h).1
theorem valid_iff (c : UInt8) (f : Frm) (m : MsgM) : Frm.valid c f m ↔ ∃ x : UInt8 × MsgM, m = x.2 ∧ isMei x.1 = true ∧ okBody f c x.1 x.2 := by
  unfold Frm.valid
  constructor
  · rintro (⟨h1, d, h2, h3⟩ | ⟨h1, h2⟩)
    · exact ⟨(13, m), rfl, rfl, by unfold okBody; rw [if_pos rfl]; exact ⟨d, h2, h3⟩⟩
    · exact ⟨(14, m), rfl, rfl, by unfold okBody; rw [if_neg (show ¬ ((14 : UInt8) = 13) by decide)]; exact h2⟩
  · rintro ⟨⟨a, m'⟩, hm, h1, h2⟩
    obtain rfl : m = m' := hm
    have h3 : okBody f c a m := h2
    have hm := okBody_mei h3
    unfold okBody at h3
    by_cases h : a = 13
    · rw [if_pos h] at h3
      subst h
      exact .inl ⟨hm, h3⟩
    · rw [if_neg h] at h3
      obtain rfl := mei_of h1 h
      exact .inr ⟨hm, h3⟩
theorem good (c : UInt8) (f : Frm) : Whl (fun s => f.read (MsgM.of c, s)) f.bytes (f.valid c) := by
  have h0 := (byte_need isMei 8 (by omega)).rest (Q := fun a s => body f ((MsgM.of c).put_mei a) a s) (enc' := encBody f) (valid' := okBody f c) (fun a _ => body_good f ((MsgM.of c).put_mei a) a) (fun a s h => body_bad f _ a s h)
  have h1 := h0.map (fun x => x.2) f.bytes (fun x h => by
    obtain ⟨a, m⟩ := x
    have hm : m.mei = a := okBody_mei h.2
    show [m.mei] ++ encBody f m.mei m = [a] ++ encBody f a m
    rw [hm])
  exact h1.congr (fun s => rfl) (fun _ _ => rfl) (fun m => valid_iff c f m)
def formOf (dir : Int) (c : UInt8) : Option Frm := if c = 43 then (if dir = 0 then some 0 else if dir = 1 then some 1 else none) else none
theorem form_dir (d : Int) (c : UInt8) (f : Frm) (h : formOf d c = some f) : d = 0 ∨ d = 1 := by
  unfold formOf at h
  split at h
  · split at h
    · exact .inl (by assumption)
    · split at h
      · exact .inr (by assumption)
      · cases h
  · cases h
theorem valid_code (c : UInt8) (f : Frm) (m : MsgM) (h : f.valid c m) : m.code = c := by
  rcases h with ⟨_, d, rfl, _⟩ | ⟨_, h⟩
  · rfl
  · exact (mei_own h).2
theorem valid_lists (c : UInt8) (f : Frm) (m : MsgM) (h : f.valid c m) : m.words = [] ∧ m.data.length ≤ 251 ∧ m.bits = [] ∧ m.recs = [] ∧ m.objects.length ≤ 255 ∧ ∀ o ∈ m.objects, o.value.length ≤ 255 := by
  rcases h with ⟨_, d, rfl, hd⟩ | ⟨_, h⟩
  · exact ⟨rfl, hd, rfl, rfl, Nat.zero_le _, fun o h => by cases h⟩
  · unfold okOwn at h
    split at h
    · obtain ⟨x, rfl, _⟩ := h
      exact ⟨rfl, Nat.zero_le _, rfl, rfl, Nat.zero_le _, fun o h => by cases h⟩
    · obtain ⟨x, rfl, _, _, _, _, _, h1, h2⟩ := h
      exact ⟨rfl, Nat.zero_le _, rfl, rfl, by show x.2.length ≤ 255; have := byte_lt x.1.2; omega, h2⟩
theorem valid_len (c : UInt8) (f : Frm) (m : MsgM) (h : f.valid c m) : (f.bytes m).length ≤ 90000 := by
  obtain ⟨_, h1, _, _, h4, h5⟩ := valid_lists c f m h
  have h6 := objs_len m.objects fun o ho => Nat.le_trans (h5 o ho) (by omega)
  unfold Frm.bytes tailOf
  split
  · simp; omega
  · split
    · simp
    · simp [encTold]; omega
theorem valid_small (c : UInt8) (f : Frm) (m : MsgM) (h : f.valid c m) : m.Small := by
  obtain ⟨h0, h1, h2, h3, h4, h5⟩ := valid_lists c f m h
  exact ⟨by rw [h0]; simp, by rw [h2]; simp, by omega, by rw [h3]; simp, by omega, by rw [h3]; simp, fun o ho => Nat.le_trans (h5 o ho) (by omega)⟩
def pack : PackW := ⟨Frm, formOf, Frm.read, Frm.bytes, fun c f m => f.valid c m, good, valid_code, form_dir, valid_len, valid_small⟩
def outW (r : Option (List UInt8)) : List UInt8 := r.getD []
def errW (r : Option (List UInt8)) : Int := if r.isSome then 0 else 1
def parse := pack.parse
def write := pack.write
def errF (dir : Int) (c : UInt8) : Int := match formOf dir c with | some _ => 0 | none => if dir = 0 ∨ dir = 1 then 4 else 1
theorem parse_none {dir : Int} {c : UInt8} {b : List UInt8} (h : formOf dir c = none) : parse dir c b = (MsgM.zero, errF dir c) := by
  unfold errF
  rw [h]
  show pack.parse dir c b = _
  unfold PackW.parse
  by_cases hd : dir = 0 ∨ dir = 1
  · rw [if_pos hd, show pack.formOf dir c = none from h]; simp [hd]
  · rw [if_neg hd]; simp [hd]
theorem parse_some {dir : Int} {c : UInt8} {b : List UInt8} {f : Frm} (h : formOf dir c = some f) : parse dir c b = finish (f.read (MsgM.of c, St.new b)) := PackW.parse_form (X := pack) h b
end Mei

end Go.Proofs.Ytaokbaddleplfaa
