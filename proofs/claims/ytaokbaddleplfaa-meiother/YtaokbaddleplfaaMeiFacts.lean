/-
  Package mei: the contracts by their common names; what is written of messages of one form.
-/
import Derived.Test.YtaokbaddleplfaaMeiAwake
import Derived.Test.YtaokbaddleplfaaMeiRefWrite
import Derived.Test.YtaokbaddleplfaaSmall
namespace Go.Proofs.Ytaokbaddleplfaa
open Go.RowKit
open Word Bits Cursor

namespace Mei
theorem code_parse (dir : Int) (c : UInt8) (a : Option Addr) (len cap : Nat) (xs : List UInt8) (w : World) (hx : Bs w a len cap xs) (hlen : len ≤ 100000) :
    Calls Try.prog 12 #[.int .i64 dir, byteV c, .slice a len cap] w fun e w' =>
      (∃ v, e = .returned (.tuple #[v, .int .i64 (parse dir c xs).2]) ∧ MsgAt w' v (parse dir c xs).1) ∧ Below w.heap.size w w' := meiParse_any dir c a len cap xs w hx hlen
theorem code_write (dir : Int) (v : Value) (m : MsgM) (w : World) (hm : MsgAt w v m) (hs : m.Small) :
    Calls Try.prog 16 #[.int .i64 dir, v] w fun e w' =>
      (∃ a l c, e = .returned (.tuple #[.slice a l c, .int .i64 (errW (write dir m))]) ∧ Bs w' a l c (outW (write dir m))) ∧ Below w.heap.size w w' := meiWrite_any dir v m w hm hs
theorem ref_parse (dir : Int) (c : UInt8) (a : Option Addr) (len cap : Nat) (xs : List UInt8) (w : World) (hx : Bs w a len cap xs) (hlen : len ≤ 100000) :
    Calls Try.prog 13 #[.int .i64 dir, byteV c, .slice a len cap] w fun e w' =>
      (∃ v, e = .returned (.tuple #[v, .int .i64 (parse dir c xs).2]) ∧ MsgAt w' v (parse dir c xs).1) ∧ Below w.heap.size w w' := refParse_any dir c a len cap xs w hx hlen
theorem ref_write (dir : Int) (v : Value) (m : MsgM) (w : World) (hm : MsgAt w v m) (hs : m.Small) :
    Calls Try.prog 17 #[.int .i64 dir, v] w fun e w' =>
      (∃ a l c, e = .returned (.tuple #[.slice a l c, .int .i64 (errW (write dir m))]) ∧ Bs w' a l c (outW (write dir m))) ∧ Below w.heap.size w w' := refWrite_any dir v m w hm hs

theorem there {dir : Int} {c : UInt8} {b : List UInt8} (h : (parse dir c b).2 = 0) : write dir (parse dir c b).1 = Option.some b ∧ (parse dir c b).1.code = c := PackW.there (X := pack) h
theorem back {dir : Int} {m : MsgM} {b : List UInt8} (h : write dir m = Option.some b) : parse dir m.code b = (m, 0) := PackW.back (X := pack) h
theorem parse_zero {dir : Int} {c : UInt8} {b : List UInt8} (h : (parse dir c b).2 ≠ 0) : (parse dir c b).1 = MsgM.zero := PackW.parse_zero (X := pack) h
theorem parse_small (dir : Int) (c : UInt8) (b : List UInt8) : (parse dir c b).1.Small := PackW.parse_small (X := pack) dir c b
theorem write_len {dir : Int} {m : MsgM} {b : List UInt8} (h : write dir m = Option.some b) : b.length ≤ 90000 := PackW.write_len (X := pack) h
theorem write_form {dir : Int} {f : Frm} {m : MsgM} (h : formOf dir m.code = some f) {p : Prop} [Decidable p] (hp : f.valid m.code m ↔ p) : write dir m = if p then some (f.bytes m) else none :=
  PackW.write_one (X := pack) h hp

/-! another protocol's -/
def otherM (d : List UInt8) : MsgM := ((MsgM.of 43).put_mei 13).put_data d
theorem write_other {dir : Int} (hd : dir = 0 ∨ dir = 1) (d : List UInt8) : write dir (otherM d) = if d.length ≤ 251 then some (13 :: d) else none := by
  have key : ∀ f : Frm, f.valid (otherM d).code (otherM d) ↔ d.length ≤ 251 := fun f => by
    constructor
    · rintro (⟨_, x, e, h⟩ | ⟨h, _⟩)
      · have e2 : d = x := congrArg MsgM.data e
        rw [e2]; exact h
      · exact absurd (show (13 : UInt8) = 14 from h) (by decide)
    · exact fun h => .inl ⟨rfl, d, rfl, h⟩
  rcases hd with rfl | rfl
  · rw [write_form (f := 0) (show formOf 0 (otherM d).code = some 0 from rfl) (key 0)]; rfl
  · rw [write_form (f := 1) (show formOf 1 (otherM d).code = some 1 from rfl) (key 1)]; rfl
/-! what is asked -/
def askM (k n : UInt8) : MsgM := putAsk ((MsgM.of 43).put_mei 14) (k, n)
theorem write_ask (k n : UInt8) : write 0 (askM k n) = if okKind k = true then some [14, k, n] else none := by
  have key : (0 : Frm).valid (askM k n).code (askM k n) ↔ okKind k = true := by
    constructor
    · rintro (⟨h, _⟩ | ⟨_, h⟩)
      · exact absurd (show (14 : UInt8) = 13 from h) (by decide)
      · unfold okOwn at h
        rw [if_pos rfl] at h
        obtain ⟨x, e, h⟩ := h
        have e2 : k = x.1 := congrArg MsgM.kind e
        rw [e2]; exact h
    · exact fun h => .inr ⟨rfl, by unfold okOwn; rw [if_pos rfl]; exact ⟨(k, n), rfl, h⟩⟩
  rw [write_form (f := 0) (show formOf 0 (askM k n).code = some 0 from rfl) key]; rfl
/-! what is told -/
def toldM (k l m n : UInt8) (o : List ObjM) : MsgM := (((((((MsgM.of 43).put_mei 14).put_kind k).put_level l).put_more m).put_next n).put_objects o)
theorem write_told (k l m n : UInt8) (o : List ObjM) : write 1 (toldM k l m n o) = if okKind k = true ∧ okLevel l = true ∧ okMore m = true ∧ okNext m n = true ∧ (o.length = 1 ∨ k.toNat ≠ 4) ∧ o.length ≤ 255 ∧ (∀ x ∈ o, x.value.length ≤ 255) then some ([14, k, l, m, n, UInt8.ofNat o.length] ++ encObjs o) else none := by
  have key : (1 : Frm).valid (toldM k l m n o).code (toldM k l m n o) ↔ okKind k = true ∧ okLevel l = true ∧ okMore m = true ∧ okNext m n = true ∧ (o.length = 1 ∨ k.toNat ≠ 4) ∧ o.length ≤ 255 ∧ (∀ x ∈ o, x.value.length ≤ 255) := by
    constructor
    · rintro (⟨h, _⟩ | ⟨_, h⟩)
      · exact absurd (show (14 : UInt8) = 13 from h) (by decide)
      · unfold okOwn at h
        rw [if_neg (by decide)] at h
        obtain ⟨⟨⟨⟨⟨⟨k', l'⟩, m'⟩, n'⟩, c'⟩, o'⟩, e, h1, h2, h3, h4, h5, h6, h7⟩ := h
        have e1 : k = k' := congrArg MsgM.kind e
        have e2 : l = l' := congrArg MsgM.level e
        have e3 : m = m' := congrArg MsgM.more e
        have e4 : n = n' := congrArg MsgM.next e
        have e5 : o = o' := congrArg MsgM.objects e
        subst e1 e2 e3 e4 e5
        have hb := byte_lt c'
        have h5' : okCount k c' = true := h5
        unfold okCount at h5'
        simp only [Bool.or_eq_true, decide_eq_true_eq] at h5'
        have h6' : o.length = c'.toNat := h6
        exact ⟨h1, h2, h3, h4, by omega, by omega, h7⟩
    · rintro ⟨h1, h2, h3, h4, h5, h6, h7⟩
      have hn : (UInt8.ofNat o.length).toNat = o.length := by rw [UInt8.toNat_ofNat', Nat.mod_eq_of_lt (by omega)]
      refine .inr ⟨rfl, ?_⟩
      unfold okOwn
      rw [if_neg (by decide)]
      refine ⟨(((((k, l), m), n), UInt8.ofNat o.length), o), rfl, h1, h2, h3, h4, ?_, ?_, h7⟩
      · show okCount k (UInt8.ofNat o.length) = true
        unfold okCount
        rw [hn]
        simp only [Bool.or_eq_true, decide_eq_true_eq]
        exact h5
      · exact hn.symm
  rw [write_form (f := 1) (show formOf 1 (toldM k l m n o).code = some 1 from rfl) key]; rfl
/-! cut off, or with a byte more: of no other protocol -/
theorem own_of {dir : Int} {m : MsgM} {b : List UInt8} (hm : m.mei ≠ 13) (h : write dir m = Option.some b) : ∃ f, formOf dir m.code = some f ∧ m.mei = 14 ∧ okOwn f ((MsgM.of m.code).put_mei 14) m ∧ b = [14] ++ tailOf f m := by
  obtain ⟨f, h1, h2, h3⟩ := PackW.write_back (X := pack) h
  have h2' : Frm.valid m.code f m := h2
  rcases h2' with ⟨h4, _⟩ | ⟨h4, h5⟩
  · exact absurd h4 hm
  · refine ⟨f, h1, h4, h5, ?_⟩
    rw [h3]
    show [m.mei] ++ (if m.mei = 13 then m.data else tailOf f m) = _
    rw [if_neg hm, h4]
theorem own_read (f : Frm) (m0 : MsgM) : Rdr (fun s => (((s.byte, (own f m0 (s.afterB.need (decide (s.byte = 14)) 8)).1)), (own f m0 (s.afterB.need (decide (s.byte = 14)) 8)).2)) (fun x => [x.1] ++ tailOf f x.2) (fun x => x.1 = 14 ∧ okOwn f m0 x.2) :=
  ((byte_need (fun x => decide (x = 14)) 8 (by omega)).bind (fun _ _ => own_good f m0) (fun _ s h => (own_good f m0).bad s h)).congr (fun _ => rfl) (fun _ _ => rfl) (fun _ => by simp)
theorem read_own {f : Frm} {c : UInt8} {b : List UInt8} (h : (St.new b).byte = 14 ∨ b = []) (m0 : MsgM) (hm0 : m0 = (MsgM.of c).put_mei 14) : (f.read (MsgM.of c, St.new b)).2.e = (own f m0 ((St.new b).afterB.need (decide ((St.new b).byte = 14)) 8)).2.e := by
  rcases h with h | h
  · show (body f ((MsgM.of c).put_mei (St.new b).byte) (St.new b).byte ((St.new b).afterB.need (isMei (St.new b).byte) 8)).2.e = _
    unfold body
    rw [h, if_neg (by decide), hm0]
    rfl
  · subst h
    have h1 : (St.new []).afterB.e = 2 := by rw [St.afterB_nil]
    have h2 : ∀ ok, ((St.new []).afterB.need ok 8) = (St.new []).afterB := fun ok => St.need_bad _ _ _ (by rw [h1]; omega)
    show (body f _ _ ((St.new []).afterB.need _ 8)).2.e = _
    rw [h2, h2, body_bad _ _ _ _ (by rw [h1]; omega), (own_good f m0).bad _ (by rw [h1]; omega)]
theorem cut {dir : Int} {m : MsgM} {b : List UInt8} (hm : m.mei ≠ 13) (h : write dir m = Option.some b) (k : Nat) (hk : k < b.length) : (parse dir m.code (b.take k)).2 = 2 := by
  obtain ⟨f, h1, h2, h3, h4⟩ := own_of hm h
  have hr := (own_read f ((MsgM.of m.code).put_mei 14)).short (14, m) k ⟨rfl, h3⟩ (by rw [h4] at hk; exact hk)
  have hb : (St.new (b.take k)).byte = 14 ∨ b.take k = [] := by
    rw [h4]
    cases k with
    | zero => exact .inr rfl
    | succ k => exact .inl (by show (St.new (14 :: (tailOf f m).take k)).byte = 14; exact St.byte_new _ _)
  have he : (f.read (MsgM.of m.code, St.new (b.take k))).2.e = 2 := by
    rw [read_own hb _ rfl, h4]
    exact hr
  rw [parse_some h1, finish_bad he (by omega)]
theorem more {dir : Int} {m : MsgM} {b : List UInt8} (hm : m.mei ≠ 13) (h : write dir m = Option.some b) (x : UInt8) : (parse dir m.code (b ++ [x])).2 = 3 := by
  obtain ⟨f, h1, h2, h3, h4⟩ := own_of hm h
  have hr := (own_read f ((MsgM.of m.code).put_mei 14)).ok (14, m) [x] ⟨rfl, h3⟩
  have hb : (St.new (b ++ [x])).byte = 14 := by rw [h4]; exact St.byte_new _ _
  have he : f.read (MsgM.of m.code, St.new (b ++ [x])) = (m, St.new [x]) := by
    show body f ((MsgM.of m.code).put_mei (St.new (b ++ [x])).byte) (St.new (b ++ [x])).byte ((St.new (b ++ [x])).afterB.need (isMei (St.new (b ++ [x])).byte) 8) = _
    unfold body
    rw [hb, if_neg (by decide)]
    have h5 := congrArg Prod.snd hr
    have h6 := congrArg (fun p => p.1.2) hr
    simp only at h5 h6
    rw [h4]
    have hb' : (St.new (([14] ++ tailOf f m) ++ [x])).byte = 14 := St.byte_new _ _
    rw [hb'] at h5 h6
    exact Prod.ext h6 h5
  rw [parse_some h1, he, finish_new]
  rfl
theorem pos {dir : Int} {m : MsgM} {b : List UInt8} (h : write dir m = Option.some b) : 0 < b.length := by
  obtain ⟨f, _, _, h3⟩ := PackW.write_back (X := pack) h
  rw [h3]
  exact Nat.succ_pos _
/-- A message's cells, by the fields that this code has. -/
abbrev xCells (ds mei kind level more next os : Value) : Array Value := #[.int .u8 43, .int .u8 0, .int .u16 0, .int .u16 0, .int .u16 0, .int .u16 0, .int .u16 0, .int .u16 0, .int .u16 0, .int .u16 0, .int .u16 0, .int .u16 0, .slice none 0 0, .slice none 0 0, ds, .slice none 0 0, mei, kind, level, more, next, os]
theorem other_at {w : World} {d : List UInt8} {a : Option Addr} {l c : Nat} (h : Bs w a l c d) : MsgAt w (.agg (xCells (.slice a l c) (.int .u8 13) (.int .u8 0) (.int .u8 0) (.int .u8 0) (.int .u8 0) (.slice none 0 0))) (otherM d) :=
  ⟨none, 0, 0, none, 0, 0, a, l, c, none, 0, 0, none, 0, 0, rfl, Sl.nil _ _ (Nat.zero_le _), Sl.nil _ _ (Nat.zero_le _), h, Rs.nil _ _ (Nat.zero_le _), Obs.nil _ _ (Nat.zero_le _)⟩
theorem ask_at (w : World) (k n : UInt8) : MsgAt w (.agg (xCells (.slice none 0 0) (.int .u8 14) (byteV k) (.int .u8 0) (.int .u8 0) (byteV n) (.slice none 0 0))) (askM k n) :=
  ⟨none, 0, 0, none, 0, 0, none, 0, 0, none, 0, 0, none, 0, 0, rfl, Sl.nil _ _ (Nat.zero_le _), Sl.nil _ _ (Nat.zero_le _), Sl.nil _ _ (Nat.zero_le _), Rs.nil _ _ (Nat.zero_le _), Obs.nil _ _ (Nat.zero_le _)⟩
theorem told_at {w : World} {o : List ObjM} {a : Option Addr} {l c : Nat} (h : Obs w a l c o) (k v m n : UInt8) : MsgAt w (.agg (xCells (.slice none 0 0) (.int .u8 14) (byteV k) (byteV v) (byteV m) (byteV n) (.slice a l c))) (toldM k v m n o) :=
  ⟨none, 0, 0, none, 0, 0, none, 0, 0, none, 0, 0, a, l, c, rfl, Sl.nil _ _ (Nat.zero_le _), Sl.nil _ _ (Nat.zero_le _), Sl.nil _ _ (Nat.zero_le _), Rs.nil _ _ (Nat.zero_le _), h⟩
theorem other_small {d : List UInt8} (h : d.length ≤ 50000) : (otherM d).Small := ⟨Nat.zero_le _, Nat.zero_le _, h, Nat.zero_le _, Nat.zero_le _, (fun _ h => by cases h), (fun _ h => by cases h)⟩
theorem ask_small (k n : UInt8) : (askM k n).Small := ⟨Nat.zero_le _, Nat.zero_le _, Nat.zero_le _, Nat.zero_le _, Nat.zero_le _, (fun _ h => by cases h), (fun _ h => by cases h)⟩
theorem told_small {o : List ObjM} (h : o.length ≤ 300) (hv : ∀ x ∈ o, x.value.length ≤ 300) (k v m n : UInt8) : (toldM k v m n o).Small := ⟨Nat.zero_le _, Nat.zero_le _, Nat.zero_le _, Nat.zero_le _, h, (fun _ h => by cases h), hv⟩
theorem told_few {o : List ObjM} {k v m n : UInt8} (h : (toldM k v m n o).few = true) : o.length ≤ 100 ∧ ∀ x ∈ o, x.value.length ≤ 300 := by
  unfold MsgM.few at h
  rw [decide_eq_true_eq] at h
  obtain ⟨_, _, _, _, h4, _, h6⟩ := h
  exact ⟨h4, fun x hx => Nat.le_trans (h6 x hx) (by omega)⟩
end Mei
theorem Obs.ofTrod {H : Type} {enc : TypeId × Value → H} {w : World} {base : Nat} {held : Bool} {fuel : Nat} {a : Option Addr} {len cap : Nat} {x : DataW H × List MemPlace}
    (h : DataW.trod enc Try.prog w base (fun _ => true) held fuel 28 [.slice a len cap] = some x) : ∃ xs, Obs w a len cap xs := by
  obtain ⟨a', l', c', xs, e, hr⟩ := objs_trod h
  injection e with e1 e2 e3
  subst e1 e2 e3
  exact ⟨xs, hr⟩

end Go.Proofs.Ytaokbaddleplfaa
