/-
  Package diag: the contracts by their common names; what is written of messages of one form.
-/
import Derived.Test.YtemomgcapjpaiaaDiagAwake
import Derived.Test.YtemomgcapjpaiaaDiagRefWrite
import Derived.Test.YtemomgcapjpaiaaSmall
namespace Go.Proofs.Ytemomgcapjpaiaa
open Go.RowKit
open Word Bits Cursor

namespace Diag
def outW (r : Option (List UInt8)) : List UInt8 := outO r
def errW (r : Option (List UInt8)) : Int := errO r
theorem code_parse (dir : Int) (c : UInt8) (a : Option Addr) (len cap : Nat) (xs : List UInt8) (w : World) (hx : Bs w a len cap xs) (hlen : len ≤ 100000) :
    Calls Try.prog 12 #[.int .i64 dir, byteV c, .slice a len cap] w fun e w' =>
      (∃ v, e = .returned (.tuple #[v, .int .i64 (parse dir c xs).2]) ∧ MsgAt w' v (parse dir c xs).1) ∧ Below w.heap.size w w' := diagParse_any dir c a len cap xs w hx hlen
theorem code_own (dir : Int) (c : UInt8) (a : Option Addr) (len cap : Nat) (xs : List UInt8) (w : World) (hx : Bs w a len cap xs) (hlen : len ≤ 100000) :
    Calls Try.prog 12 #[.int .i64 dir, byteV c, .slice a len cap] w fun e w' =>
      (∃ v, e = .returned (.tuple #[v, .int .i64 (parse dir c xs).2]) ∧ MsgAt w' v (parse dir c xs).1 ∧ ∀ u, Off 0 w.heap.size w' u → MsgAt u v (parse dir c xs).1) ∧ Below w.heap.size w w' := diagParse_own dir c a len cap xs w hx hlen
theorem code_write (dir : Int) (v : Value) (m : MsgM) (w : World) (hm : MsgAt w v m) (hs : m.Small) :
    Calls Try.prog 16 #[.int .i64 dir, v] w fun e w' =>
      (∃ a l c, e = .returned (.tuple #[.slice a l c, .int .i64 (errW (write dir m))]) ∧ Bs w' a l c (outW (write dir m))) ∧ Below w.heap.size w w' := diagWrite_any dir v m w hm hs
theorem ref_parse (dir : Int) (c : UInt8) (a : Option Addr) (len cap : Nat) (xs : List UInt8) (w : World) (hx : Bs w a len cap xs) (hlen : len ≤ 100000) :
    Calls Try.prog 13 #[.int .i64 dir, byteV c, .slice a len cap] w fun e w' =>
      (∃ v, e = .returned (.tuple #[v, .int .i64 (parse dir c xs).2]) ∧ MsgAt w' v (parse dir c xs).1) ∧ Below w.heap.size w w' := refParse_any dir c a len cap xs w hx hlen
theorem ref_write (dir : Int) (v : Value) (m : MsgM) (w : World) (hm : MsgAt w v m) (hs : m.Small) :
    Calls Try.prog 17 #[.int .i64 dir, v] w fun e w' =>
      (∃ a l c, e = .returned (.tuple #[.slice a l c, .int .i64 (errW (write dir m))]) ∧ Bs w' a l c (outW (write dir m))) ∧ Below w.heap.size w w' := refWrite_any dir v m w hm hs

theorem there {dir : Int} {c : UInt8} {b : List UInt8} (h : (parse dir c b).2 = 0) : write dir (parse dir c b).1 = Option.some b ∧ (parse dir c b).1.code = c := PackW.there (X := pack) h
theorem back {dir : Int} {m : MsgM} {b : List UInt8} (h : write dir m = Option.some b) : parse dir m.code b = (m, 0) := PackW.back (X := pack) h
theorem parse_zero {dir : Int} {c : UInt8} {b : List UInt8} (h : (parse dir c b).2 ≠ 0) : (parse dir c b).1 = MsgM.zero := PackW.parse_zero (X := pack) h
theorem parse_small (dir : Int) (c : UInt8) (b : List UInt8) : (parse dir c b).1.Small := PackW.parse_small (X := pack) dir c b
theorem write_len {dir : Int} {m : MsgM} {b : List UInt8} (h : write dir m = Option.some b) : b.length ≤ 90000 := PackW.write_len (X := pack) h

theorem other {dir : Int} {m : MsgM} {b b' : List UInt8} (h : write dir m = Option.some b) (hn : b' ≠ b) : (parse dir m.code b').2 ≠ 0 ∨ (parse dir m.code b').1 ≠ m := PackW.other (X := pack) h hn
theorem write_form {dir : Int} {f : Frm} {m : MsgM} (h : formOf dir m.code = some f) {p : Prop} [Decidable p] (hp : f.valid m.code m ↔ p) : write dir m = if p then some (f.bytes m) else none :=
  PackW.write_one (X := pack) h hp

def okEndB (d : Int) (s : UInt16) (l : List UInt16) : Bool := if s = 0 then decide (1 ≤ l.length) && decide (l.length ≤ 125) else match l with | [v] => may d s.toNat v.toNat | _ => false
theorem okEndB_iff (d : Int) (s : UInt16) (l : List UInt16) : okEndB d s l = true ↔ okEnd d s l := by
  unfold okEndB okEnd
  by_cases h : s = 0
  · rw [if_pos h, if_pos h]; simp
  · rw [if_neg h, if_neg h]
    match l with
    | [] => simp
    | [v] => simp
    | u :: v :: r => simp
def subM (s : UInt16) (l : List UInt16) : MsgM := putSub (MsgM.of 8) (s, l)
theorem sub_iff (d : Int) (s : UInt16) (l : List UInt16) : (∃ x : UInt16 × List UInt16, subM s l = putSub (MsgM.of 8) x ∧ okSub d x.1 = true ∧ okEnd d x.1 x.2) ↔ (okSub d s = true ∧ okEndB d s l = true) := by
  rw [okEndB_iff]
  constructor
  · rintro ⟨⟨s', l'⟩, e, h⟩
    have e1 : s = s' := congrArg MsgM.sub e
    have e2 : l = l' := congrArg MsgM.words e
    rw [e1, e2]; exact h
  · exact fun h => ⟨(s, l), rfl, h⟩
theorem write_asked (s : UInt16) (l : List UInt16) : write 0 (subM s l) = if okSub 0 s = true ∧ okEndB 0 s l = true then some (putW (s :: l)) else none :=
  write_form (f := 2) rfl (sub_iff 0 s l)
theorem write_answered (s : UInt16) (l : List UInt16) : write 1 (subM s l) = if okSub 1 s = true ∧ okEndB 1 s l = true then some (putW (s :: l)) else none :=
  write_form (f := 3) rfl (sub_iff 1 s l)
def statM (s e : UInt16) : MsgM := putStat (MsgM.of 11) (s, e)
theorem write_stat (s e : UInt16) : write 1 (statM s e) = if isBusy s = true then some (putW [s, e]) else none :=
  write_form (f := 4) rfl (by
    constructor
    · rintro ⟨x, e, h⟩
      have e1 : s = x.1 := congrArg MsgM.status e
      rw [e1]; exact h
    · exact fun h => ⟨(s, e), rfl, h⟩)
def logM (s e k : UInt16) (d : List UInt8) : MsgM := ((putStat (MsgM.of 12) (s, e)).put_messages k).put_data d
theorem write_log (s e k : UInt16) (d : List UInt8) : write 1 (logM s e k d) = if isBusy s = true ∧ d.length ≤ 64 then some ([UInt8.ofNat (d.length + 6)] ++ putW [s, e, k] ++ d) else none :=
  write_form (f := 5) rfl (by
    constructor
    · rintro ⟨x, q, h1, h2, h3⟩
      have e1 : s = x.2.1.1.1 := congrArg MsgM.status q
      have e2 : d = x.2.2 := congrArg MsgM.data q
      rw [e1, e2]; exact ⟨h2, by omega⟩
    · rintro ⟨h1, h2⟩
      have hn : (UInt8.ofNat (d.length + 6)).toNat = d.length + 6 := by rw [UInt8.toNat_ofNat', Nat.mod_eq_of_lt (by omega)]
      exact ⟨(UInt8.ofNat (d.length + 6), (((s, e), k), d)), rfl, by show _ ∧ _; rw [hn]; omega, h1, by show d.length = _ - 6; rw [hn]; omega⟩)
def nameM (d : List UInt8) : MsgM := (MsgM.of 17).put_data d
theorem write_name (d : List UInt8) : write 1 (nameM d) = if 1 ≤ d.length ∧ d.length ≤ 251 then some ([UInt8.ofNat d.length] ++ d) else none :=
  write_form (f := 6) rfl (by
    constructor
    · rintro ⟨x, q, h1, h2⟩
      have e2 : d = x.2 := congrArg MsgM.data q
      rw [e2]; omega
    · rintro ⟨h1, h2⟩
      have hn : (UInt8.ofNat d.length).toNat = d.length := by rw [UInt8.toNat_ofNat', Nat.mod_eq_of_lt (by omega)]
      exact ⟨(UInt8.ofNat d.length, d), rfl, by show _ ∧ _; rw [hn]; omega, by show d.length = _; rw [hn]⟩)
/-- Of codes 7, 11, 12 and 17 nothing is asked. -/
theorem parse_asks {c : UInt8} (hc : c = 7 ∨ c = 11 ∨ c = 12 ∨ c = 17) (xs : List UInt8) : parse 0 c xs = if xs = [] then (MsgM.of c, 0) else (MsgM.zero, 3) := by
  have hf : formOf 0 c = some 0 := by rcases hc with rfl | rfl | rfl | rfl <;> rfl
  rw [parse_some hf]
  exact finish_new _ _

/-- A message's cells, by the fields that these forms have. -/
abbrev mCells (c v s st ev me : Value) (ws ds : Value) : Array Value := #[c, .int .u8 0, .int .u16 0, .int .u16 0, v, .int .u16 0, .int .u16 0, .int .u16 0, s, st, ev, me, ws, .slice none 0 0, ds, .slice none 0 0, .int .u8 0, .int .u8 0, .int .u8 0, .int .u8 0, .int .u8 0, .slice none 0 0]
abbrev z16 : Value := .int .u16 0
abbrev nilS : Value := .slice none 0 0
theorem m_at {w : World} {m : MsgM} {a ad : Option Addr} {l cp ld cd : Nat} (hw : Ws w a l cp m.words) (hd : Bs w ad ld cd m.data) (hz : m = { MsgM.of m.code with value := m.value, sub := m.sub, status := m.status, events := m.events, messages := m.messages, words := m.words, data := m.data }) :
    MsgAt w (.agg (mCells (byteV m.code) (wordV m.value) (wordV m.sub) (wordV m.status) (wordV m.events) (wordV m.messages) (.slice a l cp) (.slice ad ld cd))) m := by
  rw [hz]
  exact ⟨a, l, cp, none, 0, 0, ad, ld, cd, none, 0, 0, none, 0, 0, rfl, hw, Sl.nil _ _ (Nat.zero_le _), hd, Rs.nil _ _ (Nat.zero_le _), Obs.nil _ _ (Nat.zero_le _)⟩
theorem small_of {m : MsgM} (h1 : m.words.length ≤ 40000) (h2 : m.bits = []) (h3 : m.data.length ≤ 50000) (h4 : m.recs = []) (h5 : m.objects = []) : m.Small :=
  ⟨h1, by rw [h2]; simp, h3, by rw [h4]; simp, by rw [h5]; simp, by rw [h4]; simp, by rw [h5]; simp⟩
end Diag

end Go.Proofs.Ytemomgcapjpaiaa
