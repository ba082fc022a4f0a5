/-
  Package regs: the contracts by their common names; what is written of messages of one form.
-/
import Derived.Test.YtaccebkgmjiaaaaRegAwake
import Derived.Test.YtaccebkgmjiaaaaRegRefWrite
import Derived.Test.YtaccebkgmjiaaaaSmall
namespace Go.Proofs.Ytaccebkgmjiaaaa
open Go.RowKit
open Word Bits Cursor

namespace Regs
def outW (r : Option (List UInt8)) : List UInt8 := r.getD []
def errW (r : Option (List UInt8)) : Int := if r.isSome then 0 else 1
theorem code_parse (dir : Int) (c : UInt8) (a : Option Addr) (len cap : Nat) (xs : List UInt8) (w : World) (hx : Bs w a len cap xs) (hlen : len ≤ 100000) :
    Calls Try.prog 12 #[.int .i64 dir, byteV c, .slice a len cap] w fun e w' =>
      (∃ v, e = .returned (.tuple #[v, .int .i64 (parse dir c xs).2]) ∧ MsgAt w' v (parse dir c xs).1) ∧ Below w.heap.size w w' := regsParse_any dir c a len cap xs w hx hlen
theorem code_write (dir : Int) (v : Value) (m : MsgM) (w : World) (hm : MsgAt w v m) (_hs : m.Small) :
    Calls Try.prog 16 #[.int .i64 dir, v] w fun e w' =>
      (∃ a l c, e = .returned (.tuple #[.slice a l c, .int .i64 (errW (write dir m))]) ∧ Bs w' a l c (outW (write dir m))) ∧ Below w.heap.size w w' := regsWrite_any dir v m w hm
theorem ref_parse (dir : Int) (c : UInt8) (a : Option Addr) (len cap : Nat) (xs : List UInt8) (w : World) (hx : Bs w a len cap xs) (hlen : len ≤ 100000) :
    Calls Try.prog 13 #[.int .i64 dir, byteV c, .slice a len cap] w fun e w' =>
      (∃ v, e = .returned (.tuple #[v, .int .i64 (parse dir c xs).2]) ∧ MsgAt w' v (parse dir c xs).1) ∧ Below w.heap.size w w' := refParse_any dir c a len cap xs w hx hlen
theorem ref_write (dir : Int) (v : Value) (m : MsgM) (w : World) (hm : MsgAt w v m) (hs : m.Small) :
    Calls Try.prog 17 #[.int .i64 dir, v] w fun e w' =>
      (∃ a l c, e = .returned (.tuple #[.slice a l c, .int .i64 (errW (write dir m))]) ∧ Bs w' a l c (outW (write dir m))) ∧ Below w.heap.size w w' := refWrite_any dir v m w hm hs.words

theorem there {dir : Int} {c : UInt8} {b : List UInt8} (h : (parse dir c b).2 = 0) : write dir (parse dir c b).1 = Option.some b ∧ (parse dir c b).1.code = c := Pack.there (X := pack) h
theorem back {dir : Int} {m : MsgM} {b : List UInt8} (h : write dir m = Option.some b) : parse dir m.code b = (m, 0) := Pack.back (X := pack) h
theorem pos {dir : Int} {m : MsgM} {b : List UInt8} (h : write dir m = Option.some b) : 0 < b.length := Pack.first (X := pack) h
theorem cut {dir : Int} {m : MsgM} {b : List UInt8} (h : write dir m = Option.some b) (k : Nat) (hk : k < b.length) : (parse dir m.code (b.take k)).2 = 2 := Pack.cut (X := pack) h k hk
theorem more {dir : Int} {m : MsgM} {b : List UInt8} (h : write dir m = Option.some b) (x : UInt8) : (parse dir m.code (b ++ [x])).2 = 3 := Pack.more (X := pack) h x
theorem parse_zero {dir : Int} {c : UInt8} {b : List UInt8} (h : (parse dir c b).2 ≠ 0) : (parse dir c b).1 = MsgM.zero := Pack.parse_zero (X := pack) h
theorem parse_small (dir : Int) (c : UInt8) (b : List UInt8) : (parse dir c b).1.Small := Pack.parse_small (X := pack) dir c b
theorem write_len {dir : Int} {m : MsgM} {b : List UInt8} (h : write dir m = Option.some b) : b.length ≤ 90000 := Pack.write_len (X := pack) h

theorem write_form {dir : Int} {f : Frm} {m : MsgM} (h : formOf dir m.code = some f) {p : Prop} [Decidable p] (hp : f.valid m.code m ↔ p) : write dir m = if p then some (f.bytes m) else none :=
  Pack.write_one (X := pack) h hp

def askM (c : UInt8) (a k : UInt16) : MsgM := putAsk (MsgM.of c) (a, k)
theorem ask_iff (most : Nat) (c : UInt8) (a k : UInt16) : (∃ x : UInt16 × UInt16, askM c a k = putAsk (MsgM.of c) x ∧ okSpan most x.1 x.2) ↔ okSpan most a k := by
  constructor
  · rintro ⟨⟨a', k'⟩, e, h⟩
    have e1 : a = a' := congrArg MsgM.addr e
    have e2 : k = k' := congrArg MsgM.count e
    rw [e1, e2]; exact h
  · exact fun h => ⟨(a, k), rfl, h⟩
theorem write_ask {c : UInt8} (hc : c = 3 ∨ c = 4) (a k : UInt16) : write 0 (askM c a k) = if (1 ≤ k.toNat ∧ k.toNat ≤ 125 ∧ a.toNat + k.toNat ≤ 65536) then some (putW [a, k]) else none :=
  write_form (f := 0) (by show formOf 0 c = _; rcases hc with rfl | rfl <;> rfl) (ask_iff 125 c a k)
theorem write_done (a k : UInt16) : write 1 (askM 16 a k) = if (1 ≤ k.toNat ∧ k.toNat ≤ 123 ∧ a.toNat + k.toNat ≤ 65536) then some (putW [a, k]) else none :=
  write_form (f := 4) rfl (ask_iff 123 16 a k)
def toldM (l : List UInt16) : MsgM := (MsgM.of 3).put_words l
theorem write_told (l : List UInt16) : write 1 (toldM l) = if 1 ≤ l.length ∧ l.length ≤ 125 then some (counted l) else none :=
  write_form (f := 1) rfl (by
    constructor
    · rintro ⟨x, e, h1, h2⟩
      have e2 : l = x.2 := congrArg MsgM.words e
      rw [e2]; omega
    · rintro ⟨h1, h2⟩
      have hn : (UInt8.ofNat (2 * l.length)).toNat = 2 * l.length := by rw [UInt8.toNat_ofNat', Nat.mod_eq_of_lt (by omega)]
      exact ⟨(UInt8.ofNat (2 * l.length), l), rfl, by show _ ∧ _ ∧ _; rw [hn]; omega, by show l.length = _; rw [hn]; omega⟩)
def someM (a k : UInt16) (l : List UInt16) : MsgM := (askM 16 a k).put_words l
theorem write_some' (a k : UInt16) (l : List UInt16) : write 0 (someM a k l) = if (1 ≤ k.toNat ∧ k.toNat ≤ 123 ∧ a.toNat + k.toNat ≤ 65536) ∧ l.length = k.toNat then some (putW [a, k] ++ counted l) else none :=
  write_form (f := 3) rfl (by
    constructor
    · rintro ⟨x, e, h1, h2, h3⟩
      have e1 : a = x.1.1 := congrArg MsgM.addr e
      have e2 : k = x.1.2 := congrArg MsgM.count e
      have e3 : l = x.2.2 := congrArg MsgM.words e
      rw [e1, e2, e3]; exact ⟨h1, h3⟩
    · rintro ⟨h1, h2⟩
      have hb := h1.2.1
      exact ⟨((a, k), (UInt8.ofNat (2 * k.toNat), l)), rfl, h1, by show (UInt8.ofNat (2 * k.toNat)).toNat = _; rw [UInt8.toNat_ofNat', Nat.mod_eq_of_lt (by omega)], h2⟩)
def bothM (a k b : UInt16) (l : List UInt16) : MsgM := ((askM 23 a k).put_addr2 b).put_words l
theorem write_both (a k b : UInt16) (l : List UInt16) : write 0 (bothM a k b l) = if (1 ≤ k.toNat ∧ k.toNat ≤ 125 ∧ a.toNat + k.toNat ≤ 65536) ∧ 1 ≤ l.length ∧ l.length ≤ 121 ∧ b.toNat + l.length ≤ 65536 then some (putW [a, k, b, UInt16.ofNat l.length] ++ counted l) else none :=
  write_form (f := 6) rfl (by
    constructor
    · rintro ⟨x, e, ⟨h1, h4⟩, h2, h3⟩
      have e1 : a = x.1.1.1 := congrArg MsgM.addr e
      have e2 : k = x.1.1.2 := congrArg MsgM.count e
      have e4 : b = x.1.2.1 := congrArg MsgM.addr2 e
      have e3 : l = x.2.2 := congrArg MsgM.words e
      obtain ⟨h5, h6, h7⟩ := h4
      rw [e1, e2, e3, e4]; exact ⟨h1, by omega, by omega, by omega⟩
    · rintro ⟨h1, h2, h3, h4⟩
      have hn : (UInt16.ofNat l.length).toNat = l.length := by rw [UInt16.toNat_ofNat', Nat.mod_eq_of_lt (by omega)]
      exact ⟨(((a, k), (b, UInt16.ofNat l.length)), (UInt8.ofNat (2 * l.length), l)), rfl, ⟨h1, by show okSpan 121 b (UInt16.ofNat l.length); unfold okSpan; rw [hn]; omega⟩, by
        show (UInt8.ofNat (2 * l.length)).toNat = 2 * (UInt16.ofNat l.length).toNat
        rw [hn, UInt8.toNat_ofNat', Nat.mod_eq_of_lt (by omega)], hn.symm⟩)
def queueM (a : UInt16) : MsgM := (MsgM.of 24).put_addr a
theorem write_queue (a : UInt16) : write 0 (queueM a) = some (putW [a]) := (write_form (f := 7) (p := True) rfl ⟨fun _ => trivial, fun _ => ⟨a, rfl, trivial⟩⟩).trans (if_pos trivial)
def listM (l : List UInt16) : MsgM := (MsgM.of 24).put_words l
theorem write_list (l : List UInt16) : write 1 (listM l) = if l.length ≤ 31 then some (putW [UInt16.ofNat (2 * l.length + 2), UInt16.ofNat l.length] ++ putW l) else none :=
  write_form (f := 8) rfl (by
    constructor
    · rintro ⟨x, e, ⟨h1, h2⟩, h3⟩
      have e2 : l = x.2 := congrArg MsgM.words e
      rw [e2]; omega
    · intro h1
      have hn : (UInt16.ofNat l.length).toNat = l.length := by rw [UInt16.toNat_ofNat', Nat.mod_eq_of_lt (by omega)]
      have hm : (UInt16.ofNat (2 * l.length + 2)).toNat = 2 * l.length + 2 := by rw [UInt16.toNat_ofNat', Nat.mod_eq_of_lt (by omega)]
      exact ⟨((UInt16.ofNat (2 * l.length + 2), UInt16.ofNat l.length), l), rfl, ⟨by show _ ∧ _ ∧ _; rw [hm]; omega, by show _ = 2 * (UInt16.ofNat l.length).toNat + 2; rw [hm, hn]⟩, hn.symm⟩)
def oneM (a v : UInt16) : MsgM := putOne (MsgM.of 6) (a, v)
theorem write_one {dir : Int} (hd : dir = 0 ∨ dir = 1) (a v : UInt16) : write dir (oneM a v) = some (putW [a, v]) :=
  (write_form (f := 2) (p := True) (by rcases hd with rfl | rfl <;> rfl) ⟨fun _ => trivial, fun _ => ⟨(a, v), rfl, trivial⟩⟩).trans (if_pos trivial)
def maskM (a x y : UInt16) : MsgM := putMask (MsgM.of 22) ((a, x), y)
theorem write_mask {dir : Int} (hd : dir = 0 ∨ dir = 1) (a x y : UInt16) : write dir (maskM a x y) = some (putW [a, x, y]) :=
  (write_form (f := 5) (p := True) (by rcases hd with rfl | rfl <;> rfl) ⟨fun _ => trivial, fun _ => ⟨((a, x), y), rfl, trivial⟩⟩).trans (if_pos trivial)

/-- A message's cells, by the fields that these forms have. -/
abbrev mCells (c a k v an o b : Value) (ws : Value) : Array Value := #[c, .int .u8 0, a, k, v, an, o, b, .int .u16 0, .int .u16 0, .int .u16 0, .int .u16 0, ws, .slice none 0 0, .slice none 0 0, .slice none 0 0, .int .u8 0, .int .u8 0, .int .u8 0, .int .u8 0, .int .u8 0, .slice none 0 0]
abbrev z16 : Value := .int .u16 0
abbrev nilS : Value := .slice none 0 0
theorem m_at {w : World} {m : MsgM} {a : Option Addr} {l cp : Nat} (hw : Ws w a l cp m.words) (hz : m = { MsgM.of m.code with addr := m.addr, count := m.count, value := m.value, and_ := m.and_, or_ := m.or_, addr2 := m.addr2, words := m.words }) :
    MsgAt w (.agg (mCells (byteV m.code) (wordV m.addr) (wordV m.count) (wordV m.value) (wordV m.and_) (wordV m.or_) (wordV m.addr2) (.slice a l cp))) m := by
  rw [hz]
  exact ⟨a, l, cp, none, 0, 0, none, 0, 0, none, 0, 0, none, 0, 0, rfl, hw, Sl.nil _ _ (Nat.zero_le _), Sl.nil _ _ (Nat.zero_le _), Rs.nil _ _ (Nat.zero_le _), Obs.nil _ _ (Nat.zero_le _)⟩
theorem small_of {m : MsgM} (h1 : m.words.length ≤ 40000) (h2 : m.bits = []) (h3 : m.data = []) (h4 : m.recs = []) (h5 : m.objects = []) : m.Small :=
  ⟨h1, by rw [h2]; simp, by rw [h3]; simp, by rw [h4]; simp, by rw [h5]; simp, by rw [h4]; simp, by rw [h5]; simp⟩
end Regs

end Go.Proofs.Ytaccebkgmjiaaaa
