/-
  Package coils: the contracts by their common names; what is written of messages of one form.
-/
import Derived.Test.YtgacfocbdeohaaaCoilAwake
import Derived.Test.YtgacfocbdeohaaaCoilBack
import Derived.Test.YtgacfocbdeohaaaCoilRefWrite
import Derived.Test.YtgacfocbdeohaaaSmall
namespace Go.Proofs.Ytgacfocbdeohaaa
open Go.RowKit
open Word Bits Cursor

namespace Coils
theorem code_parse (dir : Int) (c : UInt8) (a : Option Addr) (len cap : Nat) (xs : List UInt8) (w : World) (hx : Bs w a len cap xs) (hlen : len ≤ 100000) :
    Calls Try.prog 13 #[.int .i64 dir, byteV c, .slice a len cap] w fun e w' =>
      (∃ v, e = .returned (.tuple #[v, .int .i64 (parse dir c xs).2]) ∧ MsgAt w' v (parse dir c xs).1) ∧ Below w.heap.size w w' := coilsParse_any dir c a len cap xs w hx hlen
theorem code_write (dir : Int) (v : Value) (m : MsgM) (w : World) (hm : MsgAt w v m) (hs : m.Small) :
    Calls Try.prog 17 #[.int .i64 dir, v] w fun e w' =>
      (∃ a l c, e = .returned (.tuple #[.slice a l c, .int .i64 (errW (write dir m))]) ∧ Bs w' a l c (outW (write dir m))) ∧ Below w.heap.size w w' := coilsWrite_any dir v m w hm hs.bits hs.data
theorem ref_parse (dir : Int) (c : UInt8) (a : Option Addr) (len cap : Nat) (xs : List UInt8) (w : World) (hx : Bs w a len cap xs) (hlen : len ≤ 100000) :
    Calls Try.prog 14 #[.int .i64 dir, byteV c, .slice a len cap] w fun e w' =>
      (∃ v, e = .returned (.tuple #[v, .int .i64 (parse dir c xs).2]) ∧ MsgAt w' v (parse dir c xs).1) ∧ Below w.heap.size w w' := refParse_any dir c a len cap xs w hx hlen
theorem ref_write (dir : Int) (v : Value) (m : MsgM) (w : World) (hm : MsgAt w v m) (hs : m.Small) :
    Calls Try.prog 18 #[.int .i64 dir, v] w fun e w' =>
      (∃ a l c, e = .returned (.tuple #[.slice a l c, .int .i64 (errW (write dir m))]) ∧ Bs w' a l c (outW (write dir m))) ∧ Below w.heap.size w w' := refWrite_any dir v m w hm hs.bits hs.data

/-- What is read is written: the same bytes. -/
theorem there {dir : Int} {c : UInt8} {b : List UInt8} (h : (parse dir c b).2 = 0) : write dir (parse dir c b).1 = Option.some b ∧ (parse dir c b).1.code = c := by
  obtain ⟨f, hf, hv, hb⟩ := parse_back h
  have hc := valid_code hv
  refine ⟨?_, hc⟩
  have h1 : formOf dir (parse dir c b).1.code = Option.some f := by rw [hc]; exact hf
  rw [write_ok h1 (by rw [hc]; exact hv), ← hb]
/-- What is written is read: the same message. -/
theorem back {dir : Int} {m : MsgM} {b : List UInt8} (h : write dir m = Option.some b) : parse dir m.code b = (m, 0) := by
  obtain ⟨f, hf, hv, rfl⟩ := write_back h
  exact parse_ok hf hv
theorem pos {dir : Int} {m : MsgM} {b : List UInt8} (h : write dir m = Option.some b) : 0 < b.length := by
  obtain ⟨f, hf, hv, rfl⟩ := write_back h
  exact bytes_pos f m
theorem cut {dir : Int} {m : MsgM} {b : List UInt8} (h : write dir m = Option.some b) (k : Nat) (hk : k < b.length) : (parse dir m.code (b.take k)).2 = 2 := by
  obtain ⟨f, hf, hv, rfl⟩ := write_back h
  rw [parse_short hf hv k hk]
theorem more {dir : Int} {m : MsgM} {b : List UInt8} (h : write dir m = Option.some b) (x : UInt8) : (parse dir m.code (b ++ [x])).2 = 3 := by
  obtain ⟨f, hf, hv, rfl⟩ := write_back h
  rw [parse_long hf hv x]

theorem valid_small {c : UInt8} {f : Frm} {m : MsgM} (h : f.valid c m) : m.Small := by
  rcases Frm.five f with rfl | rfl | rfl | rfl | rfl
  · obtain ⟨a, k, rfl, _⟩ := h; exact ((MsgM.bare_of c).put_addr a |>.put_count k).small
  · obtain ⟨d, rfl, h1, h2⟩ := h
    have hb := (MsgM.bare_of c).small
    exact ⟨hb.words, hb.bits, by show d.length ≤ _; omega, hb.recs, hb.objects, hb.part, hb.obj⟩
  · obtain ⟨a, v, rfl, _⟩ := h; exact ((MsgM.bare_of c).put_addr a |>.put_value v).small
  · obtain ⟨a, k, l, rfl, h1, h2, h3, h4⟩ := h
    have hb := (MsgM.bare_of c).small
    exact ⟨hb.words, by show l.length ≤ _; omega, hb.data, hb.recs, hb.objects, hb.part, hb.obj⟩
  · obtain ⟨a, k, rfl, _⟩ := h; exact ((MsgM.bare_of c).put_addr a |>.put_count k).small
theorem parse_small (dir : Int) (c : UInt8) (b : List UInt8) : (parse dir c b).1.Small := by
  by_cases h : (parse dir c b).2 = 0
  · obtain ⟨f, _, hv, _⟩ := parse_back h
    exact valid_small hv
  · rw [parse_zero h]; exact (MsgM.bare_of 0).small
theorem valid_len {c : UInt8} {f : Frm} {m : MsgM} (hv : f.valid c m) : (f.bytes m).length ≤ 90000 := by
  rcases Frm.five f with rfl | rfl | rfl | rfl | rfl
  · simp [Frm.bytes, putW_length]
  · obtain ⟨d, rfl, h1, h2⟩ := hv; show (counted [] d).length ≤ _; simp [counted]; omega
  · simp [Frm.bytes, putW_length]
  · obtain ⟨a, k, l, rfl, h1, h2, h3, h4⟩ := hv
    show (counted (putW [a, k]) (packB l)).length ≤ _
    simp [counted, putW_length, packB_length]; unfold many; omega
  · simp [Frm.bytes, putW_length]
theorem write_len {dir : Int} {m : MsgM} {b : List UInt8} (h : write dir m = Option.some b) : b.length ≤ 90000 := by
  obtain ⟨f, _, hv, rfl⟩ := write_back h
  exact valid_len hv

def askM (c : UInt8) (a k : UInt16) : MsgM := ((MsgM.of c).put_addr a).put_count k
theorem write_asked {c : UInt8} (hc : c = 1 ∨ c = 2) (a k : UInt16) : write 0 (askM c a k) = if 1 ≤ k.toNat ∧ k.toNat ≤ 2000 ∧ a.toNat + k.toNat ≤ 65536 then Option.some (putW [a, k]) else none := by
  have hf : formOf 0 (askM c a k).code = Option.some .asked := by show formOf 0 c = _; unfold formOf; rw [if_pos rfl, if_pos hc]
  split
  · rename_i h; exact write_ok hf ⟨a, k, rfl, h⟩
  · rename_i h
    cases hw : write 0 (askM c a k) with
    | none => rfl
    | some b =>
      obtain ⟨f, h1, h2, _⟩ := write_back hw
      rw [hf] at h1; injection h1 with h1; subst h1
      obtain ⟨a', k', e, q⟩ := h2
      have e1 : a = a' := congrArg MsgM.addr e
      have e2 : k = k' := congrArg MsgM.count e
      subst e1 e2
      exact absurd q h
theorem write_done (a k : UInt16) : write 1 (askM 15 a k) = if 1 ≤ k.toNat ∧ k.toNat ≤ 1968 ∧ a.toNat + k.toNat ≤ 65536 then Option.some (putW [a, k]) else none := by
  have hf : formOf 1 (askM 15 a k).code = Option.some .done := rfl
  split
  · rename_i h; exact write_ok hf ⟨a, k, rfl, h⟩
  · rename_i h
    cases hw : write 1 (askM 15 a k) with
    | none => rfl
    | some b =>
      obtain ⟨f, h1, h2, _⟩ := write_back hw
      rw [hf] at h1; injection h1 with h1; subst h1
      obtain ⟨a', k', e, q⟩ := h2
      have e1 : a = a' := congrArg MsgM.addr e
      have e2 : k = k' := congrArg MsgM.count e
      subst e1 e2
      exact absurd q h
abbrev askCells (c : Value) (a k : Value) : Array Value := #[c, .int .u8 0, a, k, .int .u16 0, .int .u16 0, .int .u16 0, .int .u16 0, .int .u16 0, .int .u16 0, .int .u16 0, .int .u16 0, .slice none 0 0, .slice none 0 0, .slice none 0 0, .slice none 0 0, .int .u8 0, .int .u8 0, .int .u8 0, .int .u8 0, .int .u8 0, .slice none 0 0]
theorem ask_at (w : World) (c : UInt8) (a k : UInt16) : MsgAt w (.agg (askCells (byteV c) (wordV a) (wordV k))) (askM c a k) :=
  ⟨none, 0, 0, none, 0, 0, none, 0, 0, none, 0, 0, none, 0, 0, rfl, Sl.nil _ _ (Nat.zero_le _), Sl.nil _ _ (Nat.zero_le _), Sl.nil _ _ (Nat.zero_le _), Rs.nil _ _ (Nat.zero_le _), Obs.nil _ _ (Nat.zero_le _)⟩
theorem ask_small (c : UInt8) (a k : UInt16) : (askM c a k).Small := ((MsgM.bare_of c).put_addr a |>.put_count k).small
def oneM (a v : UInt16) : MsgM := ((MsgM.of 5).put_addr a).put_value v
theorem write_one {dir : Int} (hd : dir = 0 ∨ dir = 1) (a v : UInt16) : write dir (oneM a v) = if v.toNat = 0 ∨ v.toNat = 65280 then Option.some (putW [a, v]) else none := by
  have hf : formOf dir (oneM a v).code = Option.some .one := by rcases hd with rfl | rfl <;> rfl
  split
  · rename_i h; exact write_ok hf ⟨a, v, rfl, h⟩
  · rename_i h
    cases hw : write dir (oneM a v) with
    | none => rfl
    | some b =>
      obtain ⟨f, h1, h2, _⟩ := write_back hw
      rw [hf] at h1; injection h1 with h1; subst h1
      obtain ⟨a', k', e, q⟩ := h2
      have e2 : v = k' := congrArg MsgM.value e
      subst e2
      exact absurd q h
abbrev oneCells (a v : Value) : Array Value := #[.int .u8 5, .int .u8 0, a, .int .u16 0, v, .int .u16 0, .int .u16 0, .int .u16 0, .int .u16 0, .int .u16 0, .int .u16 0, .int .u16 0, .slice none 0 0, .slice none 0 0, .slice none 0 0, .slice none 0 0, .int .u8 0, .int .u8 0, .int .u8 0, .int .u8 0, .int .u8 0, .slice none 0 0]
theorem one_at (w : World) (a v : UInt16) : MsgAt w (.agg (oneCells (wordV a) (wordV v))) (oneM a v) :=
  ⟨none, 0, 0, none, 0, 0, none, 0, 0, none, 0, 0, none, 0, 0, rfl, Sl.nil _ _ (Nat.zero_le _), Sl.nil _ _ (Nat.zero_le _), Sl.nil _ _ (Nat.zero_le _), Rs.nil _ _ (Nat.zero_le _), Obs.nil _ _ (Nat.zero_le _)⟩
theorem one_small (a v : UInt16) : (oneM a v).Small := ((MsgM.bare_of 5).put_addr a |>.put_value v).small
def toldM (d : List UInt8) : MsgM := (MsgM.of 2).put_data d
theorem write_told (d : List UInt8) : write 1 (toldM d) = if 1 ≤ d.length ∧ d.length ≤ 250 then Option.some (counted [] d) else none := by
  have hf : formOf 1 (toldM d).code = Option.some .told := rfl
  split
  · rename_i h; exact write_ok hf ⟨d, rfl, h⟩
  · rename_i h
    cases hw : write 1 (toldM d) with
    | none => rfl
    | some b =>
      obtain ⟨f, h1, h2, _⟩ := write_back hw
      rw [hf] at h1; injection h1 with h1; subst h1
      obtain ⟨d', e, q⟩ := h2
      have e2 : d = d' := congrArg MsgM.data e
      subst e2
      exact absurd q h
theorem told_at {w : World} {a : Option Addr} {l c : Nat} {d : List UInt8} (h : Bs w a l c d) : MsgAt w (.agg #[.int .u8 2, .int .u8 0, .int .u16 0, .int .u16 0, .int .u16 0, .int .u16 0, .int .u16 0, .int .u16 0, .int .u16 0, .int .u16 0, .int .u16 0, .int .u16 0, .slice none 0 0, .slice none 0 0, .slice a l c, .slice none 0 0, .int .u8 0, .int .u8 0, .int .u8 0, .int .u8 0, .int .u8 0, .slice none 0 0]) (toldM d) :=
  ⟨none, 0, 0, none, 0, 0, a, l, c, none, 0, 0, none, 0, 0, rfl, Sl.nil _ _ (Nat.zero_le _), Sl.nil _ _ (Nat.zero_le _), h, Rs.nil _ _ (Nat.zero_le _), Obs.nil _ _ (Nat.zero_le _)⟩
theorem told_small (d : List UInt8) (h : d.length ≤ 50000) : (toldM d).Small := by
  have hb := (MsgM.bare_of 2).small
  exact ⟨hb.words, hb.bits, h, hb.recs, hb.objects, hb.part, hb.obj⟩
def setM (a k : UInt16) (l : List Bool) : MsgM := (((MsgM.of 15).put_addr a).put_count k).put_bits l
theorem write_some (a k : UInt16) (l : List Bool) (h1 : 1 ≤ k.toNat) (h2 : k.toNat ≤ 1968) (h3 : a.toNat + k.toNat ≤ 65536) (h4 : l.length = k.toNat) : write 0 (setM a k l) = Option.some (counted (putW [a, k]) (packB l)) :=
  write_ok (f := .some) rfl ⟨a, k, l, rfl, h1, h2, h3, h4⟩
theorem set_at {w : World} {a : Option Addr} {l c : Nat} {d : List Bool} (x k : UInt16) (h : Ls w a l c d) : MsgAt w (.agg #[.int .u8 15, .int .u8 0, wordV x, wordV k, .int .u16 0, .int .u16 0, .int .u16 0, .int .u16 0, .int .u16 0, .int .u16 0, .int .u16 0, .int .u16 0, .slice none 0 0, .slice a l c, .slice none 0 0, .slice none 0 0, .int .u8 0, .int .u8 0, .int .u8 0, .int .u8 0, .int .u8 0, .slice none 0 0]) (setM x k d) :=
  ⟨none, 0, 0, a, l, c, none, 0, 0, none, 0, 0, none, 0, 0, rfl, Sl.nil _ _ (Nat.zero_le _), h, Sl.nil _ _ (Nat.zero_le _), Rs.nil _ _ (Nat.zero_le _), Obs.nil _ _ (Nat.zero_le _)⟩
theorem set_small (x k : UInt16) (d : List Bool) (h : d.length ≤ 50000) : (setM x k d).Small := by
  have hb := (MsgM.bare_of 15).small
  exact ⟨hb.words, h, hb.data, hb.recs, hb.objects, hb.part, hb.obj⟩
end Coils

end Go.Proofs.Ytgacfocbdeohaaa
