/-
  Package cursor: what a cursor holds, and the contracts of its calls.
-/
import Derived.Test.YtaokbaddleplfaaWordTake
import Derived.Test.YtaokbaddleplfaaPure
import Derived.Lib.SliceRun
import Derived.OneCell
import Derived.Laws.EntriesVeiled
namespace Go.Proofs.Ytaokbaddleplfaa
open Go.RowKit
open Word

/-- All blocks but one are as they were. -/
structure But (g : Nat) (w w' : World) : Prop where
  os : w'.os = w.os
  tape : w'.tape = w.tape
  output : w'.output = w.output
  size : w.heap.size ≤ w'.heap.size
  block : ∀ k, k < w.heap.size → k ≠ g → w'.heap[k]? = w.heap[k]?

theorem But.refl (g : Nat) (w : World) : But g w w := ⟨rfl, rfl, rfl, Nat.le_refl _, fun _ _ _ => rfl⟩
theorem But.trans {g : Nat} {a b c : World} (h : But g a b) (k : But g b c) : But g a c :=
  ⟨k.os.trans h.os, k.tape.trans h.tape, k.output.trans h.output, Nat.le_trans h.size k.size, fun i hi hn => (k.block i (Nat.lt_of_lt_of_le hi h.size) hn).trans (h.block i hi hn)⟩
theorem But.of {g : Nat} {a b : World} (h : Below a.heap.size a b) : But g a b := ⟨h.os, h.tape, h.output, h.size, fun k hk _ => h.block k hk⟩
theorem But.below {g B : Nat} {a b : World} (h : But g a b) (hg : B ≤ g) (hB : B ≤ a.heap.size) : Below B a b := ⟨h.os, h.tape, h.output, h.size, fun k hk => h.block k (by omega) (by omega)⟩
theorem But.next {g B : Nat} {a b c : World} (h : Below B a b) (k : But g b c) (hg : B ≤ g) (hB : B ≤ a.heap.size) : Below B a c := h.trans (k.below hg (Nat.le_trans hB h.size))
theorem But.setCell (g i : Nat) (w : World) (u : Value) : But g w (w.setCell ⟨g, i, none⟩ u) :=
  ⟨rfl, rfl, rfl, by simp [World.setCell], fun _ _ hn => Below.heap_setCell _ _ _ _ hn⟩
theorem But.cell {g : Nat} {w w' : World} (h : But g w w') {p : Addr} (hp : p.block < w.heap.size) (hn : p.block ≠ g) : w'.cell? p = w.cell? p := World.cell?_of_block (w := w) (h.block p.block hp hn)

/-- A slice none of whose cells lies in the block. -/
theorem Sl.but {α : Type} {f : α → Value} {w w' : World} {a : Option Addr} {len cap : Nat} {xs : List α} (h : Sl f w a len cap xs) {g : Nat} (hb : But g w w') (hn : ∀ i x, w.cell? ⟨g, i, none⟩ ≠ some (f x)) : Sl f w' a len cap xs :=
  ⟨h.hlen, h.hle, h.hmax, fun i hi => by
    obtain ⟨b, off, ha, hlt, hc⟩ := h.hcell i hi
    exact ⟨b, off, ha, Nat.lt_of_lt_of_le hlt hb.size, (hb.cell (p := ⟨b, off + i, none⟩) hlt (fun e => hn (off + i) xs[i] (by have e' : b = g := e; rw [← e']; exact hc))).trans hc⟩⟩

theorem Bp.but {w w' : World} {a : Option Addr} {len cap : Nat} {xs : List UInt8} (h : Bp w a len cap xs) {g : Nat} (hb : But g w w') (hn : ∀ i x, w.cell? ⟨g, i, none⟩ ≠ some (byteV x)) : Bp w' a len cap xs :=
  h.moved hb.size fun b off ha hl hlt => hb.block b hlt (fun e => by
    obtain ⟨b', off', ha', _, hc⟩ := h.toSl.at hl
    rw [ha] at ha'
    cases ha'
    have h0 : 0 < xs.length := by have := h.hlen; omega
    exact hn (off + 0) xs[0] (by rw [← e]; exact hc 0 h0))

/-- What is cut off at the front, whatever the address. -/
theorem Sl.dropAny {α : Type} {f : α → Value} {w : World} {a : Option Addr} {len cap : Nat} {xs : List α} (h : Sl f w a len cap xs) (n : Nat) (hn : n ≤ len) : Sl f w (if cap = n then a else a.map (·.add n)) (len - n) (cap - n) (xs.drop n) := by
  have h0 := h.hlen
  have h1 := h.hle
  have h2 := h.hmax
  by_cases hl : n < len
  · obtain ⟨b, off, rfl, _, _⟩ := h.at (by omega)
    rw [if_neg (by omega)]
    have := h.drop n hn
    rw [← Addr.add_lit] at this
    exact this
  · have : n = len := by omega
    subst this
    rw [List.drop_eq_nil_of_le (by omega), Nat.sub_self]
    exact Sl.nil _ _ (by omega)

namespace Cursor
/-- What is left, whether it was short, what was wrong first. -/
structure St where
  xs : List UInt8
  s : Bool
  e : Int
def St.new (xs : List UInt8) : St := ⟨xs, false, 0⟩
def St.need (c : St) (ok : Bool) (e : Int) : St := if c.e = 0 ∧ ok = false then ⟨c.xs, c.s, e⟩ else c
/-- Whether n things of a size fall short. -/
def St.lack (c : St) (n : Int) (size : Nat) : Bool := c.s || decide (n < 0) || decide ((c.xs.length : Int) < n * size)
def St.got (c : St) (n : Int) (size : Nat) : List UInt8 := if c.lack n size then [] else c.xs.take (n.toNat * size)
def St.next (c : St) (n : Int) (size : Nat) : St := if c.lack n size then ⟨[], true, if c.e = 0 then 2 else c.e⟩ else ⟨c.xs.drop (n.toNat * size), c.s, c.e⟩
def St.end_ (c : St) : St := c.need (decide (c.xs.length = 0)) 3
end Cursor
open Cursor

def curObj (g : Nat) (a : Option Addr) (len cap : Nat) (s : Bool) (e : Int) : Obj :=
  .cells #[.slice a len cap, .bool s, .int .i64 e, .func (.func 39) #[.pointer (some ⟨g, 0, none⟩)] #[]] 77 (0, 0)

/-- The cursor in block g. -/
def Cur (w : World) (g : Nat) (c : St) : Prop :=
  ∃ a len cap, w.heap[g]? = some (curObj g a len cap c.s c.e) ∧ Bp w a len cap c.xs ∧ len ≤ 100000

section
variable {w w' : World} {g : Nat} {a : Option Addr} {len cap : Nat} {s : Bool} {e : Int}
theorem cur_lt (h : w.heap[g]? = some (curObj g a len cap s e)) : g < w.heap.size := lt_of_block h
theorem cur_c0 (h : w.heap[g]? = some (curObj g a len cap s e)) : w.cell? ⟨g, 0, none⟩ = some (.slice a len cap) := cell_of_row w g 0 _ _ _ h
theorem cur_c1 (h : w.heap[g]? = some (curObj g a len cap s e)) : w.cell? ⟨g, 1, none⟩ = some (.bool s) := cell_of_row w g 1 _ _ _ h
theorem cur_c2 (h : w.heap[g]? = some (curObj g a len cap s e)) : w.cell? ⟨g, 2, none⟩ = some (.int .i64 e) := cell_of_row w g 2 _ _ _ h
theorem cur_c3 (h : w.heap[g]? = some (curObj g a len cap s e)) : w.cell? ⟨g, 3, none⟩ = some (.func (.func 39) #[.pointer (some ⟨g, 0, none⟩)] #[]) := cell_of_row w g 3 _ _ _ h
theorem fr_block {b : Nat} {cs : Array Value} {t : TypeId} (h : w.heap[b]? = some (.cells cs t (0, 0))) (i : Nat) : w.frozen? ⟨b, i, none⟩ = false := by simp [World.frozen?, h]
theorem cur_fr (h : w.heap[g]? = some (curObj g a len cap s e)) (i : Nat) : w.frozen? ⟨g, i, none⟩ = false := by simp [World.frozen?, h, curObj]
/-- No byte, no number of 16 bits lies in a cursor. -/
theorem cur_no (h : w.heap[g]? = some (curObj g a len cap s e)) (i : Nat) (x : UInt8) : w.cell? ⟨g, i, none⟩ ≠ some (byteV x) := by
  rw [cell_of_row w g i _ _ _ h]
  match i with
  | 0 | 1 | 2 | 3 => simp
  | i + 4 => simp
theorem cur_noW (h : w.heap[g]? = some (curObj g a len cap s e)) (i : Nat) (x : UInt16) : w.cell? ⟨g, i, none⟩ ≠ some (wordV x) := by
  rw [cell_of_row w g i _ _ _ h]
  match i with
  | 0 | 1 | 2 | 3 => simp
  | i + 4 => simp
theorem set_block {b i : Nat} {cs : Array Value} {t : TypeId} {fr : Nat × Nat} (h : w.heap[b]? = some (.cells cs t fr)) (u : Value) : (w.setCell ⟨b, i, none⟩ u).heap[b]? = some (.cells (cs.set! i u) t fr) := by
  have hlt := lt_of_block h
  have h' : w.heap[b] = .cells cs t fr := by simpa [Array.getElem?_eq_getElem hlt] using h
  show (w.heap.modify b _)[b]? = _
  rw [Array.getElem?_eq_getElem (by simpa using hlt), Array.getElem_modify_self, h']
  rfl
end

theorem Cur.mono {w w' : World} {g : Nat} {c : St} (h : Cur w g c) (hb : Below w.heap.size w w') : Cur w' g c := by
  obtain ⟨a, len, cap, hg, hx, hl⟩ := h
  exact ⟨a, len, cap, (hb.block g (cur_lt hg)).trans hg, hx.mono hb, hl⟩
theorem Cur.lt {w : World} {g : Nat} {c : St} (h : Cur w g c) : g < w.heap.size := by
  obtain ⟨a, len, cap, hg, _⟩ := h
  exact cur_lt hg
theorem Cur.small {w : World} {g : Nat} {c : St} (h : Cur w g c) : c.xs.length ≤ 100000 := by
  obtain ⟨a, len, cap, hg, hx, hl⟩ := h
  rw [hx.hlen]; exact hl
/-- Bytes, and numbers, beside a cursor that is read. -/
theorem Cur.bytes {w w' : World} {g : Nat} {c : St} (h : Cur w g c) (hb : But g w w') {a : Option Addr} {len cap : Nat} {xs : List UInt8} (hx : Bs w a len cap xs) : Bs w' a len cap xs := by
  obtain ⟨_, _, _, hg, _⟩ := h
  exact hx.but hb (cur_no hg)
theorem Cur.pure {w w' : World} {g : Nat} {c : St} (h : Cur w g c) (hb : But g w w') {a : Option Addr} {len cap : Nat} {xs : List UInt8} (hx : Bp w a len cap xs) : Bp w' a len cap xs := by
  obtain ⟨_, _, _, hg, _⟩ := h
  exact hx.but hb (cur_no hg)
theorem Cur.words {w w' : World} {g : Nat} {c : St} (h : Cur w g c) (hb : But g w w') {a : Option Addr} {len cap : Nat} {xs : List UInt16} (hx : Ws w a len cap xs) : Ws w' a len cap xs := by
  obtain ⟨_, _, _, hg, _⟩ := h
  exact hx.but hb (cur_noW hg)
/-- A cursor beside another one that is read. -/
theorem Cur.other {w w' : World} {g h : Nat} {c d : St} (hc : Cur w g c) (hd : Cur w h d) (hn : h ≠ g) (hb : But g w w') : Cur w' h d := by
  obtain ⟨a, len, cap, hg, hx, hl⟩ := hd
  exact ⟨a, len, cap, (hb.block h (cur_lt hg) hn).trans hg, hc.pure hb hx, hl⟩

set_option maxHeartbeats 400000 in
theorem clone_any (a : Option Addr) (len cap : Nat) (xs : List UInt8) (w : World) (hx : Bs w a len cap xs) (hlen : len ≤ 100000) :
    Calls Try.prog 38 #[.slice a len cap] w fun e w' => (∃ a' c', e = .returned (.slice a' len c') ∧ Bp w' a' len c' xs) ∧ Below w.heap.size w w' := by
  have q : ∀ (w : World) (a : Option Addr) (n c n' c' : Nat), (binOp .eql 22 (.slice a n c) (.slice none n' c')).run Try.prog w = .ok (.bool a.isNone) w := fun w a n c n' c' => Lib.run_eql_slice_nil w _ _ a n c n' c' Try.underlying22
  have hl := hide hx.hlen
  go_enter Try.func38, Try.ntmps38
  cases a with
  | none =>
    have h0 : len = 0 := by
      rcases Nat.eq_zero_or_pos len with h | h
      · exact h
      · obtain ⟨_, _, hh, _⟩ := hx.at h; cases hh
    subst h0
    have : xs = [] := List.eq_nil_of_length_eq_zero hl.out
    subst this
    go_wp2
    go_ret
    exact ⟨⟨_, _, rfl, Bp.nil _ _ (by unfold maxLen; omega)⟩, Below.refl _ _⟩
  | some x =>
    go_wp2_with (at_builtin; refine app_pure (by rfl) _ _ rfl w.heap.size rfl (heap_alloc_new _ _) rfl (hx.alloc _) (by omega) (by simp) ?_)
    intro a' c' w' ho ha hb
    replace hb := ((Below.refl w.heap.size w).alloc (Nat.le_refl _) _).trans hb
    go_wp2
    go_ret
    exact ⟨⟨a', c', rfl, ⟨ho.sl, ha⟩⟩, hb⟩

set_option maxHeartbeats 400000 in
theorem new_any (a : Option Addr) (len cap : Nat) (xs : List UInt8) (w : World) (hx : Bs w a len cap xs) (hlen : len ≤ 100000) :
    Calls Try.prog 20 #[.slice a len cap] w fun e w' => (∃ g, e = .returned (.pointer (some ⟨g, 0, none⟩)) ∧ w.heap.size ≤ g ∧ Cur w' g (St.new xs)) ∧ Below w.heap.size w w' := by
  have hmf : ∀ (fn : Fn) (first cap : Array Value) (w : World), (Instr.makeFunc fn first cap).run Try.prog w = .ok (.func fn first cap) w := fun _ _ _ _ => rfl
  go_enter Try.func20, Try.ntmps20
  go_wp2_with fail
  refine (clone_any _ _ _ _ _ hx hlen).mono ?_
  rintro e w1 ⟨⟨a1, c1, rfl, hx1⟩, hb1⟩
  have hb2 := (Below.refl w1.heap.size w1).alloc (Nat.le_refl _) (curObj w1.heap.size a1 len c1 false 0)
  go_wp2
  go_ret
  exact ⟨⟨w1.heap.size, rfl, hb1.size, a1, len, c1, heap_alloc_new _ _, hx1.mono hb2, hlen⟩, below_next hb1 hb2 (Nat.le_refl _)⟩

theorem left_any (g : Nat) (c : St) (w : World) (h : Cur w g c) :
    Calls Try.prog 41 #[.pointer (some ⟨g, 0, none⟩)] w fun e w' => e = .returned (.int .i64 c.xs.length) ∧ w' = w := by
  obtain ⟨a, len, cap, hg, hx, hl⟩ := h
  have c0 := cur_c0 hg
  have H := hide hx.hlen
  go_enter Try.func41, Try.ntmps41
  go_wp2
  go_ret
  exact ⟨by rw [H.out]; rfl, rfl⟩

theorem err_any (g : Nat) (c : St) (w : World) (h : Cur w g c) :
    Calls Try.prog 24 #[.pointer (some ⟨g, 0, none⟩)] w fun e w' => e = .returned (.int .i64 c.e) ∧ w' = w := by
  obtain ⟨a, len, cap, hg, hx, hl⟩ := h
  have c2 := cur_c2 hg
  go_enter Try.func24, Try.ntmps24
  go_wp2
  go_ret
  exact ⟨rfl, rfl⟩

theorem need_any (g : Nat) (c : St) (ok : Bool) (e : Int) (w : World) (h : Cur w g c) :
    Calls Try.prog 22 #[.pointer (some ⟨g, 0, none⟩), .bool ok, .int .i64 e] w fun r w' => r = .returned (.tuple #[]) ∧ Cur w' g (c.need ok e) ∧ But g w w' := by
  obtain ⟨a, len, cap, hg, hx, hl⟩ := h
  obtain ⟨xs, s, e0⟩ := c
  have c2 := cur_c2 hg
  have f2 := cur_fr hg 2
  have HG := hide hg
  have HX := hide hx
  clear hg hx
  go_enter Try.func22, Try.ntmps22
  by_cases h0 : e0 = 0
  · subst h0
    cases ok
    · go_wp2
      go_end0
      exact ⟨rfl, by
        show Cur _ g ⟨xs, s, e⟩
        exact ⟨a, len, cap, set_block HG.out _, HX.out.but (But.setCell g 2 _ _) (cur_no HG.out), hl⟩, But.setCell g 2 _ _⟩
    · go_wp2
      go_end0
      exact ⟨rfl, ⟨a, len, cap, HG.out, HX.out, hl⟩, But.refl _ _⟩
  · go_wp2
    go_end0
    exact ⟨rfl, by
      unfold St.need
      rw [if_neg (by simp [h0])]
      exact ⟨a, len, cap, HG.out, HX.out, hl⟩, But.refl _ _⟩

theorem end_any (g : Nat) (c : St) (w : World) (h : Cur w g c) :
    Calls Try.prog 23 #[.pointer (some ⟨g, 0, none⟩)] w fun r w' => r = .returned (.tuple #[]) ∧ Cur w' g c.end_ ∧ But g w w' := by
  go_enter Try.func23, Try.ntmps23
  go_wp2_with fail
  refine (left_any g c w h).mono ?_
  rintro r w1 ⟨rfl, rfl⟩
  go_wp2_with fail
  refine (need_any g c _ 3 w1 h).mono ?_
  rintro r w2 ⟨rfl, hc2, hb2⟩
  go_wp2
  go_end0
  refine ⟨rfl, ?_, hb2⟩
  have : c.end_ = c.need ((c.xs.length : Int) == 0) 3 := by
    unfold St.end_
    congr 1
    rw [Bool.eq_iff_iff]; simp
  rw [this]
  exact hc2

set_option maxHeartbeats 1000000 in
/-- It falls short. -/
theorem take_short (g : Nat) (c : St) (n : Int) (size : Nat) (hsz : size = 1 ∨ size = 2) (w : World) (h : Cur w g c) (hl : c.lack n size = true) :
    Calls Try.prog 39 #[.pointer (some ⟨g, 0, none⟩), .int .i64 n, .int .i64 size] w fun r w' => r = .returned (.slice none 0 0) ∧ Cur w' g (c.next n size) ∧ But g w w' := by
  obtain ⟨a, len, cap, hg, hx, hle⟩ := h
  have HN : Hid (c.next n size = St.need ⟨[], true, c.e⟩ false 2) := by
    show _ = _
    unfold St.next St.need
    rw [if_pos hl]
    by_cases h0 : c.e = 0 <;> simp [h0]
  obtain ⟨xs, s, e0⟩ := c
  have c0 := cur_c0 hg
  have f0 := cur_fr hg 0
  have c1 := cur_c1 hg
  have f1 := cur_fr hg 1
  have HX := hide hx.hlen
  have b1 := But.setCell g 0 w (.slice none 0 0)
  have b2 := b1.trans (But.setCell g 1 _ (.bool true))
  have HC : Hid (Cur ((w.setCell ⟨g, 0, none⟩ (.slice none 0 0)).setCell ⟨g, 1, none⟩ (.bool true)) g ⟨[], true, e0⟩) := by
    exact ⟨none, 0, 0, set_block (set_block hg _) _, Bp.nil _ _ (by unfold maxLen; omega), by omega⟩
  have HL := hide hl
  unfold St.lack at HL
  simp only [HX.out] at HL
  simp only at c0 c1
  clear hg hx hl
  go_enter Try.func39, Try.ntmps39
  cases s with
  | true =>
    go_wp2_with fail
    refine (need_any g _ _ 2 _ HC.out).mono ?_
    rintro r w2 ⟨rfl, hc2, hb2⟩
    go_wp2
    go_ret
    exact ⟨rfl, by rw [HN.out]; exact hc2, b2.trans hb2⟩
  | false =>
    by_cases hn : n < 0
    · go_wp2_with fail
      refine (need_any g _ _ 2 _ HC.out).mono ?_
      rintro r w2 ⟨rfl, hc2, hb2⟩
      go_wp2
      go_ret
      exact ⟨rfl, by rw [HN.out]; exact hc2, b2.trans hb2⟩
    · have hbig : (len : Int) < n * size := by simpa [hn] using HL.out
      clear HL
      rcases hsz with rfl | rfl
      · have hq : (len : Int) < n := by simpa using hbig
        go_wp2_with fail
        refine (need_any g _ _ 2 _ HC.out).mono ?_
        rintro r w2 ⟨rfl, hc2, hb2⟩
        go_wp2
        go_ret
        exact ⟨rfl, by rw [HN.out]; exact hc2, b2.trans hb2⟩
      · have hq : (len : Int) / 2 < n := by omega
        go_wp2_with fail
        refine (need_any g _ _ 2 _ HC.out).mono ?_
        rintro r w2 ⟨rfl, hc2, hb2⟩
        go_wp2
        go_ret
        exact ⟨rfl, by rw [HN.out]; exact hc2, b2.trans hb2⟩

set_option maxHeartbeats 1000000 in
/-- There is enough. -/
theorem take_enough (g : Nat) (c : St) (n : Int) (size : Nat) (hsz : size = 1 ∨ size = 2) (w : World) (h : Cur w g c) (hl : c.lack n size = false) :
    Calls Try.prog 39 #[.pointer (some ⟨g, 0, none⟩), .int .i64 n, .int .i64 size] w fun r w' =>
      (∃ a cap, r = .returned (.slice a (c.got n size).length cap) ∧ Bs w' a (c.got n size).length cap (c.got n size)) ∧ Cur w' g (c.next n size) ∧ But g w w' := by
  obtain ⟨a, len, cap, hg, hx, hle⟩ := h
  obtain ⟨xs, s, e0⟩ := c
  have HX := hide hx.hlen
  have hh := hl
  unfold St.lack at hh
  simp only [HX.out, Bool.or_eq_false_iff, decide_eq_false_iff_not] at hh
  obtain ⟨⟨rfl, hn⟩, hk⟩ := hh
  obtain ⟨m, rfl⟩ : ∃ m : Nat, n = m := ⟨n.toNat, by omega⟩
  have HG : Hid (St.got ⟨xs, false, e0⟩ (m : Int) size = xs.take (m * size)) := by
    show _ = _
    unfold St.got
    rw [if_neg (by rw [hl]; simp)]; rfl
  have HN : Hid (St.next ⟨xs, false, e0⟩ (m : Int) size = ⟨xs.drop (m * size), false, e0⟩) := by
    show _ = _
    unfold St.next
    rw [if_neg (by rw [hl]; simp)]; rfl
  have hkn : m * size ≤ len := by
    have : ((m * size : Nat) : Int) ≤ len := by rw [Int.natCast_mul]; omega
    omega
  have hcap := hx.hle
  have hmax := hx.hmax
  unfold maxLen at hmax
  have c0 := cur_c0 hg
  have f0 := cur_fr hg 0
  have c1 := cur_c1 hg
  simp only at c0 c1
  have HT : Hid (Bs w a (m * size) cap (xs.take (m * size))) := hx.toSl.take _ hkn
  have HD : Hid (Bp w (if cap = m * size then a else a.map (·.add (m * size))) (len - m * size) (cap - m * size) (xs.drop (m * size))) := hx.dropAny _ hkn
  have HW := hide hg
  clear hg hx hl hn hk
  go_enter Try.func39, Try.ntmps39
  rcases hsz with rfl | rfl
  · rw [Nat.mul_one] at HG HN HT HD hkn
    by_cases hcm : cap = m
    · obtain rfl : len = m := by omega
      subst hcm
      rw [if_pos rfl, Nat.sub_self] at HD
      go_wp2
      go_ret
      refine ⟨⟨_, _, by rw [HG.out, HT.out.hlen]; rfl, ?_⟩, ?_, But.setCell g 0 _ _⟩
      · rw [HG.out, HT.out.hlen]; exact HT.out.but (But.setCell g 0 _ _) (cur_no HW.out)
      · rw [HN.out]; exact ⟨_, _, _, set_block HW.out _, HD.out.but (But.setCell g 0 _ _) (cur_no HW.out), by omega⟩
    · rw [if_neg hcm] at HD
      go_wp2
      go_ret
      refine ⟨⟨_, _, by rw [HG.out, HT.out.hlen]; rfl, ?_⟩, ?_, But.setCell g 0 _ _⟩
      · rw [HG.out, HT.out.hlen]; exact HT.out.but (But.setCell g 0 _ _) (cur_no HW.out)
      · rw [HN.out]; exact ⟨_, _, _, set_block HW.out _, HD.out.but (But.setCell g 0 _ _) (cur_no HW.out), by omega⟩
  · have t1 : ((m : Int) * 2).toNat = m * 2 := by omega
    by_cases hcm : cap = m * 2
    · obtain rfl : len = m * 2 := by omega
      subst hcm
      rw [if_pos rfl, Nat.sub_self] at HD
      go_wp2
      go_ret
      refine ⟨⟨_, _, by rw [HG.out, HT.out.hlen]; rfl, ?_⟩, ?_, But.setCell g 0 _ _⟩
      · rw [HG.out, HT.out.hlen]; exact HT.out.but (But.setCell g 0 _ _) (cur_no HW.out)
      · rw [HN.out]; exact ⟨_, _, _, set_block HW.out _, HD.out.but (But.setCell g 0 _ _) (cur_no HW.out), by omega⟩
    · rw [if_neg hcm] at HD
      go_wp2
      go_ret
      refine ⟨⟨_, _, by rw [HG.out, HT.out.hlen]; rfl, ?_⟩, ?_, But.setCell g 0 _ _⟩
      · rw [HG.out, HT.out.hlen]; exact HT.out.but (But.setCell g 0 _ _) (cur_no HW.out)
      · rw [HN.out]; exact ⟨_, _, _, set_block HW.out _, HD.out.but (But.setCell g 0 _ _) (cur_no HW.out), by omega⟩

end Go.Proofs.Ytaokbaddleplfaa
