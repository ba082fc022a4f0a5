/-
  Texts that many others stand on, joined: Msg, MsgPut, MsgSet, Same, SameBools, Tab, TabWalk, StoreStep.
-/
import Derived.Test.YtolkcohmoalnhaaJoinA
import Derived.Deep.SlicePairs
import Derived.ChangeArms
import Derived.MapKept
import Derived.Carry
import Derived.Deep.WholeRow
import Derived.Laws.Rows
import Derived.Laws.Tables
import Derived.Test.YtolkcohmoalnhaaRows

namespace Go.Proofs.Ytolkcohmoalnhaa
set_option maxRecDepth 20000
open Go.RowKit

structure RecM where
  file : UInt16
  record : UInt16
  count : UInt16
  words : List UInt16
structure ObjM where
  id : UInt8
  value : List UInt8
structure MsgM where
  code : UInt8
  fail : UInt8
  addr : UInt16
  count : UInt16
  value : UInt16
  and_ : UInt16
  or_ : UInt16
  addr2 : UInt16
  sub : UInt16
  status : UInt16
  events : UInt16
  messages : UInt16
  words : List UInt16
  bits : List Bool
  data : List UInt8
  recs : List RecM
  mei : UInt8
  kind : UInt8
  level : UInt8
  more : UInt8
  next : UInt8
  objects : List ObjM

/-- The slice at 'a' reads parts of files, each in four cells. -/
structure Rs (w : World) (a : Option Addr) (len cap : Nat) (xs : List RecM) : Prop where
  hlen : xs.length = len
  hle : len ≤ cap
  hmax : cap ≤ maxLen
  hcell : ∀ i (h : i < xs.length), ∃ b off aw lw cw, a = some ⟨b, off, none⟩ ∧ b < w.heap.size ∧ w.cell? ⟨b, off + i * 4, none⟩ = some (wordV xs[i].file) ∧ w.cell? ⟨b, off + i * 4 + 1, none⟩ = some (wordV xs[i].record) ∧
    w.cell? ⟨b, off + i * 4 + 2, none⟩ = some (wordV xs[i].count) ∧ w.cell? ⟨b, off + i * 4 + 3, none⟩ = some (.slice aw lw cw) ∧ Ws w aw lw cw xs[i].words

/-- The slice at 'a' reads things that devices tell of themselves, each in two cells. -/
structure Obs (w : World) (a : Option Addr) (len cap : Nat) (xs : List ObjM) : Prop where
  hlen : xs.length = len
  hle : len ≤ cap
  hmax : cap ≤ maxLen
  hcell : ∀ i (h : i < xs.length), ∃ b off ad ld cd, a = some ⟨b, off, none⟩ ∧ b < w.heap.size ∧ w.cell? ⟨b, off + i * 2, none⟩ = some (byteV xs[i].id) ∧
    w.cell? ⟨b, off + i * 2 + 1, none⟩ = some (.slice ad ld cd) ∧ Bs w ad ld cd xs[i].value

theorem Rs.mono {w w' : World} {a : Option Addr} {len cap : Nat} {xs : List RecM} (h : Rs w a len cap xs) (hb : Below w.heap.size w w') : Rs w' a len cap xs :=
  ⟨h.hlen, h.hle, h.hmax, fun i hi => by
    obtain ⟨b, off, aw, lw, cw, ha, hlt, h0, h1, h2, h3, hw⟩ := h.hcell i hi
    exact ⟨b, off, aw, lw, cw, ha, Nat.lt_of_lt_of_le hlt hb.size, (hb.cell (p := ⟨b, _, none⟩) hlt).trans h0, (hb.cell (p := ⟨b, _, none⟩) hlt).trans h1, (hb.cell (p := ⟨b, _, none⟩) hlt).trans h2, (hb.cell (p := ⟨b, _, none⟩) hlt).trans h3, hw.mono hb⟩⟩
theorem Obs.mono {w w' : World} {a : Option Addr} {len cap : Nat} {xs : List ObjM} (h : Obs w a len cap xs) (hb : Below w.heap.size w w') : Obs w' a len cap xs :=
  ⟨h.hlen, h.hle, h.hmax, fun i hi => by
    obtain ⟨b, off, ad, ld, cd, ha, hlt, h0, h1, hw⟩ := h.hcell i hi
    exact ⟨b, off, ad, ld, cd, ha, Nat.lt_of_lt_of_le hlt hb.size, (hb.cell (p := ⟨b, _, none⟩) hlt).trans h0, (hb.cell (p := ⟨b, _, none⟩) hlt).trans h1, hw.mono hb⟩⟩
theorem Rs.nil (w : World) (a : Option Addr) {cap : Nat} (h : cap ≤ maxLen) : Rs w a 0 cap [] := ⟨rfl, Nat.zero_le _, h, fun i hi => absurd hi (by simp)⟩
theorem Obs.nil (w : World) (a : Option Addr) {cap : Nat} (h : cap ≤ maxLen) : Obs w a 0 cap [] := ⟨rfl, Nat.zero_le _, h, fun i hi => absurd hi (by simp)⟩

/-- The value 'v' reads the message 'm'. -/
def MsgAt (w : World) (v : Value) (m : MsgM) : Prop :=
  ∃ (aw : Option Addr) (lw cw : Nat) (al : Option Addr) (ll cl : Nat) (ad : Option Addr) (ld cd : Nat) (ar : Option Addr) (lr cr : Nat) (ao : Option Addr) (lo co : Nat),
    v = .agg #[byteV m.code, byteV m.fail, wordV m.addr, wordV m.count, wordV m.value, wordV m.and_, wordV m.or_, wordV m.addr2, wordV m.sub, wordV m.status, wordV m.events, wordV m.messages, .slice aw lw cw, .slice al ll cl, .slice ad ld cd, .slice ar lr cr, byteV m.mei, byteV m.kind, byteV m.level, byteV m.more, byteV m.next, .slice ao lo co] ∧
    Ws w aw lw cw m.words ∧ Ls w al ll cl m.bits ∧ Bs w ad ld cd m.data ∧ Rs w ar lr cr m.recs ∧ Obs w ao lo co m.objects

theorem MsgAt.mono {w w' : World} {v : Value} {m : MsgM} (h : MsgAt w v m) (hb : Below w.heap.size w w') : MsgAt w' v m := by
  obtain ⟨aw, lw, cw, al, ll, cl, ad, ld, cd, ar, lr, cr, ao, lo, co, hv, h0, h1, h2, h3, h4⟩ := h
  exact ⟨aw, lw, cw, al, ll, cl, ad, ld, cd, ar, lr, cr, ao, lo, co, hv, h0.mono hb, h1.mono hb, h2.mono hb, h3.mono hb, h4.mono hb⟩

section
variable {H : Type} {enc : TypeId × Value → H} {w : World} {base : Nat} {held : Bool} {fuel : Nat} {v : Value} {x : DataW H × List MemPlace}

theorem u8_trod {t : TypeId} (ht : Try.prog.underlying t = some (.int .u8)) (h : DataW.trod enc Try.prog w base (fun _ => true) held fuel t [v] = some x) : ∃ y : UInt8, v = byteV y := by
  obtain ⟨n, e, _, hw⟩ := DataW.trod_int ht h
  obtain ⟨s, rfl, hs⟩ := nat_u8 hw
  simp at e
  exact ⟨UInt8.ofNat s, by rw [e]; simp only [byteV, UInt8.toNat_ofNat']; rw [Nat.mod_eq_of_lt hs]⟩
theorem u16_trod {t : TypeId} (ht : Try.prog.underlying t = some (.int .u16)) (h : DataW.trod enc Try.prog w base (fun _ => true) held fuel t [v] = some x) : ∃ y : UInt16, v = wordV y := by
  obtain ⟨n, e, _, hw⟩ := DataW.trod_int ht h
  obtain ⟨s, rfl, hs⟩ := nat_u16 hw
  simp at e
  exact ⟨UInt16.ofNat s, by rw [e]; simp only [wordV, UInt16.toNat_ofNat']; rw [Nat.mod_eq_of_lt hs]⟩
theorem bytes_trod (h : DataW.trod enc Try.prog w base (fun _ => true) held fuel 22 [v] = some x) : ∃ a l c xs, v = .slice a l c ∧ Bs w a l c xs := by
  rcases Go.ChangeShapes.open_ints Try.underlying22 Try.underlying5 (by kernel_rfl) h with ⟨hcs, _⟩ | ⟨y, l, c, zs, hcs, _, hl, hm, hz, _, hcell, hwz⟩
  · simp at hcs
    subst hcs
    exact ⟨_, _, _, [], rfl, Sl.nil _ _ (by unfold maxLen; omega)⟩
  · simp at hcs
    subst hcs
    obtain ⟨xs, hxs⟩ := Bs.ofRow (w := w) (a := some y) (len := l) (cap := c) (zs := zs) (.inr ⟨_, rfl, hl, hm, by simpa using hz, hcell, hwz⟩)
    exact ⟨_, _, _, xs, rfl, hxs⟩
theorem words_trod (h : DataW.trod enc Try.prog w base (fun _ => true) held fuel 25 [v] = some x) : ∃ a l c xs, v = .slice a l c ∧ Ws w a l c xs := by
  rcases Go.ChangeShapes.open_ints Try.underlying25 Try.underlying24 (by kernel_rfl) h with ⟨hcs, _⟩ | ⟨y, l, c, zs, hcs, _, hl, hm, hz, _, hcell, hwz⟩
  · simp at hcs
    subst hcs
    exact ⟨_, _, _, [], rfl, Sl.nil _ _ (by unfold maxLen; omega)⟩
  · simp at hcs
    subst hcs
    obtain ⟨xs, hxs⟩ := Ws.ofRow (w := w) (a := some y) (len := l) (cap := c) (zs := zs) (.inr ⟨_, rfl, hl, hm, by simpa using hz, hcell, hwz⟩)
    exact ⟨_, _, _, xs, rfl, hxs⟩
theorem bools_trod (h : DataW.trod enc Try.prog w base (fun _ => true) held fuel 26 [v] = some x) : ∃ a l c xs, v = .slice a l c ∧ Ls w a l c xs := by
  rcases Go.Deep.open_bools Try.underlying26 Try.underlying4 (by kernel_rfl) h with ⟨hcs, _⟩ | ⟨y, l, c, zs, hcs, _, hl, hm, _, hcell⟩
  · simp at hcs
    subst hcs
    exact ⟨_, _, _, [], rfl, Ls.ofNone _⟩
  · simp at hcs
    subst hcs
    exact ⟨_, _, _, _, rfl, Ls.ofCells hl hm hcell⟩

/-- A field of one cell. -/
theorem field_trod {t : TypeId} {fs : Array Field} {cs : List Value} (ht : Try.prog.underlying t = some (.struct fs)) (h : DataW.trod enc Try.prog w base (fun _ => true) held fuel t cs = some x) (i : Nat) (f : Field) (hf : fs[i]? = some f) (ho : f.offset = i) (hc : Try.prog.cellsOf f.type = 1)
    (u : Value) (hu : cs[i]? = some u) : ∃ n y, DataW.trod enc Try.prog w base (fun _ => true) held n f.type [u] = some y := by
  obtain ⟨xs, n, _, _, _, hxl, hfs⟩ := DataW.trod_struct ht h
  have := hfs i f hf
  have hi : i < fs.size := (Array.getElem?_eq_some_iff.1 hf).1
  have hi2 : i < cs.length := (List.getElem?_eq_some_iff.1 hu).1
  have e : (cs.drop f.offset).take (Try.prog.cellsOf f.type) = [u] := by
    have hx : cs[i] = u := Option.some.inj ((List.getElem?_eq_getElem hi2).symm.trans hu)
    rw [ho, hc, List.drop_eq_getElem_cons hi2, hx]
    rfl
  rw [e, List.getElem?_eq_getElem (by omega)] at this
  exact ⟨n, _, this⟩

theorem none_spot {y : Addr} {u : Value} (h : w.cell? y = some u) : y = ⟨y.block, y.off, none⟩ ∧ y.block < w.heap.size := by
  obtain ⟨b, off, spot⟩ := y
  have hs : spot = none := World.cell?_spot h
  subst hs
  refine ⟨rfl, ?_⟩
  rcases Nat.lt_or_ge b w.heap.size with hlt | hge
  · exact hlt
  · simp [World.cell?, Array.getElem?_eq_none hge] at h

set_option maxRecDepth 20000 in
theorem recs_trod (h : DataW.trod enc Try.prog w base (fun _ => true) held fuel 27 [v] = some x) : ∃ a l c xs, v = .slice a l c ∧ Rs w a l c xs := by
  rcases Go.Deep.open_slice Try.underlying27 h with ⟨hcs, _⟩ | ⟨y, l, c, m, n, D, Pl, hcs, _, hl, hm, hmm, _, hx⟩
  · simp at hcs
    subst hcs
    exact ⟨_, _, _, [], rfl, Rs.nil _ _ (by unfold maxLen; omega)⟩
  · simp at hcs
    subst hcs
    have hlm : l ≤ m := by rw [hmm]; split <;> omega
    have ce : Try.prog.cellsOf 43 = 4 := by kernel_rfl
    have each : ∀ i, i < l → ∃ r : RecM, ∃ b off aw lw cw, (some y : Option Addr) = some ⟨b, off, none⟩ ∧ b < w.heap.size ∧ w.cell? ⟨b, off + i * 4, none⟩ = some (wordV r.file) ∧ w.cell? ⟨b, off + i * 4 + 1, none⟩ = some (wordV r.record) ∧
        w.cell? ⟨b, off + i * 4 + 2, none⟩ = some (wordV r.count) ∧ w.cell? ⟨b, off + i * 4 + 3, none⟩ = some (.slice aw lw cw) ∧ Ws w aw lw cw r.words := fun i hi => by
      obtain ⟨cs', h1, h2⟩ := hx i (by omega)
      rw [ce] at h1
      obtain ⟨_, hlen, hcell⟩ := World.cells?_some h1
      match cs', hlen with
      | [v0, v1, v2, v3], _ =>
        obtain ⟨_, _, t0⟩ := field_trod Try.underlying43 h2 0 _ rfl rfl (by kernel_rfl) v0 rfl
        obtain ⟨_, _, t1⟩ := field_trod Try.underlying43 h2 1 _ rfl rfl (by kernel_rfl) v1 rfl
        obtain ⟨_, _, t2⟩ := field_trod Try.underlying43 h2 2 _ rfl rfl (by kernel_rfl) v2 rfl
        obtain ⟨_, _, t3⟩ := field_trod Try.underlying43 h2 3 _ rfl rfl (by kernel_rfl) v3 rfl
        obtain ⟨z0, rfl⟩ := u16_trod Try.underlying24 t0
        obtain ⟨z1, rfl⟩ := u16_trod Try.underlying24 t1
        obtain ⟨z2, rfl⟩ := u16_trod Try.underlying24 t2
        obtain ⟨aw, lw, cw, ws, rfl, hw⟩ := words_trod t3
        have e0 := hcell 0 (by omega)
        have e1 := hcell 1 (by omega)
        have e2 := hcell 2 (by omega)
        have e3 := hcell 3 (by omega)
        rw [Go.Deep.add_add] at e0 e1 e2 e3
        obtain ⟨b, off, spot⟩ := y
        have hsp : spot = none := by
          obtain ⟨cs0, g1, _⟩ := hx 0 (by omega)
          rw [ce] at g1
          obtain ⟨_, hlen0, hcell0⟩ := World.cells?_some g1
          have g0 := hcell0 0 (by omega)
          rw [Go.Deep.add_add, List.getElem?_eq_getElem (by omega)] at g0
          simpa [Addr.add] using World.cell?_spot g0
        subst hsp
        rw [WideShapes.add_plain] at e0 e1 e2 e3
        have hlt : b < w.heap.size := (none_spot (y := ⟨b, _, none⟩) (e0.trans rfl)).2
        simp only [← Nat.add_assoc, Nat.add_zero] at e0 e1 e2 e3
        exact ⟨⟨z0, z1, z2, ws⟩, b, off, aw, lw, cw, rfl, hlt, e0, e1, e2, e3, hw⟩
    obtain ⟨f, hf⟩ := @Go.Deep.choose_lt RecM ⟨⟨0, 0, 0, []⟩⟩ _ _ each
    refine ⟨_, _, _, (List.range l).map f, rfl, by simp, hl, hm, fun i hi => ?_⟩
    have hi' : i < l := by simpa using hi
    simpa using hf i hi'

set_option maxRecDepth 20000 in
theorem objs_trod (h : DataW.trod enc Try.prog w base (fun _ => true) held fuel 28 [v] = some x) : ∃ a l c xs, v = .slice a l c ∧ Obs w a l c xs := by
  rcases Go.Deep.open_slice Try.underlying28 h with ⟨hcs, _⟩ | ⟨y, l, c, m, n, D, Pl, hcs, _, hl, hm, hmm, _, hx⟩
  · simp at hcs
    subst hcs
    exact ⟨_, _, _, [], rfl, Obs.nil _ _ (by unfold maxLen; omega)⟩
  · simp at hcs
    subst hcs
    have hlm : l ≤ m := by rw [hmm]; split <;> omega
    have ce : Try.prog.cellsOf 66 = 2 := by kernel_rfl
    have each : ∀ i, i < l → ∃ r : ObjM, ∃ b off ad ld cd, (some y : Option Addr) = some ⟨b, off, none⟩ ∧ b < w.heap.size ∧ w.cell? ⟨b, off + i * 2, none⟩ = some (byteV r.id) ∧ w.cell? ⟨b, off + i * 2 + 1, none⟩ = some (.slice ad ld cd) ∧ Bs w ad ld cd r.value := fun i hi => by
      obtain ⟨cs', h1, h2⟩ := hx i (by omega)
      rw [ce] at h1
      obtain ⟨_, hlen, hcell⟩ := World.cells?_some h1
      match cs', hlen with
      | [v0, v1], _ =>
        obtain ⟨_, _, t0⟩ := field_trod Try.underlying66 h2 0 _ rfl rfl (by kernel_rfl) v0 rfl
        obtain ⟨_, _, t1⟩ := field_trod Try.underlying66 h2 1 _ rfl rfl (by kernel_rfl) v1 rfl
        obtain ⟨z0, rfl⟩ := u8_trod Try.underlying5 t0
        obtain ⟨ad, ld, cd, ds, rfl, hw⟩ := bytes_trod t1
        have e0 := hcell 0 (by omega)
        have e1 := hcell 1 (by omega)
        rw [Go.Deep.add_add] at e0 e1
        obtain ⟨b, off, spot⟩ := y
        have hsp : spot = none := by
          obtain ⟨cs0, g1, _⟩ := hx 0 (by omega)
          rw [ce] at g1
          obtain ⟨_, hlen0, hcell0⟩ := World.cells?_some g1
          have g0 := hcell0 0 (by omega)
          rw [Go.Deep.add_add, List.getElem?_eq_getElem (by omega)] at g0
          simpa [Addr.add] using World.cell?_spot g0
        subst hsp
        rw [WideShapes.add_plain] at e0 e1
        have hlt : b < w.heap.size := (none_spot (y := ⟨b, _, none⟩) (e0.trans rfl)).2
        simp only [← Nat.add_assoc, Nat.add_zero] at e0 e1
        exact ⟨⟨z0, ds⟩, b, off, ad, ld, cd, rfl, hlt, e0, e1, hw⟩
    obtain ⟨f, hf⟩ := @Go.Deep.choose_lt ObjM ⟨⟨0, []⟩⟩ _ _ each
    refine ⟨_, _, _, (List.range l).map f, rfl, by simp, hl, hm, fun i hi => ?_⟩
    have hi' : i < l := by simpa using hi
    simpa using hf i hi'

theorem list22 {α : Type} (cs : List α) (h : cs.length = 22) : ∃ c0 c1 c2 c3 c4 c5 c6 c7 c8 c9 c10 c11 c12 c13 c14 c15 c16 c17 c18 c19 c20 c21, cs = [c0, c1, c2, c3, c4, c5, c6, c7, c8, c9, c10, c11, c12, c13, c14, c15, c16, c17, c18, c19, c20, c21] := by
  match cs, h with
  | [c0, c1, c2, c3, c4, c5, c6, c7, c8, c9, c10, c11, c12, c13, c14, c15, c16, c17, c18, c19, c20, c21], _ => exact ⟨c0, c1, c2, c3, c4, c5, c6, c7, c8, c9, c10, c11, c12, c13, c14, c15, c16, c17, c18, c19, c20, c21, rfl⟩

/-- A message that came in. -/
theorem MsgAt.ofTrod {r : Reach} {b0 : Nat} {d : DataW H} {p : List MemPlace} (hv : Value.okWide Try.prog w r b0 30 v) (h : DataW.Trod enc Try.prog w base (fun _ => true) held 30 v d p) : ∃ m, MsgAt w v m := by
  obtain ⟨cs, rfl, hsz⟩ := Go.WideShapes.okWide_struct Try.underlying30 hv
  obtain ⟨fuel, hf⟩ := h
  have ce : Try.prog.cellsOf 30 = 22 := by kernel_rfl
  rw [ce] at hsz
  obtain ⟨cs⟩ := cs
  obtain ⟨c0, c1, c2, c3, c4, c5, c6, c7, c8, c9, c10, c11, c12, c13, c14, c15, c16, c17, c18, c19, c20, c21, rfl⟩ := list22 cs (by simpa using hsz)
  simp only [Value.cells] at hf
  obtain ⟨_, _, t0⟩ := field_trod Try.underlying30 hf 0 _ rfl rfl (by kernel_rfl) c0 rfl
  obtain ⟨_, _, t1⟩ := field_trod Try.underlying30 hf 1 _ rfl rfl (by kernel_rfl) c1 rfl
  obtain ⟨_, _, t2⟩ := field_trod Try.underlying30 hf 2 _ rfl rfl (by kernel_rfl) c2 rfl
  obtain ⟨_, _, t3⟩ := field_trod Try.underlying30 hf 3 _ rfl rfl (by kernel_rfl) c3 rfl
  obtain ⟨_, _, t4⟩ := field_trod Try.underlying30 hf 4 _ rfl rfl (by kernel_rfl) c4 rfl
  obtain ⟨_, _, t5⟩ := field_trod Try.underlying30 hf 5 _ rfl rfl (by kernel_rfl) c5 rfl
  obtain ⟨_, _, t6⟩ := field_trod Try.underlying30 hf 6 _ rfl rfl (by kernel_rfl) c6 rfl
  obtain ⟨_, _, t7⟩ := field_trod Try.underlying30 hf 7 _ rfl rfl (by kernel_rfl) c7 rfl
  obtain ⟨_, _, t8⟩ := field_trod Try.underlying30 hf 8 _ rfl rfl (by kernel_rfl) c8 rfl
  obtain ⟨_, _, t9⟩ := field_trod Try.underlying30 hf 9 _ rfl rfl (by kernel_rfl) c9 rfl
  obtain ⟨_, _, t10⟩ := field_trod Try.underlying30 hf 10 _ rfl rfl (by kernel_rfl) c10 rfl
  obtain ⟨_, _, t11⟩ := field_trod Try.underlying30 hf 11 _ rfl rfl (by kernel_rfl) c11 rfl
  obtain ⟨_, _, t12⟩ := field_trod Try.underlying30 hf 12 _ rfl rfl (by kernel_rfl) c12 rfl
  obtain ⟨_, _, t13⟩ := field_trod Try.underlying30 hf 13 _ rfl rfl (by kernel_rfl) c13 rfl
  obtain ⟨_, _, t14⟩ := field_trod Try.underlying30 hf 14 _ rfl rfl (by kernel_rfl) c14 rfl
  obtain ⟨_, _, t15⟩ := field_trod Try.underlying30 hf 15 _ rfl rfl (by kernel_rfl) c15 rfl
  obtain ⟨_, _, t16⟩ := field_trod Try.underlying30 hf 16 _ rfl rfl (by kernel_rfl) c16 rfl
  obtain ⟨_, _, t17⟩ := field_trod Try.underlying30 hf 17 _ rfl rfl (by kernel_rfl) c17 rfl
  obtain ⟨_, _, t18⟩ := field_trod Try.underlying30 hf 18 _ rfl rfl (by kernel_rfl) c18 rfl
  obtain ⟨_, _, t19⟩ := field_trod Try.underlying30 hf 19 _ rfl rfl (by kernel_rfl) c19 rfl
  obtain ⟨_, _, t20⟩ := field_trod Try.underlying30 hf 20 _ rfl rfl (by kernel_rfl) c20 rfl
  obtain ⟨_, _, t21⟩ := field_trod Try.underlying30 hf 21 _ rfl rfl (by kernel_rfl) c21 rfl
  obtain ⟨z0, rfl⟩ := u8_trod Try.underlying5 t0
  obtain ⟨z1, rfl⟩ := u8_trod Try.underlying5 t1
  obtain ⟨z2, rfl⟩ := u16_trod Try.underlying24 t2
  obtain ⟨z3, rfl⟩ := u16_trod Try.underlying24 t3
  obtain ⟨z4, rfl⟩ := u16_trod Try.underlying24 t4
  obtain ⟨z5, rfl⟩ := u16_trod Try.underlying24 t5
  obtain ⟨z6, rfl⟩ := u16_trod Try.underlying24 t6
  obtain ⟨z7, rfl⟩ := u16_trod Try.underlying24 t7
  obtain ⟨z8, rfl⟩ := u16_trod Try.underlying24 t8
  obtain ⟨z9, rfl⟩ := u16_trod Try.underlying24 t9
  obtain ⟨z10, rfl⟩ := u16_trod Try.underlying24 t10
  obtain ⟨z11, rfl⟩ := u16_trod Try.underlying24 t11
  obtain ⟨aw, lw, cw, z12, rfl, hw⟩ := words_trod t12
  obtain ⟨al, ll, cl, z13, rfl, hl⟩ := bools_trod t13
  obtain ⟨ad, ld, cd, z14, rfl, hd⟩ := bytes_trod t14
  obtain ⟨ar, lr, cr, z15, rfl, hr⟩ := recs_trod t15
  obtain ⟨z16, rfl⟩ := u8_trod Try.underlying5 t16
  obtain ⟨z17, rfl⟩ := u8_trod Try.underlying5 t17
  obtain ⟨z18, rfl⟩ := u8_trod Try.underlying5 t18
  obtain ⟨z19, rfl⟩ := u8_trod Try.underlying5 t19
  obtain ⟨z20, rfl⟩ := u8_trod Try.underlying5 t20
  obtain ⟨ao, lo, co, z21, rfl, ho⟩ := objs_trod t21
  exact ⟨⟨z0, z1, z2, z3, z4, z5, z6, z7, z8, z9, z10, z11, z12, z13, z14, z15, z16, z17, z18, z19, z20, z21⟩, aw, lw, cw, al, ll, cl, ad, ld, cd, ar, lr, cr, ao, lo, co, rfl, hw, hl, hd, hr, ho⟩

end
end Go.Proofs.Ytolkcohmoalnhaa

namespace Go.Proofs.Ytolkcohmoalnhaa

/-- The message has no lists. -/
def MsgM.Bare (m : MsgM) : Prop := m.words = [] ∧ m.bits = [] ∧ m.data = [] ∧ m.recs = [] ∧ m.objects = []
/-- A message of a code, all else being zero. -/
def MsgM.of (c : UInt8) : MsgM := ⟨c, 0, 0, 0, 0, 0, 0, 0, 0, 0, 0, 0, [], [], [], [], 0, 0, 0, 0, 0, []⟩
def MsgM.zero : MsgM := MsgM.of 0
theorem MsgM.bare_of (c : UInt8) : (MsgM.of c).Bare := ⟨rfl, rfl, rfl, rfl, rfl⟩

def MsgM.put_code (m : MsgM) (x : UInt8) : MsgM := { m with code := x }
theorem MsgM.Bare.put_code {m : MsgM} (h : m.Bare) (x : UInt8) : (m.put_code x).Bare := h
def MsgM.put_fail (m : MsgM) (x : UInt8) : MsgM := { m with fail := x }
theorem MsgM.Bare.put_fail {m : MsgM} (h : m.Bare) (x : UInt8) : (m.put_fail x).Bare := h
def MsgM.put_addr (m : MsgM) (x : UInt16) : MsgM := { m with addr := x }
theorem MsgM.Bare.put_addr {m : MsgM} (h : m.Bare) (x : UInt16) : (m.put_addr x).Bare := h
def MsgM.put_count (m : MsgM) (x : UInt16) : MsgM := { m with count := x }
theorem MsgM.Bare.put_count {m : MsgM} (h : m.Bare) (x : UInt16) : (m.put_count x).Bare := h
def MsgM.put_value (m : MsgM) (x : UInt16) : MsgM := { m with value := x }
theorem MsgM.Bare.put_value {m : MsgM} (h : m.Bare) (x : UInt16) : (m.put_value x).Bare := h
def MsgM.put_and (m : MsgM) (x : UInt16) : MsgM := { m with and_ := x }
theorem MsgM.Bare.put_and {m : MsgM} (h : m.Bare) (x : UInt16) : (m.put_and x).Bare := h
def MsgM.put_or (m : MsgM) (x : UInt16) : MsgM := { m with or_ := x }
theorem MsgM.Bare.put_or {m : MsgM} (h : m.Bare) (x : UInt16) : (m.put_or x).Bare := h
def MsgM.put_addr2 (m : MsgM) (x : UInt16) : MsgM := { m with addr2 := x }
theorem MsgM.Bare.put_addr2 {m : MsgM} (h : m.Bare) (x : UInt16) : (m.put_addr2 x).Bare := h
def MsgM.put_sub (m : MsgM) (x : UInt16) : MsgM := { m with sub := x }
theorem MsgM.Bare.put_sub {m : MsgM} (h : m.Bare) (x : UInt16) : (m.put_sub x).Bare := h
def MsgM.put_status (m : MsgM) (x : UInt16) : MsgM := { m with status := x }
theorem MsgM.Bare.put_status {m : MsgM} (h : m.Bare) (x : UInt16) : (m.put_status x).Bare := h
def MsgM.put_events (m : MsgM) (x : UInt16) : MsgM := { m with events := x }
theorem MsgM.Bare.put_events {m : MsgM} (h : m.Bare) (x : UInt16) : (m.put_events x).Bare := h
def MsgM.put_messages (m : MsgM) (x : UInt16) : MsgM := { m with messages := x }
theorem MsgM.Bare.put_messages {m : MsgM} (h : m.Bare) (x : UInt16) : (m.put_messages x).Bare := h
def MsgM.put_mei (m : MsgM) (x : UInt8) : MsgM := { m with mei := x }
theorem MsgM.Bare.put_mei {m : MsgM} (h : m.Bare) (x : UInt8) : (m.put_mei x).Bare := h
def MsgM.put_kind (m : MsgM) (x : UInt8) : MsgM := { m with kind := x }
theorem MsgM.Bare.put_kind {m : MsgM} (h : m.Bare) (x : UInt8) : (m.put_kind x).Bare := h
def MsgM.put_level (m : MsgM) (x : UInt8) : MsgM := { m with level := x }
theorem MsgM.Bare.put_level {m : MsgM} (h : m.Bare) (x : UInt8) : (m.put_level x).Bare := h
def MsgM.put_more (m : MsgM) (x : UInt8) : MsgM := { m with more := x }
theorem MsgM.Bare.put_more {m : MsgM} (h : m.Bare) (x : UInt8) : (m.put_more x).Bare := h
def MsgM.put_next (m : MsgM) (x : UInt8) : MsgM := { m with next := x }
theorem MsgM.Bare.put_next {m : MsgM} (h : m.Bare) (x : UInt8) : (m.put_next x).Bare := h
def MsgM.put_words (m : MsgM) (xs : List UInt16) : MsgM := { m with words := xs }
def MsgM.put_bits (m : MsgM) (xs : List Bool) : MsgM := { m with bits := xs }
def MsgM.put_data (m : MsgM) (xs : List UInt8) : MsgM := { m with data := xs }
def MsgM.put_recs (m : MsgM) (xs : List RecM) : MsgM := { m with recs := xs }
def MsgM.put_objects (m : MsgM) (xs : List ObjM) : MsgM := { m with objects := xs }

end Go.Proofs.Ytolkcohmoalnhaa

namespace Go.Proofs.Ytolkcohmoalnhaa
open Go.RowKit

section
variable {w : World} {cs : Array Value} {m : MsgM}

theorem MsgAt.set_code (h : MsgAt w (.agg cs) m) (x : UInt8) : MsgAt w (.agg (cs.set! 0 (byteV x))) (m.put_code x) := by
  obtain ⟨aw, lw, cw, al, ll, cl, ad, ld, cd, ar, lr, cr, ao, lo, co, hv, h0, h1, h2, h3, h4⟩ := h
  injection hv with hv
  subst hv
  exact ⟨aw, lw, cw, al, ll, cl, ad, ld, cd, ar, lr, cr, ao, lo, co, rfl, h0, h1, h2, h3, h4⟩

theorem MsgAt.set_fail (h : MsgAt w (.agg cs) m) (x : UInt8) : MsgAt w (.agg (cs.set! 1 (byteV x))) (m.put_fail x) := by
  obtain ⟨aw, lw, cw, al, ll, cl, ad, ld, cd, ar, lr, cr, ao, lo, co, hv, h0, h1, h2, h3, h4⟩ := h
  injection hv with hv
  subst hv
  exact ⟨aw, lw, cw, al, ll, cl, ad, ld, cd, ar, lr, cr, ao, lo, co, rfl, h0, h1, h2, h3, h4⟩

theorem MsgAt.set_addr (h : MsgAt w (.agg cs) m) (x : UInt16) : MsgAt w (.agg (cs.set! 2 (wordV x))) (m.put_addr x) := by
  obtain ⟨aw, lw, cw, al, ll, cl, ad, ld, cd, ar, lr, cr, ao, lo, co, hv, h0, h1, h2, h3, h4⟩ := h
  injection hv with hv
  subst hv
  exact ⟨aw, lw, cw, al, ll, cl, ad, ld, cd, ar, lr, cr, ao, lo, co, rfl, h0, h1, h2, h3, h4⟩

theorem MsgAt.set_count (h : MsgAt w (.agg cs) m) (x : UInt16) : MsgAt w (.agg (cs.set! 3 (wordV x))) (m.put_count x) := by
  obtain ⟨aw, lw, cw, al, ll, cl, ad, ld, cd, ar, lr, cr, ao, lo, co, hv, h0, h1, h2, h3, h4⟩ := h
  injection hv with hv
  subst hv
  exact ⟨aw, lw, cw, al, ll, cl, ad, ld, cd, ar, lr, cr, ao, lo, co, rfl, h0, h1, h2, h3, h4⟩

theorem MsgAt.set_value (h : MsgAt w (.agg cs) m) (x : UInt16) : MsgAt w (.agg (cs.set! 4 (wordV x))) (m.put_value x) := by
  obtain ⟨aw, lw, cw, al, ll, cl, ad, ld, cd, ar, lr, cr, ao, lo, co, hv, h0, h1, h2, h3, h4⟩ := h
  injection hv with hv
  subst hv
  exact ⟨aw, lw, cw, al, ll, cl, ad, ld, cd, ar, lr, cr, ao, lo, co, rfl, h0, h1, h2, h3, h4⟩

theorem MsgAt.set_and (h : MsgAt w (.agg cs) m) (x : UInt16) : MsgAt w (.agg (cs.set! 5 (wordV x))) (m.put_and x) := by
  obtain ⟨aw, lw, cw, al, ll, cl, ad, ld, cd, ar, lr, cr, ao, lo, co, hv, h0, h1, h2, h3, h4⟩ := h
  injection hv with hv
  subst hv
  exact ⟨aw, lw, cw, al, ll, cl, ad, ld, cd, ar, lr, cr, ao, lo, co, rfl, h0, h1, h2, h3, h4⟩

theorem MsgAt.set_or (h : MsgAt w (.agg cs) m) (x : UInt16) : MsgAt w (.agg (cs.set! 6 (wordV x))) (m.put_or x) := by
  obtain ⟨aw, lw, cw, al, ll, cl, ad, ld, cd, ar, lr, cr, ao, lo, co, hv, h0, h1, h2, h3, h4⟩ := h
  injection hv with hv
  subst hv
  exact ⟨aw, lw, cw, al, ll, cl, ad, ld, cd, ar, lr, cr, ao, lo, co, rfl, h0, h1, h2, h3, h4⟩

theorem MsgAt.set_addr2 (h : MsgAt w (.agg cs) m) (x : UInt16) : MsgAt w (.agg (cs.set! 7 (wordV x))) (m.put_addr2 x) := by
  obtain ⟨aw, lw, cw, al, ll, cl, ad, ld, cd, ar, lr, cr, ao, lo, co, hv, h0, h1, h2, h3, h4⟩ := h
  injection hv with hv
  subst hv
  exact ⟨aw, lw, cw, al, ll, cl, ad, ld, cd, ar, lr, cr, ao, lo, co, rfl, h0, h1, h2, h3, h4⟩

theorem MsgAt.set_sub (h : MsgAt w (.agg cs) m) (x : UInt16) : MsgAt w (.agg (cs.set! 8 (wordV x))) (m.put_sub x) := by
  obtain ⟨aw, lw, cw, al, ll, cl, ad, ld, cd, ar, lr, cr, ao, lo, co, hv, h0, h1, h2, h3, h4⟩ := h
  injection hv with hv
  subst hv
  exact ⟨aw, lw, cw, al, ll, cl, ad, ld, cd, ar, lr, cr, ao, lo, co, rfl, h0, h1, h2, h3, h4⟩

theorem MsgAt.set_status (h : MsgAt w (.agg cs) m) (x : UInt16) : MsgAt w (.agg (cs.set! 9 (wordV x))) (m.put_status x) := by
  obtain ⟨aw, lw, cw, al, ll, cl, ad, ld, cd, ar, lr, cr, ao, lo, co, hv, h0, h1, h2, h3, h4⟩ := h
  injection hv with hv
  subst hv
  exact ⟨aw, lw, cw, al, ll, cl, ad, ld, cd, ar, lr, cr, ao, lo, co, rfl, h0, h1, h2, h3, h4⟩

theorem MsgAt.set_events (h : MsgAt w (.agg cs) m) (x : UInt16) : MsgAt w (.agg (cs.set! 10 (wordV x))) (m.put_events x) := by
  obtain ⟨aw, lw, cw, al, ll, cl, ad, ld, cd, ar, lr, cr, ao, lo, co, hv, h0, h1, h2, h3, h4⟩ := h
  injection hv with hv
  subst hv
  exact ⟨aw, lw, cw, al, ll, cl, ad, ld, cd, ar, lr, cr, ao, lo, co, rfl, h0, h1, h2, h3, h4⟩

theorem MsgAt.set_messages (h : MsgAt w (.agg cs) m) (x : UInt16) : MsgAt w (.agg (cs.set! 11 (wordV x))) (m.put_messages x) := by
  obtain ⟨aw, lw, cw, al, ll, cl, ad, ld, cd, ar, lr, cr, ao, lo, co, hv, h0, h1, h2, h3, h4⟩ := h
  injection hv with hv
  subst hv
  exact ⟨aw, lw, cw, al, ll, cl, ad, ld, cd, ar, lr, cr, ao, lo, co, rfl, h0, h1, h2, h3, h4⟩

theorem MsgAt.set_mei (h : MsgAt w (.agg cs) m) (x : UInt8) : MsgAt w (.agg (cs.set! 16 (byteV x))) (m.put_mei x) := by
  obtain ⟨aw, lw, cw, al, ll, cl, ad, ld, cd, ar, lr, cr, ao, lo, co, hv, h0, h1, h2, h3, h4⟩ := h
  injection hv with hv
  subst hv
  exact ⟨aw, lw, cw, al, ll, cl, ad, ld, cd, ar, lr, cr, ao, lo, co, rfl, h0, h1, h2, h3, h4⟩

theorem MsgAt.set_kind (h : MsgAt w (.agg cs) m) (x : UInt8) : MsgAt w (.agg (cs.set! 17 (byteV x))) (m.put_kind x) := by
  obtain ⟨aw, lw, cw, al, ll, cl, ad, ld, cd, ar, lr, cr, ao, lo, co, hv, h0, h1, h2, h3, h4⟩ := h
  injection hv with hv
  subst hv
  exact ⟨aw, lw, cw, al, ll, cl, ad, ld, cd, ar, lr, cr, ao, lo, co, rfl, h0, h1, h2, h3, h4⟩

theorem MsgAt.set_level (h : MsgAt w (.agg cs) m) (x : UInt8) : MsgAt w (.agg (cs.set! 18 (byteV x))) (m.put_level x) := by
  obtain ⟨aw, lw, cw, al, ll, cl, ad, ld, cd, ar, lr, cr, ao, lo, co, hv, h0, h1, h2, h3, h4⟩ := h
  injection hv with hv
  subst hv
  exact ⟨aw, lw, cw, al, ll, cl, ad, ld, cd, ar, lr, cr, ao, lo, co, rfl, h0, h1, h2, h3, h4⟩

theorem MsgAt.set_more (h : MsgAt w (.agg cs) m) (x : UInt8) : MsgAt w (.agg (cs.set! 19 (byteV x))) (m.put_more x) := by
  obtain ⟨aw, lw, cw, al, ll, cl, ad, ld, cd, ar, lr, cr, ao, lo, co, hv, h0, h1, h2, h3, h4⟩ := h
  injection hv with hv
  subst hv
  exact ⟨aw, lw, cw, al, ll, cl, ad, ld, cd, ar, lr, cr, ao, lo, co, rfl, h0, h1, h2, h3, h4⟩

theorem MsgAt.set_next (h : MsgAt w (.agg cs) m) (x : UInt8) : MsgAt w (.agg (cs.set! 20 (byteV x))) (m.put_next x) := by
  obtain ⟨aw, lw, cw, al, ll, cl, ad, ld, cd, ar, lr, cr, ao, lo, co, hv, h0, h1, h2, h3, h4⟩ := h
  injection hv with hv
  subst hv
  exact ⟨aw, lw, cw, al, ll, cl, ad, ld, cd, ar, lr, cr, ao, lo, co, rfl, h0, h1, h2, h3, h4⟩

theorem MsgAt.set_words (h : MsgAt w (.agg cs) m) {a : Option Addr} {l c : Nat} {xs : List UInt16} (hx : Ws w a l c xs) : MsgAt w (.agg (cs.set! 12 (.slice a l c))) (m.put_words xs) := by
  obtain ⟨aw, lw, cw, al, ll, cl, ad, ld, cd, ar, lr, cr, ao, lo, co, hv, h0, h1, h2, h3, h4⟩ := h
  injection hv with hv
  subst hv
  exact ⟨a, l, c, al, ll, cl, ad, ld, cd, ar, lr, cr, ao, lo, co, rfl, hx, h1, h2, h3, h4⟩

theorem MsgAt.set_bits (h : MsgAt w (.agg cs) m) {a : Option Addr} {l c : Nat} {xs : List Bool} (hx : Ls w a l c xs) : MsgAt w (.agg (cs.set! 13 (.slice a l c))) (m.put_bits xs) := by
  obtain ⟨aw, lw, cw, al, ll, cl, ad, ld, cd, ar, lr, cr, ao, lo, co, hv, h0, h1, h2, h3, h4⟩ := h
  injection hv with hv
  subst hv
  exact ⟨aw, lw, cw, a, l, c, ad, ld, cd, ar, lr, cr, ao, lo, co, rfl, h0, hx, h2, h3, h4⟩

theorem MsgAt.set_data (h : MsgAt w (.agg cs) m) {a : Option Addr} {l c : Nat} {xs : List UInt8} (hx : Bs w a l c xs) : MsgAt w (.agg (cs.set! 14 (.slice a l c))) (m.put_data xs) := by
  obtain ⟨aw, lw, cw, al, ll, cl, ad, ld, cd, ar, lr, cr, ao, lo, co, hv, h0, h1, h2, h3, h4⟩ := h
  injection hv with hv
  subst hv
  exact ⟨aw, lw, cw, al, ll, cl, a, l, c, ar, lr, cr, ao, lo, co, rfl, h0, h1, hx, h3, h4⟩

theorem MsgAt.set_recs (h : MsgAt w (.agg cs) m) {a : Option Addr} {l c : Nat} {xs : List RecM} (hx : Rs w a l c xs) : MsgAt w (.agg (cs.set! 15 (.slice a l c))) (m.put_recs xs) := by
  obtain ⟨aw, lw, cw, al, ll, cl, ad, ld, cd, ar, lr, cr, ao, lo, co, hv, h0, h1, h2, h3, h4⟩ := h
  injection hv with hv
  subst hv
  exact ⟨aw, lw, cw, al, ll, cl, ad, ld, cd, a, l, c, ao, lo, co, rfl, h0, h1, h2, hx, h4⟩

theorem MsgAt.set_objects (h : MsgAt w (.agg cs) m) {a : Option Addr} {l c : Nat} {xs : List ObjM} (hx : Obs w a l c xs) : MsgAt w (.agg (cs.set! 21 (.slice a l c))) (m.put_objects xs) := by
  obtain ⟨aw, lw, cw, al, ll, cl, ad, ld, cd, ar, lr, cr, ao, lo, co, hv, h0, h1, h2, h3, h4⟩ := h
  injection hv with hv
  subst hv
  exact ⟨aw, lw, cw, al, ll, cl, ad, ld, cd, ar, lr, cr, a, l, c, rfl, h0, h1, h2, h3, hx⟩

end

end Go.Proofs.Ytolkcohmoalnhaa

namespace Go.Proofs.Ytolkcohmoalnhaa
open Go.RowKit

set_option maxHeartbeats 400000 in
theorem same_any (a1 a2 : Option Addr) (l1 c1 l2 c2 : Nat) (xs ys : List UInt8) (w : World) (hx : Bs w a1 l1 c1 xs) (hy : Bs w a2 l2 c2 ys) :
    Calls Try.prog 18 #[.slice a1 l1 c1, .slice a2 l2 c2] w fun e w' => e = .returned (.bool (decide (xs = ys))) ∧ w' = w := by
  have h1 := Bs.conv (P := Try.prog) hx 22 5 Try.underlying22 Try.underlying5 9 Try.underlying9
  have h2 := Bs.conv (P := Try.prog) hy 22 5 Try.underlying22 Try.underlying5 9 Try.underlying9
  have hst := strOf_toList
  go_enter Try.func18, Try.ntmps18
  go_wp2
  go_ret
  exact ⟨ret_bool (by first | rfl | (rw [Bool.eq_iff_iff]; simp)), rfl⟩

set_option maxHeartbeats 1000000 in
theorem words_any (a1 a2 : Option Addr) (l1 c1 l2 c2 : Nat) (xs ys : List UInt16) (w : World) (hx : Ws w a1 l1 c1 xs) (hy : Ws w a2 l2 c2 ys) :
    Calls Try.prog 27 #[.slice a1 l1 c1, .slice a2 l2 c2] w fun e w' => e = .returned (.bool (decide (xs = ys))) ∧ Below w.heap.size w w' := by
  have h1 := hx.hlen
  have h2 := hy.hlen
  have hle := hx.hle
  have hmx := hx.hmax
  have hle2 := hy.hle
  have hmx2 := hy.hmax
  unfold maxLen at hmx hmx2
  have HX := hide hx
  have HY := hide hy
  have H1 := hide h1
  have H2 := hide h2
  clear hx hy h1 h2
  go_enter Try.func27, Try.ntmps27
  by_cases hne : l1 = l2
  · subst hne
    go_wp2
    go_loopw [5] (fun i wr => ∃ k : Nat, k ≤ l1 ∧ i = .int .i64 k ∧ xs.take k = ys.take k ∧ Below w.heap.size w wr) (fun i _ => l1 - (intOf i).toNat)
    case atStart => exact ⟨0, Nat.zero_le _, rfl, rfl, Below.refl _ _⟩
    case round =>
      obtain ⟨k, hk, rfl, heq, hbr⟩ := hrel
      have HQ := hide heq
      clear heq
      by_cases hlt : k < l1
      · have hk1 : k < xs.length := by have := H1.out; omega
        have hk2 : k < ys.length := by have := H2.out; omega
        obtain ⟨b, off, rfl, hbl, hc0⟩ := HX.out.hcell k hk1
        obtain ⟨b', off', rfl, hbl', hd0⟩ := HY.out.hcell k hk2
        have hc : wr.cell? ⟨b, off + k, none⟩ = some (.int .u16 (xs[k].toNat : Int)) := (hbr.cell (p := ⟨b, off + k, none⟩) hbl).trans hc0
        have hd : wr.cell? ⟨b', off' + k, none⟩ = some (.int .u16 (ys[k].toNat : Int)) := (hbr.cell (p := ⟨b', off' + k, none⟩) hbl').trans hd0
        clear hc0 hd0
        have HT : Hid (xs[k].toNat = ys[k].toNat → xs.take (k + 1) = ys.take (k + 1)) := hide fun h => by
          rw [List.take_succ_eq_append_getElem hk1, List.take_succ_eq_append_getElem hk2, HQ.out, UInt16.toNat.inj h]
        have HN : Hid (xs[k].toNat ≠ ys[k].toNat → xs ≠ ys) := hide fun h e => by subst e; exact h rfl
        have hx := word_lt xs[k]
        have hy := word_lt ys[k]
        generalize xs[k].toNat = m at *
        generalize ys[k].toNat = n at *
        by_cases hmn : m = n
        · subst hmn
          go_wp2
          go_quiet (fail)
          go_wp2
          go_roundw
          case rel => exact ⟨k + 1, by omega, by go_num, HT.out trivial, below_draws hbr _⟩
          case measure => simp [intOf]; omega
        · go_wp2
          go_quiet (fail)
          go_wp2
          go_ret
          exact ⟨ret_bool (by have := HN.out hmn; simp [this]), below_draws hbr _⟩
      · go_wp2
        go_ret
        exact ⟨ret_bool (by
          have := HQ.out
          rw [List.take_of_length_le (by rw [H1.out]; omega), List.take_of_length_le (by rw [H2.out]; omega)] at this
          simp [this]), hbr⟩
  · go_wp2
    go_ret
    exact ⟨ret_bool (by
      have : xs ≠ ys := fun e => hne (by rw [← H1.out, ← H2.out, e])
      simp [this]), Below.refl _ _⟩

end Go.Proofs.Ytolkcohmoalnhaa

namespace Go.Proofs.Ytolkcohmoalnhaa
open Go.RowKit

set_option maxHeartbeats 1000000 in
theorem bools_any (a1 a2 : Option Addr) (l1 c1 l2 c2 : Nat) (xs ys : List Bool) (w : World) (hx : Ls w a1 l1 c1 xs) (hy : Ls w a2 l2 c2 ys) :
    Calls Try.prog 28 #[.slice a1 l1 c1, .slice a2 l2 c2] w fun e w' => e = .returned (.bool (decide (xs = ys))) ∧ Below w.heap.size w w' := by
  have h1 := hx.hlen
  have h2 := hy.hlen
  have hle := hx.hle
  have hmx := hx.hmax
  have hle2 := hy.hle
  have hmx2 := hy.hmax
  unfold maxLen at hmx hmx2
  have HX := hide hx
  have HY := hide hy
  have H1 := hide h1
  have H2 := hide h2
  clear hx hy h1 h2
  go_enter Try.func28, Try.ntmps28
  by_cases hne : l1 = l2
  · subst hne
    go_wp2
    go_loopw [5] (fun i wr => ∃ k : Nat, k ≤ l1 ∧ i = .int .i64 k ∧ xs.take k = ys.take k ∧ Below w.heap.size w wr) (fun i _ => l1 - (intOf i).toNat)
    case atStart => exact ⟨0, Nat.zero_le _, rfl, rfl, Below.refl _ _⟩
    case round =>
      obtain ⟨k, hk, rfl, heq, hbr⟩ := hrel
      have HQ := hide heq
      clear heq
      by_cases hlt : k < l1
      · have hk1 : k < xs.length := by have := H1.out; omega
        have hk2 : k < ys.length := by have := H2.out; omega
        obtain ⟨b, off, rfl, hbl, hc0⟩ := HX.out.hcell k hk1
        obtain ⟨b', off', rfl, hbl', hd0⟩ := HY.out.hcell k hk2
        have hc : wr.cell? ⟨b, off + k, none⟩ = some (.bool xs[k]) := (hbr.cell (p := ⟨b, off + k, none⟩) hbl).trans hc0
        have hd : wr.cell? ⟨b', off' + k, none⟩ = some (.bool ys[k]) := (hbr.cell (p := ⟨b', off' + k, none⟩) hbl').trans hd0
        clear hc0 hd0
        have HT : Hid (xs[k] = ys[k] → xs.take (k + 1) = ys.take (k + 1)) := hide fun h => by
          rw [List.take_succ_eq_append_getElem hk1, List.take_succ_eq_append_getElem hk2, HQ.out, h]
        have HN : Hid (xs[k] ≠ ys[k] → xs ≠ ys) := hide fun h e => by subst e; exact h rfl
        generalize xs[k] = m at *
        generalize ys[k] = n at *
        by_cases hmn : m = n
        · subst hmn
          go_wp2
          go_quiet (fail)
          go_wp2
          go_roundw
          case rel => exact ⟨k + 1, by omega, by go_num, HT.out trivial, below_draws hbr _⟩
          case measure => simp [intOf]; omega
        · have hmb : (m == n) = false := by simpa using hmn
          go_wp2
          go_quiet (fail)
          go_wp2
          go_ret
          exact ⟨ret_bool (by have := HN.out hmn; simp [this]), below_draws hbr _⟩
      · go_wp2
        go_ret
        exact ⟨ret_bool (by
          have := HQ.out
          rw [List.take_of_length_le (by rw [H1.out]; omega), List.take_of_length_le (by rw [H2.out]; omega)] at this
          simp [this]), hbr⟩
  · go_wp2
    go_ret
    exact ⟨ret_bool (by
      have : xs ≠ ys := fun e => hne (by rw [← H1.out, ← H2.out, e])
      simp [this]), Below.refl _ _⟩

end Go.Proofs.Ytolkcohmoalnhaa

namespace Go.Proofs.Ytolkcohmoalnhaa
open Go.RowKit

/-- The entries of a map, one behind the other. -/
def tabEs : List (Nat × Value) → Nat → List MapEntry
  | [], _ => []
  | (k, v) :: r, i => ⟨.int .u8 (k : Int), v, i⟩ :: tabEs r (i + 1)
/-- Block 'b' is a map that holds just 'l'. -/
def Tab (w : World) (b : Nat) (l : List (Nat × Value)) : Prop := w.heap[b]? = some (.map (tabEs l 0).toArray l.length)
def tabAt : List (Nat × Value) → Nat → Option Value
  | [], _ => none
  | (k, v) :: r, x => if x = k then some v else tabAt r x

theorem tabEs_append : ∀ (l : List (Nat × Value)) (i k : Nat) (v : Value), tabEs (l ++ [(k, v)]) i = tabEs l i ++ [⟨.int .u8 (k : Int), v, i + l.length⟩]
  | [], i, k, v => rfl
  | x :: r, i, k, v => by
    simp only [List.cons_append, tabEs, List.cons_append, List.length_cons]
    rw [tabEs_append r (i + 1) k v, show i + 1 + r.length = i + (r.length + 1) by omega]

theorem tab_find : ∀ (l : List (Nat × Value)) (i j x : Nat), ∃ n, Instr.findNow (.int .u8) (.int .u8 (x : Int)) (tabEs l i) j = some ((tabAt l x).map fun v => (n, v))
  | [], i, j, x => ⟨0, rfl⟩
  | (k, v) :: r, i, j, x => by
    by_cases h : x = k
    · subst h
      exact ⟨j, by simp [tabEs, Instr.findNow, Instr.sameNow, tabAt]⟩
    · obtain ⟨n, hn⟩ := tab_find r (i + 1) (j + 1) x
      have h' : ¬ ((x : Int) = (k : Int)) := by omega
      refine ⟨n, ?_⟩
      simp only [tabEs, Instr.findNow, Instr.sameNow, if_true, tabAt, if_neg h]
      have : ((x : Int) == (k : Int)) = false := by simp [h']
      rw [this]
      exact hn

theorem Tab.lt {w : World} {b : Nat} {l : List (Nat × Value)} (h : Tab w b l) : b < w.heap.size := (Array.getElem?_eq_some_iff.1 h).1
theorem Tab.made (w : World) : Tab (w.alloc (.map #[] 0)) w.heap.size [] := heap_alloc_new _ _
theorem Tab.mono {w w' : World} {b : Nat} {l : List (Nat × Value)} (h : Tab w b l) (hb : Below w.heap.size w w') : Tab w' b l := (hb.block b h.lt).trans h

/-- 'm[x], ok'. -/
theorem run_tab {P : Program} {w : World} {b : Nat} {l : List (Nat × Value)} (h : Tab w b l) (t k e : TypeId) (ht : P.underlying t = some (.map k e)) (hk : P.underlying k = some (.int .u8)) (z : Value) (hz : (zeroValue e).run P w = .ok z w) (x : Nat) :
    (Instr.lookup t (.map (some b)) (.int .u8 (x : Int)) true).run P w = .ok (.tuple #[(tabAt l x).getD z, .bool (tabAt l x).isSome]) w := by
  obtain ⟨n, hn⟩ := tab_find l 0 0 x
  unfold Instr.lookup
  simp only [Sem.run_bind, run_underlying ht, Result.andThen_ok, MapKept.run_getObj_map h, Sem.run_pure]
  have hck : ∀ em, (Instr.checkKey em 10000 k (.int .u8 (x : Int))).run P w = .ok () w := fun em => by
    unfold Instr.checkKey
    simp [run_underlying hk]
  rw [hck]
  simp only [Result.andThen_ok]
  rw [MapKept.run_findKey (k := .int .u8 (x : Int)) hk (by simpa using hn)]
  cases tabAt l x with
  | none => simp [hz]
  | some v => simp

/-- 'm[x], ok' of a map that is nil. -/
theorem run_tab_nil {P : Program} {w : World} (t k e : TypeId) (ht : P.underlying t = some (.map k e)) (hk : P.underlying k = some (.int .u8)) (z : Value) (hz : (zeroValue e).run P w = .ok z w) (x : Nat) :
    (Instr.lookup t (.map none) (.int .u8 (x : Int)) true).run P w = .ok (.tuple #[z, .bool false]) w := by
  unfold Instr.lookup
  simp only [Sem.run_bind, run_underlying ht, Result.andThen_ok, Sem.run_pure]
  have hck : ∀ em, (Instr.checkKey em 10000 k (.int .u8 (x : Int))).run P w = .ok () w := fun em => by
    unfold Instr.checkKey
    simp [run_underlying hk]
  rw [hck]
  simp only [Result.andThen_ok]
  rw [MapKept.run_findKey (k := .int .u8 (x : Int)) (a := none) hk rfl]
  simp [hz]

def setObjW (w : World) (b : Nat) (o : Obj) : World := { w with heap := w.heap.setIfInBounds b o }
theorem below_setObj {B : Nat} {a w : World} (h : Below B a w) {b : Nat} (hb : B ≤ b) (o : Obj) : Below B a (setObjW w b o) :=
  h.trans ⟨rfl, rfl, rfl, by simp [setObjW], fun k hk => by
    show (w.heap.setIfInBounds b o)[k]? = w.heap[k]?
    rw [Array.getElem?_setIfInBounds_ne (by omega)]⟩
theorem setObj_other {w : World} {b c : Nat} (hn : c ≠ b) (o : Obj) : (setObjW w b o).heap[c]? = w.heap[c]? := by
  show (w.heap.setIfInBounds b o)[c]? = w.heap[c]?
  rw [Array.getElem?_setIfInBounds_ne (by omega)]

/-- One more is put in. -/
theorem run_put {P : Program} {w : World} {b : Nat} {l : List (Nat × Value)} (h : Tab w b l) (t k e : TypeId) (ht : P.underlying t = some (.map k e)) (hk : P.underlying k = some (.int .u8)) (x : Nat) (hx : tabAt l x = none) (v : Value) :
    ∃ o, (Instr.mapUpdate t (.map (some b)) (.int .u8 (x : Int)) v).run P w = .ok () (setObjW w b o) ∧ Tab (setObjW w b o) b (l ++ [(x, v)]) := by
  obtain ⟨n, hn⟩ := tab_find l 0 0 x
  rw [hx] at hn
  refine ⟨.map ((tabEs l 0).toArray.push ⟨.int .u8 (x : Int), v, l.length⟩) (l.length + 1), ?_, ?_⟩
  · unfold Instr.mapUpdate
    simp only [Sem.run_bind, run_underlying ht, Result.andThen_ok, MapKept.run_getObj_map h]
    have hck : ∀ em, (Instr.checkKey em 10000 k (.int .u8 (x : Int))).run P w = .ok () w := fun em => by
      unfold Instr.checkKey
      simp [run_underlying hk]
    rw [hck]
    simp only [Result.andThen_ok]
    rw [MapKept.run_findKey (k := .int .u8 (x : Int)) (a := none) hk (by simpa using hn)]
    simp only [Result.andThen_ok]
    rw [MapKept.run_setObj_map _ h]
    rfl
  · show (w.heap.setIfInBounds b _)[b]? = _
    rw [Array.getElem?_setIfInBounds_self_of_lt h.lt]
    rw [tabEs_append, List.length_append]
    simp

end Go.Proofs.Ytolkcohmoalnhaa

namespace Go.Proofs.Ytolkcohmoalnhaa
open Go.RowKit

/-- A struct is stored into the block that was made last. -/
theorem wpList_store_new {P : Program} {ops : Array Oper} {rest : List Oper} {o : Oper} {a : Act} {w0 : World} {t : TypeId} {old : Array Value} {Q : Exit → Act → World → Prop} (hgd : o.guard = none) (ty : TypeId) (x y : Operand) (ho : o.op = .store ty x y)
    (cells : Array Value) (hx : a.eval x = .pointer (some ⟨w0.heap.size, 0, none⟩)) (hy : a.eval y = .agg cells) (hi : (P.info? ty).map (·.size) = some cells.size) (hold : old.size = cells.size) (h1 : cells.all (·.oneCell') = true)
    (h : ∀ w1, w1.heap[w0.heap.size]? = some (.cells cells t (0, 0)) → Below w0.heap.size w0 w1 → wpList P ops Q rest (a.put o.dst undef) w1) : wpList P ops Q (o :: rest) a (w0.alloc (.cells old t (0, 0))) := by
  refine wpList_store_row hgd ty x y ho w0.heap.size cells hx hy t old (heap_alloc_new _ _) hi hold h1 ?_
  rw [World.setRow_alloc_new]
  exact h _ (heap_alloc_new _ _) ((Below.refl _ _).alloc (Nat.le_refl _) _)

/-- A struct is stored into a block that lies there. -/
theorem wpList_store_lies {P : Program} {ops : Array Oper} {rest : List Oper} {o : Oper} {a : Act} {w : World} {Q : Exit → Act → World → Prop} (hgd : o.guard = none) (ty : TypeId) (x y : Operand) (ho : o.op = .store ty x y)
    (g : Nat) (cells : Array Value) (hx : a.eval x = .pointer (some ⟨g, 0, none⟩)) (hy : a.eval y = .agg cells)
    (t : TypeId) (old : Array Value) (hg : w.heap[g]? = some (.cells old t (0, 0))) (hi : (P.info? ty).map (·.size) = some cells.size)
    (hold : old.size = cells.size) (h1 : cells.all (·.oneCell') = true)
    (h : ∀ w1, w1.heap[g]? = some (.cells cells t (0, 0)) → (∀ B, B ≤ g → Below B w w1) → (∀ k, k ≠ g → w1.heap[k]? = w.heap[k]?) → w1.heap.size = w.heap.size → wpList P ops Q rest (a.put o.dst undef) w1) : wpList P ops Q (o :: rest) a w := by
  refine wpList_store_row hgd ty x y ho g cells hx hy t old hg hi hold h1 (h _ ?_ (fun B hB => below_setRow (Below.refl _ _) hB _) (fun k hk => setRow_other w g k cells hk) (by simp))
  have hlt := lt_of_block hg
  have h' : w.heap[g] = .cells old t (0, 0) := by simpa [Array.getElem?_eq_getElem hlt] using hg
  show (w.heap.modify g _)[g]? = _
  rw [Array.getElem?_eq_getElem (by simpa using hlt), Array.getElem_modify_self, h']

/-- One more entry. -/
theorem wpList_insertT {P : Program} {w : World} {ops : Array Oper} {rest : List Oper} {o : Oper} {a : Act} {Q : Exit → Act → World → Prop} (hg : o.guard = none) (m x v : Operand) (t : TypeId) (hop : o.op = Op.insert t m x v)
    (k e : TypeId) (ht : P.underlying t = some (.map k e)) (hk : P.underlying k = some (.int .u8)) (b : Nat) (l : List (Nat × Value)) (hm : a.eval m = .map (some b)) (hT : Tab w b l) (y : Nat) (hx : a.eval x = .int .u8 (y : Int)) (hfree : tabAt l y = none) (vv : Value) (hv : a.eval v = vv)
    (hK : ∀ w', Tab w' b (l ++ [(y, vv)]) → (∀ c, c ≠ b → w'.heap[c]? = w.heap[c]?) → (∀ B, B ≤ b → Below B w w') → wpList P ops Q rest (a.put o.dst undef) w') : wpList P ops Q (o :: rest) a w := by
  refine wpList_plain hg fun K' hK' => ?_
  obtain ⟨ob, hrun, hT'⟩ := run_put (P := P) hT t k e ht hk y hfree vv
  unfold Oper.wp
  simp only [execOp, hop, hm, hx, hv, hrun, Sem.run_bind, Sem.run_pure, Result.andThen_ok]
  exact hK' _ _ (hK _ hT' (fun c hc => setObj_other hc ob) (fun B hB => below_setObj (Below.refl _ _) hB ob))

end Go.Proofs.Ytolkcohmoalnhaa

namespace Go.Proofs.Ytolkcohmoalnhaa
open Go.RowKit

/-- A struct is stored, at a step of a region that draws its order. -/
theorem step_store {w : World} {ops : Array Oper} {o : Oper} {act : Act} {K : Act → World → Prop} {Q : Exit → Act → World → Prop} {E : Prop} (hgd : o.guard = none) (ty : TypeId) (x y : Operand) (ho : o.op = .store ty x y)
    (g : Nat) (cells : Array Value) (hx : act.eval x = .pointer (some ⟨g, 0, none⟩)) (hy : act.eval y = .agg cells)
    (t : TypeId) (old : Array Value) (hg : w.heap[g]? = some (.cells old t (0, 0))) (hi : (Try.prog.info? ty).map (·.size) = some cells.size)
    (hold : old.size = cells.size) (h1 : cells.all (·.oneCell') = true)
    (h : ∀ w1, w1.heap[g]? = some (.cells cells t (0, 0)) → (∀ B, B ≤ g → Below B w w1) → (∀ k, k ≠ g → w1.heap[k]? = w.heap[k]?) → w1.heap.size = w.heap.size → K (act.put o.dst undef) w1) : if Region.wanted o (yielded ops act.tmps) = true then Oper.wp Try.prog o act w K Q else E := by
  have hw' : Region.wanted o (yielded ops act.tmps) = true := by simp [Region.wanted, hgd]
  rw [if_pos hw']
  refine wp_store_row ty x y ho g cells hx hy t old hg hi hold h1 (h _ ?_ (fun B hB => below_setRow (Below.refl _ _) hB _) (fun k hk => setRow_other w g k cells hk) (by simp))
  have hlt := lt_of_block hg
  have h' : w.heap[g] = .cells old t (0, 0) := by simpa [Array.getElem?_eq_getElem hlt] using hg
  show (w.heap.modify g _)[g]? = _
  rw [Array.getElem?_eq_getElem (by simpa using hlt), Array.getElem_modify_self, h']

end Go.Proofs.Ytolkcohmoalnhaa
