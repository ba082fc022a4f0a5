/-
  Messages: what a value of type api.Msg reads, its lists among it; one that came in.
-/
import Derived.Test.YtjacnghndnkcnaaWords
import Derived.Test.YtjacnghndnkcnaaBools
import Derived.Deep.SlicePairs
import Derived.ChangeArms
namespace Go.Proofs.Ytjacnghndnkcnaa
set_option maxRecDepth 20000
open Go.RowKit

structure RecM where
  file : UInt16
  record : UInt16
  count : UInt16
  words : List UInt16
structure ObjM where
  id : UInt8
  value : List UInt8
structure MsgM where
  code : UInt8
  fail : UInt8
  addr : UInt16
  count : UInt16
  value : UInt16
  and_ : UInt16
  or_ : UInt16
  addr2 : UInt16
  sub : UInt16
  status : UInt16
  events : UInt16
  messages : UInt16
  words : List UInt16
  bits : List Bool
  data : List UInt8
  recs : List RecM
  mei : UInt8
  kind : UInt8
  level : UInt8
  more : UInt8
  next : UInt8
  objects : List ObjM

/-- The slice at 'a' reads parts of files, each in four cells. -/
structure Rs (w : World) (a : Option Addr) (len cap : Nat) (xs : List RecM) : Prop where
  hlen : xs.length = len
  hle : len ≤ cap
  hmax : cap ≤ maxLen
  hcell : ∀ i (h : i < xs.length), ∃ b off aw lw cw, a = some ⟨b, off, none⟩ ∧ b < w.heap.size ∧ w.cell? ⟨b, off + i * 4, none⟩ = some (wordV xs[i].file) ∧ w.cell? ⟨b, off + i * 4 + 1, none⟩ = some (wordV xs[i].record) ∧
    w.cell? ⟨b, off + i * 4 + 2, none⟩ = some (wordV xs[i].count) ∧ w.cell? ⟨b, off + i * 4 + 3, none⟩ = some (.slice aw lw cw) ∧ Ws w aw lw cw xs[i].words

/-- The slice at 'a' reads things that devices tell of themselves, each in two cells. -/
structure Obs (w : World) (a : Option Addr) (len cap : Nat) (xs : List ObjM) : Prop where
  hlen : xs.length = len
  hle : len ≤ cap
  hmax : cap ≤ maxLen
  hcell : ∀ i (h : i < xs.length), ∃ b off ad ld cd, a = some ⟨b, off, none⟩ ∧ b < w.heap.size ∧ w.cell? ⟨b, off + i * 2, none⟩ = some (byteV xs[i].id) ∧
    w.cell? ⟨b, off + i * 2 + 1, none⟩ = some (.slice ad ld cd) ∧ Bs w ad ld cd xs[i].value

theorem Rs.mono {w w' : World} {a : Option Addr} {len cap : Nat} {xs : List RecM} (h : Rs w a len cap xs) (hb : Below w.heap.size w w') : Rs w' a len cap xs :=
  ⟨h.hlen, h.hle, h.hmax, fun i hi => by
    obtain ⟨b, off, aw, lw, cw, ha, hlt, h0, h1, h2, h3, hw⟩ := h.hcell i hi
    exact ⟨b, off, aw, lw, cw, ha, Nat.lt_of_lt_of_le hlt hb.size, (hb.cell (p := ⟨b, _, none⟩) hlt).trans h0, (hb.cell (p := ⟨b, _, none⟩) hlt).trans h1, (hb.cell (p := ⟨b, _, none⟩) hlt).trans h2, (hb.cell (p := ⟨b, _, none⟩) hlt).trans h3, hw.mono hb⟩⟩
theorem Obs.mono {w w' : World} {a : Option Addr} {len cap : Nat} {xs : List ObjM} (h : Obs w a len cap xs) (hb : Below w.heap.size w w') : Obs w' a len cap xs :=
  ⟨h.hlen, h.hle, h.hmax, fun i hi => by
    obtain ⟨b, off, ad, ld, cd, ha, hlt, h0, h1, hw⟩ := h.hcell i hi
    exact ⟨b, off, ad, ld, cd, ha, Nat.lt_of_lt_of_le hlt hb.size, (hb.cell (p := ⟨b, _, none⟩) hlt).trans h0, (hb.cell (p := ⟨b, _, none⟩) hlt).trans h1, hw.mono hb⟩⟩
theorem Rs.nil (w : World) (a : Option Addr) {cap : Nat} (h : cap ≤ maxLen) : Rs w a 0 cap [] := ⟨rfl, Nat.zero_le _, h, fun i hi => absurd hi (by simp)⟩
theorem Obs.nil (w : World) (a : Option Addr) {cap : Nat} (h : cap ≤ maxLen) : Obs w a 0 cap [] := ⟨rfl, Nat.zero_le _, h, fun i hi => absurd hi (by simp)⟩

/-- The value 'v' reads the message 'm'. -/
def MsgAt (w : World) (v : Value) (m : MsgM) : Prop :=
  ∃ (aw : Option Addr) (lw cw : Nat) (al : Option Addr) (ll cl : Nat) (ad : Option Addr) (ld cd : Nat) (ar : Option Addr) (lr cr : Nat) (ao : Option Addr) (lo co : Nat),
    v = .agg #[byteV m.code, byteV m.fail, wordV m.addr, wordV m.count, wordV m.value, wordV m.and_, wordV m.or_, wordV m.addr2, wordV m.sub, wordV m.status, wordV m.events, wordV m.messages, .slice aw lw cw, .slice al ll cl, .slice ad ld cd, .slice ar lr cr, byteV m.mei, byteV m.kind, byteV m.level, byteV m.more, byteV m.next, .slice ao lo co] ∧
    Ws w aw lw cw m.words ∧ Ls w al ll cl m.bits ∧ Bs w ad ld cd m.data ∧ Rs w ar lr cr m.recs ∧ Obs w ao lo co m.objects

theorem MsgAt.mono {w w' : World} {v : Value} {m : MsgM} (h : MsgAt w v m) (hb : Below w.heap.size w w') : MsgAt w' v m := by
  obtain ⟨aw, lw, cw, al, ll, cl, ad, ld, cd, ar, lr, cr, ao, lo, co, hv, h0, h1, h2, h3, h4⟩ := h
  exact ⟨aw, lw, cw, al, ll, cl, ad, ld, cd, ar, lr, cr, ao, lo, co, hv, h0.mono hb, h1.mono hb, h2.mono hb, h3.mono hb, h4.mono hb⟩

section
variable {H : Type} {enc : TypeId × Value → H} {w : World} {base : Nat} {held : Bool} {fuel : Nat} {v : Value} {x : DataW H × List MemPlace}

theorem u8_trod {t : TypeId} (ht : Try.prog.underlying t = some (.int .u8)) (h : DataW.trod enc Try.prog w base (fun _ => true) held fuel t [v] = some x) : ∃ y : UInt8, v = byteV y := by
  obtain ⟨n, e, _, hw⟩ := DataW.trod_int ht h
  obtain ⟨s, rfl, hs⟩ := nat_u8 hw
  simp at e
  exact ⟨UInt8.ofNat s, by rw [e]; simp only [byteV, UInt8.toNat_ofNat']; rw [Nat.mod_eq_of_lt hs]⟩
theorem u16_trod {t : TypeId} (ht : Try.prog.underlying t = some (.int .u16)) (h : DataW.trod enc Try.prog w base (fun _ => true) held fuel t [v] = some x) : ∃ y : UInt16, v = wordV y := by
  obtain ⟨n, e, _, hw⟩ := DataW.trod_int ht h
  obtain ⟨s, rfl, hs⟩ := nat_u16 hw
  simp at e
  exact ⟨UInt16.ofNat s, by rw [e]; simp only [wordV, UInt16.toNat_ofNat']; rw [Nat.mod_eq_of_lt hs]⟩
theorem bytes_trod (h : DataW.trod enc Try.prog w base (fun _ => true) held fuel 22 [v] = some x) : ∃ a l c xs, v = .slice a l c ∧ Bs w a l c xs := by
  rcases Go.ChangeShapes.open_ints Try.underlying22 Try.underlying5 (by kernel_rfl) h with ⟨hcs, _⟩ | ⟨y, l, c, zs, hcs, _, hl, hm, hz, _, hcell, hwz⟩
  · simp at hcs
    subst hcs
    exact ⟨_, _, _, [], rfl, Sl.nil _ _ (by unfold maxLen; omega)⟩
  · simp at hcs
    subst hcs
    obtain ⟨xs, hxs⟩ := Bs.ofRow (w := w) (a := some y) (len := l) (cap := c) (zs := zs) (.inr ⟨_, rfl, hl, hm, by simpa using hz, hcell, hwz⟩)
    exact ⟨_, _, _, xs, rfl, hxs⟩
theorem words_trod (h : DataW.trod enc Try.prog w base (fun _ => true) held fuel 25 [v] = some x) : ∃ a l c xs, v = .slice a l c ∧ Ws w a l c xs := by
  rcases Go.ChangeShapes.open_ints Try.underlying25 Try.underlying24 (by kernel_rfl) h with ⟨hcs, _⟩ | ⟨y, l, c, zs, hcs, _, hl, hm, hz, _, hcell, hwz⟩
  · simp at hcs
    subst hcs
    exact ⟨_, _, _, [], rfl, Sl.nil _ _ (by unfold maxLen; omega)⟩
  · simp at hcs
    subst hcs
    obtain ⟨xs, hxs⟩ := Ws.ofRow (w := w) (a := some y) (len := l) (cap := c) (zs := zs) (.inr ⟨_, rfl, hl, hm, by simpa using hz, hcell, hwz⟩)
    exact ⟨_, _, _, xs, rfl, hxs⟩
theorem bools_trod (h : DataW.trod enc Try.prog w base (fun _ => true) held fuel 26 [v] = some x) : ∃ a l c xs, v = .slice a l c ∧ Ls w a l c xs := by
  rcases Go.Deep.open_bools Try.underlying26 Try.underlying4 (by kernel_rfl) h with ⟨hcs, _⟩ | ⟨y, l, c, zs, hcs, _, hl, hm, _, hcell⟩
  · simp at hcs
    subst hcs
    exact ⟨_, _, _, [], rfl, Ls.ofNone _⟩
  · simp at hcs
    subst hcs
    exact ⟨_, _, _, _, rfl, Ls.ofCells hl hm hcell⟩

/-- A field of one cell. -/
theorem field_trod {t : TypeId} {fs : Array Field} {cs : List Value} (ht : Try.prog.underlying t = some (.struct fs)) (h : DataW.trod enc Try.prog w base (fun _ => true) held fuel t cs = some x) (i : Nat) (f : Field) (hf : fs[i]? = some f) (ho : f.offset = i) (hc : Try.prog.cellsOf f.type = 1)
    (u : Value) (hu : cs[i]? = some u) : ∃ n y, DataW.trod enc Try.prog w base (fun _ => true) held n f.type [u] = some y := by
  obtain ⟨xs, n, _, _, _, hxl, hfs⟩ := DataW.trod_struct ht h
  have := hfs i f hf
  have hi : i < fs.size := (Array.getElem?_eq_some_iff.1 hf).1
  have hi2 : i < cs.length := (List.getElem?_eq_some_iff.1 hu).1
  have e : (cs.drop f.offset).take (Try.prog.cellsOf f.type) = [u] := by
    have hx : cs[i] = u := Option.some.inj ((List.getElem?_eq_getElem hi2).symm.trans hu)
    rw [ho, hc, List.drop_eq_getElem_cons hi2, hx]
    rfl
  rw [e, List.getElem?_eq_getElem (by omega)] at this
  exact ⟨n, _, this⟩

theorem none_spot {y : Addr} {u : Value} (h : w.cell? y = some u) : y = ⟨y.block, y.off, none⟩ ∧ y.block < w.heap.size := by
  obtain ⟨b, off, spot⟩ := y
  have hs : spot = none := World.cell?_spot h
  subst hs
  refine ⟨rfl, ?_⟩
  rcases Nat.lt_or_ge b w.heap.size with hlt | hge
  · exact hlt
  · simp [World.cell?, Array.getElem?_eq_none hge] at h

set_option maxRecDepth 20000 in
theorem recs_trod (h : DataW.trod enc Try.prog w base (fun _ => true) held fuel 27 [v] = some x) : ∃ a l c xs, v = .slice a l c ∧ Rs w a l c xs := by
  rcases Go.Deep.open_slice Try.underlying27 h with ⟨hcs, _⟩ | ⟨y, l, c, m, n, D, Pl, hcs, _, hl, hm, hmm, _, hx⟩
  · simp at hcs
    subst hcs
    exact ⟨_, _, _, [], rfl, Rs.nil _ _ (by unfold maxLen; omega)⟩
  · simp at hcs
    subst hcs
    have hlm : l ≤ m := by rw [hmm]; split <;> omega
    have ce : Try.prog.cellsOf 50 = 4 := by kernel_rfl
    have each : ∀ i, i < l → ∃ r : RecM, ∃ b off aw lw cw, (some y : Option Addr) = some ⟨b, off, none⟩ ∧ b < w.heap.size ∧ w.cell? ⟨b, off + i * 4, none⟩ = some (wordV r.file) ∧ w.cell? ⟨b, off + i * 4 + 1, none⟩ = some (wordV r.record) ∧
        w.cell? ⟨b, off + i * 4 + 2, none⟩ = some (wordV r.count) ∧ w.cell? ⟨b, off + i * 4 + 3, none⟩ = some (.slice aw lw cw) ∧ Ws w aw lw cw r.words := fun i hi => by
      obtain ⟨cs', h1, h2⟩ := hx i (by omega)
      rw [ce] at h1
      obtain ⟨_, hlen, hcell⟩ := World.cells?_some h1
      match cs', hlen with
      | [v0, v1, v2, v3], _ =>
        obtain ⟨_, _, t0⟩ := field_trod Try.underlying50 h2 0 _ rfl rfl (by kernel_rfl) v0 rfl
        obtain ⟨_, _, t1⟩ := field_trod Try.underlying50 h2 1 _ rfl rfl (by kernel_rfl) v1 rfl
        obtain ⟨_, _, t2⟩ := field_trod Try.underlying50 h2 2 _ rfl rfl (by kernel_rfl) v2 rfl
        obtain ⟨_, _, t3⟩ := field_trod Try.underlying50 h2 3 _ rfl rfl (by kernel_rfl) v3 rfl
        obtain ⟨z0, rfl⟩ := u16_trod Try.underlying24 t0
        obtain ⟨z1, rfl⟩ := u16_trod Try.underlying24 t1
        obtain ⟨z2, rfl⟩ := u16_trod Try.underlying24 t2
        obtain ⟨aw, lw, cw, ws, rfl, hw⟩ := words_trod t3
        have e0 := hcell 0 (by omega)
        have e1 := hcell 1 (by omega)
        have e2 := hcell 2 (by omega)
        have e3 := hcell 3 (by omega)
        rw [Go.Deep.add_add] at e0 e1 e2 e3
        obtain ⟨b, off, spot⟩ := y
        have hsp : spot = none := by
          obtain ⟨cs0, g1, _⟩ := hx 0 (by omega)
          rw [ce] at g1
          obtain ⟨_, hlen0, hcell0⟩ := World.cells?_some g1
          have g0 := hcell0 0 (by omega)
          rw [Go.Deep.add_add, List.getElem?_eq_getElem (by omega)] at g0
          simpa [Addr.add] using World.cell?_spot g0
        subst hsp
        rw [WideShapes.add_plain] at e0 e1 e2 e3
        have hlt : b < w.heap.size := (none_spot (y := ⟨b, _, none⟩) (e0.trans rfl)).2
        simp only [← Nat.add_assoc, Nat.add_zero] at e0 e1 e2 e3
        exact ⟨⟨z0, z1, z2, ws⟩, b, off, aw, lw, cw, rfl, hlt, e0, e1, e2, e3, hw⟩
    obtain ⟨f, hf⟩ := @Go.Deep.choose_lt RecM ⟨⟨0, 0, 0, []⟩⟩ _ _ each
    refine ⟨_, _, _, (List.range l).map f, rfl, by simp, hl, hm, fun i hi => ?_⟩
    have hi' : i < l := by simpa using hi
    simpa using hf i hi'

set_option maxRecDepth 20000 in
theorem objs_trod (h : DataW.trod enc Try.prog w base (fun _ => true) held fuel 28 [v] = some x) : ∃ a l c xs, v = .slice a l c ∧ Obs w a l c xs := by
  rcases Go.Deep.open_slice Try.underlying28 h with ⟨hcs, _⟩ | ⟨y, l, c, m, n, D, Pl, hcs, _, hl, hm, hmm, _, hx⟩
  · simp at hcs
    subst hcs
    exact ⟨_, _, _, [], rfl, Obs.nil _ _ (by unfold maxLen; omega)⟩
  · simp at hcs
    subst hcs
    have hlm : l ≤ m := by rw [hmm]; split <;> omega
    have ce : Try.prog.cellsOf 52 = 2 := by kernel_rfl
    have each : ∀ i, i < l → ∃ r : ObjM, ∃ b off ad ld cd, (some y : Option Addr) = some ⟨b, off, none⟩ ∧ b < w.heap.size ∧ w.cell? ⟨b, off + i * 2, none⟩ = some (byteV r.id) ∧ w.cell? ⟨b, off + i * 2 + 1, none⟩ = some (.slice ad ld cd) ∧ Bs w ad ld cd r.value := fun i hi => by
      obtain ⟨cs', h1, h2⟩ := hx i (by omega)
      rw [ce] at h1
      obtain ⟨_, hlen, hcell⟩ := World.cells?_some h1
      match cs', hlen with
      | [v0, v1], _ =>
        obtain ⟨_, _, t0⟩ := field_trod Try.underlying52 h2 0 _ rfl rfl (by kernel_rfl) v0 rfl
        obtain ⟨_, _, t1⟩ := field_trod Try.underlying52 h2 1 _ rfl rfl (by kernel_rfl) v1 rfl
        obtain ⟨z0, rfl⟩ := u8_trod Try.underlying5 t0
        obtain ⟨ad, ld, cd, ds, rfl, hw⟩ := bytes_trod t1
        have e0 := hcell 0 (by omega)
        have e1 := hcell 1 (by omega)
        rw [Go.Deep.add_add] at e0 e1
        obtain ⟨b, off, spot⟩ := y
        have hsp : spot = none := by
          obtain ⟨cs0, g1, _⟩ := hx 0 (by omega)
          rw [ce] at g1
          obtain ⟨_, hlen0, hcell0⟩ := World.cells?_some g1
          have g0 := hcell0 0 (by omega)
          rw [Go.Deep.add_add, List.getElem?_eq_getElem (by omega)] at g0
          simpa [Addr.add] using World.cell?_spot g0
        subst hsp
        rw [WideShapes.add_plain] at e0 e1
        have hlt : b < w.heap.size := (none_spot (y := ⟨b, _, none⟩) (e0.trans rfl)).2
        simp only [← Nat.add_assoc, Nat.add_zero] at e0 e1
        exact ⟨⟨z0, ds⟩, b, off, ad, ld, cd, rfl, hlt, e0, e1, hw⟩
    obtain ⟨f, hf⟩ := @Go.Deep.choose_lt ObjM ⟨⟨0, []⟩⟩ _ _ each
    refine ⟨_, _, _, (List.range l).map f, rfl, by simp, hl, hm, fun i hi => ?_⟩
    have hi' : i < l := by simpa using hi
    simpa using hf i hi'

theorem list22 {α : Type} (cs : List α) (h : cs.length = 22) : ∃ c0 c1 c2 c3 c4 c5 c6 c7 c8 c9 c10 c11 c12 c13 c14 c15 c16 c17 c18 c19 c20 c21, cs = [c0, c1, c2, c3, c4, c5, c6, c7, c8, c9, c10, c11, c12, c13, c14, c15, c16, c17, c18, c19, c20, c21] := by
  match cs, h with
  | [c0, c1, c2, c3, c4, c5, c6, c7, c8, c9, c10, c11, c12, c13, c14, c15, c16, c17, c18, c19, c20, c21], _ => exact ⟨c0, c1, c2, c3, c4, c5, c6, c7, c8, c9, c10, c11, c12, c13, c14, c15, c16, c17, c18, c19, c20, c21, rfl⟩

/-- A message that came in. -/
theorem MsgAt.ofTrod {r : Reach} {b0 : Nat} {d : DataW H} {p : List MemPlace} (hv : Value.okWide Try.prog w r b0 30 v) (h : DataW.Trod enc Try.prog w base (fun _ => true) held 30 v d p) : ∃ m, MsgAt w v m := by
  obtain ⟨cs, rfl, hsz⟩ := Go.WideShapes.okWide_struct Try.underlying30 hv
  obtain ⟨fuel, hf⟩ := h
  have ce : Try.prog.cellsOf 30 = 22 := by kernel_rfl
  rw [ce] at hsz
  obtain ⟨cs⟩ := cs
  obtain ⟨c0, c1, c2, c3, c4, c5, c6, c7, c8, c9, c10, c11, c12, c13, c14, c15, c16, c17, c18, c19, c20, c21, rfl⟩ := list22 cs (by simpa using hsz)
  simp only [Value.cells] at hf
  obtain ⟨_, _, t0⟩ := field_trod Try.underlying30 hf 0 _ rfl rfl (by kernel_rfl) c0 rfl
  obtain ⟨_, _, t1⟩ := field_trod Try.underlying30 hf 1 _ rfl rfl (by kernel_rfl) c1 rfl
  obtain ⟨_, _, t2⟩ := field_trod Try.underlying30 hf 2 _ rfl rfl (by kernel_rfl) c2 rfl
  obtain ⟨_, _, t3⟩ := field_trod Try.underlying30 hf 3 _ rfl rfl (by kernel_rfl) c3 rfl
  obtain ⟨_, _, t4⟩ := field_trod Try.underlying30 hf 4 _ rfl rfl (by kernel_rfl) c4 rfl
  obtain ⟨_, _, t5⟩ := field_trod Try.underlying30 hf 5 _ rfl rfl (by kernel_rfl) c5 rfl
  obtain ⟨_, _, t6⟩ := field_trod Try.underlying30 hf 6 _ rfl rfl (by kernel_rfl) c6 rfl
  obtain ⟨_, _, t7⟩ := field_trod Try.underlying30 hf 7 _ rfl rfl (by kernel_rfl) c7 rfl
  obtain ⟨_, _, t8⟩ := field_trod Try.underlying30 hf 8 _ rfl rfl (by kernel_rfl) c8 rfl
  obtain ⟨_, _, t9⟩ := field_trod Try.underlying30 hf 9 _ rfl rfl (by kernel_rfl) c9 rfl
  obtain ⟨_, _, t10⟩ := field_trod Try.underlying30 hf 10 _ rfl rfl (by kernel_rfl) c10 rfl
  obtain ⟨_, _, t11⟩ := field_trod Try.underlying30 hf 11 _ rfl rfl (by kernel_rfl) c11 rfl
  obtain ⟨_, _, t12⟩ := field_trod Try.underlying30 hf 12 _ rfl rfl (by kernel_rfl) c12 rfl
  obtain ⟨_, _, t13⟩ := field_trod Try.underlying30 hf 13 _ rfl rfl (by kernel_rfl) c13 rfl
  obtain ⟨_, _, t14⟩ := field_trod Try.underlying30 hf 14 _ rfl rfl (by kernel_rfl) c14 rfl
  obtain ⟨_, _, t15⟩ := field_trod Try.underlying30 hf 15 _ rfl rfl (by kernel_rfl) c15 rfl
  obtain ⟨_, _, t16⟩ := field_trod Try.underlying30 hf 16 _ rfl rfl (by kernel_rfl) c16 rfl
  obtain ⟨_, _, t17⟩ := field_trod Try.underlying30 hf 17 _ rfl rfl (by kernel_rfl) c17 rfl
  obtain ⟨_, _, t18⟩ := field_trod Try.underlying30 hf 18 _ rfl rfl (by kernel_rfl) c18 rfl
  obtain ⟨_, _, t19⟩ := field_trod Try.underlying30 hf 19 _ rfl rfl (by kernel_rfl) c19 rfl
  obtain ⟨_, _, t20⟩ := field_trod Try.underlying30 hf 20 _ rfl rfl (by kernel_rfl) c20 rfl
  obtain ⟨_, _, t21⟩ := field_trod Try.underlying30 hf 21 _ rfl rfl (by kernel_rfl) c21 rfl
  obtain ⟨z0, rfl⟩ := u8_trod Try.underlying5 t0
  obtain ⟨z1, rfl⟩ := u8_trod Try.underlying5 t1
  obtain ⟨z2, rfl⟩ := u16_trod Try.underlying24 t2
  obtain ⟨z3, rfl⟩ := u16_trod Try.underlying24 t3
  obtain ⟨z4, rfl⟩ := u16_trod Try.underlying24 t4
  obtain ⟨z5, rfl⟩ := u16_trod Try.underlying24 t5
  obtain ⟨z6, rfl⟩ := u16_trod Try.underlying24 t6
  obtain ⟨z7, rfl⟩ := u16_trod Try.underlying24 t7
  obtain ⟨z8, rfl⟩ := u16_trod Try.underlying24 t8
  obtain ⟨z9, rfl⟩ := u16_trod Try.underlying24 t9
  obtain ⟨z10, rfl⟩ := u16_trod Try.underlying24 t10
  obtain ⟨z11, rfl⟩ := u16_trod Try.underlying24 t11
  obtain ⟨aw, lw, cw, z12, rfl, hw⟩ := words_trod t12
  obtain ⟨al, ll, cl, z13, rfl, hl⟩ := bools_trod t13
  obtain ⟨ad, ld, cd, z14, rfl, hd⟩ := bytes_trod t14
  obtain ⟨ar, lr, cr, z15, rfl, hr⟩ := recs_trod t15
  obtain ⟨z16, rfl⟩ := u8_trod Try.underlying5 t16
  obtain ⟨z17, rfl⟩ := u8_trod Try.underlying5 t17
  obtain ⟨z18, rfl⟩ := u8_trod Try.underlying5 t18
  obtain ⟨z19, rfl⟩ := u8_trod Try.underlying5 t19
  obtain ⟨z20, rfl⟩ := u8_trod Try.underlying5 t20
  obtain ⟨ao, lo, co, z21, rfl, ho⟩ := objs_trod t21
  exact ⟨⟨z0, z1, z2, z3, z4, z5, z6, z7, z8, z9, z10, z11, z12, z13, z14, z15, z16, z17, z18, z19, z20, z21⟩, aw, lw, cw, al, ll, cl, ad, ld, cd, ar, lr, cr, ao, lo, co, rfl, hw, hl, hd, hr, ho⟩

end
end Go.Proofs.Ytjacnghndnkcnaa
