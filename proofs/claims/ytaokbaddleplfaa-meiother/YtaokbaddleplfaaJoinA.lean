/-
  Texts that many others stand on, joined: Base, App, Bytes, Step, Region, Bools, Words, WordMath.
-/
import Derived.WalkKit
import Derived.WalkLawsBesides
import Derived.ProofKit
import Derived.OpenShut
import Derived.Laws.BytesArg
import Derived.Lib.Strings
import Derived.Deep.AppendSrc
import Derived.Test.YtaokbaddleplfaaRows
import Derived.Outline
import Derived.Deep.RegionHeld3
import Derived.Deep.QuietTactic
import Derived.BigQuiet
import Derived.Laws.MakeOwn
import Derived.Deep.Grids

namespace Go.Proofs.Ytaokbaddleplfaa
open Go.RowKit

theorem hide {p : Prop} (h : p) : Hid p := h
theorem byte_lt (x : UInt8) : x.toNat < 256 := x.toNat_lt
theorem ret_bool {a b : Bool} (h : a = b) : Ending.returned (.bool a) = .returned (.bool b) := by rw [h]
theorem ret_int {k : IntKind} {a b : Int} (h : a = b) : Ending.returned (.int k a) = .returned (.int k b) := by rw [h]

theorem below_setRow {B : Nat} {a w : World} (h : Below B a w) {g : Nat} (hg : B ≤ g) (cs : Array Value) : Below B a (w.setRow g cs) :=
  h.trans ⟨rfl, rfl, rfl, by simp, fun k hk => setRow_other w g k cs (by omega)⟩
theorem below_draws {B : Nat} {a w : World} (h : Below B a w) (n : Nat) : Below B a (w.drewN n) := h.trans ⟨rfl, rfl, rfl, Nat.le_refl _, fun _ _ => rfl⟩
theorem beq_cast (a b : Nat) : ((a : Int) == (b : Int)) = decide (a = b) := by
  rw [Bool.eq_iff_iff]; simp; omega
theorem nat_u16 {n : Int} (h : (Lit.int .u16 n).wf = true) : ∃ s : Nat, n = s ∧ s < 65536 := ⟨n.toNat, by have := bounds_u16 h; omega, by have := bounds_u16 h; omega⟩
theorem nat_u8 {n : Int} (h : (Lit.int .u8 n).wf = true) : ∃ s : Nat, n = s ∧ s < 256 := ⟨n.toNat, by have := bounds_u8 h; omega, by have := bounds_u8 h; omega⟩
/-- One step behind another, the second told of its own blocks. -/
theorem below_next {a b c : World} {B : Nat} (h : Below B a b) (k : Below b.heap.size b c) (hB : B ≤ a.heap.size) : Below B a c := h.trans (k.mono (Nat.le_trans hB h.size))

/-- The slice at 'a' reads 'xs' in the world 'w', each element as 'f' lays it into its cell. -/
structure Sl {α : Type} (f : α → Value) (w : World) (a : Option Addr) (len cap : Nat) (xs : List α) : Prop where
  hlen : xs.length = len
  hle : len ≤ cap
  hmax : cap ≤ maxLen
  hcell : ∀ i (h : i < xs.length), ∃ b off, a = some ⟨b, off, none⟩ ∧ b < w.heap.size ∧ w.cell? ⟨b, off + i, none⟩ = some (f xs[i])

section
variable {α : Type} {f : α → Value} {w w' : World} {a : Option Addr} {len cap : Nat} {xs : List α}

theorem Sl.mono (h : Sl f w a len cap xs) (hb : Below w.heap.size w w') : Sl f w' a len cap xs :=
  ⟨h.hlen, h.hle, h.hmax, fun i hi => by
    obtain ⟨b, off, ha, hlt, hc⟩ := h.hcell i hi
    exact ⟨b, off, ha, Nat.lt_of_lt_of_le hlt hb.size, (hb.cell (p := ⟨b, off + i, none⟩) hlt).trans hc⟩⟩

theorem Sl.drew (h : Sl f w a len cap xs) : Sl f w.drew a len cap xs := h.mono ((Below.refl _ _).drew)

theorem Sl.alloc (h : Sl f w a len cap xs) (o : Obj) : Sl f (w.alloc o) a len cap xs := h.mono ((Below.refl _ _).alloc (Nat.le_refl _) o)

theorem Sl.nil (w : World) (a : Option Addr) (h : cap ≤ maxLen) : Sl f w a 0 cap [] := ⟨rfl, Nat.zero_le _, h, fun i hi => absurd hi (by simp)⟩

theorem Sl.at (h : Sl f w a len cap xs) (hn : 0 < len) : ∃ b off, a = some ⟨b, off, none⟩ ∧ b < w.heap.size ∧ ∀ i (h : i < xs.length), w.cell? ⟨b, off + i, none⟩ = some (f xs[i]) := by
  obtain ⟨b, off, ha, hlt, _⟩ := h.hcell 0 (by rw [h.hlen]; exact hn)
  refine ⟨b, off, ha, hlt, fun i hi => ?_⟩
  obtain ⟨b', off', ha', _, hc⟩ := h.hcell i hi
  rw [ha] at ha'
  cases ha'
  exact hc

theorem Sl.of {b off : Nat} (h0 : xs.length = len) (h1 : len ≤ cap) (h2 : cap ≤ maxLen) (hb : b < w.heap.size) (h : ∀ i (h : i < xs.length), w.cell? ⟨b, off + i, none⟩ = some (f xs[i])) : Sl f w (some ⟨b, off, none⟩) len cap xs :=
  ⟨h0, h1, h2, fun i hi => ⟨b, off, rfl, hb, h i hi⟩⟩

/-- What is cut off behind: the first 'n'. -/
theorem Sl.take (h : Sl f w a len cap xs) (n : Nat) (hn : n ≤ len) : Sl f w a n cap (xs.take n) :=
  ⟨by have := h.hlen; simp; omega, Nat.le_trans hn h.hle, h.hmax, fun i hi => by
    have hi' : i < xs.length := by simp at hi; omega
    obtain ⟨b, off, ha, hlt, hc⟩ := h.hcell i hi'
    exact ⟨b, off, ha, hlt, by rw [List.getElem_take]; exact hc⟩⟩

/-- What is cut off at the front. -/
theorem Sl.drop {b off : Nat} (h : Sl f w (some ⟨b, off, none⟩) len cap xs) (n : Nat) (hn : n ≤ len) : Sl f w (some ⟨b, off + n, none⟩) (len - n) (cap - n) (xs.drop n) := by
  have h0 := h.hlen
  have h1 := h.hle
  have h2 := h.hmax
  refine ⟨by simp; omega, by omega, by omega, fun i hi => ?_⟩
  have hi' : n + i < xs.length := by simp at hi; omega
  obtain ⟨b', off', ha, hlt, hc⟩ := h.hcell (n + i) hi'
  cases ha
  exact ⟨b, off + n, rfl, hlt, by rw [List.getElem_drop, Nat.add_assoc]; exact hc⟩

/-- A block that lies whole. -/
theorem Sl.block {g : Nat} {cur : Array Value} {t : TypeId} {fr : Nat × Nat} (hg : w.heap[g]? = some (.cells cur t fr)) {off : Nat} (h0 : xs.length = len) (h1 : len ≤ cap) (h2 : cap ≤ maxLen)
    (hc : ∀ i (h : i < xs.length), cur[off + i]? = some (f xs[i])) : Sl f w (some ⟨g, off, none⟩) len cap xs :=
  Sl.of h0 h1 h2 (Array.getElem?_eq_some_iff.1 hg).1 fun i hi => by rw [cell_of_row w g (off + i) cur t fr hg]; exact hc i hi

/-- A new block of a literal's elements. -/
theorem Sl.fresh (w : World) (xs : List α) (cs : List Value) (t : TypeId) (fr : Nat × Nat) (n : Nat) (hn : xs.length = n) (hm : n ≤ maxLen) (h : cs = xs.map f) : Sl f (w.alloc (.cells cs.toArray t fr)) (some ⟨w.heap.size, 0, none⟩) n n xs :=
  Sl.block (heap_alloc_new _ _) hn (Nat.le_refl _) hm fun i hi => by subst h; simp [hi]

end

abbrev byteV (x : UInt8) : Value := .int .u8 (x.toNat : Int)
abbrev Bs := @Sl UInt8 byteV

/-- A slice of bytes that came in, as the shell hands it. -/
theorem Bs.ofRow {w : World} {a : Option Addr} {len cap : Nat} {zs : List Int}
    (h : (a = none ∧ len = 0 ∧ cap = 0 ∧ zs = []) ∨ ∃ x, a = some x ∧ len ≤ cap ∧ cap ≤ maxLen ∧ zs.length = cap ∧ (∀ i, i < zs.length → w.cell? (x.add i) = some (.int .u8 (zs.getD i 0))) ∧ ∀ n ∈ zs, (Lit.int .u8 n).wf = true) :
    ∃ xs : List UInt8, Bs w a len cap xs := by
  rcases h with ⟨rfl, rfl, rfl, rfl⟩ | ⟨x, rfl, hl, hm, hz, hc, hw⟩
  · exact ⟨[], Sl.nil _ _ (by unfold maxLen; omega)⟩
  · refine ⟨(zs.take len).map fun n => UInt8.ofNat n.toNat, by simp; omega, hl, hm, fun i hi => ?_⟩
    have hi' : i < len := by simp at hi; omega
    obtain ⟨b, off, spot⟩ := x
    have h1 := hc i (by omega)
    have hspot : spot = none := by simpa [Addr.add] using World.cell?_spot (hc 0 (by omega))
    subst hspot
    have hadd : (⟨b, off, none⟩ : Addr).add i = ⟨b, off + i, none⟩ := by simp [Addr.add]
    rw [hadd] at h1
    refine ⟨b, off, rfl, ?_, ?_⟩
    · rcases Nat.lt_or_ge b w.heap.size with hlt | hge
      · exact hlt
      · simp [World.cell?, Array.getElem?_eq_none hge] at h1
    · rw [h1]
      have hmem : zs.getD i 0 ∈ zs := by
        rw [List.getD_eq_getElem?_getD, List.getElem?_eq_getElem (by omega)]; simp
      have hb := bounds_u8 (hw _ hmem)
      have : ((zs.take len).map fun n => UInt8.ofNat n.toNat)[i]'hi = UInt8.ofNat (zs.getD i 0).toNat := by
        rw [List.getElem_map, List.getElem_take, List.getD_eq_getElem?_getD, List.getElem?_eq_getElem (by omega)]; rfl
      rw [this]
      show some (Value.int .u8 _) = some (.int .u8 _)
      rw [UInt8.toNat_ofNat']
      congr 2
      omega

/-- A text of these bytes. -/
def strOf (xs : List UInt8) : ByteArray := ⟨xs.toArray⟩
theorem strOf_toList (xs : List UInt8) : (strOf xs).toList = xs := by rw [Lib.toList_data]; rfl

theorem Bs.conv {P : Program} {w : World} {a : Option Addr} {len cap : Nat} {xs : List UInt8} (h : Bs w a len cap xs) (src e : TypeId) (hs : P.underlying src = some (.slice e)) (he : P.underlying e = some (.int .u8)) (dst : TypeId) (hd : P.underlying dst = some .string) :
    (convert src dst (.slice a len cap)).run P w = .ok (.string (strOf xs)) w := by
  have hlen := h.hlen
  by_cases hn : 0 < len
  · obtain ⟨b, off, rfl, _, hc⟩ := h.at hn
    rw [run_convert_bytes_arg w src e hs he b off len cap (xs.map fun x => (x.toNat : Int)) (by simpa using hlen) (fun i hi => by
      rw [hc i (by omega)]; simp [List.getD, show i < xs.length by omega]) dst hd]
    congr 2
    unfold strOfNums strOf
    congr 2
    rw [List.map_map]
    conv => rhs; rw [← List.map_id xs]
    apply List.map_congr_left
    intro x _
    simp
  · have h0 : len = 0 := by omega
    subst h0
    have : xs = [] := by simpa using hlen
    subst this
    cases a with
    | none => exact run_convert_bytes_nil w src e hs he _ _ dst hd
    | some x =>
      rw [run_convert_bytes_string w src dst e _ _ cap hs he hd]
      rw [run_bytesToString w x 0 cap [] (by simpa using run_loadCells_list (P := P) w x [] (fun j v hj => by simp at hj))]
      rfl

end Go.Proofs.Ytaokbaddleplfaa

namespace Go.Proofs.Ytaokbaddleplfaa
open Go.RowKit

/-- The slice at 'a' reads 'xs', and all its places, the spare ones too, lie in a block from 'B' on that may be written. -/
structure Own {α : Type} (f : α → Value) (w : World) (B : Nat) (a : Option Addr) (len cap : Nat) (xs : List α) : Prop where
  sl : Sl f w a len cap xs
  room : ∀ i, i < cap → ∃ b off, a = some ⟨b, off, none⟩ ∧ B ≤ b ∧ b < w.heap.size ∧ (w.cell? ⟨b, off + i, none⟩).isSome = true ∧ w.frozen? ⟨b, off + i, none⟩ = false

theorem below_setCells {B : Nat} (b : Nat) (hb : B ≤ b) : ∀ (vs : List Value) (o : Nat) {a w : World}, Below B a w → Below B a (w.setCells b o vs)
  | [], _, _, _, h => h
  | v :: vs, o, _, _, h => below_setCells b hb vs (o + 1) (h.setCell (p := ⟨b, o, none⟩) hb v)

section
variable {α : Type} {f : α → Value} {w w' : World} {B : Nat} {a : Option Addr} {len cap : Nat} {xs : List α}

theorem Own.mono (h : Own f w B a len cap xs) (hb : Below w.heap.size w w') : Own f w' B a len cap xs :=
  ⟨h.sl.mono hb, fun i hi => by
    obtain ⟨b, off, ha, hB, hlt, hc, hf⟩ := h.room i hi
    exact ⟨b, off, ha, hB, Nat.lt_of_lt_of_le hlt hb.size, by rw [hb.cell (p := ⟨b, off + i, none⟩) hlt]; exact hc, by rw [hb.frozen (p := ⟨b, off + i, none⟩) hlt]; exact hf⟩⟩

theorem Own.base (h : Own f w B a len cap xs) {B' : Nat} (hB : B' ≤ B) : Own f w B' a len cap xs :=
  ⟨h.sl, fun i hi => by
    obtain ⟨b, off, ha, h1, hr⟩ := h.room i hi
    exact ⟨b, off, ha, Nat.le_trans hB h1, hr⟩⟩

theorem Own.empty (w : World) (B : Nat) (a : Option Addr) : Own f w B a 0 0 [] := ⟨Sl.nil _ _ (Nat.zero_le _), fun _ h => absurd h (by omega)⟩

/-- A block that was just made, whole. -/
theorem Own.block {g : Nat} {cur : Array Value} {t : TypeId} (hB : B ≤ g) (hg : w.heap[g]? = some (.cells cur t (0, 0))) (h0 : xs.length = len) (h1 : len ≤ cap) (h2 : cap ≤ maxLen) (hs : cap ≤ cur.size)
    (hc : ∀ i (h : i < xs.length), cur[i]? = some (f xs[i])) : Own f w B (some ⟨g, 0, none⟩) len cap xs :=
  ⟨Sl.block hg h0 h1 h2 (fun i hi => by rw [Nat.zero_add]; exact hc i hi), fun i hi => ⟨g, 0, rfl, hB, (Array.getElem?_eq_some_iff.1 hg).1, by
    rw [cell_of_row w g (0 + i) cur t (0, 0) hg]; simp [Array.getElem?_eq_getElem (show i < cur.size by omega)], by simp [World.frozen?, hg]⟩⟩

theorem Own.fresh (w : World) (xs : List α) (cs : List Value) (t : TypeId) (n : Nat) (hn : xs.length = n) (hm : n ≤ maxLen) (h : cs = xs.map f) : Own f (w.alloc (.cells cs.toArray t)) w.heap.size (some ⟨w.heap.size, 0, none⟩) n n xs :=
  Own.block (Nat.le_refl _) (heap_alloc_new _ _) hn (Nat.le_refl _) hm (by subst h; simp; omega) fun i hi => by subst h; simp [hi]

/-- One place is written. -/
theorem Own.set {b off : Nat} (h : Own f w B (some ⟨b, off, none⟩) len cap xs) (j : Nat) (hj : j < xs.length) (x : α) : Own f (w.setCell ⟨b, off + j, none⟩ (f x)) B (some ⟨b, off, none⟩) len cap (xs.set j x) := by
  have hl := h.sl.hlen
  have hle := h.sl.hle
  obtain ⟨_, _, hh, hB, hlt, hsome, hfro⟩ := h.room j (by omega)
  cases hh
  have hsz : (w.setCell ⟨b, off + j, none⟩ (f x)).heap.size = w.heap.size := by simp [World.setCell]
  have hne : ∀ i, i ≠ j → (w.setCell ⟨b, off + j, none⟩ (f x)).cell? ⟨b, off + i, none⟩ = w.cell? ⟨b, off + i, none⟩ := fun i hi => by
    apply World.cell?_setCell_other
    intro e; apply hi; injection e; omega
  have heq : (w.setCell ⟨b, off + j, none⟩ (f x)).cell? ⟨b, off + j, none⟩ = some (f x) := by
    obtain ⟨u, hu⟩ := Option.isSome_iff_exists.1 hsome
    apply World.cell?_setCell_same; exact hu
  refine ⟨Sl.of (by simpa using hl) hle h.sl.hmax (by rw [hsz]; exact hlt) fun i hi => ?_, fun i hi => ⟨b, off, rfl, hB, by rw [hsz]; exact hlt, ?_, ?_⟩⟩
  · have hi' : i < xs.length := by simpa using hi
    by_cases hij : i = j
    · subst hij; rw [heq]; simp
    · rw [hne i hij, List.getElem_set_ne (by omega)]
      obtain ⟨_, _, hh, _, hc⟩ := h.sl.hcell i hi'
      cases hh
      exact hc
  · by_cases hij : i = j
    · subst hij; rw [heq]; rfl
    · rw [hne i hij]
      obtain ⟨_, _, hh, _, _, hc, _⟩ := h.room i hi
      cases hh
      exact hc
  · rw [World.frozen?_setCell]
    obtain ⟨_, _, hh, _, _, _, hc⟩ := h.room i hi
    cases hh
    exact hc

/-- Another block is written. -/
theorem Own.other (h : Own f w B a len cap xs) (p : Addr) (v : Value) (hne : ∀ b off, a = some ⟨b, off, none⟩ → b ≠ p.block) : Own f (w.setCell p v) B a len cap xs := by
  have hsz : (w.setCell p v).heap.size = w.heap.size := by simp [World.setCell]
  have hc : ∀ b i, b ≠ p.block → (w.setCell p v).cell? ⟨b, i, none⟩ = w.cell? ⟨b, i, none⟩ := fun b i hb => by
    apply World.cell?_setCell_other
    intro e; apply hb; rw [e]
  refine ⟨⟨h.sl.hlen, h.sl.hle, h.sl.hmax, fun i hi => ?_⟩, fun i hi => ?_⟩
  · obtain ⟨b, off, ha, hlt, hcl⟩ := h.sl.hcell i hi
    exact ⟨b, off, ha, by rw [hsz]; exact hlt, by rw [hc b _ (hne b off ha)]; exact hcl⟩
  · obtain ⟨b, off, ha, hB, hlt, h1, h2⟩ := h.room i hi
    exact ⟨b, off, ha, hB, by rw [hsz]; exact hlt, by rw [hc b _ (hne b off ha)]; exact h1, by rw [World.frozen?_setCell]; exact h2⟩

theorem Own.drew (h : Own f w B a len cap xs) : Own f w.drew B a len cap xs := h.mono ((Below.refl _ _).drew)

end

section
variable {P : Program} {α : Type} {f : α → Value}

theorem Sl.first {w : World} {a : Option Addr} {len cap : Nat} {xs : List α} (h : Sl f w a len cap xs) : (Builtin.firstCells 1 len (.slice a len cap)).run P w = .ok (xs.map f).toArray w := by
  have hl := h.hlen
  cases a with
  | none =>
    by_cases hn : 0 < len
    · obtain ⟨_, _, hh, _⟩ := h.at hn; cases hh
    · have : xs = [] := by apply List.eq_nil_of_length_eq_zero; omega
      subst this
      exact run_firstCells_none w 1 len len cap
  | some x =>
    refine run_firstCells_some w 1 len x len cap (xs.map f) (by simp [hl]) fun j v hv => ?_
    have hj : j < xs.length := by
      rcases Nat.lt_or_ge j xs.length with hj | hj
      · exact hj
      · simp [List.getElem?_eq_none hj] at hv
    obtain ⟨b, off, hx, _, hc⟩ := h.hcell j hj
    cases hx
    simp [hj] at hv
    rw [← hv, ← hc, Addr.add_lit]

theorem Sl.src {w : World} {a : Option Addr} {len cap : Nat} {xs : List α} (h : Sl f w a len cap xs) (hone : ∀ x, (f x).oneCell' = true) {tx e' : TypeId} (hk : P.underlying tx = some (.slice e')) : Src P 1 tx (.slice a len cap) len (xs.map f) w :=
  ⟨.inl ⟨e', hk⟩, fun _ => rfl, h.first, h.drew.first, by simp [h.hlen], fun u hu => by obtain ⟨x, _, rfl⟩ := List.mem_map.1 hu; exact hone x⟩

/-- THE LAW. -/
theorem run_append (w : World) (B : Nat) (t tx ty e : TypeId) (i : TypeInfo) (z : Value) (ht : P.underlying t = some (.slice e)) (hi : P.info? e = some i) (hz : i.zero = some z) (hsz : i.size = 1) (hzs : z.cells.size = 1)
    (a : Option Addr) (len cap : Nat) (xs : List α) (hd : Own f w B a len cap xs) (x : Value) (m : Nat) (ys : List α) (hs : Src P 1 tx x m (ys.map f) w)
    (hbytes : (len + m) * i.bytes ≤ 140737488355328) (h63 : len + m ≤ maxLen) (hB : B ≤ w.heap.size) :
    ∃ a' cap' w', (Builtin.append_ #[t, tx] ty #[.slice a len cap, x]).run P w = .ok (.slice a' (len + m) cap') w' ∧ Own f w' B a' (len + m) cap' (xs ++ ys) ∧ Below B w w' := by
  have hl := hd.sl.hlen
  have hle := hd.sl.hle
  have hmx := hd.sl.hmax
  have hyl : ys.length = m := by have := hs.newsLen; simpa using this
  have h63' : len + m ≤ 9223372036854775807 := by simp only [maxLen] at h63; omega
  by_cases hroom : len + m ≤ cap
  · by_cases hm : m = 0
    · subst hm
      have hy : ys = [] := List.eq_nil_of_length_eq_zero hyl
      subst hy
      refine ⟨a, cap, w, ?_, by simpa using hd, Below.refl _ _⟩
      have hc := hs.cells
      simp only [List.map_nil] at hc
      rcases hs.kind with ⟨e', hk⟩ | hk <;> cases a <;> simp [Builtin.append_, run_underlying ht, run_underlying hk, sizeOf, typeInfo, hi, hsz, hs.len, hle, hc, storeCells]
    · obtain ⟨b, off, rfl, hb, hlt, _⟩ := hd.room 0 (by omega)
      have hrm : ∀ j, j < cap → (w.cell? ⟨b, off + j, none⟩).isSome = true ∧ w.frozen? ⟨b, off + j, none⟩ = false := fun j hj => by
        obtain ⟨b', off', hh, _, _, h1, h2⟩ := hd.room j hj
        cases hh
        exact ⟨h1, h2⟩
      have hcl : ∀ j (h : j < xs.length), w.cell? ⟨b, off + j, none⟩ = some (f xs[j]) := fun j hj => by
        obtain ⟨b', off', hh, _, h1⟩ := hd.sl.hcell j hj
        cases hh
        exact h1
      have hnl : (ys.map f).length = m := by simpa using hyl
      refine ⟨some ⟨b, off, none⟩, cap, w.setCells b (off + len) (ys.map f), ?_, ?_, below_setCells b hb _ _ (Below.refl _ _)⟩
      · have := run_append_room_src (P := P) w t tx ty e i ht hi b off len cap x m (ys.map f) (by rw [hsz]; exact hs) hroom
          (fun j hj => by rw [hsz, Nat.mul_one, Nat.add_assoc]; exact (hrm (len + j) (by omega)).1) (fun j hj => by rw [hsz, Nat.mul_one, Nat.add_assoc]; exact (hrm (len + j) (by omega)).2)
        rw [hsz, Nat.mul_one] at this
        exact this
      · have hbl := below_setCells (B := b) b (Nat.le_refl _) (ys.map f) (off + len) (Below.refl b w)
        have hin := World.cell?_setCells_in b (ys.map f) (off + len) w (fun j hj => by rw [Nat.add_assoc]; exact (hrm (len + j) (by omega)).1)
        have hout := fun j (hj : j < len) => World.cell?_setCells_out b (ys.map f) (off + len) w ⟨b, off + j, none⟩ (fun _ _ => .inl (by show off + j < off + len; omega))
        refine ⟨Sl.of (by simp [hl, hyl]) hroom hmx (Nat.lt_of_lt_of_le hlt hbl.size) fun j hj => ?_, fun j hj => ⟨b, off, rfl, hb, Nat.lt_of_lt_of_le hlt hbl.size, ?_, ?_⟩⟩
        · by_cases hjl : j < len
          · rw [hout j hjl, hcl j (by omega), List.getElem_append_left (by omega)]
          · have hj2 : j - len < (ys.map f).length := by simp at hj ⊢; omega
            have := hin (j - len) hj2
            rw [show off + len + (j - len) = off + j by omega] at this
            rw [this, List.getElem_append_right (by omega), List.getElem_map]
            congr 2
            simp [hl]
        · by_cases hjl : j < len
          · rw [hout j hjl]; exact (hrm j hj).1
          · by_cases hj2 : j - len < (ys.map f).length
            · have := hin (j - len) hj2
              rw [show off + len + (j - len) = off + j by omega] at this
              rw [this]; rfl
            · rw [World.cell?_setCells_out b (ys.map f) (off + len) w ⟨b, off + j, none⟩ (fun _ _ => .inr (by show off + len + _ ≤ off + j; omega))]
              exact (hrm j hj).1
        · rw [World.frozen?_setCells]; exact (hrm j hj).2
  · have hgc := grownCap_ge w (len + m) cap e
    have hgm := grownCap_le_maxLen w (len + m) cap e h63
    have hrun := run_append_grow_src (P := P) w t tx ty e i z ht hi hz a len cap (xs.map f) (by rw [hsz]; exact hd.sl.drew.first) x m (ys.map f) (by rw [hsz]; exact hs) (by omega) (by omega) (growslice_fits (by omega) hbytes)
    refine ⟨_, _, _, hrun, ?_, ((Below.refl _ _).drew).alloc hB _⟩
    refine Own.block hB (heap_alloc_new w.drew _) (by simp [hl, hyl]) hgc hgm (by simp [size_zeroCells, hzs, hl, hyl]; omega) fun j hj => ?_
    have hj' : j < xs.length + ys.length := by simpa using hj
    rw [Array.getElem?_append_left (by simpa using hj')]
    simp only [← List.map_append, List.getElem?_toArray, List.getElem?_map]
    rw [List.getElem?_eq_getElem hj]; rfl

/-- At the operation. -/
theorem wp_append {w : World} {o : Oper} {act : Act} {K : Act → World → Prop} {Q : Exit → Act → World → Prop} (s x : Operand) (t tx : TypeId)
    (ho : o.op = .call { callee := .builtin .append, args := #[s, x], argTypes := #[t, tx] }) (B : Nat) (e : TypeId) (i : TypeInfo) (z : Value) (ht : P.underlying t = some (.slice e)) (hi : P.info? e = some i) (hz : i.zero = some z) (hsz : i.size = 1) (hzs : z.cells.size = 1)
    (a : Option Addr) (len cap : Nat) (xs : List α) (hs : act.eval s = .slice a len cap) (hd : Own f w B a len cap xs) (vx : Value) (m : Nat) (ys : List α) (hx : act.eval x = vx) (hsrc : Src P 1 tx vx m (ys.map f) w)
    (hbytes : (len + m) * i.bytes ≤ 140737488355328) (h63 : len + m ≤ maxLen) (hB : B ≤ w.heap.size)
    (h : ∀ a' cap' w', Own f w' B a' (len + m) cap' (xs ++ ys) → Below B w w' → K (act.put o.dst (.slice a' (len + m) cap')) w') : o.wp P act w K Q := by
  obtain ⟨a', cap', w', hr, h2, h3⟩ := run_append (P := P) w B t tx o.type e i z ht hi hz hsz hzs a len cap xs hd vx m ys hsrc hbytes h63 hB
  unfold Oper.wp execOp
  simp only [ho, resolve, invoke, builtin, Sem.run_bind, Sem.run_pure, Result.andThen_ok, List.map_toArray, List.map_cons, List.map_nil, hs, hx, hr]
  exact h a' cap' w' h2 h3

/-- In a region that keeps its order; the operation's guard, if it has one, says yes. -/
theorem wpList_append {w : World} {ops : Array Oper} {rest : List Oper} {o : Oper} {act : Act} {Q : Exit → Act → World → Prop} (hw : Region.wanted o (yielded ops act.tmps) = true) (s x : Operand) (t tx : TypeId)
    (ho : o.op = .call { callee := .builtin .append, args := #[s, x], argTypes := #[t, tx] }) (B : Nat) (e : TypeId) (i : TypeInfo) (z : Value) (ht : P.underlying t = some (.slice e)) (hi : P.info? e = some i) (hz : i.zero = some z) (hsz : i.size = 1) (hzs : z.cells.size = 1)
    (a : Option Addr) (len cap : Nat) (xs : List α) (hs : act.eval s = .slice a len cap) (hd : Own f w B a len cap xs) (vx : Value) (m : Nat) (ys : List α) (hx : act.eval x = vx) (hsrc : Src P 1 tx vx m (ys.map f) w)
    (hbytes : (len + m) * i.bytes ≤ 140737488355328) (h63 : len + m ≤ maxLen) (hB : B ≤ w.heap.size)
    (h : ∀ a' cap' w', Own f w' B a' (len + m) cap' (xs ++ ys) → Below B w w' → wpList P ops Q rest (act.put o.dst (.slice a' (len + m) cap')) w') : wpList P ops Q (o :: rest) act w :=
  BigFrame.wpList_want hw fun _ hK => wp_append s x t tx ho B e i z ht hi hz hsz hzs a len cap xs hs hd vx m ys hx hsrc hbytes h63 hB fun a' cap' w' h2 h3 => hK _ _ (h a' cap' w' h2 h3)

end

end Go.Proofs.Ytaokbaddleplfaa

namespace Go.Proofs.Ytaokbaddleplfaa
open Go.RowKit

theorem Try.infoB : (Try.prog.info? 5).map (fun i => (i.zero, i.size, i.bytes)) = some (some (.int .u8 0), 1, 1) := by kernel_rfl

/-- 'append(dst, src...)' of bytes. -/
theorem app {w : World} {ops : Array Oper} {rest : List Oper} {o : Oper} {act : Act} {Q : Exit → Act → World → Prop} (hw : Region.wanted o (yielded ops act.tmps) = true) (s x : Operand)
    (ho : o.op = .call { callee := .builtin .append, args := #[s, x], argTypes := #[22, 22] }) (B : Nat) {a a2 : Option Addr} {len cap m c2 : Nat} {xs ys : List UInt8}
    (hs : act.eval s = .slice a len cap) (hd : Own byteV w B a len cap xs) (hx : act.eval x = .slice a2 m c2) (hsrc : Bs w a2 m c2 ys) (hsmall : len + m ≤ 1000000) (hB : B ≤ w.heap.size)
    (h : ∀ a' cap' w', Own byteV w' B a' (len + m) cap' (xs ++ ys) → Below B w w' → wpList Try.prog ops Q rest (act.put o.dst (.slice a' (len + m) cap')) w') : wpList Try.prog ops Q (o :: rest) act w := by
  obtain ⟨i0, hi, hz0, hz1, hz2⟩ := info_parts Try.infoB
  exact wpList_append hw s x 22 22 ho B 5 i0 (.int .u8 0) Try.underlying22 hi hz0 hz1 rfl a len cap xs hs hd _ m ys hx (hsrc.src (fun _ => rfl) Try.underlying22) (by rw [hz2]; omega) (by unfold maxLen; omega) hB h

/-- A literal of one byte. -/
theorem one_own (w : World) (v : Int) (n : Nat) (hv : v = n) (h : n < 256) (t : TypeId) : Own byteV (w.alloc (.cells #[.int .u8 v] t)) w.heap.size (some ⟨w.heap.size, 0, none⟩) 1 1 [UInt8.ofNat n] :=
  Own.fresh w [UInt8.ofNat n] [.int .u8 v] t 1 rfl (by unfold maxLen; omega) (by simp only [List.map_cons, List.map_nil, byteV, UInt8.toNat_ofNat']; congr 2; omega)

end Go.Proofs.Ytaokbaddleplfaa

namespace Go.Proofs.Ytaokbaddleplfaa
open Go.RowKit

/-- 'append(dst, src...)' of bytes, at a step of a region that draws its order. -/
theorem step_app {w : World} {ops : Array Oper} {o : Oper} {act : Act} {K : Act → World → Prop} {Q : Exit → Act → World → Prop} {E : Prop} (hw : o.guard = none) (s x : Operand)
    (ho : o.op = .call { callee := .builtin .append, args := #[s, x], argTypes := #[22, 22] }) (B : Nat) {a a2 : Option Addr} {len cap m c2 : Nat} {xs ys : List UInt8}
    (hs : act.eval s = .slice a len cap) (hd : Own byteV w B a len cap xs) (hx : act.eval x = .slice a2 m c2) (hsrc : Bs w a2 m c2 ys) (hsmall : len + m ≤ 1000000) (hB : B ≤ w.heap.size)
    (h : ∀ a' cap' w', Own byteV w' B a' (len + m) cap' (xs ++ ys) → Below B w w' → K (act.put o.dst (.slice a' (len + m) cap')) w') : if Region.wanted o (yielded ops act.tmps) = true then Oper.wp Try.prog o act w K Q else E := by
  have hw' : Region.wanted o (yielded ops act.tmps) = true := by simp [Region.wanted, hw]
  rw [if_pos hw']
  obtain ⟨i0, hi, hz0, hz1, hz2⟩ := info_parts Try.infoB
  exact wp_append s x 22 22 ho B 5 i0 (.int .u8 0) Try.underlying22 hi hz0 hz1 rfl a len cap xs hs hd _ m ys hx (hsrc.src (fun _ => rfl) Try.underlying22) (by rw [hz2]; omega) (by unfold maxLen; omega) hB h

/-- 'make([]byte, l, c)'. -/
theorem make_bytes (l c : Nat) (hlc : l ≤ c) (hc : c ≤ 1000000) (w : World) :
    (Instr.makeSlice 22 (.int .i64 l) (.int .i64 c)).run Try.prog w = .ok (.slice (some ⟨w.heap.size, 0, none⟩) l c) (w.alloc (.cells (madeCells #[.int .u8 0] c) 5)) := by
  obtain ⟨i0, hi, hz0, hz1, hz2⟩ := info_parts Try.infoB
  have := run_make (P := Try.prog) w 22 5 i0 _ Try.underlying22 hi hz0 .i64 .i64 l c (by omega) (by omega) (by rw [hz2]; omega) (by omega)
  rw [hz1] at this
  simpa [Value.cells] using this
theorem made_own (w : World) (c : Nat) (hc : c ≤ 1000000) (t : TypeId) : Own byteV (w.alloc (.cells (madeCells #[.int .u8 0] c) t)) w.heap.size (some ⟨w.heap.size, 0, none⟩) 0 c [] :=
  Own.block (Nat.le_refl _) (heap_alloc_new _ _) rfl (Nat.zero_le _) (by unfold maxLen; omega) (by simp [size_madeCells]) fun i hi => absurd hi (by simp)

end Go.Proofs.Ytaokbaddleplfaa

namespace Go.Proofs.Ytaokbaddleplfaa
open Go.RowKit

/-- From here on another condition, which says more. -/
theorem wpAnyH_sub {P : Program} {ops : Array Oper} {Q : Exit → Act → World → Prop} {md : Region.Mode} {S : World → Prop} (S' : World → Prop) (hs : ∀ w, S' w → S w) :
    ∀ (fuel : Nat) (listed : Array Bool) (a : Act) (w : World), wpAnyH P md ops Q S' fuel listed a w → wpAnyH P md ops Q S fuel listed a w
  | 0, _, _, _, h => h
  | fuel + 1, _, _, _, h => ⟨h.1, fun i hi => wpOp_mono (fun a' w' h' => ⟨hs _ h'.1, wpAnyH_sub S' hs fuel _ a' w' h'.2⟩) (h.2 i hi)⟩

/-- 'append(dst, src...)' of bytes, at a step whose guard says yes. -/
theorem step_app' {w : World} {ops : Array Oper} {o : Oper} {act : Act} {K : Act → World → Prop} {Q : Exit → Act → World → Prop} {E : Prop} (hw' : Region.wanted o (yielded ops act.tmps) = true) (s x : Operand)
    (ho : o.op = .call { callee := .builtin .append, args := #[s, x], argTypes := #[22, 22] }) (B : Nat) {a a2 : Option Addr} {len cap m c2 : Nat} {xs ys : List UInt8}
    (hs : act.eval s = .slice a len cap) (hd : Own byteV w B a len cap xs) (hx : act.eval x = .slice a2 m c2) (hsrc : Bs w a2 m c2 ys) (hsmall : len + m ≤ 1000000) (hB : B ≤ w.heap.size)
    (h : ∀ a' cap' w', Own byteV w' B a' (len + m) cap' (xs ++ ys) → Below B w w' → K (act.put o.dst (.slice a' (len + m) cap')) w') : if Region.wanted o (yielded ops act.tmps) = true then Oper.wp Try.prog o act w K Q else E := by
  rw [if_pos hw']
  obtain ⟨i0, hi, hz0, hz1, hz2⟩ := info_parts Try.infoB
  exact wp_append s x 22 22 ho B 5 i0 (.int .u8 0) Try.underlying22 hi hz0 hz1 rfl a len cap xs hs hd _ m ys hx (hsrc.src (fun _ => rfl) Try.underlying22) (by rw [hz2]; omega) (by unfold maxLen; omega) hB h
/-- The same, onto an empty literal. -/
theorem step_app0 {w : World} {ops : Array Oper} {o : Oper} {act : Act} {K : Act → World → Prop} {Q : Exit → Act → World → Prop} {E : Prop} (hw' : Region.wanted o (yielded ops act.tmps) = true) (s x : Operand)
    (ho : o.op = .call { callee := .builtin .append, args := #[s, x], argTypes := #[22, 22] }) (B : Nat) {a a2 : Option Addr} {m c2 : Nat} {ys : List UInt8}
    (hs : act.eval s = .slice a 0 0) (hx : act.eval x = .slice a2 m c2) (hsrc : Bs w a2 m c2 ys) (hsmall : m ≤ 1000000) (hB : B ≤ w.heap.size)
    (h : ∀ a' cap' w', Own byteV w' B a' m cap' ys → Below B w w' → K (act.put o.dst (.slice a' m cap')) w') : if Region.wanted o (yielded ops act.tmps) = true then Oper.wp Try.prog o act w K Q else E :=
  step_app' hw' s x ho B hs (Own.empty _ _ _) hx hsrc (by omega) hB (fun a' c' w' h1 h2 => by rw [Nat.zero_add] at h1 ⊢; exact h a' c' w' h1 h2)

end Go.Proofs.Ytaokbaddleplfaa

namespace Go.Proofs.Ytaokbaddleplfaa
open Go.RowKit

abbrev boolV (x : Bool) : Value := .bool x
abbrev Ls := @Sl Bool boolV

/-- A slice of bools that came in, as the law's text opens it. -/
theorem Ls.ofNone (w : World) : Ls w none 0 0 [] := Sl.nil _ _ (by unfold maxLen; omega)
theorem Ls.ofCells {w : World} {x : Addr} {len cap : Nat} {z : Nat → Bool} (hl : len ≤ cap) (hm : cap ≤ maxLen) (hc : ∀ i, i < cap → w.cell? (x.add i) = some (.bool (z i))) :
    Ls w (some x) len cap ((List.range len).map z) := by
  refine ⟨by simp, hl, hm, fun i hi => ?_⟩
  have hi' : i < len := by simpa using hi
  obtain ⟨b, off, spot⟩ := x
  have h1 := hc i (by omega)
  have hspot : spot = none := by simpa [Addr.add] using World.cell?_spot (hc 0 (by omega))
  subst hspot
  have hadd : (⟨b, off, none⟩ : Addr).add i = ⟨b, off + i, none⟩ := by simp [Addr.add]
  rw [hadd] at h1
  refine ⟨b, off, rfl, ?_, ?_⟩
  · rcases Nat.lt_or_ge b w.heap.size with hlt | hge
    · exact hlt
    · simp [World.cell?, Array.getElem?_eq_none hge] at h1
  · rw [h1]; simp

theorem Try.infoL : (Try.prog.info? 4).map (fun i => (i.zero, i.size, i.bytes)) = some (some (.bool false), 1, 1) := by kernel_rfl

/-- 'append(dst, src...)' of bools. -/
theorem appL {w : World} {ops : Array Oper} {rest : List Oper} {o : Oper} {act : Act} {Q : Exit → Act → World → Prop} (hw : Region.wanted o (yielded ops act.tmps) = true) (s x : Operand)
    (ho : o.op = .call { callee := .builtin .append, args := #[s, x], argTypes := #[26, 26] }) (B : Nat) {a a2 : Option Addr} {len cap m c2 : Nat} {xs ys : List Bool}
    (hs : act.eval s = .slice a len cap) (hd : Own boolV w B a len cap xs) (hx : act.eval x = .slice a2 m c2) (hsrc : Ls w a2 m c2 ys) (hsmall : len + m ≤ 1000000) (hB : B ≤ w.heap.size)
    (h : ∀ a' cap' w', Own boolV w' B a' (len + m) cap' (xs ++ ys) → Below B w w' → wpList Try.prog ops Q rest (act.put o.dst (.slice a' (len + m) cap')) w') : wpList Try.prog ops Q (o :: rest) act w := by
  obtain ⟨i0, hi, hz0, hz1, hz2⟩ := info_parts Try.infoL
  exact wpList_append hw s x 26 26 ho B 4 i0 (.bool false) Try.underlying26 hi hz0 hz1 rfl a len cap xs hs hd _ m ys hx (hsrc.src (fun _ => rfl) Try.underlying26) (by rw [hz2]; omega) (by unfold maxLen; omega) hB h

/-- The same, at a step of a region that draws its order. -/
theorem step_appL {w : World} {ops : Array Oper} {o : Oper} {act : Act} {K : Act → World → Prop} {Q : Exit → Act → World → Prop} {E : Prop} (hw : o.guard = none) (s x : Operand)
    (ho : o.op = .call { callee := .builtin .append, args := #[s, x], argTypes := #[26, 26] }) (B : Nat) {a a2 : Option Addr} {len cap m c2 : Nat} {xs ys : List Bool}
    (hs : act.eval s = .slice a len cap) (hd : Own boolV w B a len cap xs) (hx : act.eval x = .slice a2 m c2) (hsrc : Ls w a2 m c2 ys) (hsmall : len + m ≤ 1000000) (hB : B ≤ w.heap.size)
    (h : ∀ a' cap' w', Own boolV w' B a' (len + m) cap' (xs ++ ys) → Below B w w' → K (act.put o.dst (.slice a' (len + m) cap')) w') : if Region.wanted o (yielded ops act.tmps) = true then Oper.wp Try.prog o act w K Q else E := by
  have hw' : Region.wanted o (yielded ops act.tmps) = true := by simp [Region.wanted, hw]
  rw [if_pos hw']
  obtain ⟨i0, hi, hz0, hz1, hz2⟩ := info_parts Try.infoL
  exact wp_append s x 26 26 ho B 4 i0 (.bool false) Try.underlying26 hi hz0 hz1 rfl a len cap xs hs hd _ m ys hx (hsrc.src (fun _ => rfl) Try.underlying26) (by rw [hz2]; omega) (by unfold maxLen; omega) hB h

/-- 'make([]bool, l, c)'. -/
theorem make_bools (l c : Nat) (hlc : l ≤ c) (hc : c ≤ 1000000) (w : World) :
    (Instr.makeSlice 26 (.int .i64 l) (.int .i64 c)).run Try.prog w = .ok (.slice (some ⟨w.heap.size, 0, none⟩) l c) (w.alloc (.cells (madeCells #[.bool false] c) 4)) := by
  obtain ⟨i0, hi, hz0, hz1, hz2⟩ := info_parts Try.infoL
  have := run_make (P := Try.prog) w 26 4 i0 _ Try.underlying26 hi hz0 .i64 .i64 l c (by omega) (by omega) (by rw [hz2]; omega) (by omega)
  rw [hz1] at this
  simpa [Value.cells] using this

theorem madeCells_one (v : Value) (c i : Nat) (h : i < c) : (madeCells #[v] c)[i]? = some v := by
  unfold madeCells
  simp [h, Nat.mod_one]

/-- What 'make' lays, read whole. -/
theorem made_all {α : Type} {f : α → Value} (z : α) (w : World) (c : Nat) (hc : c ≤ 1000000) (t : TypeId) : Own f (w.alloc (.cells (madeCells #[f z] c) t)) w.heap.size (some ⟨w.heap.size, 0, none⟩) c c (List.replicate c z) :=
  Own.block (Nat.le_refl _) (heap_alloc_new _ _) (by simp) (Nat.le_refl _) (by unfold maxLen; omega) (by simp [size_madeCells]) fun i hi => by
    have : i < c := by simpa using hi
    rw [madeCells_one _ _ _ this]; simp

/-- A literal of one bool. -/
theorem one_ownL (w : World) (v : Bool) (t : TypeId) : Own boolV (w.alloc (.cells #[.bool v] t)) w.heap.size (some ⟨w.heap.size, 0, none⟩) 1 1 [v] :=
  Own.fresh w [v] [.bool v] t 1 rfl (by unfold maxLen; omega) rfl

end Go.Proofs.Ytaokbaddleplfaa

namespace Go.Proofs.Ytaokbaddleplfaa
open Go.RowKit

abbrev wordV (x : UInt16) : Value := .int .u16 (x.toNat : Int)
abbrev Ws := @Sl UInt16 wordV
theorem word_lt (x : UInt16) : x.toNat < 65536 := x.toNat_lt

/-- A slice of numbers that came in, as the shell hands it. -/
theorem Ws.ofRow {w : World} {a : Option Addr} {len cap : Nat} {zs : List Int}
    (h : (a = none ∧ len = 0 ∧ cap = 0 ∧ zs = []) ∨ ∃ x, a = some x ∧ len ≤ cap ∧ cap ≤ maxLen ∧ zs.length = cap ∧ (∀ i, i < zs.length → w.cell? (x.add i) = some (.int .u16 (zs.getD i 0))) ∧ ∀ n ∈ zs, (Lit.int .u16 n).wf = true) :
    ∃ xs : List UInt16, Ws w a len cap xs := by
  rcases h with ⟨rfl, rfl, rfl, rfl⟩ | ⟨x, rfl, hl, hm, hz, hc, hw⟩
  · exact ⟨[], Sl.nil _ _ (by unfold maxLen; omega)⟩
  · refine ⟨(zs.take len).map fun n => UInt16.ofNat n.toNat, by simp; omega, hl, hm, fun i hi => ?_⟩
    have hi' : i < len := by simp at hi; omega
    obtain ⟨b, off, spot⟩ := x
    have h1 := hc i (by omega)
    have hspot : spot = none := by simpa [Addr.add] using World.cell?_spot (hc 0 (by omega))
    subst hspot
    have hadd : (⟨b, off, none⟩ : Addr).add i = ⟨b, off + i, none⟩ := by simp [Addr.add]
    rw [hadd] at h1
    refine ⟨b, off, rfl, ?_, ?_⟩
    · rcases Nat.lt_or_ge b w.heap.size with hlt | hge
      · exact hlt
      · simp [World.cell?, Array.getElem?_eq_none hge] at h1
    · rw [h1]
      have hmem : zs.getD i 0 ∈ zs := by
        rw [List.getD_eq_getElem?_getD, List.getElem?_eq_getElem (by omega)]; simp
      have hb := bounds_u16 (hw _ hmem)
      have : ((zs.take len).map fun n => UInt16.ofNat n.toNat)[i]'hi = UInt16.ofNat (zs.getD i 0).toNat := by
        rw [List.getElem_map, List.getElem_take, List.getD_eq_getElem?_getD, List.getElem?_eq_getElem (by omega)]; rfl
      rw [this]
      show some (Value.int .u16 _) = some (.int .u16 _)
      rw [UInt16.toNat_ofNat']
      congr 2
      omega

theorem Try.infoW : (Try.prog.info? 24).map (fun i => (i.zero, i.size, i.bytes)) = some (some (.int .u16 0), 1, 2) := by kernel_rfl

/-- 'append(dst, src...)' of numbers. -/
theorem app16 {w : World} {ops : Array Oper} {rest : List Oper} {o : Oper} {act : Act} {Q : Exit → Act → World → Prop} (hw : Region.wanted o (yielded ops act.tmps) = true) (s x : Operand)
    (ho : o.op = .call { callee := .builtin .append, args := #[s, x], argTypes := #[25, 25] }) (B : Nat) {a a2 : Option Addr} {len cap m c2 : Nat} {xs ys : List UInt16}
    (hs : act.eval s = .slice a len cap) (hd : Own wordV w B a len cap xs) (hx : act.eval x = .slice a2 m c2) (hsrc : Ws w a2 m c2 ys) (hsmall : len + m ≤ 1000000) (hB : B ≤ w.heap.size)
    (h : ∀ a' cap' w', Own wordV w' B a' (len + m) cap' (xs ++ ys) → Below B w w' → wpList Try.prog ops Q rest (act.put o.dst (.slice a' (len + m) cap')) w') : wpList Try.prog ops Q (o :: rest) act w := by
  obtain ⟨i0, hi, hz0, hz1, hz2⟩ := info_parts Try.infoW
  exact wpList_append hw s x 25 25 ho B 24 i0 (.int .u16 0) Try.underlying25 hi hz0 hz1 rfl a len cap xs hs hd _ m ys hx (hsrc.src (fun _ => rfl) Try.underlying25) (by rw [hz2]; omega) (by unfold maxLen; omega) hB h

/-- The same, at a step of a region that draws its order. -/
theorem step_app16 {w : World} {ops : Array Oper} {o : Oper} {act : Act} {K : Act → World → Prop} {Q : Exit → Act → World → Prop} {E : Prop} (hw : o.guard = none) (s x : Operand)
    (ho : o.op = .call { callee := .builtin .append, args := #[s, x], argTypes := #[25, 25] }) (B : Nat) {a a2 : Option Addr} {len cap m c2 : Nat} {xs ys : List UInt16}
    (hs : act.eval s = .slice a len cap) (hd : Own wordV w B a len cap xs) (hx : act.eval x = .slice a2 m c2) (hsrc : Ws w a2 m c2 ys) (hsmall : len + m ≤ 1000000) (hB : B ≤ w.heap.size)
    (h : ∀ a' cap' w', Own wordV w' B a' (len + m) cap' (xs ++ ys) → Below B w w' → K (act.put o.dst (.slice a' (len + m) cap')) w') : if Region.wanted o (yielded ops act.tmps) = true then Oper.wp Try.prog o act w K Q else E := by
  have hw' : Region.wanted o (yielded ops act.tmps) = true := by simp [Region.wanted, hw]
  rw [if_pos hw']
  obtain ⟨i0, hi, hz0, hz1, hz2⟩ := info_parts Try.infoW
  exact wp_append s x 25 25 ho B 24 i0 (.int .u16 0) Try.underlying25 hi hz0 hz1 rfl a len cap xs hs hd _ m ys hx (hsrc.src (fun _ => rfl) Try.underlying25) (by rw [hz2]; omega) (by unfold maxLen; omega) hB h

/-- 'make([]uint16, l, c)'. -/
theorem make_words (l c : Nat) (hlc : l ≤ c) (hc : c ≤ 1000000) (w : World) :
    (Instr.makeSlice 25 (.int .i64 l) (.int .i64 c)).run Try.prog w = .ok (.slice (some ⟨w.heap.size, 0, none⟩) l c) (w.alloc (.cells (madeCells #[.int .u16 0] c) 24)) := by
  obtain ⟨i0, hi, hz0, hz1, hz2⟩ := info_parts Try.infoW
  have := run_make (P := Try.prog) w 25 24 i0 _ Try.underlying25 hi hz0 .i64 .i64 l c (by omega) (by omega) (by rw [hz2]; omega) (by omega)
  rw [hz1] at this
  simpa [Value.cells] using this
theorem made_own16 (w : World) (c : Nat) (hc : c ≤ 1000000) (t : TypeId) : Own wordV (w.alloc (.cells (madeCells #[.int .u16 0] c) t)) w.heap.size (some ⟨w.heap.size, 0, none⟩) 0 c [] :=
  Own.block (Nat.le_refl _) (heap_alloc_new _ _) rfl (Nat.zero_le _) (by unfold maxLen; omega) (by simp [size_madeCells]) fun i hi => absurd hi (by simp)

/-- A literal of one number; of two bytes. -/
theorem one_own16 (w : World) (v : Int) (n : Nat) (hv : v = n) (h : n < 65536) (t : TypeId) : Own wordV (w.alloc (.cells #[.int .u16 v] t)) w.heap.size (some ⟨w.heap.size, 0, none⟩) 1 1 [UInt16.ofNat n] :=
  Own.fresh w [UInt16.ofNat n] [.int .u16 v] t 1 rfl (by unfold maxLen; omega) (by simp only [List.map_cons, List.map_nil, wordV, UInt16.toNat_ofNat']; congr 2; omega)
theorem two_own (w : World) (u v : Int) (m n : Nat) (hu : u = m) (hv : v = n) (hm : m < 256) (hn : n < 256) (t : TypeId) : Own byteV (w.alloc (.cells #[.int .u8 u, .int .u8 v] t)) w.heap.size (some ⟨w.heap.size, 0, none⟩) 2 2 [UInt8.ofNat m, UInt8.ofNat n] :=
  Own.fresh w [UInt8.ofNat m, UInt8.ofNat n] [.int .u8 u, .int .u8 v] t 2 rfl (by unfold maxLen; omega) (by
    subst hu hv
    simp only [List.map_cons, List.map_nil, byteV, UInt8.toNat_ofNat']
    rw [Nat.mod_eq_of_lt hm, Nat.mod_eq_of_lt hn])

end Go.Proofs.Ytaokbaddleplfaa

namespace Go.Proofs.Ytaokbaddleplfaa
namespace Word

def hiB (x : UInt16) : UInt8 := UInt8.ofNat (x.toNat / 256)
def loB (x : UInt16) : UInt8 := UInt8.ofNat (x.toNat % 256)
def word (a b : UInt8) : UInt16 := UInt16.ofNat (256 * a.toNat + b.toNat)
def putW : List UInt16 → List UInt8
  | [] => []
  | x :: xs => hiB x :: loB x :: putW xs
def pairs : List UInt8 → List UInt16
  | a :: b :: r => word a b :: pairs r
  | _ => []
/-- What Take tells. -/
def takeW (s : List UInt8) : List UInt16 := if s.length % 2 = 1 then [] else pairs s
/-- What Within tells. -/
def within (addr : Nat) (count : Int) : Bool := decide (1 ≤ count ∧ count + addr ≤ 65536)

theorem putW_length (xs : List UInt16) : (putW xs).length = 2 * xs.length := by
  induction xs with
  | nil => rfl
  | cons x xs ih => simp only [putW, List.length_cons, ih]; omega
theorem putW_append (xs ys : List UInt16) : putW (xs ++ ys) = putW xs ++ putW ys := by
  induction xs with
  | nil => rfl
  | cons x xs ih => simp only [putW, List.cons_append, ih]
theorem putW_take (xs : List UInt16) (k : Nat) (h : k < xs.length) : putW (xs.take (k + 1)) = putW (xs.take k) ++ [hiB xs[k], loB xs[k]] := by
  rw [List.take_succ_eq_append_getElem h, putW_append]; rfl
theorem word_hi_lo (x : UInt16) : word (hiB x) (loB x) = x := by
  have hx := word_lt x
  apply UInt16.toNat.inj
  unfold word hiB loB
  rw [UInt16.toNat_ofNat', UInt8.toNat_ofNat', UInt8.toNat_ofNat']
  omega
theorem word_toNat (a b : UInt8) : (word a b).toNat = 256 * a.toNat + b.toNat := by
  have := byte_lt a
  have := byte_lt b
  unfold word
  rw [UInt16.toNat_ofNat']
  omega
theorem hi_word (a b : UInt8) : hiB (word a b) = a := by
  have := byte_lt a
  have := byte_lt b
  apply UInt8.toNat.inj
  unfold hiB
  rw [UInt8.toNat_ofNat', word_toNat]
  omega
theorem lo_word (a b : UInt8) : loB (word a b) = b := by
  have := byte_lt a
  have := byte_lt b
  apply UInt8.toNat.inj
  unfold loB
  rw [UInt8.toNat_ofNat', word_toNat]
  omega
theorem pairs_putW (xs : List UInt16) : pairs (putW xs) = xs := by
  induction xs with
  | nil => rfl
  | cons x xs ih => simp only [putW, pairs, ih, word_hi_lo]
/-- What is put is taken. -/
theorem takeW_putW (xs : List UInt16) : takeW (putW xs) = xs := by
  unfold takeW
  rw [if_neg (by rw [putW_length]; omega), pairs_putW]
theorem putW_pairs : ∀ (s : List UInt8), s.length % 2 = 0 → putW (pairs s) = s
  | [], _ => rfl
  | [_], h => by simp at h
  | a :: b :: r, h => by
    have := putW_pairs r (by simp at h; omega)
    simp only [pairs, putW, this, hi_word, lo_word]
/-- What is taken is put. -/
theorem putW_takeW (s : List UInt8) : putW (takeW s) = if s.length % 2 = 1 then [] else s := by
  unfold takeW
  split
  · rfl
  · exact putW_pairs s (by omega)
theorem pairs_length (s : List UInt8) (h : s.length % 2 = 0) : 2 * (pairs s).length = s.length := by
  rw [← putW_length, putW_pairs s h]
theorem takeW_length (s : List UInt8) : (takeW s).length ≤ s.length := by
  unfold takeW
  split
  · simp
  · have := pairs_length s (by omega); omega
theorem pairs_append (k : Nat) : ∀ (p q : List UInt8), p.length = 2 * k → pairs (p ++ q) = pairs p ++ pairs q := by
  induction k with
  | zero => intro p q h; have : p = [] := List.eq_nil_of_length_eq_zero (by omega); subst this; simp [pairs]
  | succ k ih =>
    intro p q h
    match p, h with
    | [], h => simp at h
    | [_], h => simp at h; omega
    | a :: b :: r, h =>
      have hr : r.length = 2 * k := by simp at h; omega
      simp only [List.cons_append, pairs, ih r q hr]
theorem pairs_more (s : List UInt8) (k : Nat) (h : 2 * k + 1 < s.length) :
    pairs (s.take (2 * (k + 1))) = pairs (s.take (2 * k)) ++ [word (s[2 * k]'(by omega)) s[2 * k + 1]] := by
  have : s.take (2 * (k + 1)) = s.take (2 * k) ++ [s[2 * k], s[2 * k + 1]] := by
    rw [show 2 * (k + 1) = (2 * k + 1) + 1 from rfl, List.take_succ_eq_append_getElem h, List.take_succ_eq_append_getElem (show 2 * k < s.length by omega), List.append_assoc]; rfl
  rw [this, pairs_append k _ _ (by simp; omega)]
  rfl

end Word
end Go.Proofs.Ytaokbaddleplfaa
