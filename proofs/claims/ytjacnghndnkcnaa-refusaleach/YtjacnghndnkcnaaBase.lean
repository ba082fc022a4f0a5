/-
  Slices in a world: what a slice reads, and that it reads the same behind whatever a call lays beside it.
-/
import Derived.WalkKit
import Derived.WalkLawsBesides
import Derived.ProofKit
import Derived.OpenShut
import Derived.Laws.BytesArg
import Derived.Lib.Strings
namespace Go.Proofs.Ytjacnghndnkcnaa
open Go.RowKit

theorem hide {p : Prop} (h : p) : Hid p := h
theorem byte_lt (x : UInt8) : x.toNat < 256 := x.toNat_lt
theorem ret_bool {a b : Bool} (h : a = b) : Ending.returned (.bool a) = .returned (.bool b) := by rw [h]
theorem ret_int {k : IntKind} {a b : Int} (h : a = b) : Ending.returned (.int k a) = .returned (.int k b) := by rw [h]

theorem below_setRow {B : Nat} {a w : World} (h : Below B a w) {g : Nat} (hg : B ≤ g) (cs : Array Value) : Below B a (w.setRow g cs) :=
  h.trans ⟨rfl, rfl, rfl, by simp, fun k hk => setRow_other w g k cs (by omega)⟩
theorem below_draws {B : Nat} {a w : World} (h : Below B a w) (n : Nat) : Below B a (w.drewN n) := h.trans ⟨rfl, rfl, rfl, Nat.le_refl _, fun _ _ => rfl⟩
theorem beq_cast (a b : Nat) : ((a : Int) == (b : Int)) = decide (a = b) := by
  rw [Bool.eq_iff_iff]; simp; omega
theorem nat_u16 {n : Int} (h : (Lit.int .u16 n).wf = true) : ∃ s : Nat, n = s ∧ s < 65536 := ⟨n.toNat, by have := bounds_u16 h; omega, by have := bounds_u16 h; omega⟩
theorem nat_u8 {n : Int} (h : (Lit.int .u8 n).wf = true) : ∃ s : Nat, n = s ∧ s < 256 := ⟨n.toNat, by have := bounds_u8 h; omega, by have := bounds_u8 h; omega⟩
/-- One step behind another, the second told of its own blocks. -/
theorem below_next {a b c : World} {B : Nat} (h : Below B a b) (k : Below b.heap.size b c) (hB : B ≤ a.heap.size) : Below B a c := h.trans (k.mono (Nat.le_trans hB h.size))

/-- The slice at 'a' reads 'xs' in the world 'w', each element as 'f' lays it into its cell. -/
structure Sl {α : Type} (f : α → Value) (w : World) (a : Option Addr) (len cap : Nat) (xs : List α) : Prop where
  hlen : xs.length = len
  hle : len ≤ cap
  hmax : cap ≤ maxLen
  hcell : ∀ i (h : i < xs.length), ∃ b off, a = some ⟨b, off, none⟩ ∧ b < w.heap.size ∧ w.cell? ⟨b, off + i, none⟩ = some (f xs[i])

section
variable {α : Type} {f : α → Value} {w w' : World} {a : Option Addr} {len cap : Nat} {xs : List α}

theorem Sl.mono (h : Sl f w a len cap xs) (hb : Below w.heap.size w w') : Sl f w' a len cap xs :=
  ⟨h.hlen, h.hle, h.hmax, fun i hi => by
    obtain ⟨b, off, ha, hlt, hc⟩ := h.hcell i hi
    exact ⟨b, off, ha, Nat.lt_of_lt_of_le hlt hb.size, (hb.cell (p := ⟨b, off + i, none⟩) hlt).trans hc⟩⟩

theorem Sl.drew (h : Sl f w a len cap xs) : Sl f w.drew a len cap xs := h.mono ((Below.refl _ _).drew)

theorem Sl.alloc (h : Sl f w a len cap xs) (o : Obj) : Sl f (w.alloc o) a len cap xs := h.mono ((Below.refl _ _).alloc (Nat.le_refl _) o)

theorem Sl.nil (w : World) (a : Option Addr) (h : cap ≤ maxLen) : Sl f w a 0 cap [] := ⟨rfl, Nat.zero_le _, h, fun i hi => absurd hi (by simp)⟩

theorem Sl.at (h : Sl f w a len cap xs) (hn : 0 < len) : ∃ b off, a = some ⟨b, off, none⟩ ∧ b < w.heap.size ∧ ∀ i (h : i < xs.length), w.cell? ⟨b, off + i, none⟩ = some (f xs[i]) := by
  obtain ⟨b, off, ha, hlt, _⟩ := h.hcell 0 (by rw [h.hlen]; exact hn)
  refine ⟨b, off, ha, hlt, fun i hi => ?_⟩
  obtain ⟨b', off', ha', _, hc⟩ := h.hcell i hi
  rw [ha] at ha'
  cases ha'
  exact hc

theorem Sl.of {b off : Nat} (h0 : xs.length = len) (h1 : len ≤ cap) (h2 : cap ≤ maxLen) (hb : b < w.heap.size) (h : ∀ i (h : i < xs.length), w.cell? ⟨b, off + i, none⟩ = some (f xs[i])) : Sl f w (some ⟨b, off, none⟩) len cap xs :=
  ⟨h0, h1, h2, fun i hi => ⟨b, off, rfl, hb, h i hi⟩⟩

/-- What is cut off behind: the first 'n'. -/
theorem Sl.take (h : Sl f w a len cap xs) (n : Nat) (hn : n ≤ len) : Sl f w a n cap (xs.take n) :=
  ⟨by have := h.hlen; simp; omega, Nat.le_trans hn h.hle, h.hmax, fun i hi => by
    have hi' : i < xs.length := by simp at hi; omega
    obtain ⟨b, off, ha, hlt, hc⟩ := h.hcell i hi'
    exact ⟨b, off, ha, hlt, by rw [List.getElem_take]; exact hc⟩⟩

/-- What is cut off at the front. -/
theorem Sl.drop {b off : Nat} (h : Sl f w (some ⟨b, off, none⟩) len cap xs) (n : Nat) (hn : n ≤ len) : Sl f w (some ⟨b, off + n, none⟩) (len - n) (cap - n) (xs.drop n) := by
  have h0 := h.hlen
  have h1 := h.hle
  have h2 := h.hmax
  refine ⟨by simp; omega, by omega, by omega, fun i hi => ?_⟩
  have hi' : n + i < xs.length := by simp at hi; omega
  obtain ⟨b', off', ha, hlt, hc⟩ := h.hcell (n + i) hi'
  cases ha
  exact ⟨b, off + n, rfl, hlt, by rw [List.getElem_drop, Nat.add_assoc]; exact hc⟩

/-- A block that lies whole. -/
theorem Sl.block {g : Nat} {cur : Array Value} {t : TypeId} {fr : Nat × Nat} (hg : w.heap[g]? = some (.cells cur t fr)) {off : Nat} (h0 : xs.length = len) (h1 : len ≤ cap) (h2 : cap ≤ maxLen)
    (hc : ∀ i (h : i < xs.length), cur[off + i]? = some (f xs[i])) : Sl f w (some ⟨g, off, none⟩) len cap xs :=
  Sl.of h0 h1 h2 (Array.getElem?_eq_some_iff.1 hg).1 fun i hi => by rw [cell_of_row w g (off + i) cur t fr hg]; exact hc i hi

/-- A new block of a literal's elements. -/
theorem Sl.fresh (w : World) (xs : List α) (cs : List Value) (t : TypeId) (fr : Nat × Nat) (n : Nat) (hn : xs.length = n) (hm : n ≤ maxLen) (h : cs = xs.map f) : Sl f (w.alloc (.cells cs.toArray t fr)) (some ⟨w.heap.size, 0, none⟩) n n xs :=
  Sl.block (heap_alloc_new _ _) hn (Nat.le_refl _) hm fun i hi => by subst h; simp [hi]

end

abbrev byteV (x : UInt8) : Value := .int .u8 (x.toNat : Int)
abbrev Bs := @Sl UInt8 byteV

/-- A slice of bytes that came in, as the shell hands it. -/
theorem Bs.ofRow {w : World} {a : Option Addr} {len cap : Nat} {zs : List Int}
    (h : (a = none ∧ len = 0 ∧ cap = 0 ∧ zs = []) ∨ ∃ x, a = some x ∧ len ≤ cap ∧ cap ≤ maxLen ∧ zs.length = cap ∧ (∀ i, i < zs.length → w.cell? (x.add i) = some (.int .u8 (zs.getD i 0))) ∧ ∀ n ∈ zs, (Lit.int .u8 n).wf = true) :
    ∃ xs : List UInt8, Bs w a len cap xs := by
  rcases h with ⟨rfl, rfl, rfl, rfl⟩ | ⟨x, rfl, hl, hm, hz, hc, hw⟩
  · exact ⟨[], Sl.nil _ _ (by unfold maxLen; omega)⟩
  · refine ⟨(zs.take len).map fun n => UInt8.ofNat n.toNat, by simp; omega, hl, hm, fun i hi => ?_⟩
    have hi' : i < len := by simp at hi; omega
    obtain ⟨b, off, spot⟩ := x
    have h1 := hc i (by omega)
    have hspot : spot = none := by simpa [Addr.add] using World.cell?_spot (hc 0 (by omega))
    subst hspot
    have hadd : (⟨b, off, none⟩ : Addr).add i = ⟨b, off + i, none⟩ := by simp [Addr.add]
    rw [hadd] at h1
    refine ⟨b, off, rfl, ?_, ?_⟩
    · rcases Nat.lt_or_ge b w.heap.size with hlt | hge
      · exact hlt
      · simp [World.cell?, Array.getElem?_eq_none hge] at h1
    · rw [h1]
      have hmem : zs.getD i 0 ∈ zs := by
        rw [List.getD_eq_getElem?_getD, List.getElem?_eq_getElem (by omega)]; simp
      have hb := bounds_u8 (hw _ hmem)
      have : ((zs.take len).map fun n => UInt8.ofNat n.toNat)[i]'hi = UInt8.ofNat (zs.getD i 0).toNat := by
        rw [List.getElem_map, List.getElem_take, List.getD_eq_getElem?_getD, List.getElem?_eq_getElem (by omega)]; rfl
      rw [this]
      show some (Value.int .u8 _) = some (.int .u8 _)
      rw [UInt8.toNat_ofNat']
      congr 2
      omega

/-- A text of these bytes. -/
def strOf (xs : List UInt8) : ByteArray := ⟨xs.toArray⟩
theorem strOf_toList (xs : List UInt8) : (strOf xs).toList = xs := by rw [Lib.toList_data]; rfl

theorem Bs.conv {P : Program} {w : World} {a : Option Addr} {len cap : Nat} {xs : List UInt8} (h : Bs w a len cap xs) (src e : TypeId) (hs : P.underlying src = some (.slice e)) (he : P.underlying e = some (.int .u8)) (dst : TypeId) (hd : P.underlying dst = some .string) :
    (convert src dst (.slice a len cap)).run P w = .ok (.string (strOf xs)) w := by
  have hlen := h.hlen
  by_cases hn : 0 < len
  · obtain ⟨b, off, rfl, _, hc⟩ := h.at hn
    rw [run_convert_bytes_arg w src e hs he b off len cap (xs.map fun x => (x.toNat : Int)) (by simpa using hlen) (fun i hi => by
      rw [hc i (by omega)]; simp [List.getD, show i < xs.length by omega]) dst hd]
    congr 2
    unfold strOfNums strOf
    congr 2
    rw [List.map_map]
    conv => rhs; rw [← List.map_id xs]
    apply List.map_congr_left
    intro x _
    simp
  · have h0 : len = 0 := by omega
    subst h0
    have : xs = [] := by simpa using hlen
    subst this
    cases a with
    | none => exact run_convert_bytes_nil w src e hs he _ _ dst hd
    | some x =>
      rw [run_convert_bytes_string w src dst e _ _ cap hs he hd]
      rw [run_bytesToString w x 0 cap [] (by simpa using run_loadCells_list (P := P) w x [] (fun j v hj => by simp at hj))]
      rfl

end Go.Proofs.Ytjacnghndnkcnaa
