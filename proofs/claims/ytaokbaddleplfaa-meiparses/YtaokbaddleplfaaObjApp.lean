/-
  Slices of things that a device tells, which the call itself has made: 'append' of one; what they read stays while only other blocks are written.
-/
import Derived.Test.YtaokbaddleplfaaRowApp
import Derived.Test.YtaokbaddleplfaaMsg
import Derived.Test.YtaokbaddleplfaaOff
namespace Go.Proofs.Ytaokbaddleplfaa
open Go.RowKit

def objCells (x : ObjM) (v : Value) : List Value := [byteV x.id, v]
def objRow : List (ObjM × Value) → List Value
  | [] => []
  | p :: l => objCells p.1 p.2 ++ objRow l
theorem objRow_length : ∀ l : List (ObjM × Value), (objRow l).length = l.length * 2
  | [] => rfl
  | p :: l => by rw [objRow, List.length_append, objRow_length l, List.length_cons]; simp [objCells]; omega
theorem objRow_append (l r : List (ObjM × Value)) : objRow (l ++ r) = objRow l ++ objRow r := by
  induction l with
  | nil => rfl
  | cons p l ih => rw [List.cons_append, objRow, objRow, ih, List.append_assoc]
theorem objRow_at : ∀ (l : List (ObjM × Value)) (i : Nat) (h : i < l.length), (objRow l)[i * 2]? = some (byteV l[i].1.id) ∧ (objRow l)[i * 2 + 1]? = some l[i].2
  | p :: l, 0, h => by simp [objRow, objCells]
  | p :: l, i + 1, h => by
    have hi : i < l.length := by simpa using h
    obtain ⟨h0, h1⟩ := objRow_at l i hi
    have hs : ∀ j, (objRow (p :: l))[(i + 1) * 2 + j]? = (objRow l)[i * 2 + j]? := fun j => by
      rw [objRow, List.getElem?_append_right (by simp [objCells]; omega)]
      congr 1
      simp [objCells]; omega
    exact ⟨(hs 0).trans h0, (hs 1).trans h1⟩

/-- The slice at 'a' reads things, is the call's own from 'B' on; their values read so wherever the row stays and 'Q' holds. -/
def OwnO (Q : World → Prop) (w : World) (B : Nat) (a : Option Addr) (len cap : Nat) (xs : List ObjM) : Prop :=
  ∃ l : List (ObjM × Value), l.map (·.1) = xs ∧ OwnC 2 w B a len cap (objRow l) ∧ ∀ p ∈ l, ∃ ad ld cd, p.2 = .slice ad ld cd ∧ ∀ u, KeepC B a w u → Q u → Bs u ad ld cd p.1.value

theorem OwnC.offC {s : Nat} {w u : World} {B : Nat} {a : Option Addr} {len cap : Nat} {cs : List Value} (h : OwnC s w B a len cap cs) {lo hi : Nat} (hB : hi ≤ B) (hu : Off lo hi w u) : OwnC s u B a len cap cs := by
  have hl := h.hlen
  have hle := h.hle
  refine ⟨h.hlen, h.hle, h.hmax, fun j hj => ?_, fun j hj => ?_⟩
  · obtain ⟨b, off, ha, hlt, hc⟩ := h.hcell j hj
    have hm : len * s ≤ cap * s := Nat.mul_le_mul_right _ hle
    obtain ⟨b', off', ha', hB', hlt', _⟩ := h.room j (by omega)
    rw [ha] at ha'
    cases ha'
    exact ⟨b, off, ha, Nat.lt_of_lt_of_le hlt hu.size, (World.cell?_of_block (w := w) (a := ⟨b, off + j, none⟩) (hu.block b hlt (.inr (Nat.le_trans hB hB')))).trans hc⟩
  · obtain ⟨b, off, ha, hB', hlt, hc, hf⟩ := h.room j hj
    have hk := hu.block b hlt (.inr (Nat.le_trans hB hB'))
    exact ⟨b, off, ha, hB', Nat.lt_of_lt_of_le hlt hu.size, by rw [World.cell?_of_block (w := w) (a := ⟨b, off + j, none⟩) hk]; exact hc, by
      unfold World.frozen? at hf ⊢
      simp only at hf ⊢
      rw [hk]; exact hf⟩

section
variable {Q : World → Prop} {w w' : World} {B : Nat} {a : Option Addr} {len cap : Nat} {xs : List ObjM}
theorem OwnO.empty (Q : World → Prop) (w : World) (B : Nat) (a : Option Addr) : OwnO Q w B a 0 0 [] := ⟨[], rfl, OwnC.empty 2 w B a, fun _ h => by cases h⟩
theorem OwnO.count (h : OwnO Q w B a len cap xs) : xs.length = len := by
  obtain ⟨l, rfl, hc, _⟩ := h
  have := hc.hlen
  rw [objRow_length] at this
  rw [List.length_map]; omega
theorem OwnO.mono (h : OwnO Q w B a len cap xs) (hb : Below w.heap.size w w') : OwnO Q w' B a len cap xs := by
  obtain ⟨l, hl, hc, hw⟩ := h
  exact ⟨l, hl, hc.mono hb, fun p hp => by
    obtain ⟨aw, lw, cw, h1, h2⟩ := hw p hp
    exact ⟨aw, lw, cw, h1, fun u hu => h2 u ((KeepC.of hb).trans hu)⟩⟩
/-- It reads so in every world in which the blocks from 'B' on are as they are. -/
theorem OwnO.off (h : OwnO Q w B a len cap xs) {lo hi : Nat} (hB : hi ≤ B) {u : World} (hu : Off lo hi w u) (hq : Q u) : Obs u a len cap xs := by
  have hx := h.count
  obtain ⟨l, rfl, hc, hw⟩ := h
  refine ⟨hx, hc.hle, hc.hmax, fun i hi => ?_⟩
  have hi' : i < l.length := by simpa using hi
  have hk : KeepC B a w u := ⟨hu.size, fun k h1 h2 _ => hu.block k h2 (.inr (Nat.le_trans hB h1))⟩
  obtain ⟨aw, lw, cw, h1, h2⟩ := hw l[i] (List.getElem_mem hi')
  have hlen : l.length = len := by simpa using hx
  obtain ⟨b, off, ha, hBb, hlt, _⟩ := hc.room 0 (by have := hc.hle; omega)
  have cell : ∀ j v, (objRow l)[j]? = some v → u.cell? ⟨b, off + j, none⟩ = some v := fun j v hj => by
    have hjl : j < (objRow l).length := by
      rcases Nat.lt_or_ge j (objRow l).length with h | h
      · exact h
      · simp [List.getElem?_eq_none h] at hj
    obtain ⟨b', off', ha', hlt', hcell⟩ := hc.hcell j hjl
    rw [ha] at ha'
    cases ha'
    rw [List.getElem?_eq_getElem hjl] at hj
    rw [World.cell?_of_block (w := w) (a := ⟨b, off + j, none⟩) (hu.block b hlt (.inr (Nat.le_trans hB hBb))), hcell]
    exact hj
  obtain ⟨r0, r1⟩ := objRow_at l i hi'
  refine ⟨b, off, aw, lw, cw, ha, Nat.lt_of_lt_of_le hlt hu.size, ?_, ?_, ?_⟩
  · simpa using cell _ _ r0
  · rw [h1] at r1
    simpa [Nat.add_assoc] using cell _ _ r1
  · simpa using h2 u hk hq
theorem OwnO.offs (h : OwnO Q w B a len cap xs) {lo hi : Nat} (hB : hi ≤ B) (hu : Off lo hi w w') : OwnO Q w' B a len cap xs := by
  obtain ⟨l, hl, hc, hw⟩ := h
  exact ⟨l, hl, hc.offC hB hu, fun p hp => by
    obtain ⟨aw, lw, cw, h1, h2⟩ := hw p hp
    exact ⟨aw, lw, cw, h1, fun v hv => h2 v (KeepC.trans ⟨hu.size, fun k h1 h2 _ => hu.block k h2 (.inr (Nat.le_trans hB h1))⟩ hv)⟩⟩
theorem OwnO.low (h : OwnO Q w B a len cap xs) (hl : 0 < len) : ∃ b off, a = some ⟨b, off, none⟩ ∧ B ≤ b ∧ b < w.heap.size := by
  obtain ⟨l, _, hc, _⟩ := h
  obtain ⟨b, off, ha, h1, h2, _⟩ := hc.room 0 (by have := hc.hle; omega)
  exact ⟨b, off, ha, h1, h2⟩
/-- One more thing. -/
theorem OwnO.grown (h : OwnO Q w B a len cap xs) {x : ObjM} {aw : Option Addr} {lw cw : Nat} (hx : ∀ u, KeepC B a w u → Q u → Bs u aw lw cw x.value) {a' : Option Addr} {cap' : Nat}
    (hc : ∀ l, OwnC 2 w B a len cap (objRow l) → l.map (·.1) = xs → OwnC 2 w' B a' (len + 1) cap' (objRow l ++ objCells x (.slice aw lw cw))) (hk : KeepC B a w w') (ha : a' = a ∨ ∃ g, a' = some ⟨g, 0, none⟩ ∧ w.heap.size ≤ g) : OwnO Q w' B a' (len + 1) cap' (xs ++ [x]) := by
  obtain ⟨l, hl, hc0, hw⟩ := h
  have key : ∀ u, KeepC B a' w' u → KeepC B a w u := fun u hu => ⟨Nat.le_trans hk.size hu.size, fun k h1 h2 h3 => by
    refine (hu.block k h1 (Nat.lt_of_lt_of_le h2 hk.size) ?_).trans (hk.block k h1 h2 h3)
    rcases ha with rfl | ⟨g, rfl, hg⟩
    · exact h3
    · intro off e
      injection e with e
      injection e with e1
      omega⟩
  refine ⟨l ++ [(x, .slice aw lw cw)], by simp [hl], ?_, fun p hp => ?_⟩
  · rw [objRow_append]
    have := hc l hc0 hl
    simpa [objRow] using this
  · rcases List.mem_append.1 hp with hp | hp
    · obtain ⟨q1, q2, q3, h1, h2⟩ := hw p hp
      exact ⟨q1, q2, q3, h1, fun u hu => h2 u (key u hu)⟩
    · rw [List.mem_singleton] at hp
      subst hp
      exact ⟨aw, lw, cw, rfl, fun u hu => hx u (key u hu)⟩
end

theorem ObjC.unique {s : Nat} {w : World} {B : Nat} {a : Option Addr} {len cap : Nat} {cs ds : List Value} (h : OwnC s w B a len cap cs) (k : OwnC s w B a len cap ds) : cs = ds := by
  refine List.ext_getElem (by rw [h.hlen, k.hlen]) fun j h1 h2 => ?_
  obtain ⟨b, off, ha, _, hc⟩ := h.hcell j h1
  obtain ⟨b', off', ha', _, hc'⟩ := k.hcell j h2
  rw [ha] at ha'
  cases ha'
  rw [hc] at hc'
  injection hc'

abbrev zObj : Array Value := #[.int .u8 0, .slice none 0 0]
abbrev partO (x : ObjM) (v : Value) : Array Value := #[byteV x.id, v]
theorem Try.infoO : (Try.prog.info? 43).map (fun i => (i.zero, i.size)) = some (some (.agg zObj), 2) ∧ (Try.prog.info? 43).map (fun i => decide (i.bytes ≤ 64)) = some true := by constructor <;> kernel_rfl
/-- A literal of one thing. -/
theorem obj_src (w : World) (x : ObjM) (a : Option Addr) (l c : Nat) (t : TypeId) : Src Try.prog 2 28 (.slice (some ⟨w.heap.size, 0, none⟩) 1 1) 1 (objCells x (.slice a l c)) (w.alloc (.cells (partO x (.slice a l c)) t (0, 0))) := by
  have hc : OwnC 2 (w.alloc (.cells (partO x (.slice a l c)) t (0, 0))) w.heap.size (some ⟨w.heap.size, 0, none⟩) 1 1 (objCells x (.slice a l c)) :=
    OwnC.block (Nat.le_refl _) (heap_alloc_new _ _) rfl (Nat.le_refl _) (by unfold maxLen; omega) (Nat.le_refl _) fun j hj => by
      match j, hj with
      | 0, _ => rfl
      | 1, _ => rfl
      | n + 2, h => exact absurd h (by simp [objCells])
  exact ⟨.inl ⟨_, Try.underlying28⟩, fun _ => rfl, hc.first, (hc.mono ((Below.refl _ _).drew)).first, rfl, fun u hu => by simp [objCells] at hu; rcases hu with rfl | rfl <;> simp [Value.oneCell']⟩

/-- 'append' of one thing at an operation: the row grows, all blocks below 'B' stay. -/
theorem wpList_appO {Q : World → Prop} {ops : Array Oper} {rest : List Oper} {o : Oper} {act : Act} {K : Exit → Act → World → Prop} {w : World} {B : Nat} {a : Option Addr} {l cc : Nat} {pre : List ObjM} (hw' : Region.wanted o (yielded ops act.tmps) = true) (sl x : Operand)
    (ho : o.op = .call { callee := .builtin .append, args := #[sl, x], argTypes := #[28, 28] }) (hO : OwnO Q w B a l cc pre) (hs : act.eval sl = .slice a l cc) (hB : B ≤ w.heap.size)
    (y : ObjM) (aw : Option Addr) (lw cw : Nat) (how : ∀ u, KeepC B a w u → Q u → Bs u aw lw cw y.value) {v : Value} (hx : act.eval x = v) (hsrc : Src Try.prog 2 28 v 1 (objCells y (.slice aw lw cw)) w) (hsmall : l + 1 ≤ 1000)
    (h : ∀ a' cap' w', OwnO Q w' B a' (l + 1) cap' (pre ++ [y]) → Below B w w' → KeepC B a w w' → wpList Try.prog ops K rest (act.put o.dst (.slice a' (l + 1) cap')) w') : wpList Try.prog ops K (o :: rest) act w := by
  obtain ⟨iR, hiR, hz⟩ : ∃ i, Try.prog.info? 43 = some i ∧ (i.zero = some (.agg zObj) ∧ i.size = 2) ∧ i.bytes ≤ 64 := by
    have h1 := Try.infoO.1
    have h2 := Try.infoO.2
    cases hi : Try.prog.info? 43 with
    | none => rw [hi] at h1; cases h1
    | some i =>
      rw [hi] at h1 h2
      simp only [Option.map_some, Option.some.injEq, Prod.mk.injEq, decide_eq_true_eq] at h1 h2
      exact ⟨i, rfl, h1, h2⟩
  obtain ⟨⟨hzR, hsR⟩, hyR⟩ := hz
  obtain ⟨rl, hrl, hrc, _⟩ := id hO
  unfold wpList
  rw [if_pos hw']
  refine .inl ?_
  obtain ⟨a', cap', w', hr, h2, h3, h4, h5, _⟩ := run_appendC (P := Try.prog) 2 w B 28 28 o.type 43 iR (.agg zObj) Try.underlying28 hiR hzR hsR rfl a l cc _ hrc v 1 _ (by omega) (by omega) hsrc (Nat.le_trans (Nat.mul_le_mul_left _ hyR) (by omega)) (by unfold maxLen; omega) hB
  have hown : OwnO Q w' B a' (l + 1) cap' (pre ++ [y]) := hO.grown (x := y) (aw := aw) (lw := lw) (cw := cw) how (fun l' hl' _ => by rw [ObjC.unique hl' hrc]; exact h2) h4 h5
  unfold Oper.wp
  simp [execOp, ho, resolve, invoke, builtin, hs, hx, hr, Result.andThen]
  exact h a' cap' w' hown h3 h4

end Go.Proofs.Ytaokbaddleplfaa
