/-
  Package files: a block, read by ranging over the iterator of its parts.
-/
import Derived.Test.YtolkcohmoalnhaaFileLoop
namespace Go.Proofs.Ytolkcohmoalnhaa
open Go.RowKit Go.Shelf
open Word Bits Cursor

attribute [local go_sem] Oper.semAt_some

/-! what is wrong within a block -/
def fixE (e : Int) : Int := if e = 2 then 5 else e
theorem fixE_zero {e : Int} (h : fixE e = 0) : e = 0 := by
  unfold fixE at h
  split at h
  · omega
  · exact h
theorem St.lack_short {c : St} {n size : Nat} (h : c.xs.length < n * size) : c.lack (n : Int) size = true := by
  unfold St.lack
  have : ((c.xs.length : Int) < (n : Int) * size) := by exact_mod_cast h
  simp [this]
theorem manyC_same (f : Files.Frm) : ∀ (fuel sum : Nat) (s : St), fixE (many (Files.partC f) Files.step fuel sum s).2.e = fixE (many (Files.part f) Files.step fuel sum s).2.e ∧
    ((many (Files.part f) Files.step fuel sum s).2.e = 0 → many (Files.partC f) Files.step fuel sum s = many (Files.part f) Files.step fuel sum s)
  | 0, _, _ => ⟨rfl, fun _ => rfl⟩
  | fuel + 1, sum, s => by
    by_cases hs : s.xs = [] ∨ s.e ≠ 0
    · rw [many_stop _ _ hs, many_stop _ _ hs]
      exact ⟨rfl, fun _ => rfl⟩
    · rw [many_go _ _ hs, many_go _ _ hs]
      have same : Files.partC f sum s = Files.part f sum s → fixE (many (Files.partC f) Files.step fuel (sum + Files.step (Files.partC f sum s).1) (Files.partC f sum s).2).2.e = fixE (many (Files.part f) Files.step fuel (sum + Files.step (Files.part f sum s).1) (Files.part f sum s).2).2.e ∧
          ((many (Files.part f) Files.step fuel (sum + Files.step (Files.part f sum s).1) (Files.part f sum s).2).2.e = 0 → ((Files.partC f sum s).1 :: (many (Files.partC f) Files.step fuel (sum + Files.step (Files.partC f sum s).1) (Files.partC f sum s).2).1, (many (Files.partC f) Files.step fuel (sum + Files.step (Files.partC f sum s).1) (Files.partC f sum s).2).2) =
            ((Files.part f sum s).1 :: (many (Files.part f) Files.step fuel (sum + Files.step (Files.part f sum s).1) (Files.part f sum s).2).1, (many (Files.part f) Files.step fuel (sum + Files.step (Files.part f sum s).1) (Files.part f sum s).2).2)) := fun h => by
        rw [h]
        obtain ⟨h1, h2⟩ := manyC_same f fuel (sum + Files.step (Files.part f sum s).1) (Files.part f sum s).2
        exact ⟨h1, fun hz => by rw [h2 hz]⟩
      rcases Files.Frm.three f with rfl | rfl | rfl
      · exact same rfl
      · exact same rfl
      · by_cases he : (Files.rHead s).2.e = 0
        · by_cases hl : 2 * (Files.rHead s).1.2.toNat ≤ (Files.rHead s).2.xs.length
          · refine same ?_
            show Files.rBothC s = Files.rBoth s
            unfold Files.rBothC Files.rBoth
            rw [show decide (2 * (Files.rHead s).1.2.toNat ≤ (Files.rHead s).2.xs.length) = true from decide_eq_true hl, St.need_true]
          · have h1 : (Files.partC 2 sum s).2.e ≠ 0 ∧ fixE (Files.partC 2 sum s).2.e = 5 := by
              have : (Files.partC 2 sum s).2.e = 2 := by
                show ((Files.rHead s).2.next _ 2).e = 2
                unfold St.next
                rw [if_pos (St.lack_short (by omega))]
                show (if (Files.rHead s).2.e = 0 then (2 : Int) else _) = 2
                rw [if_pos he]
              rw [this]
              exact ⟨by omega, rfl⟩
            have h2 : (Files.part 2 sum s).2.e = 5 := by
              show (((Files.rHead s).2.need (decide (2 * (Files.rHead s).1.2.toNat ≤ (Files.rHead s).2.xs.length)) 5).next _ 2).e = 5
              have h3 : ((Files.rHead s).2.need (decide (2 * (Files.rHead s).1.2.toNat ≤ (Files.rHead s).2.xs.length)) 5).e = 5 := by
                rw [show decide (2 * (Files.rHead s).1.2.toNat ≤ (Files.rHead s).2.xs.length) = false from decide_eq_false hl]
                unfold St.need
                rw [if_pos ⟨he, rfl⟩]
              rw [St.next_bad _ _ _ (by rw [h3]; omega), h3]
            rw [many_stop fuel _ (.inr h1.1), many_stop fuel _ (.inr (by rw [h2]; omega))]
            exact ⟨by show fixE (Files.partC 2 sum s).2.e = fixE (Files.part 2 sum s).2.e; rw [h1.2, h2]; rfl, fun hz => absurd (show (Files.part 2 sum s).2.e = 0 from hz) (by rw [h2]; omega)⟩
        · refine same ?_
          show Files.rBothC s = Files.rBoth s
          unfold Files.rBothC Files.rBoth
          rw [St.need_bad _ _ _ he]
theorem blockC (f : Files.Frm) (D : List UInt8) : fixE (manyC f D).2.e = blockE (Files.part f) Files.step D := (manyC_same f _ _ _).1
theorem blockC_list {f : Files.Frm} {D : List UInt8} (h : blockE (Files.part f) Files.step D = 0) : (manyC f D).2.e = 0 ∧ (manyC f D).1 = (many (Files.part f) Files.step D.length 0 (St.new D)).1 := by
  have h1 : (manyC f D).2.e = 0 := fixE_zero (by rw [blockC]; exact h)
  have h2 := (manyC_same f D.length 0 (St.new D)).2 (blockE_zero.1 h)
  exact ⟨h1, congrArg Prod.fst h2⟩

/-! the forms, as values -/
namespace Files
def Frm.may : Frm → FuncId
  | 0 => 55
  | 1 => 61
  | 2 => 68
def Frm.parts : Frm → FuncId
  | 0 => 56
  | 1 => 62
  | 2 => 69
def Frm.wr : Frm → FuncId
  | 0 => 60
  | 1 => 66
  | 2 => 71
end Files
abbrev clV (f : FuncId) (caps : Array Value) : Value := .func (.func f) #[] caps
abbrev formC (f : Files.Frm) : Array Value := #[clV f.may #[], clV f.parts #[], clV f.wr #[]]
theorem may_enter (f : Files.Frm) (args : Array Value) (w : World) : (callFunc f.may args).run Try.prog w = .ok (.enter f.may args) w := by
  rcases Files.Frm.three f with rfl | rfl | rfl <;> kernel_rfl
theorem parts_enter (f : Files.Frm) (args : Array Value) (w : World) : (callFunc f.parts args).run Try.prog w = .ok (.enter f.parts args) w := by
  rcases Files.Frm.three f with rfl | rfl | rfl <;> kernel_rfl
theorem wr_enter (f : Files.Frm) (args : Array Value) (w : World) : (callFunc f.wr args).run Try.prog w = .ok (.enter f.wr args) w := by
  rcases Files.Frm.three f with rfl | rfl | rfl <;> kernel_rfl

theorem partsOf_any (g k : Nat) (caps : Array Value) (w : World) :
    Calls Try.prog 57 #[ptrV g, clV k caps] w fun e w' => e = .returned (clV 75 #[ptrV w.heap.size, ptrV (w.heap.size + 1)]) ∧
      w' = (w.alloc (.cells #[ptrV g] 55 (0, 0))).alloc (.cells #[clV k caps] 93 (0, 0)) := by
  have hmf : ∀ (fn : Fn) (first cap : Array Value) (w : World), (Instr.makeFunc fn first cap).run Try.prog w = .ok (.func fn first cap) w := fun _ _ _ _ => rfl
  go_enter Try.func57, Try.ntmps57
  go_wp2
  go_ret
  exact ⟨by simp, rfl⟩

theorem below3 (w : World) (x y z : Obj) : Below w.heap.size w (((w.alloc x).alloc y).alloc z) := (((Below.refl _ _).alloc (Nat.le_refl _) _).alloc (by simp) _).alloc (by simp <;> omega) _
theorem below4 (w : World) (x y z u : Obj) : Below w.heap.size w ((((w.alloc x).alloc y).alloc z).alloc u) := (below3 w x y z).alloc (by simp <;> omega) _
theorem heap_alloc4_new (w : World) (x y z u : Obj) : ((((w.alloc x).alloc y).alloc z).alloc u).heap[w.heap.size + 1 + 1 + 1]? = some u := by
  have := heap_alloc_new (((w.alloc x).alloc y).alloc z) u
  simpa using this

/-- The iterator's memory. -/
structure Made (f : Files.Frm) (w w' : World) (g cB aB b1 b2 : Nat) (caps : Array Value) : Prop where
  below : Below w.heap.size w w'
  capt : Capt f w' caps cB aB g 0
  h1 : w'.heap[b1]? = some (.cells #[ptrV g] 55 (0, 0))
  h2 : w'.heap[b2]? = some (.cells #[clV f.rd caps] 93 (0, 0))
  c : w.heap.size ≤ cB
  a : f = 0 → w.heap.size ≤ aB
  ag : aB ≠ g → w.heap.size ≤ aB
  az : aB ≠ g → f = 0
  al : aB < w'.heap.size
  l1 : w.heap.size ≤ b1
  l2 : w.heap.size ≤ b2
  a1 : b1 ≠ aB
  a2 : b2 ≠ aB

set_option maxRecDepth 20000 in
set_option maxHeartbeats 1000000 in
theorem parts_any (f : Files.Frm) (g : Nat) (w : World) (hg : g < w.heap.size) :
    Calls Try.prog f.parts #[ptrV g] w fun e w' => ∃ cB aB b1 b2 caps, e = .returned (clV 75 #[ptrV b1, ptrV b2]) ∧ Made f w w' g cB aB b1 b2 caps := by
  have hmf : ∀ (fn : Fn) (first cap : Array Value) (w : World), (Instr.makeFunc fn first cap).run Try.prog w = .ok (.func fn first cap) w := fun _ _ _ _ => rfl
  have ha : ∀ (u : World) (o : Obj) (k : Nat), k < u.heap.size → (u.alloc o).heap[k]? = u.heap[k]? := fun u o k h => Below.heap_alloc _ _ _ h
  rcases Files.Frm.three f with rfl | rfl | rfl
  · show Calls Try.prog 56 _ _ _
    go_enter Try.func56, Try.ntmps56
    go_wp2_with fail
    refine (partsOf_any g 58 #[ptrV w.heap.size, ptrV (w.heap.size + 1)] _).mono ?_
    rintro e w1 ⟨rfl, rfl⟩
    go_wp2
    go_ret
    refine ⟨w.heap.size, w.heap.size + 1, w.heap.size + 1 + 1, w.heap.size + 1 + 1 + 1, #[ptrV w.heap.size, ptrV (w.heap.size + 1)], by simp, ?_⟩
    refine ⟨below4 w _ _ _ _, ⟨rfl, ?_, fun _ => ?_, by omega, fun _ => by omega, by omega⟩, ?_, ?_, Nat.le_refl _, fun _ => by omega, fun _ => by omega, fun _ => rfl, by simp, by omega, by omega, by omega, by omega⟩
    · rw [ha _ _ _ (by simp <;> omega), ha _ _ _ (by simp <;> omega), ha _ _ _ (by simp)]; exact heap_alloc_new _ _
    · rw [ha _ _ _ (by simp <;> omega), ha _ _ _ (by simp)]; exact heap_alloc2_new _ _ _
    · rw [ha _ _ _ (by simp)]; exact heap_alloc3_new _ _ _ _
    · exact heap_alloc4_new _ _ _ _ _
  · show Calls Try.prog 62 _ _ _
    go_enter Try.func62, Try.ntmps62
    go_wp2_with fail
    refine (partsOf_any g 63 #[ptrV w.heap.size] _).mono ?_
    rintro e w1 ⟨rfl, rfl⟩
    go_wp2
    go_ret
    refine ⟨w.heap.size, g, w.heap.size + 1, w.heap.size + 1 + 1, #[ptrV w.heap.size], by simp, ?_⟩
    refine ⟨below3 w _ _ _, ⟨rfl, ?_, fun e => absurd e (by decide), by omega, fun e => absurd e (by decide), by omega⟩, ?_, ?_, Nat.le_refl _, fun e => absurd e (by decide), fun h => absurd rfl h, fun h => absurd rfl h, by simp <;> omega, by omega, by omega, by omega, by omega⟩
    · rw [ha _ _ _ (by simp <;> omega), ha _ _ _ (by simp)]; exact heap_alloc_new _ _
    · rw [ha _ _ _ (by simp)]; exact heap_alloc2_new _ _ _
    · exact heap_alloc3_new _ _ _ _
  · show Calls Try.prog 69 _ _ _
    go_enter Try.func69, Try.ntmps69
    go_wp2_with fail
    refine (partsOf_any g 70 #[ptrV w.heap.size] _).mono ?_
    rintro e w1 ⟨rfl, rfl⟩
    go_wp2
    go_ret
    refine ⟨w.heap.size, g, w.heap.size + 1, w.heap.size + 1 + 1, #[ptrV w.heap.size], by simp, ?_⟩
    refine ⟨below3 w _ _ _, ⟨rfl, ?_, fun e => absurd e (by decide), by omega, fun e => absurd e (by decide), by omega⟩, ?_, ?_, Nat.le_refl _, fun e => absurd e (by decide), fun h => absurd rfl h, fun h => absurd rfl h, by simp <;> omega, by omega, by omega, by omega, by omega⟩
    · rw [ha _ _ _ (by simp <;> omega), ha _ _ _ (by simp)]; exact heap_alloc_new _ _
    · rw [ha _ _ _ (by simp)]; exact heap_alloc2_new _ _ _
    · exact heap_alloc3_new _ _ _ _

/-! a part behind the others, in a round -/
section
variable {F : Fence} {n' : Nat} {P : Program}
theorem wpListIn_appendC (s : Nat) {w : World} {ops : Array Oper} {rest : List Oper} {o : Oper} {act : Act} {Q : Exit → Act → World → Prop} (hgd : o.guard = none) (sl x : Operand) (t tx : TypeId)
    (ho : o.op = .call { callee := .builtin .append, args := #[sl, x], argTypes := #[t, tx] }) (B : Nat) (e : TypeId) (i : TypeInfo) (z : Value) (ht : P.underlying t = some (.slice e)) (hi : P.info? e = some i) (hz : i.zero = some z) (hsz : i.size = s) (hzs : z.cells.size = s)
    (a : Option Addr) (len cap : Nat) (cs : List Value) (hs : act.eval sl = .slice a len cap) (hd : OwnC s w B a len cap cs) (vx : Value) (m : Nat) (news : List Value) (hm : 0 < m) (hs0 : 0 < s) (hx : act.eval x = vx) (hsrc : Src P s tx vx m news w)
    (hbytes : (len + m) * i.bytes ≤ 140737488355328) (h63 : len + m ≤ maxLen) (hB : B ≤ w.heap.size)
    (h : ∀ a' cap' w', OwnC s w' B a' (len + m) cap' (cs ++ news) → Below B w w' → KeepC B a w w' → (a' = a ∨ ∃ g, a' = some ⟨g, 0, none⟩ ∧ w.heap.size ≤ g) →
      (∀ p : Value → Prop, (∀ v ∈ cs, p v) → (∀ v ∈ news, p v) → (∀ (i : Nat) (v : Value), z.cells[i]? = some v → p v) → AllC p w a → AllC p w' a') → wpListIn F n' P ops Q rest (act.put o.dst (.slice a' (len + m) cap')) w') : wpListIn F n' P ops Q (o :: rest) act w := by
  refine wpListIn_plain hgd fun K hK => ?_
  obtain ⟨a', cap', w', hr, h2, h3, h4, h5, h6⟩ := run_appendC (P := P) s w B t tx o.type e i z ht hi hz hsz hzs a len cap cs hd vx m news hm hs0 hsrc hbytes h63 hB
  unfold Oper.wpIn
  refine ⟨?_, ?_⟩
  · simp [Oper.about, ho, resolve, Target.leads, Sem.run_pure]
  · rw [Oper.semAt_plain F _ _ (by rw [ho]; intro c hc'; cases hc')]
    simp [execOp, ho, resolve, invoke, builtin, hs, hx, hr, Result.andThen]
    exact hK _ _ (h a' cap' w' h2 h3 h4 h5 h6)
end

theorem Try.infoR : (Try.prog.info? 43).map (fun i => (i.zero, i.size, i.bytes)) = some (some (.agg zRec), 4, 32) := by kernel_rfl
/-- A literal of one part. -/
theorem one_src (w : World) (x : RecM) (a : Option Addr) (l c : Nat) (t : TypeId) : Src Try.prog 4 27 (.slice (some ⟨w.heap.size, 0, none⟩) 1 1) 1 (recCells x (.slice a l c)) (w.alloc (.cells (partC x (.slice a l c)) t (0, 0))) := by
  have hc : OwnC 4 (w.alloc (.cells (partC x (.slice a l c)) t (0, 0))) w.heap.size (some ⟨w.heap.size, 0, none⟩) 1 1 (recCells x (.slice a l c)) :=
    OwnC.block (Nat.le_refl _) (heap_alloc_new _ _) rfl (Nat.le_refl _) (by unfold maxLen; omega) (Nat.le_refl _) fun j hj => by
      match j, hj with
      | 0, _ => rfl
      | 1, _ => rfl
      | 2, _ => rfl
      | 3, _ => rfl
      | n + 4, h => exact absurd h (by simp [recCells])
  exact ⟨.inl ⟨_, Try.underlying27⟩, fun _ => rfl, hc.first, (hc.mono ((Below.refl _ _).drew)).first, rfl, fun u hu => by simp [recCells] at hu; rcases hu with rfl | rfl | rfl | rfl <;> simp [Value.oneCell']⟩

theorem putObj_cells {w : World} {L : Nat} {o : Obj} {k : Nat} (h : k ≠ L) (i : Nat) : (w.putObj L o).cell? ⟨k, i, none⟩ = w.cell? ⟨k, i, none⟩ := World.cell?_of_block (w := w) (a := ⟨k, i, none⟩) (World.putObj_heap_other h)
theorem putObj_frozen {w : World} {L : Nat} {o : Obj} {k : Nat} (h : k ≠ L) (i : Nat) : (w.putObj L o).frozen? ⟨k, i, none⟩ = w.frozen? ⟨k, i, none⟩ := by
  unfold World.frozen?
  rw [World.putObj_heap_other h]
theorem off_putObj (w : World) {L hi : Nat} (o : Obj) (h : L < hi) : Off 0 hi w (w.putObj L o) := ⟨by simp, fun i _ hn => World.putObj_heap_other (by omega)⟩

/-! what a round leaves -/
theorem But.putObj (w : World) (L : Nat) (o : Obj) : But L w (w.putObj L o) := ⟨rfl, rfl, rfl, by simp, fun k _ hk => World.putObj_heap_other hk⟩
theorem no_cells {w : World} {L : Nat} {o : Obj} (h : w.heap[L]? = some o) (ho : o.isCells = false) (i : Nat) : w.cell? ⟨L, i, none⟩ = none := by
  unfold World.cell?
  rw [show w.heap[(⟨L, i, none⟩ : Addr).block]? = some o from h]
  cases o <;> first | rfl | (simp [Obj.isCells] at ho)
theorem Cur.besideObj {w w' : World} {g L : Nat} {c : St} {o : Obj} (h : Cur w g c) (hn : g ≠ L) (hL : w.heap[L]? = some o) (ho : o.isCells = false) (hb : But L w w') : Cur w' g c := by
  obtain ⟨a, len, cap, hg, hx, hl⟩ := h
  exact ⟨a, len, cap, (hb.block g (cur_lt hg) hn).trans hg, hx.but hb (fun i y => by rw [no_cells hL ho]; simp), hl⟩
abbrev noByte : Value → Prop := fun v => ∀ y, v ≠ byteV y
theorem Cur.kept {w w' : World} {g B : Nat} {a : Option Addr} {c : St} (h : Cur w g c) (hg : g < B) (hb : Below B w w') (hk : KeepC B a w w') (nb : AllC noByte w a) : Cur w' g c := by
  obtain ⟨a0, l0, c0, hgb, hx, hl⟩ := h
  refine ⟨a0, l0, c0, (hb.block g hg).trans hgb, ⟨hx.hlen, hx.hle, hx.hmax, fun i hi => ?_⟩, hl⟩
  obtain ⟨b, off, ha, hlt, hc⟩ := hx.hcell i hi
  refine ⟨b, off, ha, Nat.lt_of_lt_of_le hlt hb.size, ?_⟩
  have hblk : w'.heap[b]? = w.heap[b]? := by
    by_cases hB : b < B
    · exact hb.block b hB
    · refine hk.block b (by omega) hlt fun off' e => ?_
      exact nb _ e (off + i) _ hc _ rfl
  rw [World.cell?_of_block (w := w) (a := ⟨b, off + i, none⟩) hblk]
  exact hc
theorem rec_noByte {x : RecM} {a : Option Addr} {l c : Nat} : ∀ v ∈ recCells x (.slice a l c), noByte v := by
  intro v hv y
  simp [recCells] at hv
  rcases hv with rfl | rfl | rfl | rfl <;> simp
theorem recRow_noByte : ∀ (l : List (RecM × Value)), (∀ p ∈ l, ∃ a n c, p.2 = .slice a n c) → ∀ v ∈ recRow l, noByte v
  | [], _, v, hv => by cases hv
  | p :: l, h, v, hv => by
    rcases List.mem_append.1 (show v ∈ recCells p.1 p.2 ++ recRow l from hv) with h1 | h1
    · obtain ⟨a, n, c, e⟩ := h p List.mem_cons_self
      rw [e] at h1
      exact rec_noByte v h1
    · exact recRow_noByte l (fun q hq => h q (List.mem_cons_of_mem _ hq)) v h1
theorem zRec_noByte (i : Nat) (v : Value) (h : (Value.agg zRec).cells[i]? = some v) : noByte v := by
  intro y
  match i, h with
  | 0, h => have : v = .int .u16 0 := by simpa [Value.cells] using h.symm
            rw [this]; simp
  | 1, h => have : v = .int .u16 0 := by simpa [Value.cells] using h.symm
            rw [this]; simp
  | 2, h => have : v = .int .u16 0 := by simpa [Value.cells] using h.symm
            rw [this]; simp
  | 3, h => have : v = .slice none 0 0 := by simpa [Value.cells] using h.symm
            rw [this]; simp
  | n + 4, h => simp [Value.cells] at h
theorem AllC.at {p : Value → Prop} {w w' : World} {a : Option Addr} (h : AllC p w a) (hb : ∀ x, a = some x → w'.heap[x.block]? = w.heap[x.block]?) : AllC p w' a := fun x e i v hv => h x e i v (by rw [← World.cell?_of_block (w := w) (w' := w') (a := ⟨x.block, i, none⟩) (hb x e)]; exact hv)

theorem OwnC.unique {s : Nat} {w : World} {B : Nat} {a : Option Addr} {len cap : Nat} {cs ds : List Value} (h : OwnC s w B a len cap cs) (k : OwnC s w B a len cap ds) : cs = ds := by
  refine List.ext_getElem (by rw [h.hlen, k.hlen]) fun j h1 h2 => ?_
  obtain ⟨b, off, ha, _, hc⟩ := h.hcell j h1
  obtain ⟨b', off', ha', _, hc'⟩ := k.hcell j h2
  rw [ha] at ha'
  cases ha'
  rw [hc] at hc'
  injection hc'
theorem OwnR.base {w : World} {B B' : Nat} {a : Option Addr} {len cap : Nat} {xs : List RecM} (h : OwnR w B a len cap xs) (hB : B' ≤ B) : OwnR w B' a len cap xs := by
  obtain ⟨l, hl, hc, hw⟩ := h
  refine ⟨l, hl, ⟨hc.hlen, hc.hle, hc.hmax, hc.hcell, fun j hj => ?_⟩, fun p hp => ?_⟩
  · obtain ⟨b, off, h1, h2, h3⟩ := hc.room j hj
    exact ⟨b, off, h1, Nat.le_trans hB h2, h3⟩
  · obtain ⟨aw, lw, cw, h1, h2⟩ := hw p hp
    exact ⟨aw, lw, cw, h1, fun u hu => h2 u ⟨hu.size, fun k q1 q2 q3 => hu.block k (Nat.le_trans hB q1) q2 q3⟩⟩
theorem Cur.apart {w w' : World} {g : Nat} {c : St} {S : Nat → Prop} (h : Cur w g c) (hg : ¬ S g) (hn : ∀ b, S b → ∀ i y, w.cell? ⟨b, i, none⟩ ≠ some (byteV y)) (hz : w.heap.size ≤ w'.heap.size) (hb : ∀ i, i < w.heap.size → ¬ S i → w'.heap[i]? = w.heap[i]?) : Cur w' g c := by
  obtain ⟨a0, l0, c0, hgb, hx, hl⟩ := h
  refine ⟨a0, l0, c0, (hb g (cur_lt hgb) hg).trans hgb, ⟨hx.hlen, hx.hle, hx.hmax, fun i hi => ?_⟩, hl⟩
  obtain ⟨b, off, ha, hlt, hc⟩ := hx.hcell i hi
  refine ⟨b, off, ha, by omega, ?_⟩
  rw [World.cell?_of_block (w := w) (a := ⟨b, off + i, none⟩) (hb b hlt fun hS => hn b hS _ _ hc)]
  exact hc

section
variable {f : Files.Frm} {caps : Array Value} {w1 : World} {g cB aB b1 b2 bl L : Nat} {ready : Obj} {N : Nat} {pre : List RecM} {sum : Nat} {s : St} {W Wc w' : World}
theorem Rnd.round (h : Rnd f caps w1 g cB aB bl L ready N pre sum s W) (l : Lie w1 g cB aB b1 b2 bl L) (hfew : pre.length + s.xs.length < N) {busy : Obj} (hrd : ready.isCells = false) (hbs : busy.isCells = false)
    {x : RecM} {aw : Option Addr} {lw cw top : Nat} (how : Own wordV W top aw lw cw x.words) (ht2 : w1.heap.size ≤ top) {a : Option Addr} {len cap : Nat} (hbx : W.heap[bl]? = some (.cells #[.slice a len cap] 27 (0, 0))) (hat : ∀ y, a = some y → y.block < top)
    (hax : ∀ y, a = some y → w1.heap.size ≤ y.block ∧ y.block < W.heap.size) (hnb : AllC noByte W a) (hor : OwnR W w1.heap.size a len cap pre)
    (bc : But L W Wc) (hbz : Wc.heap[L]? = some busy) {a' : Option Addr} {cap' : Nat}
    (hu : ∀ l, OwnC 4 Wc w1.heap.size a len cap (recRow l) → l.map (·.1) = pre → OwnC 4 w' w1.heap.size a' (len + 1) cap' (recRow l ++ recCells x (.slice aw lw cw))) (hbl : Below w1.heap.size Wc w') (hk : KeepC w1.heap.size a Wc w') (ha : a' = a ∨ ∃ q, a' = some ⟨q, 0, none⟩ ∧ Wc.heap.size ≤ q)
    (hall : AllC noByte Wc a → AllC noByte w' a') :
    (w'.setCell ⟨bl, 0, none⟩ (.slice a' (len + 1) cap')).heap[L]? = some busy ∧ Rnd f caps w1 g cB aB bl L ready N (pre ++ [x]) sum s ((w'.setCell ⟨bl, 0, none⟩ (.slice a' (len + 1) cap')).putObj L ready) := by
  have lz := h.size
  have lg := l.lg
  have lc := l.lc
  have la := l.la
  have lb := l.lb
  have lL := l.lL
  have offc : Off 0 w1.heap.size W Wc := Off.but bc (Nat.zero_le _) lL
  have horc : OwnR Wc w1.heap.size a len cap pre := hor.offs (Nat.le_refl _) offc
  have hnc : AllC noByte Wc a := hnb.at fun y e => bc.block _ (hax y e).2 (by have := (hax y e).1; omega)
  have curc : Cur Wc g s := h.cur.besideObj l.gL h.rdy hrd bc
  have cur' : Cur w' g s := curc.kept lg hbl hk hnc
  have hbxc : Wc.heap[bl]? = some (.cells #[.slice a len cap] 27 (0, 0)) := (bc.block _ (by omega) l.bL).trans hbx
  have hbx' : w'.heap[bl]? = some (.cells #[.slice a len cap] 27 (0, 0)) := (hbl.block _ lb).trans hbxc
  have hb3 : (w'.setCell ⟨bl, 0, none⟩ (.slice a' (len + 1) cap')).heap[L]? = some busy := (Below.heap_setCell _ _ _ _ (show L ≠ bl from Ne.symm l.bL)).trans ((hbl.block _ lL).trans hbz)
  have g3 : Cur (w'.setCell ⟨bl, 0, none⟩ (.slice a' (len + 1) cap')) g s := cur'.aside (show g ≠ bl from l.gb) (cell_of_row w' bl 0 _ _ _ hbx') (fun _ e => by cases e) _
  have b4 := But.putObj (w'.setCell ⟨bl, 0, none⟩ (.slice a' (len + 1) cap')) L ready
  have g4 := g3.besideObj l.gL hb3 hbs b4
  have s3 : (w'.setCell ⟨bl, 0, none⟩ (.slice a' (len + 1) cap')).heap.size = w'.heap.size := by simp
  have hzc := bc.size
  have hz' := hbl.size
  have other : ∀ i, i < w1.heap.size → i ≠ bl → i ≠ L → ((w'.setCell ⟨bl, 0, none⟩ (.slice a' (len + 1) cap')).putObj L ready).heap[i]? = W.heap[i]? := fun i h1 h2 h3 =>
    (World.putObj_heap_other h3).trans ((Below.heap_setCell _ _ _ _ h2).trans ((hbl.block _ h1).trans (bc.block _ (by omega) h3)))
  have high : ∀ i, w1.heap.size ≤ i → ((w'.setCell ⟨bl, 0, none⟩ (.slice a' (len + 1) cap')).putObj L ready).heap[i]? = w'.heap[i]? := fun i h1 =>
    (World.putObj_heap_other (by omega)).trans (Below.heap_setCell _ _ _ _ (by show i ≠ bl; omega))
  have hown : OwnR w' w1.heap.size a' (len + 1) cap' (pre ++ [x]) := horc.grown (fun u hu => by
    refine ⟨how.sl.hlen, how.sl.hle, how.sl.hmax, fun i hi => ?_⟩
    obtain ⟨b, off, hb, hlt, hc⟩ := how.sl.hcell i hi
    obtain ⟨b', off', hb', hB, _⟩ := how.room i (by have := how.sl.hlen; have := how.sl.hle; omega)
    rw [hb] at hb'
    cases hb'
    have h1 : u.heap[b]? = Wc.heap[b]? := hu.block b (by omega) (by omega) fun o e => by have := hat _ e; simp only at this; omega
    refine ⟨b, off, hb, by have := hu.size; omega, ?_⟩
    rw [World.cell?_of_block (w := W) (a := ⟨b, off + i, none⟩) (h1.trans (bc.block b hlt (by omega)))]
    exact hc) hu hk ha
  obtain ⟨q, qo, hq, hq1, hq2⟩ := hown.low (by omega)
  refine ⟨hb3, ⟨?_, ?_, ?_, ?_, ?_, g4, ?_, ?_, ⟨a', len + 1, cap', ?_, hown.offs (Nat.le_refl _) (lo := 0) ⟨by simp, fun i _ hn => high i (by omega)⟩, ?_, ?_⟩, ?_⟩⟩
  · exact hbl.os.trans (bc.os.trans h.os)
  · exact hbl.tape.trans (bc.tape.trans h.tape)
  · exact hbl.output.trans (bc.output.trans h.output)
  · simp; omega
  · exact fun i h1 h2 h3 h4 h5 => (other i h1 h4 h5).trans (h.keep i h1 h2 h3 h4 h5)
  · exact ⟨h.capt.list, (other _ lc l.cb l.cL).trans h.capt.cur, fun e => (other _ la l.ab l.aL).trans (h.capt.sum e), h.capt.n1, h.capt.n2, h.capt.n3⟩
  · exact World.putObj_heap_same (by rw [s3]; omega)
  · exact (World.putObj_heap_other l.bL).trans (set_block hbx' _)
  · intro y e
    rw [hq] at e
    injection e with e
    rw [← e]
    exact ⟨hq1, by simpa using hq2⟩
  · exact (hall hnc).at fun y e => by
      rw [hq] at e
      injection e with e
      rw [← e]
      exact high _ hq1
  · rw [List.length_append]
    show pre.length + 1 + s.xs.length ≤ N
    omega
end

set_option maxRecDepth 100000 in
set_option maxHeartbeats 4000000 in
theorem block_any (f : Files.Frm) (gc : Nat) (c : St) (n : Nat) (hn : n < 256) (w : World) (h : Cur w gc c) :
    Calls Try.prog 23 #[ptrV gc, .int .i64 (n : Int), .agg (formC f)] w fun e w' =>
      (∃ a len cap xs, e = .returned (.slice a len cap) ∧ OwnR w' w.heap.size a len cap xs ∧ ((rBlock (Files.part f) Files.step n c).2.e = 0 → xs = (rBlock (Files.part f) Files.step n c).1)) ∧ Cur w' gc (rBlock (Files.part f) Files.step n c).2 ∧ But gc w w' := by
  have H := hide h
  clear h
  obtain ⟨FC, hFC⟩ : ∃ FC, FC = formC f := ⟨_, rfl⟩
  have hFC1 : FC[1]? = some (clV f.parts #[]) := by rw [hFC]; rfl
  rw [← hFC]
  clear hFC
  obtain ⟨RB, hRB⟩ : ∃ r, r = rBlock (Files.part f) Files.step n c := ⟨_, rfl⟩
  rw [← hRB]
  have HRB := hide hRB
  clear hRB
  refine (callsIn_wide (n := 8)).1 ?_
  refine callsIn_of_wp_marks Try.func23 rfl trivial ?_ rfl
  simp only [Try.ntmps23, List.size_toArray, List.length_cons, List.length_nil, Nat.reduceAdd, Nat.reduceSub, Array.replicate_succ, Array.replicate_zero, List.push_toArray, List.append_toArray, List.nil_append, List.cons_append]
  have z0 := H.out.lt
  have e0 := heap_alloc_new w (.cells FC 52 (0, 0))
  have b0 := (Below.refl w.heap.size w).alloc (Nat.le_refl _) (.cells FC 52 (0, 0))
  have hcf := parts_enter f
  have HP := hide (parts_any f)
  generalize f.parts = FP at *
  gi_wp2_with fail
  have c0 := H.out.mono b0
  generalize w.alloc (.cells FC 52 (0, 0)) = w0 at *
  refine ⟨trivial, (callsIn_wide.2 (cbytes_own gc c (n : Int) w0 c0)).mono ?_⟩
  rintro r w1 ⟨⟨a1, cap1, rfl, ho1⟩, c1, b1⟩
  obtain ⟨D, hD⟩ : ∃ D, D = c.got (n : Int) 1 := ⟨_, rfl⟩
  have hDl : D.length ≤ n := by
    have := St.got_le c (n : Int) 1
    rw [← hD] at this; simpa using this
  have HD := hide hD
  rw [← hD] at ho1 ⊢
  clear hD
  gi_wp2_with fail
  refine ⟨trivial, (callsIn_wide.2 (new_any _ _ _ _ w1 ho1.sl (by omega))).mono ?_⟩
  rintro r w2 ⟨⟨g, rfl, hgl, c2⟩, b2⟩
  have lw0 := lt_of_block e0
  have e1 := (b1.block _ (lt_of_block e0) (by omega)).trans e0
  have e2 := (b2.block _ (lt_of_block e1)).trans e1
  have lw1 := lt_of_block e1
  have bw2 : But gc w w2 := ((But.of b0).trans b1).trans (But.of b2)
  have rc2 := c1.mono b2
  have hg2 := c2.lt
  have k2 : ∀ o, (w2.alloc o).cell? ⟨w.heap.size, 1, none⟩ = some (clV FP #[]) := fun o => ((cell_of_row _ _ 1 _ _ _ ((Below.heap_alloc _ _ _ (lt_of_block e2)).trans e2)).trans hFC1)
  clear e0 e1 b0 c0 b1 c1 b2 ho1 H
  gi_wp2_with fail
  have e3 := heap_alloc_new w2 (.cells #[.slice none 0 0] 27 (0, 0))
  have b3 := (Below.refl w2.heap.size w2).alloc (Nat.le_refl _) (.cells #[.slice none 0 0] 27 (0, 0))
  clear k2
  generalize w2.alloc (.cells #[.slice none 0 0] 27 (0, 0)) = w3 at *
  have lw3 := lt_of_block e3
  refine ⟨trivial, (callsIn_wide.2 (HP.out g w3 (by omega))).mono ?_⟩
  rintro r w4 ⟨cB, aB, b1, b2, caps, rfl, hM⟩
  have M := hide hM
  have bw4 := (bw2.trans (But.of b3)).trans (But.of hM.below)
  have rc4 := (rc2.mono b3).mono hM.below
  have g4 := (c2.mono b3).mono hM.below
  have e4 := (hM.below.block _ lw3).trans e3
  have lw2 := lt_of_block e2
  have lz3 := hM.below.size
  clear hM b3 hcf HP rc2 c2 bw2 e2 e3 hFC1
  gi_wp2_with fail
  refine wpIn_rounds rfl (by omega) (gf := 75) (lb := #[ptrV b1, ptrV b2]) rfl trivial (fun args w => by kernel_rfl) rfl ?_
  intro ready busy over hrd hbs hov hY
  obtain ⟨W1, hW1⟩ : ∃ W1, W1 = (w4.alloc (.deferred (some []))).alloc ready := ⟨_, rfl⟩
  have bW : Below w4.heap.size w4 W1 := by rw [hW1]; exact ((Below.refl _ _).alloc (Nat.le_refl _) _).alloc (by simp) _
  have hL : W1.heap[w4.heap.size + 1]? = some ready := by rw [hW1]; exact heap_alloc2_new _ _ _
  have hDf : W1.heap[w4.heap.size]? = some (.deferred (some [])) := by rw [hW1]; exact (Below.heap_alloc _ _ _ (by simp)).trans (heap_alloc_new _ _)
  have hz : W1.heap.size = w4.heap.size + 1 + 1 := by rw [hW1]; simp
  rw [← hW1]
  clear hW1
  have m1 := lt_of_block M.out.h1
  have m2 := lt_of_block M.out.h2
  have mc := lt_of_block M.out.capt.cur
  have mc' := M.out.c
  have ma := M.out.al
  have ml1 := M.out.l1
  have ml2 := M.out.l2
  have ma1 := M.out.a1
  have ma2 := M.out.a2
  have hag : aB = g ∨ w3.heap.size ≤ aB := by
    by_cases h : aB = g
    · exact .inl h
    · exact .inr (M.out.ag h)
  have lie : Lie W1 g cB aB b1 b2 w2.heap.size (w4.heap.size + 1) :=
    ⟨by omega, by omega, by omega, by omega, by omega, by omega, by omega, by omega, by omega, by omega, by omega, by omega, by omega, by omega, by omega, by omega, by omega, by omega, by omega, by omega, by omega, by omega⟩
  have hb1 := (bW.block _ m1).trans M.out.h1
  have hb2 := (bW.block _ m2).trans M.out.h2
  have h0 : Rnd f caps W1 g cB aB w2.heap.size (w4.heap.size + 1) ready 300 [] 0 (St.new D) W1 :=
    ⟨rfl, rfl, rfl, Nat.le_refl _, fun _ _ _ _ _ _ => rfl, g4.mono bW, ⟨M.out.capt.list, (bW.block _ mc).trans M.out.capt.cur, fun e => (bW.block _ (lt_of_block (M.out.capt.sum e))).trans (M.out.capt.sum e), M.out.capt.n1, M.out.capt.n2, M.out.capt.n3⟩,
      hL, ⟨none, 0, 0, (bW.block _ (lt_of_block e4)).trans e4, OwnR.empty _ _ _, fun x e => (by cases e), fun x e => (by cases e)⟩, by show [].length + D.length ≤ 300; simp; omega⟩
  have hR : Rounds f caps W1 g cB aB w2.heap.size (w4.heap.size + 1) ready 300 6 := by
    intro pre sum s W x aw lw cw hR hfew htop
    refine hY (.agg (partC x (.slice aw lw cw))) W _ hR.rdy ?_
    obtain ⟨top, how, ht1, ht2, a0, l0, c0, hbx0, hax0⟩ := htop
    obtain ⟨a, len, cap, hbx, hor, hax, hnb⟩ := hR.box
    obtain ⟨rfl, rfl, rfl⟩ : a0 = a ∧ l0 = len ∧ c0 = cap := by
      simpa using hbx0.symm.trans hbx
    clear hbx0 hY
    have ba := (Below.refl W.heap.size W).alloc (Nat.le_refl _) (.cells (partC x (.slice aw lw cw)) 43 (0, 0))
    have ea := heap_alloc_new W (.cells (partC x (.slice aw lw cw)) 43 (0, 0))
    have bza : But (w4.heap.size + 1) W (W.alloc (.cells (partC x (.slice aw lw cw)) 43 (0, 0))) := But.of ba
    have hzW := hR.size
    have lWL := lie.lL
    have lWb := lie.lb
    have HRW := hide hR
    have HOW := hide how
    have HNB := hide hnb
    have HOR := hide hor
    have HAX := hide hax
    clear hR how hnb hor hax
    gi_wp2
    generalize W.alloc (.cells (partC x (.slice aw lw cw)) 43 (0, 0)) = Wa at *
    refine ⟨(ba.block _ (by omega)).trans HRW.out.rdy, ?_⟩
    have bzb := bza.trans (But.putObj Wa (w4.heap.size + 1) busy)
    have hzb : (Wa.putObj (w4.heap.size + 1) busy).heap[w4.heap.size + 1]? = some busy := World.putObj_heap_same (by have := ba.size; omega)
    have eb : (Wa.putObj (w4.heap.size + 1) busy).heap[W.heap.size]? = some (.cells (partC x (.slice aw lw cw)) 43 (0, 0)) := (World.putObj_heap_other (by omega)).trans ea
    clear ba ea bza
    generalize Wa.putObj (w4.heap.size + 1) busy = Wb at *
    have hbb := (bzb.block _ (by omega) lie.bL).trans hbx
    have kb : Wb.cell? ⟨w2.heap.size, 0, none⟩ = some (.slice a0 l0 c0) := cell_of_row Wb _ 0 _ _ _ hbb
    have q0 : Wb.cell? ⟨W.heap.size, 0, none⟩ = some (wordV x.file) := cell_of_row Wb _ 0 _ _ _ eb
    have q1 : Wb.cell? ⟨W.heap.size, 1, none⟩ = some (wordV x.record) := cell_of_row Wb _ 1 _ _ _ eb
    have q2 : Wb.cell? ⟨W.heap.size, 2, none⟩ = some (wordV x.count) := cell_of_row Wb _ 2 _ _ _ eb
    have q3 : Wb.cell? ⟨W.heap.size, 3, none⟩ = some (.slice aw lw cw) := cell_of_row Wb _ 3 _ _ _ eb
    have bzc := bzb.trans (But.of (g := w4.heap.size + 1) ((Below.refl Wb.heap.size Wb).alloc (Nat.le_refl _) (.cells (partC x (.slice aw lw cw)) 43 (0, 0))))
    have hzc : (Wb.alloc (.cells (partC x (.slice aw lw cw)) 43 (0, 0))).heap[w4.heap.size + 1]? = some busy := (Below.heap_alloc _ _ _ (lt_of_block hzb)).trans hzb
    have hsrc := one_src Wb x aw lw cw 43
    have hoc : OwnR (Wb.alloc (.cells (partC x (.slice aw lw cw)) 43 (0, 0))) W1.heap.size a0 l0 c0 pre := HOR.out.offs (Nat.le_refl _) (Off.but bzc (Nat.zero_le _) lWL)
    have hbc : (Wb.alloc (.cells (partC x (.slice aw lw cw)) 43 (0, 0))).heap[w2.heap.size]? = some (.cells #[.slice a0 l0 c0] 27 (0, 0)) := (Below.heap_alloc _ _ _ (lt_of_block hbb)).trans hbb
    have hlen : l0 ≤ 300 := by have := hoc.count; omega
    have hzc' := bzc.size
    obtain ⟨rl, hrl, hown, hws⟩ := hoc
    have hrs : ∀ v ∈ recRow rl, noByte v := recRow_noByte rl fun p hp => by
      obtain ⟨aw, lw, cw, h1, _⟩ := hws p hp
      exact ⟨aw, lw, cw, h1⟩
    obtain ⟨iR, hiR, hzR, hsR, hyR⟩ := info_parts Try.infoR
    clear eb hzb bzb hbb hws
    have HHO := hide hown
    have hBz : W1.heap.size ≤ (Wb.alloc (.cells (partC x (.slice aw lw cw)) 43 (0, 0))).heap.size := by omega
    have hBy : (l0 + 1) * iR.bytes ≤ 140737488355328 := by rw [hyR]; omega
    have hBm : l0 + 1 ≤ maxLen := by unfold maxLen; omega
    gi_wp2_with (gi_at_builtin; refine wpListIn_appendC 4 rfl _ _ 27 27 rfl W1.heap.size 43 iR (.agg zRec) Try.underlying27 hiR hzR hsR rfl a0 l0 c0 (recRow rl) rfl hown _ 1 (recCells x (.slice aw lw cw)) (by omega) (by omega) rfl hsrc hBy hBm hBz ?_; intro a5 cap5 w5 ho5 hb5 hk5 ha5 hall5; have hbx5 := (hb5.block _ lWb).trans hbc; have k5 := cell_of_row w5 w2.heap.size 0 _ _ _ hbx5; have f5 := fr_block hbx5 0)
    have hlast := Rnd.round HRW.out lie hfew hrd hbs HOW.out ht2 hbx hax0 HAX.out HNB.out HOR.out bzc hzc (fun l hl _ => by rw [hl.unique HHO.out]; exact ho5) hb5 hk5 ha5 (fun h => hall5 noByte hrs rec_noByte zRec_noByte h)
    exact ⟨hlast.1, rfl, hlast.2⟩
  clear hY
  refine (iter_any f caps W1 g cB aB b1 b2 w2.heap.size (w4.heap.size + 1) ready 300 6 D lie hb1 hb2 h0 hR).mono ?_
  rintro e W2 ⟨hv, pre, sum, hR2, hpre⟩
  refine ⟨hv, hR2.rdy, ?_⟩
  clear hv hR h0
  obtain ⟨TOT, hT⟩ : ∃ T, T = manyC f D := ⟨_, rfl⟩
  rw [← hT] at hR2 hpre
  have b3 := But.putObj W2 (w4.heap.size + 1) over
  have lg := lie.lg
  have lb := lie.lb
  have hz2 := hR2.size
  have c3 := hR2.cur.besideObj lie.gL hR2.rdy hrd b3
  obtain ⟨a5, l5, c5, hbx, hor, hax, hnb⟩ := hR2.box
  have hbx3 := (b3.block _ (by omega) lie.bL).trans hbx
  have r1 := rc4.mono bW
  have rc3 : Cur (W2.putObj (w4.heap.size + 1) over) gc (c.next (n : Int) 1) := by
    refine r1.apart (S := fun b => b = g ∨ b = aB ∨ b = w2.heap.size ∨ b = w4.heap.size + 1) (by omega) ?_ (by simp; omega) fun i h1 h2 => (World.putObj_heap_other (by omega)).trans (hR2.keep i h1 (by omega) (by omega) (by omega) (by omega))
    intro b hb i y
    obtain ⟨ag0, lg0, cg0, hcg, _⟩ := g4.mono bW
    rcases hb with rfl | rfl | rfl | rfl
    · exact cur_no hcg i y
    · by_cases h : b = g
      · rw [h]; exact cur_no hcg i y
      · have hs := (bW.block _ (lt_of_block (M.out.capt.sum (M.out.az h)))).trans (M.out.capt.sum (M.out.az h))
        rw [cell_of_row _ _ i _ _ _ hs]
        match i with
        | 0 => simp
        | k + 1 => simp
    · rw [cell_of_row _ _ i _ _ _ ((bW.block _ (lt_of_block e4)).trans e4)]
      match i with
      | 0 => simp
      | k + 1 => simp
    · rw [no_cells hL hrd]; simp
  have hdf : (W2.putObj (w4.heap.size + 1) over).heap[w4.heap.size]? = some (.deferred (some [])) := (World.putObj_heap_other (by omega)).trans ((hR2.keep _ (by omega) (by omega) (by omega) (by omega) (by omega)).trans hDf)
  have bw3 : But gc w (W2.putObj (w4.heap.size + 1) over) := ⟨(hR2.os.trans bW.os).trans bw4.os, (hR2.tape.trans bW.tape).trans bw4.tape, (hR2.output.trans bW.output).trans bw4.output, by simp; omega, fun i h1 h2 =>
    (World.putObj_heap_other (by omega)).trans ((hR2.keep i (by omega) (by omega) (by omega) (by omega) (by omega)).trans ((bW.block i (by omega)).trans (bw4.block i h1 h2)))⟩
  have o3 : OwnR (W2.putObj (w4.heap.size + 1) over) W1.heap.size a5 l5 c5 pre := hor.offs (Nat.le_refl _) (off_putObj W2 over lie.lL)
  have hz3 : (W2.putObj (w4.heap.size + 1) over).heap.size = W2.heap.size := by simp
  generalize W2.putObj (w4.heap.size + 1) over = W3 at *
  -- what is told
  obtain ⟨E, hE⟩ : ∃ E, E = blockE (Files.part f) Files.step D := ⟨_, rfl⟩
  have hEf : fixE TOT.2.e = E := by rw [hE, hT]; exact blockC f D
  have hrB : RB.2 = (c.next (n : Int) 1).need (decide (E = 0)) E := by rw [HRB.out, hE, HD.out]; rfl
  have hrL : E = 0 → pre = RB.1 := fun h => by
    obtain ⟨q1, q2⟩ := blockC_list (f := f) (D := D) (by rw [← hE]; exact h)
    rw [← hT] at q1 q2
    rw [hpre q1, q2, HRB.out, HD.out]; rfl
  have hE0 : ((c.next (n : Int) 1).need (decide (E = 0)) E).e = 0 → E = 0 := fun h => by
    by_cases h0 : E = 0
    · exact h0
    · have := (St.need_zero h h0).2.1
      exact of_decide_eq_true this
  have C3 := hide c3
  have RC3 := hide rc3
  have O3 := hide o3
  have HRL := hide hrL
  have HE0 := hide hE0
  have HEF := hide hEf
  have HB2 := hide hrB
  generalize hEE : TOT.2.e = E2 at *
  have HEE := hide hEE
  clear c3 rc3 o3 hrL hE0 hEf hEE hrB hE hT hpre hR2 b3 hor hnb hax hbx r1
  have lgb := lie.gb
  have lz := hz
  have fin : ∀ W5 : World, But gc W3 W5 → Cur W5 gc ((c.next (n : Int) 1).need (decide (E = 0)) E) →
      (W5.heap[w2.heap.size]? = some (.cells #[.slice a5 l5 c5] 27 (0, 0))) ∧ W5.heap[w4.heap.size]? = some (.deferred (some [])) ∧
      OwnR (W5.putObj w4.heap.size (.deferred none)) w.heap.size a5 l5 c5 pre ∧ (RB.2.e = 0 → pre = RB.1) ∧ Cur (W5.putObj w4.heap.size (.deferred none)) gc RB.2 ∧ But gc w (W5.putObj w4.heap.size (.deferred none)) := fun W5 b5 cu5 => by
    have z5 := b5.size
    have d5 := (b5.block _ (by omega) (by omega)).trans hdf
    have b6 := But.putObj W5 w4.heap.size (.deferred none)
    refine ⟨(b5.block _ (by omega) (by omega)).trans hbx3, d5, ?_, fun h => HRL.out (HE0.out (by rw [← HB2.out]; exact h)), ?_, ?_⟩
    · have q1 := O3.out.offs (Nat.le_refl _) (Off.but b5 (Nat.zero_le _) (by omega))
      have q2 := q1.offs (Nat.le_refl _) (Off.but b6 (Nat.zero_le _) (by omega))
      exact q2.base (by omega)
    · rw [HB2.out]
      exact cu5.besideObj (by omega) d5 rfl b6
    · exact (bw3.trans b5).past b6 (by omega)
  have FIN := hide fin
  clear fin O3 HRL HE0 HB2 bw3 hdf
  gi_wp2_with fail
  refine ⟨trivial, (callsIn_wide.2 (err_any g _ W3 C3.out)).mono ?_⟩
  rintro r W4 ⟨rfl, rfl⟩
  rw [HEE.out]
  by_cases h2 : E2 = 2
  · have hE5 : E = 5 := by rw [← HEF.out, h2]; rfl
    subst hE5
    subst h2
    gi_wp2_with fail
    refine ⟨trivial, (callsIn_wide.2 (need_any gc _ _ _ _ RC3.out)).mono ?_⟩
    rintro r W5 ⟨rfl, rc5, b5⟩
    obtain ⟨f1, f2, f3, f4, f5, f6⟩ := FIN.out W5 b5 rc5
    have k5 := cell_of_row W5 w2.heap.size 0 _ _ _ f1
    have F3 := hide f3
    have F4 := hide f4
    have F5 := hide f5
    have F6 := hide f6
    clear f1 f3 f4 f5 f6 rc5 b5 FIN RC3
    gi_wp2
    refine ⟨by simp, .inl ⟨_, _, rfl, run_takeDeferred f2, ?_⟩⟩
    exact ⟨_, results_tmp rfl _ _ _, ⟨a5, l5, c5, pre, rfl, F3.out, F4.out⟩, F5.out, F6.out⟩
  · have hE5 : E2 = E := by rw [← HEF.out]; unfold fixE; rw [if_neg h2]
    subst hE5
    have hq2 : (E2 == 2) = false := by simpa using h2
    have hq0 : (E2 == 0) = decide (E2 = 0) := by rw [Bool.eq_iff_iff]; simp
    gi_wp2_with fail
    refine ⟨trivial, (callsIn_wide.2 (need_any gc _ _ _ _ RC3.out)).mono ?_⟩
    rintro r W5 ⟨rfl, rc5, b5⟩
    obtain ⟨f1, f2, f3, f4, f5, f6⟩ := FIN.out W5 b5 rc5
    have k5 := cell_of_row W5 w2.heap.size 0 _ _ _ f1
    have F3 := hide f3
    have F4 := hide f4
    have F5 := hide f5
    have F6 := hide f6
    clear f1 f3 f4 f5 f6 rc5 b5 FIN RC3
    gi_wp2
    refine ⟨by simp, .inl ⟨_, _, rfl, run_takeDeferred f2, ?_⟩⟩
    exact ⟨_, results_tmp rfl _ _ _, ⟨a5, l5, c5, pre, rfl, F3.out, F4.out⟩, F5.out, F6.out⟩

end Go.Proofs.Ytolkcohmoalnhaa
