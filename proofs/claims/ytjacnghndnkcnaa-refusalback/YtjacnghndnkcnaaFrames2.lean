/-
  A region's operations over a frame that is a variable, II: elements of slices, structs that are copied, regions that draw their order.
-/
import Derived.Test.YtjacnghndnkcnaaFrames
import Derived.Test.YtjacnghndnkcnaaBase
import Derived.Laws.Tables
import Derived.Deep.QuietTactic
namespace Go.Proofs.Ytjacnghndnkcnaa
open Go.RowKit

/-- The address of a field, of a struct that lies anywhere. -/
theorem run_fieldO (w : World) (a : Act) (o : Oper) (S : TypeId) (x : Operand) (k g off : Nat) (f : Field) (fs : Array Field) (ho : o.op = .fieldAddr S x k) (hx : a.eval x = .pointer (some ⟨g, off, none⟩)) (hu : Try.prog.underlying S = some (.struct fs)) (hf : fs[k]? = some f) (hz : (Try.prog.info? f.type).map (·.size) = some 1) (hk : f.offset = k) :
    (execOp a.eval o).run Try.prog w = .ok (.value (.pointer (some ⟨g, off + k, none⟩))) w := by
  cases hi : Try.prog.info? f.type with
  | none => simp [hi] at hz
  | some i =>
    simp [hi] at hz
    unfold execOp
    have hadd : (⟨g, off, none⟩ : Addr).add k = ⟨g, off + k, none⟩ := WideShapes.add_plain _ _ _
    simp [ho, hx, Instr.fieldAt, Instr.sureAddr, fieldPlace, run_underlying hu, hf, sizeOf, typeInfo, hi, hz, hk, hadd]

/-- The address of a slice's element. -/
theorem run_index (w : World) (a : Act) (o : Oper) (t e : TypeId) (x y : Operand) (g off l c k z : Nat) (ho : o.op = .indexAddr t x y) (hx : a.eval x = .slice (some ⟨g, off, none⟩) l c) (hy : a.eval y = .int .i64 (k : Int)) (hk : k < l) (ht : Try.prog.underlying t = some (.slice e)) (hz : (Try.prog.info? e).map (·.size) = some z) :
    (execOp a.eval o).run Try.prog w = .ok (.value (.pointer (some ⟨g, off + k * z, none⟩))) w := by
  cases hi : Try.prog.info? e with
  | none => simp [hi] at hz
  | some i =>
    simp [hi] at hz
    have hadd : (⟨g, off, none⟩ : Addr).add (k * z) = ⟨g, off + k * z, none⟩ := WideShapes.add_plain _ _ _
    unfold execOp
    simp [ho, hx, hy, Instr.indexAt, asIntOf, run_underlying ht, sizeOf, typeInfo, hi, hz, hk, hadd]

/-- Counting: 'i < n', 'i + 1'. -/
theorem run_lss (w : World) (a : Act) (o : Oper) (x y : Operand) (m n : Nat) (ho : o.op = .binOp .lss 3 x y 3) (hx : a.eval x = .int .i64 (m : Int)) (hy : a.eval y = .int .i64 (n : Int)) :
    (execOp a.eval o).run Try.prog w = .ok (.value (.bool (decide (m < n)))) w := by
  have : decide ((m : Int) < (n : Int)) = decide (m < n) := by rw [Bool.eq_iff_iff]; simp
  unfold execOp
  simp [ho, hx, hy]
  go_simp
theorem run_inc (w : World) (a : Act) (o : Oper) (x : Operand) (m : Nat) (hm : m < 2 ^ 63 - 1) (ho : o.op = .binOp .add 3 x (.const (.int .i64 1)) 3) (hx : a.eval x = .int .i64 (m : Int)) :
    (execOp a.eval o).run Try.prog w = .ok (.value (.int .i64 ((m + 1 : Nat) : Int))) w := by
  have hc : a.eval (.const (.int .i64 1)) = .int .i64 1 := rfl
  have hw : IntKind.i64.wrap ((m : Int) + 1) = ((m + 1 : Nat) : Int) := by rw [IntKind.wrap_i64]; omega
  unfold execOp
  generalize a.eval = ρ at *
  simp [ho, hx, hc]
  go_simp

/-- A part of a file, loaded whole; copied into a new block. -/
theorem run_load4 (w : World) (a : Act) (o : Oper) (x : Operand) (g off : Nat) (v0 v1 v2 v3 : Value) (ho : o.op = .load 50 x) (hx : a.eval x = .pointer (some ⟨g, off, none⟩)) (c0 : w.cell? ⟨g, off, none⟩ = some v0) (c1 : w.cell? ⟨g, off + 1, none⟩ = some v1) (c2 : w.cell? ⟨g, off + 2, none⟩ = some v2) (c3 : w.cell? ⟨g, off + 3, none⟩ = some v3) :
    (execOp a.eval o).run Try.prog w = .ok (.value (.agg #[v0, v1, v2, v3])) w := by
  unfold execOp
  simp only [ho, hx]
  go_simp

theorem fcopy {ops : Array Oper} {Q : Exit → Act → World → Prop} {rest : List Oper} {a : Act} {w : World} {o1 o2 : Oper} (d s : Nat) (v0 v1 v2 v3 : Value) (hds : d < s) (hsz : s < a.tmps.size) (es : a.eval (.tmp s) = .agg #[v0, v1, v2, v3]) (hone : (#[v0, v1, v2, v3] : Array Value).all (·.oneCell') = true)
    (d1 : o1.dst = some d) (d2 : o2.dst = none) (p1 : o1.op = .alloc 50) (p2 : o2.op = .store 50 (.tmp d) (.tmp s)) (q1 : o1.guard = none) (q2 : o2.guard = none)
    (h : ∀ b w', Fr a b d d → b.eval (.tmp d) = .pointer (some ⟨w.heap.size, 0, none⟩) → w'.heap[w.heap.size]? = some (.cells #[v0, v1, v2, v3] 50 (0, 0)) → Below w.heap.size w w' → wpList Try.prog ops Q rest b w') : wpList Try.prog ops Q (o1 :: o2 :: rest) a w := by
  refine fstepW d d1 (by omega) q1 (.pointer (some ⟨w.heap.size, 0, none⟩)) (w.alloc (.cells #[.int .u16 0, .int .u16 0, .int .u16 0, .slice none 0 0] 50 (0, 0))) ?_ ?_
  · unfold execOp
    simp only [p1]
    go_simp
  intro b F e
  have es' := (F.rest s (by omega)).trans es
  have hg := heap_alloc_new w (.cells #[.int .u16 0, .int .u16 0, .int .u16 0, .slice none 0 0] 50 (0, 0))
  refine wpList_store_row q2 50 _ _ p2 w.heap.size #[v0, v1, v2, v3] e es' _ _ hg (by kernel_rfl) rfl hone ?_
  rw [d2]
  refine h b _ F e ?_ (below_setRow ((Below.refl _ _).alloc (Nat.le_refl _) _) (Nat.le_refl _) _)
  exact setRow_heap _ _ _ _ _ _ hg

/-- One operation of a region that draws its order and only reads, or calls what keeps the class 'C' of worlds. -/
theorem qstep {P : Program} {ops : Array Oper} {C : World → Prop} {Q : Act → Prop} {rest : List Oper} {o : Oper} {a : Act} (d : Nat) (hd : o.dst = some d) (hs : d < a.tmps.size) (c : Bool) (hc : Region.wanted o (yielded ops a.tmps) = c) (v : Value)
    (hv : c = true → ∀ w, C w → (execOp a.eval o).run P w = .ok (.value v) w) (h : ∀ b, Fr a b d d → (c = true → b.eval (.tmp d) = v) → wpQuiet P ops C Q rest b) : wpQuiet P ops C Q (o :: rest) a := by
  unfold wpQuiet
  cases c
  · rw [if_neg (by simp [hc]), hd]
    exact h _ (Fr.put _ _ _) (fun e => by cases e)
  · rw [if_pos hc]
    refine ⟨v, fun w hw => ?_, ?_⟩
    · unfold Oper.quietAt
      rw [hv rfl w hw]
      exact ⟨rfl, rfl⟩
    · rw [hd]
      exact h _ (Fr.put _ _ _) (fun _ => eval_put_one _ _ _ hs)
theorem qstep0 {P : Program} {ops : Array Oper} {C : World → Prop} {Q : Act → Prop} {rest : List Oper} {o : Oper} {a : Act} (d : Nat) (hd : o.dst = some d) (hs : d < a.tmps.size) (hg : o.guard = none) (v : Value)
    (hv : ∀ w, C w → (execOp a.eval o).run P w = .ok (.value v) w) (h : ∀ b, Fr a b d d → b.eval (.tmp d) = v → wpQuiet P ops C Q rest b) : wpQuiet P ops C Q (o :: rest) a :=
  qstep d hd hs true (wanted_free hg) v (fun _ => hv) fun b hb he => h b hb (he rfl)
theorem qcall {P : Program} {ops : Array Oper} {C : World → Prop} {Q : Act → Prop} {rest : List Oper} {o : Oper} {a : Act} (d : Nat) (hd : o.dst = some d) (hs : d < a.tmps.size) (hg : o.guard = none) (f : FuncId) (args : Array Value) (v : Value)
    (hv : ∀ w, C w → (execOp a.eval o).run P w = .ok (.enter f args) w) (hc : ∀ w, C w → Calls P f args w fun e w' => e = .returned v ∧ C w') (h : ∀ b, Fr a b d d → b.eval (.tmp d) = v → wpQuiet P ops C Q rest b) : wpQuiet P ops C Q (o :: rest) a := by
  unfold wpQuiet
  rw [if_pos (wanted_free hg)]
  refine ⟨v, fun w hw => ?_, ?_⟩
  · unfold Oper.quietAt
    rw [hv w hw]
    exact ⟨rfl, hc w hw⟩
  · rw [hd]
    exact h _ (Fr.put _ _ _) (eval_put_one _ _ _ hs)
theorem qcallG {P : Program} {ops : Array Oper} {C : World → Prop} {Q : Act → Prop} {rest : List Oper} {o : Oper} {a : Act} (d : Nat) (hd : o.dst = some d) (hs : d < a.tmps.size) (hw : Region.wanted o (yielded ops a.tmps) = true) (f : FuncId) (args : Array Value) (v : Value)
    (hv : ∀ w, C w → (execOp a.eval o).run P w = .ok (.enter f args) w) (hc : ∀ w, C w → Calls P f args w fun e w' => e = .returned v ∧ C w') (h : ∀ b, Fr a b d d → b.eval (.tmp d) = v → wpQuiet P ops C Q rest b) : wpQuiet P ops C Q (o :: rest) a := by
  unfold wpQuiet
  rw [if_pos hw]
  refine ⟨v, fun w hw => ?_, ?_⟩
  · unfold Oper.quietAt
    rw [hv w hw]
    exact ⟨rfl, hc w hw⟩
  · rw [hd]
    exact h _ (Fr.put _ _ _) (eval_put_one _ _ _ hs)
theorem run_call0 (w : World) (a : Act) (o : Oper) (f : FuncId) (ho : o.op = .call { callee := .value (.func f), args := #[], argTypes := #[] }) (hf : (callFunc f #[]).run Try.prog w = .ok (.enter f #[]) w) :
    (execOp a.eval o).run Try.prog w = .ok (.enter f #[]) w := by
  have hfun : a.eval (.func f) = .func (.func f) #[] #[] := rfl
  unfold execOp
  generalize a.eval = ρ at *
  simp only [ho]
  go_simp
theorem run_call1 (w : World) (a : Act) (o : Oper) (f : FuncId) (x : Operand) (v1 : Value) (t1 : TypeId) (ho : o.op = .call { callee := .value (.func f), args := #[x], argTypes := #[t1] }) (hx : a.eval x = v1) (hf : (callFunc f #[v1]).run Try.prog w = .ok (.enter f #[v1]) w) :
    (execOp a.eval o).run Try.prog w = .ok (.enter f #[v1]) w := by
  have hfun : a.eval (.func f) = .func (.func f) #[] #[] := rfl
  unfold execOp
  generalize a.eval = ρ at *
  simp only [ho]
  go_simp
theorem run_eqlB (w : World) (a : Act) (o : Oper) (x y : Operand) (b c : Bool) (ho : o.op = .binOp .eql 4 x y 4) (hx : a.eval x = .bool b) (hy : a.eval y = .bool c) : (execOp a.eval o).run Try.prog w = .ok (.value (.bool (b == c))) w := by
  unfold execOp
  simp [ho, hx, hy]
  go_simp

theorem qcallC {P : Program} {ops : Array Oper} {C : World → Prop} {Q : Act → Prop} {rest : List Oper} {o : Oper} {a : Act} (d : Nat) (hd : o.dst = some d) (hs : d < a.tmps.size) (c : Bool) (hw : Region.wanted o (yielded ops a.tmps) = c) (f : FuncId) (args : Array Value) (v : Value)
    (hv : c = true → ∀ w, C w → (execOp a.eval o).run P w = .ok (.enter f args) w) (hc : c = true → ∀ w, C w → Calls P f args w fun e w' => e = .returned v ∧ C w') (h : ∀ b, Fr a b d d → (c = true → b.eval (.tmp d) = v) → wpQuiet P ops C Q rest b) : wpQuiet P ops C Q (o :: rest) a := by
  cases c
  · unfold wpQuiet
    rw [if_neg (by simp [hw]), hd]
    exact h _ (Fr.put _ _ _) (fun e => by cases e)
  · exact qcallG d hd hs hw f args v (hv rfl) (hc rfl) fun b F e => h b F fun _ => e

theorem run_callF (w : World) (a : Act) (o : Oper) (f g : FuncId) (x y : Operand) (v1 v2 : Value) (t1 t2 t3 : TypeId) (ho : o.op = .call { callee := .value (.func f), args := #[x, y, .func g], argTypes := #[t1, t2, t3] }) (hx : a.eval x = v1) (hy : a.eval y = v2) (hf : (callFunc f #[v1, v2, .func (.func g) #[] #[]]).run Try.prog w = .ok (.enter f #[v1, v2, .func (.func g) #[] #[]]) w) :
    (execOp a.eval o).run Try.prog w = .ok (.enter f #[v1, v2, .func (.func g) #[] #[]]) w := by
  have hfun : a.eval (.func f) = .func (.func f) #[] #[] := rfl
  have hgun : a.eval (.func g) = .func (.func g) #[] #[] := rfl
  unfold execOp
  generalize a.eval = ρ at *
  simp only [ho]
  go_simp

/-- '&& f(a.F, b.F)', of two messages in blocks of their own, in a region that draws its order. -/
theorem qunit {ops : Array Oper} {C : World → Prop} {Q : Act → Prop} {rest : List Oper} {a : Act} {o1 o2 o3 o4 o5 o6 : Oper} (s sg j k : Nat) (ty : TypeId) (fn : FuncId) (args : Array Value) (g1 g2 : Nat) (x y : Value) (c D : Bool) (f : Field) (fs : Array Field)
    (hu : Try.prog.underlying 30 = some (.struct fs)) (hf : fs[k]? = some f) (hz : (Try.prog.info? f.type).map (·.size) = some 1) (hk : f.offset = k) (hag : ∀ w, (isAgg ty).run Try.prog w = .ok false w)
    (hj : (ops[j]?).bind (·.dst) = some sg) (hsg : sg < s) (h3s : 3 < s) (hsz : s + 5 < a.tmps.size) (e2 : a.eval (.tmp 2) = .pointer (some ⟨g1, 0, none⟩)) (e3 : a.eval (.tmp 3) = .pointer (some ⟨g2, 0, none⟩)) (eg : a.eval (.tmp sg) = .bool c)
    (c1 : ∀ w, C w → w.cell? ⟨g1, k, none⟩ = some x) (c2 : ∀ w, C w → w.cell? ⟨g2, k, none⟩ = some y)
    (hrun : ∀ b : Act, b.eval (.tmp (s + 1)) = x → b.eval (.tmp (s + 3)) = y → ∀ w, (execOp b.eval o5).run Try.prog w = .ok (.enter fn args) w) (hcall : ∀ w, C w → Calls Try.prog fn args w fun e w' => e = .returned (.bool D) ∧ C w')
    (d1 : o1.dst = some s) (d2 : o2.dst = some (s + 1)) (d3 : o3.dst = some (s + 2)) (d4 : o4.dst = some (s + 3)) (d5 : o5.dst = some (s + 4)) (d6 : o6.dst = some (s + 5))
    (p1 : o1.op = .fieldAddr 30 (.tmp 2) k) (p2 : o2.op = .load ty (.tmp s)) (p3 : o3.op = .fieldAddr 30 (.tmp 3) k) (p4 : o4.op = .load ty (.tmp (s + 2))) (p6 : o6.op = .pick (.tmp sg) (.tmp (s + 4)) (.const (.bool false)))
    (q1 : o1.guard = some (j, true)) (q2 : o2.guard = some (j, true)) (q3 : o3.guard = some (j, true)) (q4 : o4.guard = some (j, true)) (q5 : o5.guard = some (j, true)) (q6 : o6.guard = none)
    (h : ∀ b, Fr a b s (s + 5) → b.eval (.tmp (s + 5)) = .bool (c && D) → wpQuiet Try.prog ops C Q rest b) : wpQuiet Try.prog ops C Q (o1 :: o2 :: o3 :: o4 :: o5 :: o6 :: rest) a := by
  refine qstep s d1 (by omega) (c == true) (wanted_by q1 hj (by omega) eg) (.pointer (some ⟨g1, k, none⟩)) (fun _ w _ => run_field w a o1 _ _ k g1 f fs p1 e2 hu hf hz hk) ?_
  intro b1 F1 v1
  have z1 := F1.size
  have t1 := (F1.rest sg (by omega)).trans eg
  refine qstep (s + 1) d2 (by omega) (c == true) (wanted_by q2 hj (by omega) t1) x (fun hc w hw => run_load w b1 o2 ty _ _ _ p2 (v1 hc) (c1 w hw) (hag w)) ?_
  intro b2 F2 v2
  have z2 := F2.size
  have t2 := (F2.rest sg (by omega)).trans t1
  refine qstep (s + 2) d3 (by omega) (c == true) (wanted_by q3 hj (by omega) t2) (.pointer (some ⟨g2, k, none⟩)) (fun _ w _ => run_field w b2 o3 _ _ k g2 f fs p3 ((F2.rest 3 (by omega)).trans ((F1.rest 3 (by omega)).trans e3)) hu hf hz hk) ?_
  intro b3 F3 v3
  have z3 := F3.size
  have t3 := (F3.rest sg (by omega)).trans t2
  refine qstep (s + 3) d4 (by omega) (c == true) (wanted_by q4 hj (by omega) t3) y (fun hc w hw => run_load w b3 o4 ty _ _ _ p4 (v3 hc) (c2 w hw) (hag w)) ?_
  intro b4 F4 v4
  have z4 := F4.size
  have t4 := (F4.rest sg (by omega)).trans t3
  refine qcallC (s + 4) d5 (by omega) (c == true) (wanted_by q5 hj (by omega) t4) fn args (.bool D) (fun hc w _ => hrun b4 ((F4.rest (s + 1) (by omega)).trans ((F3.rest (s + 1) (by omega)).trans (v2 hc))) (v4 hc) w) (fun _ => hcall) ?_
  intro b5 F5 v5
  have z5 := F5.size
  have t5 := (F5.rest sg (by omega)).trans t4
  refine qstep0 (s + 5) d6 (by omega) q6 (.bool (c && D)) (fun w _ => ?_) ?_
  · rw [run_pick w b5 o6 _ _ _ c p6 t5]
    cases c
    · simp [Act.eval]
    · simp [v5 rfl]
  intro b6 F6 v6
  refine h b6 ?_ v6
  exact ((((((Fr.refl a s (s + 5)).trans F1 (by omega) (by omega)).trans F2 (by omega) (by omega)).trans F3 (by omega) (by omega)).trans F4 (by omega) (by omega)).trans F5 (by omega) (by omega)).trans F6 (by omega) (by omega)

theorem run_eqlA (w : World) (a : Act) (o : Oper) (t : TypeId) (x y : Operand) (M N : Array Value) (D : Bool) (ho : o.op = .binOp .eql t x y t) (hx : a.eval x = .agg M) (hy : a.eval y = .agg N) (heq : (Op.equalIn 10000 t (.agg M) (.agg N)).run Try.prog w = .ok D w) (hgd : (eqGuard .eql t x y (.agg M) (.agg N)).run Try.prog w = .ok () w) : (execOp a.eval o).run Try.prog w = .ok (.value (.bool D)) w := by
  unfold execOp
  simp [ho, hx, hy]
  go_simp

/-- The region itself. -/
theorem seq_drawn {id : Nat} {l : List Oper} {y : Code} {Q : Exit → Act → World → Prop} {a : Act} {w : World} (C : World → Prop) (hm : Try.prog.follows .mixedOrders = true) (hB : Region.lexB .any l.toArray = true) (hC : C w.drew)
    (h : wpQuiet Try.prog l.toArray C (fun a' => ∀ w', C w' → y.wp Try.prog Q a' w') l a) : (Code.seq (Code.region id l.toArray true) y).wp Try.prog Q a w :=
  wp_seq (wp_region_quiet (C := C) hm hB hC h)

/-- Ways out. -/
theorem then_ret {K : Act → World → Prop} {Q : Exit → Act → World → Prop} {a : Act} {w : World} (h : Q .ret a w) : Exit.then K Q .ret a w := h
theorem block_ret {id : Nat} {Q : Exit → Act → World → Prop} {a : Act} {w : World} (h : Q .ret a w) : Exit.inBlock id Q .ret a w := h
theorem then_exit {K : Act → World → Prop} {Q : Exit → Act → World → Prop} {a : Act} {w : World} {id : Nat} (h : Q (.exit id) a w) : Exit.then K Q (.exit id) a w := h
theorem block_exit {id : Nat} {Q : Exit → Act → World → Prop} {a : Act} {w : World} (h : Q .normal a w) : Exit.inBlock id Q (.exit id) a w := by
  unfold Exit.inBlock
  simpa using h
theorem block_end {id : Nat} {Q : Exit → Act → World → Prop} {a : Act} {w : World} (h : Q .normal a w) : Exit.inBlock id Q .normal a w := h
theorem then_end {K : Act → World → Prop} {Q : Exit → Act → World → Prop} {a : Act} {w : World} (h : K a w) : Exit.then K Q .normal a w := h

end Go.Proofs.Ytjacnghndnkcnaa
