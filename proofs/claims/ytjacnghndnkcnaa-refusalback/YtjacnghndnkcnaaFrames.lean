/-
  A region's operations over a frame that is a variable: what is known of it are single slots.
-/
import Derived.Test.YtjacnghndnkcnaaRows
import Derived.Outline
import Derived.WalkKit
import Derived.Deep.RegionHeld3
namespace Go.Proofs.Ytjacnghndnkcnaa
open Go.RowKit

/-- The frame 'b' is the frame 'a' but for the slots from 'lo' to 'hi'. -/
structure Fr (a b : Act) (lo hi : Nat) : Prop where
  size : b.tmps.size = a.tmps.size
  defers : b.defers = a.defers
  rest : ∀ t, (t < lo ∨ hi < t) → b.eval (.tmp t) = a.eval (.tmp t)

theorem Fr.refl (a : Act) (lo hi : Nat) : Fr a a lo hi := ⟨rfl, rfl, fun _ _ => rfl⟩
theorem Fr.trans {a b c : Act} {lo hi lo' hi' : Nat} (h : Fr a b lo hi) (k : Fr b c lo' hi') (h1 : lo ≤ lo') (h2 : hi' ≤ hi) : Fr a c lo hi :=
  ⟨k.size.trans h.size, k.defers.trans h.defers, fun t ht => (k.rest t (by omega)).trans (h.rest t ht)⟩

theorem Fr.wide {a b : Act} {lo hi lo' hi' : Nat} (h : Fr a b lo hi) (h1 : lo' ≤ lo) (h2 : hi ≤ hi') : Fr a b lo' hi' := ⟨h.size, h.defers, fun t ht => h.rest t (by omega)⟩

theorem sz_lt {n m d : Nat} (h : n = m) (hd : d < m) : d < n := by omega

theorem eval_put_one (a : Act) (d : Nat) (v : Value) (h : d < a.tmps.size) : (a.put (some d) v).eval (.tmp d) = v := by
  simp [Act.put, Act.eval, Array.getD, h]
theorem eval_put_far (a : Act) (d j : Nat) (v : Value) (h : d ≠ j) : (a.put (some d) v).eval (.tmp j) = a.eval (.tmp j) := by
  simp only [Act.put, Act.eval, Array.getD_eq_getD_getElem?]
  rw [Array.getElem?_setIfInBounds_ne h]
theorem Fr.put (a : Act) (d : Nat) (v : Value) : Fr a (a.put (some d) v) d d :=
  ⟨by simp [Act.put], rfl, fun t ht => eval_put_far a d t v (by omega)⟩

theorem wanted_free {o : Oper} {f : Nat → Option Bool} (hg : o.guard = none) : Region.wanted o f = true := by simp [Region.wanted, hg]
theorem wanted_by {o : Oper} {ops : Array Oper} {a : Act} {j s : Nat} {want c : Bool} (hg : o.guard = some (j, want)) (hj : (ops[j]?).bind (·.dst) = some s) (hs : s < a.tmps.size) (hc : a.eval (.tmp s) = .bool c) : Region.wanted o (yielded ops a.tmps) = (c == want) := by
  have h1 : a.tmps[s]? = some (.bool c) := by
    rw [Array.getElem?_eq_getElem hs]
    simpa [Act.eval, Array.getD, hs] using hc
  simp [Region.wanted, hg, yielded, hj, h1]

/-- An operation that yields a value and does nothing else. -/
theorem wp_yield {P : Program} {o : Oper} {a : Act} {w : World} {K : Act → World → Prop} {Q : Exit → Act → World → Prop} {v : Value} (h : (execOp a.eval o).run P w = .ok (.value v) w) (hk : K (a.put o.dst v) w) : o.wp P a w K Q := by
  unfold Oper.wp
  rw [h]
  exact hk

/-- One operation over a frame that is a variable: where its guard holds it yields 'v', else nothing. -/
theorem fstep {P : Program} {ops : Array Oper} {Q : Exit → Act → World → Prop} {rest : List Oper} {o : Oper} {a : Act} {w : World} (d : Nat) (hd : o.dst = some d) (hs : d < a.tmps.size) (c : Bool) (hc : Region.wanted o (yielded ops a.tmps) = c) (v : Value)
    (hv : c = true → (execOp a.eval o).run P w = .ok (.value v) w) (h : ∀ b, Fr a b d d → (c = true → b.eval (.tmp d) = v) → wpList P ops Q rest b w) : wpList P ops Q (o :: rest) a w := by
  unfold wpList
  cases c
  · rw [if_neg (by simp [hc])]
    rw [hd]
    exact h _ (Fr.put _ _ _) (fun e => by cases e)
  · rw [if_pos hc]
    refine .inl (wp_yield (hv rfl) ?_)
    rw [hd]
    exact h _ (Fr.put _ _ _) (fun _ => eval_put_one _ _ _ hs)

/-- .. whose guard is none. -/
theorem fstep0 {P : Program} {ops : Array Oper} {Q : Exit → Act → World → Prop} {rest : List Oper} {o : Oper} {a : Act} {w : World} (d : Nat) (hd : o.dst = some d) (hs : d < a.tmps.size) (hg : o.guard = none) (v : Value)
    (hv : (execOp a.eval o).run P w = .ok (.value v) w) (h : ∀ b, Fr a b d d → b.eval (.tmp d) = v → wpList P ops Q rest b w) : wpList P ops Q (o :: rest) a w :=
  fstep d hd hs true (wanted_free hg) v (fun _ => hv) fun b hb he => h b hb (he rfl)

theorem run_field (w : World) (a : Act) (o : Oper) (S : TypeId) (x : Operand) (k g : Nat) (f : Field) (fs : Array Field) (ho : o.op = .fieldAddr S x k) (hx : a.eval x = .pointer (some ⟨g, 0, none⟩)) (hu : Try.prog.underlying S = some (.struct fs)) (hf : fs[k]? = some f) (hz : (Try.prog.info? f.type).map (·.size) = some 1) (hk : f.offset = k) :
    (execOp a.eval o).run Try.prog w = .ok (.value (.pointer (some ⟨g, k, none⟩))) w := by
  cases hi : Try.prog.info? f.type with
  | none => simp [hi] at hz
  | some i =>
    simp [hi] at hz
    unfold execOp
    have hadd : (⟨g, 0, none⟩ : Addr).add k = ⟨g, k, none⟩ := by
      rw [WideShapes.add_plain]; simp
    simp [ho, hx, Instr.fieldAt, Instr.sureAddr, fieldPlace, run_underlying hu, hf, sizeOf, typeInfo, hi, hz, hk, hadd]

theorem run_load (w : World) (a : Act) (o : Oper) (ty : TypeId) (x : Operand) (p : Addr) (v : Value) (ho : o.op = .load ty x) (hx : a.eval x = .pointer (some p)) (hc : w.cell? p = some v) (hi : (isAgg ty).run Try.prog w = .ok false w) :
    (execOp a.eval o).run Try.prog w = .ok (.value v) w := by
  unfold execOp
  simp [ho, hx, Instr.loadAt, Instr.sureAddr, loadVar, hi]
  go_simp

theorem run_neq (w : World) (a : Act) (o : Oper) (ty : TypeId) (x y : Operand) (q : IntKind) (m n : Int) (ho : o.op = .binOp .neq ty x y ty) (hx : a.eval x = .int q m) (hy : a.eval y = .int q n) :
    (execOp a.eval o).run Try.prog w = .ok (.value (.bool (m != n))) w := by
  unfold execOp
  simp [ho, hx, hy]
  go_simp
theorem run_pick (w : World) (a : Act) (o : Oper) (c x y : Operand) (b : Bool) (ho : o.op = .pick c x y) (hc : a.eval c = .bool b) :
    (execOp a.eval o).run Try.prog w = .ok (.value (if b then a.eval x else a.eval y)) w := by
  unfold execOp
  cases b <;> simp [ho, hc] <;> go_simp
theorem run_move (w : World) (a : Act) (o : Oper) (x : Operand) (ho : o.op = .move x) : (execOp a.eval o).run Try.prog w = .ok (.value (a.eval x)) w := by
  unfold execOp
  simp [ho]
theorem run_not (w : World) (a : Act) (o : Oper) (x : Operand) (b : Bool) (ho : o.op = .unOp .not 4 x) (hx : a.eval x = .bool b) : (execOp a.eval o).run Try.prog w = .ok (.value (.bool (!b))) w := by
  unfold execOp
  simp [ho, hx]
  go_simp

/-- 'a.F != b.F', of two structs in blocks of their own, where a guard holds. -/
theorem unit {ops : Array Oper} {Q : Exit → Act → World → Prop} {rest : List Oper} {a : Act} {w : World} {o1 o2 o3 o4 o5 o6 : Oper} (S : TypeId) (r1 r2 s sg j k : Nat) (ty : TypeId) (q : IntKind) (g1 g2 : Nat) (m n : Int) (c : Bool) (f : Field) (fs : Array Field)
    (hu : Try.prog.underlying S = some (.struct fs)) (hf : fs[k]? = some f) (hz : (Try.prog.info? f.type).map (·.size) = some 1) (hk : f.offset = k) (hag : (isAgg ty).run Try.prog w = .ok false w)
    (hj : (ops[j]?).bind (·.dst) = some sg) (hsg : sg < s) (h3s : r2 < s) (hsz : s + 5 < a.tmps.size) (e2 : a.eval (.tmp r1) = .pointer (some ⟨g1, 0, none⟩)) (e3 : a.eval (.tmp r2) = .pointer (some ⟨g2, 0, none⟩)) (eg : a.eval (.tmp sg) = .bool c)
    (c1 : w.cell? ⟨g1, k, none⟩ = some (.int q m)) (c2 : w.cell? ⟨g2, k, none⟩ = some (.int q n))
    (d1 : o1.dst = some s) (d2 : o2.dst = some (s + 1)) (d3 : o3.dst = some (s + 2)) (d4 : o4.dst = some (s + 3)) (d5 : o5.dst = some (s + 4)) (d6 : o6.dst = some (s + 5))
    (p1 : o1.op = .fieldAddr S (.tmp r1) k) (p2 : o2.op = .load ty (.tmp s)) (p3 : o3.op = .fieldAddr S (.tmp r2) k) (p4 : o4.op = .load ty (.tmp (s + 2))) (p5 : o5.op = .binOp .neq ty (.tmp (s + 1)) (.tmp (s + 3)) ty) (p6 : o6.op = .pick (.tmp sg) (.const (.bool true)) (.tmp (s + 4)))
    (q1 : o1.guard = some (j, false)) (q2 : o2.guard = some (j, false)) (q3 : o3.guard = some (j, false)) (q4 : o4.guard = some (j, false)) (q5 : o5.guard = some (j, false)) (q6 : o6.guard = none)
    (h : ∀ b, Fr a b s (s + 5) → b.eval (.tmp (s + 5)) = .bool (c || (m != n)) → wpList Try.prog ops Q rest b w) : wpList Try.prog ops Q (o1 :: o2 :: o3 :: o4 :: o5 :: o6 :: rest) a w := by
  refine fstep s d1 (by omega) (c == false) (wanted_by q1 hj (by omega) eg) (.pointer (some ⟨g1, k, none⟩)) (fun _ => run_field w a o1 _ _ k g1 f fs p1 e2 hu hf hz hk) ?_
  intro b1 F1 v1
  have z1 := F1.size
  refine fstep (s + 1) d2 (by omega) (c == false) (wanted_by q2 hj (by omega) ((F1.rest sg (by omega)).trans eg)) (.int q m) (fun hc => run_load w b1 o2 ty _ _ _ p2 (v1 hc) c1 hag) ?_
  intro b2 F2 v2
  have z2 := F2.size
  refine fstep (s + 2) d3 (by omega) (c == false) (wanted_by q3 hj (by omega) ((F2.rest sg (by omega)).trans ((F1.rest sg (by omega)).trans eg))) (.pointer (some ⟨g2, k, none⟩)) (fun _ => run_field w b2 o3 _ _ k g2 f fs p3 ((F2.rest r2 (by omega)).trans ((F1.rest r2 (by omega)).trans e3)) hu hf hz hk) ?_
  intro b3 F3 v3
  have z3 := F3.size
  have g3 : b3.eval (.tmp sg) = .bool c := (F3.rest sg (by omega)).trans ((F2.rest sg (by omega)).trans ((F1.rest sg (by omega)).trans eg))
  refine fstep (s + 3) d4 (by omega) (c == false) (wanted_by q4 hj (by omega) g3) (.int q n) (fun hc => run_load w b3 o4 ty _ _ _ p4 (v3 hc) c2 hag) ?_
  intro b4 F4 v4
  have z4 := F4.size
  have g4 : b4.eval (.tmp sg) = .bool c := (F4.rest sg (by omega)).trans g3
  refine fstep (s + 4) d5 (by omega) (c == false) (wanted_by q5 hj (by omega) g4) (.bool (m != n)) (fun hc => run_neq w b4 o5 ty _ _ q m n p5 ((F4.rest (s + 1) (by omega)).trans ((F3.rest (s + 1) (by omega)).trans (v2 hc))) (v4 hc)) ?_
  intro b5 F5 v5
  have z5 := F5.size
  have g5 : b5.eval (.tmp sg) = .bool c := (F5.rest sg (by omega)).trans g4
  refine fstep0 (s + 5) d6 (by omega) q6 (.bool (c || (m != n))) ?_ ?_
  · rw [run_pick w b5 o6 _ _ _ c p6 g5]
    cases c
    · simp [v5 rfl]
    · simp [Act.eval]
  intro b6 F6 v6
  refine h b6 ?_ v6
  exact ((((((Fr.refl a s (s + 5)).trans F1 (by omega) (by omega)).trans F2 (by omega) (by omega)).trans F3 (by omega) (by omega)).trans F4 (by omega) (by omega)).trans F5 (by omega) (by omega)).trans F6 (by omega) (by omega)

/-- The first of a chain: no guard; what is told is moved on. -/
theorem unit0 {ops : Array Oper} {Q : Exit → Act → World → Prop} {rest : List Oper} {a : Act} {w : World} {o1 o2 o3 o4 o5 o6 : Oper} (s k : Nat) (ty : TypeId) (q : IntKind) (g1 g2 : Nat) (m n : Int) (f : Field) (fs : Array Field)
    (hu : Try.prog.underlying 30 = some (.struct fs)) (hf : fs[k]? = some f) (hz : (Try.prog.info? f.type).map (·.size) = some 1) (hk : f.offset = k) (hag : (isAgg ty).run Try.prog w = .ok false w)
    (h3s : 3 < s) (hsz : s + 5 < a.tmps.size) (e2 : a.eval (.tmp 2) = .pointer (some ⟨g1, 0, none⟩)) (e3 : a.eval (.tmp 3) = .pointer (some ⟨g2, 0, none⟩))
    (c1 : w.cell? ⟨g1, k, none⟩ = some (.int q m)) (c2 : w.cell? ⟨g2, k, none⟩ = some (.int q n))
    (d1 : o1.dst = some s) (d2 : o2.dst = some (s + 1)) (d3 : o3.dst = some (s + 2)) (d4 : o4.dst = some (s + 3)) (d5 : o5.dst = some (s + 4)) (d6 : o6.dst = some (s + 5))
    (p1 : o1.op = .fieldAddr 30 (.tmp 2) k) (p2 : o2.op = .load ty (.tmp s)) (p3 : o3.op = .fieldAddr 30 (.tmp 3) k) (p4 : o4.op = .load ty (.tmp (s + 2))) (p5 : o5.op = .binOp .neq ty (.tmp (s + 1)) (.tmp (s + 3)) ty) (p6 : o6.op = .move (.tmp (s + 4)))
    (q1 : o1.guard = none) (q2 : o2.guard = none) (q3 : o3.guard = none) (q4 : o4.guard = none) (q5 : o5.guard = none) (q6 : o6.guard = none)
    (h : ∀ b, Fr a b s (s + 5) → b.eval (.tmp (s + 5)) = .bool (m != n) → wpList Try.prog ops Q rest b w) : wpList Try.prog ops Q (o1 :: o2 :: o3 :: o4 :: o5 :: o6 :: rest) a w := by
  refine fstep0 s d1 (by omega) q1 (.pointer (some ⟨g1, k, none⟩)) (run_field w a o1 _ _ k g1 f fs p1 e2 hu hf hz hk) ?_
  intro b1 F1 v1
  have z1 := F1.size
  refine fstep0 (s + 1) d2 (by omega) q2 (.int q m) (run_load w b1 o2 ty _ _ _ p2 v1 c1 hag) ?_
  intro b2 F2 v2
  have z2 := F2.size
  refine fstep0 (s + 2) d3 (by omega) q3 (.pointer (some ⟨g2, k, none⟩)) (run_field w b2 o3 _ _ k g2 f fs p3 ((F2.rest 3 (by omega)).trans ((F1.rest 3 (by omega)).trans e3)) hu hf hz hk) ?_
  intro b3 F3 v3
  have z3 := F3.size
  refine fstep0 (s + 3) d4 (by omega) q4 (.int q n) (run_load w b3 o4 ty _ _ _ p4 v3 c2 hag) ?_
  intro b4 F4 v4
  have z4 := F4.size
  refine fstep0 (s + 4) d5 (by omega) q5 (.bool (m != n)) (run_neq w b4 o5 ty _ _ q m n p5 ((F4.rest (s + 1) (by omega)).trans ((F3.rest (s + 1) (by omega)).trans v2)) v4) ?_
  intro b5 F5 v5
  have z5 := F5.size
  refine fstep0 (s + 5) d6 (by omega) q6 (.bool (m != n)) (by rw [run_move w b5 o6 _ p6, v5]) ?_
  intro b6 F6 v6
  refine h b6 ?_ v6
  exact ((((((Fr.refl a s (s + 5)).trans F1 (by omega) (by omega)).trans F2 (by omega) (by omega)).trans F3 (by omega) (by omega)).trans F4 (by omega) (by omega)).trans F5 (by omega) (by omega)).trans F6 (by omega) (by omega)

/-- What is known of a frame, written out again. -/
theorem Fr.form {a b : Act} {lo hi : Nat} (h : Fr a b lo hi) (hlo : lo ≤ hi) (hhi : hi < a.tmps.size) : ∃ us : List Value, us.length = hi + 1 - lo ∧ b = ⟨(a.tmps.toList.take lo ++ (us ++ a.tmps.toList.drop (hi + 1))).toArray, a.defers⟩ := by
  refine ⟨(b.tmps.toList.drop lo).take (hi + 1 - lo), ?_, ?_⟩
  · have := h.size
    simp
    omega
  · obtain ⟨bt, bd⟩ := b
    obtain ⟨at', ad⟩ := a
    have hs : bt.size = at'.size := h.size
    have hd : bd = ad := h.defers
    subst hd
    congr 1
    apply Array.ext'
    apply List.ext_getElem?
    intro i
    have key : ∀ t, (t < lo ∨ hi < t) → bt.toList[t]? = at'.toList[t]? := fun t ht => by
      have := h.rest t ht
      simp only [Act.eval, Array.getD_eq_getD_getElem?] at this
      by_cases h1 : t < bt.size
      · have h2 : t < at'.size := by omega
        simp [h1, h2] at this ⊢
        exact this
      · have h2 : ¬ t < at'.size := by omega
        simp [h1, h2]
    simp only [List.getElem?_append, List.length_take, List.length_drop, Array.length_toList, List.getElem?_take, List.getElem?_drop]
    have hz1 : min lo at'.size = lo := by
      have : hi < at'.size := hhi
      omega
    have hz2 : min (hi + 1 - lo) (bt.size - lo) = hi + 1 - lo := by
      have : hi < at'.size := hhi
      omega
    rw [hz1, hz2]
    by_cases h1 : i < lo
    · simp only [h1, if_true]
      exact key i (.inl h1)
    · simp only [h1, if_false]
      by_cases h2 : i - lo < hi + 1 - lo
      · simp only [h2, if_true]
        congr 1
        omega
      · simp only [h2, if_false]
        rw [key i (.inr (by omega))]
        congr 1
        omega

theorem run_assign (w : World) (a : Act) (o : Oper) (x : Operand) (ho : o.op = .assign x) : (execOp a.eval o).run Try.prog w = .ok (.value (a.eval x)) w := by
  unfold execOp
  simp [ho]
theorem run_len (w : World) (a : Act) (o : Oper) (x : Operand) (t e : TypeId) (p : Option Addr) (l c : Nat) (ho : o.op = .call { callee := .builtin .len, args := #[x], argTypes := #[t] }) (hx : a.eval x = .slice p l c) (ht : Try.prog.underlying t = some (.slice e)) :
    (execOp a.eval o).run Try.prog w = .ok (.value (.int .i64 (l : Int))) w := by
  unfold execOp
  generalize a.eval = ρ at *
  simp only [ho]
  go_simp

/-- A call of a function of the program. -/
theorem fcall {P : Program} {ops : Array Oper} {Q : Exit → Act → World → Prop} {rest : List Oper} {o : Oper} {a : Act} {w : World} (d : Nat) (hd : o.dst = some d) (hs : d < a.tmps.size) (hg : o.guard = none) (f : FuncId) (args : Array Value)
    (hv : (execOp a.eval o).run P w = .ok (.enter f args) w) (R : Value → World → Prop) (hc : Calls P f args w fun e w' => ∃ v, e = .returned v ∧ R v w')
    (h : ∀ b w' v, Fr a b d d → b.eval (.tmp d) = v → R v w' → wpList P ops Q rest b w') : wpList P ops Q (o :: rest) a w := by
  refine wpList_plain hg fun K hK => ?_
  unfold Oper.wp
  rw [hv, Oper.upon_enter]
  refine hc.mono ?_
  rintro e w' ⟨v, rfl, hr⟩
  refine hK _ _ ?_
  rw [hd]
  exact h _ _ v (Fr.put _ _ _) (eval_put_one _ _ _ hs) hr

theorem run_call2 (w : World) (a : Act) (o : Oper) (f : FuncId) (x y : Operand) (v1 v2 : Value) (t1 t2 : TypeId) (ho : o.op = .call { callee := .value (.func f), args := #[x, y], argTypes := #[t1, t2] }) (hx : a.eval x = v1) (hy : a.eval y = v2) (hf : (callFunc f #[v1, v2]).run Try.prog w = .ok (.enter f #[v1, v2]) w) :
    (execOp a.eval o).run Try.prog w = .ok (.enter f #[v1, v2]) w := by
  have hfun : a.eval (.func f) = .func (.func f) #[] #[] := rfl
  unfold execOp
  generalize a.eval = ρ at *
  simp only [ho]
  go_simp

theorem calls30 (v1 v2 : Value) (w : World) : (callFunc 21 #[v1, v2]).run Try.prog w = .ok (.enter 21 #[v1, v2]) w := by kernel_rfl
theorem calls31 (v1 v2 : Value) (w : World) : (callFunc 22 #[v1, v2]).run Try.prog w = .ok (.enter 22 #[v1, v2]) w := by kernel_rfl
theorem calls32 (v1 v2 : Value) (w : World) : (callFunc 15 #[v1, v2]).run Try.prog w = .ok (.enter 15 #[v1, v2]) w := by kernel_rfl

/-- '|| !d', where a guard holds. -/
theorem unitNot {ops : Array Oper} {Q : Exit → Act → World → Prop} {rest : List Oper} {a : Act} {w : World} {o1 o2 o3 : Oper} (s sg j r : Nat) (c d : Bool)
    (hj : (ops[j]?).bind (·.dst) = some sg) (hsg : sg < s) (hsz : s + 2 < a.tmps.size) (er : a.eval (.tmp r) = .bool d) (eg : a.eval (.tmp sg) = .bool c)
    (d1 : o1.dst = some s) (d2 : o2.dst = some (s + 1)) (d3 : o3.dst = some (s + 2)) (p1 : o1.op = .move (.tmp r)) (p2 : o2.op = .unOp .not 4 (.tmp s)) (p3 : o3.op = .pick (.tmp sg) (.const (.bool true)) (.tmp (s + 1)))
    (q1 : o1.guard = some (j, false)) (q2 : o2.guard = some (j, false)) (q3 : o3.guard = none)
    (h : ∀ b, Fr a b s (s + 2) → b.eval (.tmp (s + 2)) = .bool (c || !d) → wpList Try.prog ops Q rest b w) : wpList Try.prog ops Q (o1 :: o2 :: o3 :: rest) a w := by
  refine fstep s d1 (by omega) (c == false) (wanted_by q1 hj (by omega) eg) (.bool d) (fun _ => by rw [run_move w a o1 _ p1, er]) ?_
  intro b1 F1 v1
  have z1 := F1.size
  have g1 := (F1.rest sg (by omega)).trans eg
  refine fstep (s + 1) d2 (by omega) (c == false) (wanted_by q2 hj (by omega) g1) (.bool (!d)) (fun hc => run_not w b1 o2 _ d p2 (v1 hc)) ?_
  intro b2 F2 v2
  have z2 := F2.size
  have g2 := (F2.rest sg (by omega)).trans g1
  refine fstep0 (s + 2) d3 (by omega) q3 (.bool (c || !d)) ?_ ?_
  · rw [run_pick w b2 o3 _ _ _ c p3 g2]
    cases c
    · simp [v2 rfl]
    · simp [Act.eval]
  intro b3 F3 v3
  exact h b3 (((F1.wide (Nat.le_refl _) (by omega)).trans F2 (by omega) (by omega)).trans F3 (by omega) (by omega)) v3

/-- 'len(a.F) != len(b.F)', where a guard holds. -/
theorem unitLen {ops : Array Oper} {Q : Exit → Act → World → Prop} {rest : List Oper} {a : Act} {w : World} {o1 o2 o3 o4 o5 o6 o7 o8 : Oper} (s sg j k : Nat) (ty e : TypeId) (g1 g2 : Nat) (x y : Option Addr) (m n cm cn : Nat) (c : Bool) (f : Field) (fs : Array Field)
    (hu : Try.prog.underlying 30 = some (.struct fs)) (hf : fs[k]? = some f) (hz : (Try.prog.info? f.type).map (·.size) = some 1) (hk : f.offset = k) (hty : Try.prog.underlying ty = some (.slice e)) (hag : (isAgg ty).run Try.prog w = .ok false w)
    (hj : (ops[j]?).bind (·.dst) = some sg) (hsg : sg < s) (h3s : 3 < s) (hsz : s + 7 < a.tmps.size) (e2 : a.eval (.tmp 2) = .pointer (some ⟨g1, 0, none⟩)) (e3 : a.eval (.tmp 3) = .pointer (some ⟨g2, 0, none⟩)) (eg : a.eval (.tmp sg) = .bool c)
    (c1 : w.cell? ⟨g1, k, none⟩ = some (.slice x m cm)) (c2 : w.cell? ⟨g2, k, none⟩ = some (.slice y n cn))
    (d1 : o1.dst = some s) (d2 : o2.dst = some (s + 1)) (d3 : o3.dst = some (s + 2)) (d4 : o4.dst = some (s + 3)) (d5 : o5.dst = some (s + 4)) (d6 : o6.dst = some (s + 5)) (d7 : o7.dst = some (s + 6)) (d8 : o8.dst = some (s + 7))
    (p1 : o1.op = .fieldAddr 30 (.tmp 2) k) (p2 : o2.op = .load ty (.tmp s)) (p3 : o3.op = .call { callee := .builtin .len, args := #[.tmp (s + 1)], argTypes := #[ty] }) (p4 : o4.op = .fieldAddr 30 (.tmp 3) k) (p5 : o5.op = .load ty (.tmp (s + 3))) (p6 : o6.op = .call { callee := .builtin .len, args := #[.tmp (s + 4)], argTypes := #[ty] })
    (p7 : o7.op = .binOp .neq 3 (.tmp (s + 2)) (.tmp (s + 5)) 3) (p8 : o8.op = .pick (.tmp sg) (.const (.bool true)) (.tmp (s + 6)))
    (q1 : o1.guard = some (j, false)) (q2 : o2.guard = some (j, false)) (q3 : o3.guard = some (j, false)) (q4 : o4.guard = some (j, false)) (q5 : o5.guard = some (j, false)) (q6 : o6.guard = some (j, false)) (q7 : o7.guard = some (j, false)) (q8 : o8.guard = none)
    (h : ∀ b, Fr a b s (s + 7) → b.eval (.tmp (s + 7)) = .bool (c || ((m : Int) != (n : Int))) → wpList Try.prog ops Q rest b w) : wpList Try.prog ops Q (o1 :: o2 :: o3 :: o4 :: o5 :: o6 :: o7 :: o8 :: rest) a w := by
  refine fstep s d1 (by omega) (c == false) (wanted_by q1 hj (by omega) eg) (.pointer (some ⟨g1, k, none⟩)) (fun _ => run_field w a o1 _ _ k g1 f fs p1 e2 hu hf hz hk) ?_
  intro b1 F1 v1
  have z1 := F1.size
  have t1 := (F1.rest sg (by omega)).trans eg
  refine fstep (s + 1) d2 (by omega) (c == false) (wanted_by q2 hj (by omega) t1) (.slice x m cm) (fun hc => run_load w b1 o2 ty _ _ _ p2 (v1 hc) c1 hag) ?_
  intro b2 F2 v2
  have z2 := F2.size
  have t2 := (F2.rest sg (by omega)).trans t1
  refine fstep (s + 2) d3 (by omega) (c == false) (wanted_by q3 hj (by omega) t2) (.int .i64 (m : Int)) (fun hc => run_len w b2 o3 _ ty e x m cm p3 (v2 hc) hty) ?_
  intro b3 F3 v3
  have z3 := F3.size
  have t3 := (F3.rest sg (by omega)).trans t2
  have r3 := (F3.rest 3 (by omega)).trans ((F2.rest 3 (by omega)).trans ((F1.rest 3 (by omega)).trans e3))
  refine fstep (s + 3) d4 (by omega) (c == false) (wanted_by q4 hj (by omega) t3) (.pointer (some ⟨g2, k, none⟩)) (fun _ => run_field w b3 o4 _ _ k g2 f fs p4 r3 hu hf hz hk) ?_
  intro b4 F4 v4
  have z4 := F4.size
  have t4 := (F4.rest sg (by omega)).trans t3
  refine fstep (s + 4) d5 (by omega) (c == false) (wanted_by q5 hj (by omega) t4) (.slice y n cn) (fun hc => run_load w b4 o5 ty _ _ _ p5 (v4 hc) c2 hag) ?_
  intro b5 F5 v5
  have z5 := F5.size
  have t5 := (F5.rest sg (by omega)).trans t4
  refine fstep (s + 5) d6 (by omega) (c == false) (wanted_by q6 hj (by omega) t5) (.int .i64 (n : Int)) (fun hc => run_len w b5 o6 _ ty e y n cn p6 (v5 hc) hty) ?_
  intro b6 F6 v6
  have z6 := F6.size
  have t6 := (F6.rest sg (by omega)).trans t5
  refine fstep (s + 6) d7 (by omega) (c == false) (wanted_by q7 hj (by omega) t6) (.bool ((m : Int) != (n : Int))) (fun hc => run_neq w b6 o7 3 _ _ .i64 m n p7 ((F6.rest (s + 2) (by omega)).trans ((F5.rest (s + 2) (by omega)).trans ((F4.rest (s + 2) (by omega)).trans (v3 hc)))) (v6 hc)) ?_
  intro b7 F7 v7
  have z7 := F7.size
  have t7 := (F7.rest sg (by omega)).trans t6
  refine fstep0 (s + 7) d8 (by omega) q8 (.bool (c || ((m : Int) != (n : Int)))) ?_ ?_
  · rw [run_pick w b7 o8 _ _ _ c p8 t7]
    cases c
    · simp [v7 rfl]
    · simp [Act.eval]
  intro b8 F8 v8
  refine h b8 ?_ v8
  exact (((((((F1.wide (Nat.le_refl _) (by omega)).trans F2 (by omega) (by omega)).trans F3 (by omega) (by omega)).trans F4 (by omega) (by omega)).trans F5 (by omega) (by omega)).trans F6 (by omega) (by omega)).trans F7 (by omega) (by omega)).trans F8 (by omega) (by omega)

/-- 'r := f(a.F, b.F)'. -/
theorem unitCall {ops : Array Oper} {Q : Exit → Act → World → Prop} {rest : List Oper} {a : Act} {w : World} {o1 o2 o3 o4 o5 o6 : Oper} (s r k : Nat) (ty : TypeId) (fn : FuncId) (g1 g2 : Nat) (x y : Value) (f : Field) (fs : Array Field) (D : Bool)
    (hu : Try.prog.underlying 30 = some (.struct fs)) (hf : fs[k]? = some f) (hz : (Try.prog.info? f.type).map (·.size) = some 1) (hk : f.offset = k) (hag : (isAgg ty).run Try.prog w = .ok false w)
    (hr : r < s) (h3s : 3 < s) (hsz : s + 4 < a.tmps.size) (e2 : a.eval (.tmp 2) = .pointer (some ⟨g1, 0, none⟩)) (e3 : a.eval (.tmp 3) = .pointer (some ⟨g2, 0, none⟩))
    (c1 : w.cell? ⟨g1, k, none⟩ = some x) (c2 : w.cell? ⟨g2, k, none⟩ = some y) (hfn : (callFunc fn #[x, y]).run Try.prog w = .ok (.enter fn #[x, y]) w)
    (hc : Calls Try.prog fn #[x, y] w fun e w' => e = .returned (.bool D) ∧ Below w.heap.size w w')
    (d1 : o1.dst = some s) (d2 : o2.dst = some (s + 1)) (d3 : o3.dst = some (s + 2)) (d4 : o4.dst = some (s + 3)) (d5 : o5.dst = some (s + 4)) (d6 : o6.dst = some r)
    (p1 : o1.op = .fieldAddr 30 (.tmp 2) k) (p2 : o2.op = .load ty (.tmp s)) (p3 : o3.op = .fieldAddr 30 (.tmp 3) k) (p4 : o4.op = .load ty (.tmp (s + 2))) (p5 : o5.op = .call { callee := .value (.func fn), args := #[.tmp (s + 1), .tmp (s + 3)], argTypes := #[ty, ty] }) (p6 : o6.op = .assign (.tmp (s + 4)))
    (q1 : o1.guard = none) (q2 : o2.guard = none) (q3 : o3.guard = none) (q4 : o4.guard = none) (q5 : o5.guard = none) (q6 : o6.guard = none)
    (h : ∀ b w', Fr a b r (s + 4) → (∀ t, t ≠ r → (t < s ∨ s + 4 < t) → b.eval (.tmp t) = a.eval (.tmp t)) → b.eval (.tmp r) = .bool D → Below w.heap.size w w' → wpList Try.prog ops Q rest b w') : wpList Try.prog ops Q (o1 :: o2 :: o3 :: o4 :: o5 :: o6 :: rest) a w := by
  refine fstep0 s d1 (by omega) q1 (.pointer (some ⟨g1, k, none⟩)) (run_field w a o1 _ _ k g1 f fs p1 e2 hu hf hz hk) ?_
  intro b1 F1 v1
  have z1 := F1.size
  refine fstep0 (s + 1) d2 (by omega) q2 x (run_load w b1 o2 ty _ _ _ p2 v1 c1 hag) ?_
  intro b2 F2 v2
  have z2 := F2.size
  refine fstep0 (s + 2) d3 (by omega) q3 (.pointer (some ⟨g2, k, none⟩)) (run_field w b2 o3 _ _ k g2 f fs p3 ((F2.rest 3 (by omega)).trans ((F1.rest 3 (by omega)).trans e3)) hu hf hz hk) ?_
  intro b3 F3 v3
  have z3 := F3.size
  refine fstep0 (s + 3) d4 (by omega) q4 y (run_load w b3 o4 ty _ _ _ p4 v3 c2 hag) ?_
  intro b4 F4 v4
  have z4 := F4.size
  refine fcall (s + 4) d5 (by omega) q5 fn #[x, y] (run_call2 w b4 o5 fn _ _ x y ty ty p5 ((F4.rest (s + 1) (by omega)).trans ((F3.rest (s + 1) (by omega)).trans v2)) v4 hfn) (fun v w' => v = .bool D ∧ Below w.heap.size w w') (hc.mono fun e w' hh => ⟨_, hh.1, rfl, hh.2⟩) ?_
  intro b5 w' v F5 v5 hR
  have z5 := F5.size
  refine fstep0 r d6 (by omega) q6 (.bool D) (by rw [run_assign w' b5 o6 _ p6, v5, hR.1]) ?_
  intro b6 F6 v6
  have G5 : Fr a b5 s (s + 4) := (((F1.wide (Nat.le_refl _) (by omega)).trans F2 (by omega) (by omega)).trans F3 (by omega) (by omega)).trans F4 (by omega) (by omega) |>.trans F5 (by omega) (by omega)
  refine h b6 w' ((G5.wide (by omega) (Nat.le_refl _)).trans F6 (Nat.le_refl _) (by omega)) (fun t ht1 ht2 => (F6.rest t (by omega)).trans (G5.rest t ht2)) v6 hR.2

/-- A region ahead of more code; its end. -/
theorem seq_region {id : Nat} {l : List Oper} {y : Code} {Q : Exit → Act → World → Prop} {a : Act} {w : World} (h : wpList Try.prog l.toArray (Exit.then (y.wp Try.prog Q) Q) l a w) : (Code.seq (Code.region id l.toArray false) y).wp Try.prog Q a w := wp_seq (wp_region_lit h)
theorem list_end {ops : Array Oper} {y : Code} {Q : Exit → Act → World → Prop} {a : Act} {w : World} (h : y.wp Try.prog Q a w) : wpList Try.prog ops (Exit.then (y.wp Try.prog Q) Q) [] a w := h
theorem skip_next {y : Code} {Q : Exit → Act → World → Prop} {a : Act} {w : World} (h : y.wp Try.prog Q a w) : Code.skip.wp Try.prog (Exit.then (y.wp Try.prog Q) Q) a w := wp_skip h

/-- An operation that yields a value and turns the world. -/
theorem fstepW {P : Program} {ops : Array Oper} {Q : Exit → Act → World → Prop} {rest : List Oper} {o : Oper} {a : Act} {w : World} (d : Nat) (hd : o.dst = some d) (hs : d < a.tmps.size) (hg : o.guard = none) (v : Value) (w' : World)
    (hv : (execOp a.eval o).run P w = .ok (.value v) w') (h : ∀ b, Fr a b d d → b.eval (.tmp d) = v → wpList P ops Q rest b w') : wpList P ops Q (o :: rest) a w := by
  refine wpList_plain hg fun K hK => ?_
  unfold Oper.wp
  rw [hv]
  refine hK _ _ ?_
  rw [hd]
  exact h _ (Fr.put _ _ _) (eval_put_one _ _ _ hs)
theorem run_box (w : World) (a : Act) (o : Oper) (t : TypeId) (x : Operand) (cs : Array Value) (ho : o.op = .box t x) (hx : a.eval x = .agg cs) :
    (execOp a.eval o).run Try.prog w = .ok (.value (.pointer (some ⟨w.heap.size, 0, none⟩))) (w.alloc (.cells cs t (0, 0))) := by
  unfold execOp
  simp only [ho, hx, Sem.run_bind, Instr.box, newVar, newRow, run_newObj_alloc, Sem.run_pure, Result.andThen_ok, Value.cells]

end Go.Proofs.Ytjacnghndnkcnaa
