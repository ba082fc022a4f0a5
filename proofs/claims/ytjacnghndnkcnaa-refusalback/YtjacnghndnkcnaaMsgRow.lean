/-
  For walks with messages: their cells, loaded, stored and told as results.
-/
import Derived.Test.YtjacnghndnkcnaaMsgPut
import Derived.Test.YtjacnghndnkcnaaCodeSame
import Derived.Test.YtjacnghndnkcnaaTabWalk
import Derived.Laws.ResultCell
namespace Go.Proofs.Ytjacnghndnkcnaa
open Go.RowKit

/-- A message's cells, all but the code zero. -/
abbrev codeCells (c : UInt8) : Array Value := #[byteV c, .int .u8 0, .int .u16 0, .int .u16 0, .int .u16 0, .int .u16 0, .int .u16 0, .int .u16 0, .int .u16 0, .int .u16 0, .int .u16 0, .int .u16 0, .slice none 0 0, .slice none 0 0, .slice none 0 0, .slice none 0 0, .int .u8 0, .int .u8 0, .int .u8 0, .int .u8 0, .int .u8 0, .slice none 0 0]
theorem MsgAt.of (w : World) (c : UInt8) : MsgAt w (.agg (codeCells c)) (MsgM.of c) :=
  ⟨none, 0, 0, none, 0, 0, none, 0, 0, none, 0, 0, none, 0, 0, rfl, Sl.nil _ _ (by unfold maxLen; omega), Sl.nil _ _ (by unfold maxLen; omega), Sl.nil _ _ (by unfold maxLen; omega), Rs.nil _ _ (by unfold maxLen; omega), Obs.nil _ _ (by unfold maxLen; omega)⟩

theorem MsgAt.row {w : World} {m : MsgM} {cs : Array Value} (h : MsgAt w (.agg cs) m) : cs.size = 22 ∧ cs.all (·.oneCell') = true := by
  obtain ⟨aw, lw, cw, al, ll, cl, ad, ld, cd, ar, lr, cr, ao, lo, co, hv, h0, h1, h2, h3, h4⟩ := h
  injection hv with hv
  subst hv
  exact ⟨rfl, by simp [Value.oneCell']⟩
theorem msg_size (cs : Array Value) (h : cs.size = 22) : (Try.prog.info? 30).map (·.size) = some cs.size := by rw [h]; kernel_rfl
theorem results_row_tmp {P : Program} {fn : Func} {p u : Tmp} {ty : TypeId} (h : fn.results = #[.cell p ty, .tmp u]) (tmps : Array Value) (w : World) (g : Nat) (t : TypeId) (cs : Array Value) (fr : Nat × Nat) (d : TypeDesc)
    (hp : tmps.getD p undef = .pointer (some ⟨g, 0, none⟩)) (hg : w.heap[g]? = some (.cells cs t fr))
    (hu : P.underlying ty = some d) (hd : (match d with | .struct _ | .array _ _ => true | _ => false) = true) (hi : (P.info? ty).map (·.size) = some cs.size) (v : Value) (hv : tmps.getD u undef = v) :
    (results fn tmps).run P w = .ok (.tuple #[.agg cs, v]) w := by
  rw [results_cell_tmp h, hp, hv]
  simp [asAddr, run_loadVar_row w g t ty cs fr d hg hu hd hi]

abbrev zeroCells : Array Value := #[.int .u8 0, .int .u8 0, .int .u16 0, .int .u16 0, .int .u16 0, .int .u16 0, .int .u16 0, .int .u16 0, .int .u16 0, .int .u16 0, .int .u16 0, .int .u16 0, .slice none 0 0, .slice none 0 0, .slice none 0 0, .slice none 0 0, .int .u8 0, .int .u8 0, .int .u8 0, .int .u8 0, .int .u8 0, .slice none 0 0]
theorem MsgAt.zero (w : World) : MsgAt w (.agg zeroCells) MsgM.zero := MsgAt.of w 0
theorem zero_one : (zeroCells.all (·.oneCell')) = true := by simp [Value.oneCell']

theorem MsgAt.agg {w : World} {v : Value} {m : MsgM} (h : MsgAt w v m) : ∃ cs, v = .agg cs ∧ cs.size = 22 ∧ cs.all (·.oneCell') = true ∧ cs[0]? = some (byteV m.code) := by
  obtain ⟨aw, lw, cw, al, ll, cl, ad, ld, cd, ar, lr, cr, ao, lo, co, rfl, h0, h1, h2, h3, h4⟩ := h
  exact ⟨_, rfl, rfl, by simp [Value.oneCell'], rfl⟩

/-- A message is laid into a block of its own. -/
theorem wpList_boxC {ops : Array Oper} {rest : List Oper} {o : Oper} {a : Act} {w : World} {Q : Exit → Act → World → Prop} (hgd : o.guard = none) (ty : TypeId) (x : Operand) (ho : o.op = .box ty x) (cs : Array Value) (hx : a.eval x = .agg cs)
    (h : wpList Try.prog ops Q rest (a.put o.dst (.pointer (some ⟨w.heap.size, 0, none⟩))) (w.alloc (.cells cs ty))) : wpList Try.prog ops Q (o :: rest) a w := by
  refine wpList_plain hgd fun K hK => ?_
  unfold Oper.wp
  simp only [execOp, ho, hx, Sem.run_bind, Instr.box, newVar, newRow, run_newObj_alloc, Sem.run_pure, Result.andThen_ok, Value.cells]
  exact hK _ _ h

/-- A struct is loaded whole, at a step whose guard says yes. -/
theorem wpList_load_rowG {ops : Array Oper} {rest : List Oper} {o : Oper} {a : Act} {w : World} {Q : Exit → Act → World → Prop} (hw : Region.wanted o (yielded ops a.tmps) = true) (ty : TypeId) (x : Operand) (ho : o.op = .load ty x) (g : Nat) (hx : a.eval x = .pointer (some ⟨g, 0, none⟩)) (cs : Array Value)
    (hl : (loadVar ty ⟨g, 0, none⟩).run Try.prog w = .ok (.agg cs) w) (h : wpList Try.prog ops Q rest (a.put o.dst (.agg cs)) w) : wpList Try.prog ops Q (o :: rest) a w := by
  unfold wpList
  rw [if_pos hw]
  unfold Oper.wp
  rw [load_take ty x ho g hx cs hl, Oper.upon_value]
  exact .inl h

theorem heap_alloc3_new (w : World) (x y z : Obj) : (((w.alloc x).alloc y).alloc z).heap[w.heap.size + 1 + 1]? = some z := by
  have := heap_alloc_new ((w.alloc x).alloc y) z
  simpa using this

theorem results_row {P : Program} {fn : Func} {p : Tmp} {ty : TypeId} (h : fn.results = #[.cell p ty]) (tmps : Array Value) (w : World) (g : Nat) (t : TypeId) (cs : Array Value) (fr : Nat × Nat) (d : TypeDesc)
    (hp : tmps.getD p undef = .pointer (some ⟨g, 0, none⟩)) (hg : w.heap[g]? = some (.cells cs t fr))
    (hu : P.underlying ty = some d) (hd : (match d with | .struct _ | .array _ _ => true | _ => false) = true) (hi : (P.info? ty).map (·.size) = some cs.size) :
    (results fn tmps).run P w = .ok (.agg cs) w := results_cell_row h tmps w g t cs fr d hp hg hu hd hi
theorem form_one (f1 f2 : Fn) (p1 p2 c1 c2 : Array Value) : (#[Value.func f1 p1 c1, Value.func f2 p2 c2].all (·.oneCell')) = true := by simp [Value.oneCell']
theorem nil_one : (#[Value.nilFunc, Value.nilFunc].all (·.oneCell')) = true := by simp [Value.oneCell']
theorem code_one (c : UInt8) : (codeCells c).all (·.oneCell') = true := by simp [Value.oneCell']

end Go.Proofs.Ytjacnghndnkcnaa
