/-
  Package coils: a message's forms, by codes.
-/
import Derived.Test.YtgacfocbdeohaaaTabWalk
import Derived.Test.YtgacfocbdeohaaaRows
namespace Go.Proofs.Ytgacfocbdeohaaa
open Go.RowKit

abbrev ptrV (g : Nat) : Value := .pointer (some ⟨g, 0, none⟩)
abbrev methV (f : FuncId) (g : Nat) : Value := .func (.func f) #[ptrV g] #[]
abbrev formV (r s : FuncId) (g : Nat) : Value := .agg #[methV r g, methV s g]
/-- What a form is read and written by. -/
def askedV (g : Nat) : Value := formV 36 37 g
def toldV (g : Nat) : Value := formV 38 39 g
def oneV (g : Nat) : Value := formV 40 41 g
def someV (g : Nat) : Value := formV 42 43 g
def doneV (g : Nat) : Value := formV 44 37 g
def tabReq (g : Nat) : List (Nat × Value) := [(1, askedV g), (2, askedV g), (5, oneV g), (15, someV g)]
def tabRes (g : Nat) : List (Nat × Value) := [(1, toldV g), (2, toldV g), (5, oneV g), (15, doneV g)]

theorem form_size : (Try.prog.info? 53).map (·.size) = some 2 := by kernel_rfl
theorem form_one (f1 f2 : Fn) (p1 p2 c1 c2 : Array Value) : (#[Value.func f1 p1 c1, Value.func f2 p2 c2].all (·.oneCell')) = true := by simp [Value.oneCell']

set_option maxRecDepth 20000 in
set_option maxHeartbeats 2000000 in
theorem forms_any (g : Nat) (dir : Int) (w : World) :
    Calls Try.prog 20 #[ptrV g, .int .i64 dir] w fun e w' =>
      ((dir = 0 ∧ ∃ b, e = .returned (.map (some b)) ∧ Tab w' b (tabReq g)) ∨ (dir = 1 ∧ ∃ b, e = .returned (.map (some b)) ∧ Tab w' b (tabRes g)) ∨ (dir ≠ 0 ∧ dir ≠ 1 ∧ e = .returned (.map none))) ∧ Below w.heap.size w w' := by
  go_enter Try.func20, Try.ntmps20
  go_wp2_with (refine wpList_store_new rfl 53 _ _ rfl _ rfl rfl form_size rfl (form_one _ _ _ _ _ _) ?_)
  intro w1 h1 b1
  go_wp2_with (refine wpList_store_new rfl 53 _ _ rfl _ rfl rfl form_size rfl (form_one _ _ _ _ _ _) ?_)
  intro w2 h2 b2
  go_wp2_with (refine wpList_store_new rfl 53 _ _ rfl _ rfl rfl form_size rfl (form_one _ _ _ _ _ _) ?_)
  intro w3 h3 b3
  go_wp2_with (refine wpList_store_new rfl 53 _ _ rfl _ rfl rfl form_size rfl (form_one _ _ _ _ _ _) ?_)
  intro w4 h4 b4
  go_wp2_with (refine wpList_store_new rfl 53 _ _ rfl _ rfl rfl form_size rfl (form_one _ _ _ _ _ _) ?_)
  intro w5 h5 b5
  have e1 := (b5.block _ (Nat.lt_of_lt_of_le (Nat.lt_of_lt_of_le (Nat.lt_of_lt_of_le (lt_of_block h1) b2.size) b3.size) b4.size)).trans ((b4.block _ (Nat.lt_of_lt_of_le (Nat.lt_of_lt_of_le (lt_of_block h1) b2.size) b3.size)).trans ((b3.block _ (Nat.lt_of_lt_of_le (lt_of_block h1) b2.size)).trans ((b2.block _ (lt_of_block h1)).trans (h1))))
  have l1 : w.heap.size < w5.heap.size := lt_of_block e1
  have e2 := (b5.block _ (Nat.lt_of_lt_of_le (Nat.lt_of_lt_of_le (lt_of_block h2) b3.size) b4.size)).trans ((b4.block _ (Nat.lt_of_lt_of_le (lt_of_block h2) b3.size)).trans ((b3.block _ (lt_of_block h2)).trans (h2)))
  have l2 : w1.heap.size < w5.heap.size := lt_of_block e2
  have e3 := (b5.block _ (Nat.lt_of_lt_of_le (lt_of_block h3) b4.size)).trans ((b4.block _ (lt_of_block h3)).trans (h3))
  have l3 : w2.heap.size < w5.heap.size := lt_of_block e3
  have e4 := (b5.block _ (lt_of_block h4)).trans (h4)
  have l4 : w3.heap.size < w5.heap.size := lt_of_block e4
  have e5 := h5
  have l5 : w4.heap.size < w5.heap.size := lt_of_block e5
  have hB : Below w.heap.size w w5 := below_next (below_next (below_next (below_next b1 b2 (Nat.le_refl _)) b3 (Nat.le_refl _)) b4 (Nat.le_refl _)) b5 (Nat.le_refl _)
  clear h1 h2 h3 h4 h5
  have a1 := (Below.heap_alloc w5 (.map #[] 0) _ l1).trans e1
  have a2 := (Below.heap_alloc w5 (.map #[] 0) _ l2).trans e2
  have a3 := (Below.heap_alloc w5 (.map #[] 0) _ l3).trans e3
  have a4 := (Below.heap_alloc w5 (.map #[] 0) _ l4).trans e4
  have a5 := (Below.heap_alloc w5 (.map #[] 0) _ l5).trans e5
  have T0 := Tab.made w5
  have hB0 : Below w.heap.size w (w5.alloc (.map #[] 0)) := hB.alloc hB.size _
  clear e1 e2 e3 e4 e5
  generalize hg1 : w.heap.size = g1 at *
  generalize hg2 : w1.heap.size = g2 at *
  generalize hg3 : w2.heap.size = g3 at *
  generalize hg4 : w3.heap.size = g4 at *
  generalize hg5 : w4.heap.size = g5 at *
  clear b1 b2 b3 b4 b5 hg2 hg3 hg4 hg5
  have hmm : ∀ w : World, (Instr.makeMap 48 none).run Try.prog w = .ok (.map (some w.heap.size)) (w.alloc (.map #[] 0)) := fun w => run_makeMap _ w
  by_cases hd0 : dir = 0
  · subst hd0
    go_wp2_with (first | (refine wpList_load_row rfl 53 _ rfl _ rfl 53 _ (0, 0) _ (by assumption) Try.underlying53 rfl (by exact form_size) ?_) | (refine wpList_insertT rfl _ _ _ 48 rfl 5 53 Try.underlying48 Try.underlying5 _ _ rfl T0 1 rfl rfl _ rfl ?_))
    intro v1 T1 n1 c1
    have B1 := hB0.trans (c1 g1 (by omega))
    have q11 := (n1 _ (by omega)).trans a1
    have q12 := (n1 _ (by omega)).trans a2
    have q13 := (n1 _ (by omega)).trans a3
    have q14 := (n1 _ (by omega)).trans a4
    have q15 := (n1 _ (by omega)).trans a5
    clear a1 a2 a3 a4 a5 T0
    go_wp2_with (first | (refine wpList_load_row rfl 53 _ rfl _ rfl 53 _ (0, 0) _ (by assumption) Try.underlying53 rfl (by exact form_size) ?_) | (refine wpList_insertT rfl _ _ _ 48 rfl 5 53 Try.underlying48 Try.underlying5 _ _ rfl T1 2 rfl rfl _ rfl ?_))
    intro v2 T2 n2 c2
    have B2 := B1.trans (c2 g1 (by omega))
    have q21 := (n2 _ (by omega)).trans q11
    have q22 := (n2 _ (by omega)).trans q12
    have q23 := (n2 _ (by omega)).trans q13
    have q24 := (n2 _ (by omega)).trans q14
    have q25 := (n2 _ (by omega)).trans q15
    clear q11 q12 q13 q14 q15 T1
    go_wp2_with (first | (refine wpList_load_row rfl 53 _ rfl _ rfl 53 _ (0, 0) _ (by assumption) Try.underlying53 rfl (by exact form_size) ?_) | (refine wpList_insertT rfl _ _ _ 48 rfl 5 53 Try.underlying48 Try.underlying5 _ _ rfl T2 5 rfl rfl _ rfl ?_))
    intro v3 T3 n3 c3
    have B3 := B2.trans (c3 g1 (by omega))
    have q31 := (n3 _ (by omega)).trans q21
    have q32 := (n3 _ (by omega)).trans q22
    have q33 := (n3 _ (by omega)).trans q23
    have q34 := (n3 _ (by omega)).trans q24
    have q35 := (n3 _ (by omega)).trans q25
    clear q21 q22 q23 q24 q25 T2
    go_wp2_with (first | (refine wpList_load_row rfl 53 _ rfl _ rfl 53 _ (0, 0) _ (by assumption) Try.underlying53 rfl (by exact form_size) ?_) | (refine wpList_insertT rfl _ _ _ 48 rfl 5 53 Try.underlying48 Try.underlying5 _ _ rfl T3 15 rfl rfl _ rfl ?_))
    intro v4 T4 n4 c4
    have B4 := B3.trans (c4 g1 (by omega))
    go_wp2
    go_ret
    exact ⟨by first | exact ⟨_, rfl, T4⟩ | exact .inl ⟨rfl, _, rfl, T4⟩, by first | exact B4 | (rw [hg1]; exact B4)⟩
  by_cases hd1 : dir = 1
  · subst hd1
    go_wp2_with (first | (refine wpList_load_row rfl 53 _ rfl _ rfl 53 _ (0, 0) _ (by assumption) Try.underlying53 rfl (by exact form_size) ?_) | (refine wpList_insertT rfl _ _ _ 48 rfl 5 53 Try.underlying48 Try.underlying5 _ _ rfl T0 1 rfl rfl _ rfl ?_))
    intro v1 T1 n1 c1
    have B1 := hB0.trans (c1 g1 (by omega))
    have q11 := (n1 _ (by omega)).trans a1
    have q12 := (n1 _ (by omega)).trans a2
    have q13 := (n1 _ (by omega)).trans a3
    have q14 := (n1 _ (by omega)).trans a4
    have q15 := (n1 _ (by omega)).trans a5
    clear a1 a2 a3 a4 a5 T0
    go_wp2_with (first | (refine wpList_load_row rfl 53 _ rfl _ rfl 53 _ (0, 0) _ (by assumption) Try.underlying53 rfl (by exact form_size) ?_) | (refine wpList_insertT rfl _ _ _ 48 rfl 5 53 Try.underlying48 Try.underlying5 _ _ rfl T1 2 rfl rfl _ rfl ?_))
    intro v2 T2 n2 c2
    have B2 := B1.trans (c2 g1 (by omega))
    have q21 := (n2 _ (by omega)).trans q11
    have q22 := (n2 _ (by omega)).trans q12
    have q23 := (n2 _ (by omega)).trans q13
    have q24 := (n2 _ (by omega)).trans q14
    have q25 := (n2 _ (by omega)).trans q15
    clear q11 q12 q13 q14 q15 T1
    go_wp2_with (first | (refine wpList_load_row rfl 53 _ rfl _ rfl 53 _ (0, 0) _ (by assumption) Try.underlying53 rfl (by exact form_size) ?_) | (refine wpList_insertT rfl _ _ _ 48 rfl 5 53 Try.underlying48 Try.underlying5 _ _ rfl T2 5 rfl rfl _ rfl ?_))
    intro v3 T3 n3 c3
    have B3 := B2.trans (c3 g1 (by omega))
    have q31 := (n3 _ (by omega)).trans q21
    have q32 := (n3 _ (by omega)).trans q22
    have q33 := (n3 _ (by omega)).trans q23
    have q34 := (n3 _ (by omega)).trans q24
    have q35 := (n3 _ (by omega)).trans q25
    clear q21 q22 q23 q24 q25 T2
    go_wp2_with (first | (refine wpList_load_row rfl 53 _ rfl _ rfl 53 _ (0, 0) _ (by assumption) Try.underlying53 rfl (by exact form_size) ?_) | (refine wpList_insertT rfl _ _ _ 48 rfl 5 53 Try.underlying48 Try.underlying5 _ _ rfl T3 15 rfl rfl _ rfl ?_))
    intro v4 T4 n4 c4
    have B4 := B3.trans (c4 g1 (by omega))
    go_wp2
    go_ret
    exact ⟨by first | exact ⟨_, rfl, T4⟩ | exact .inr (.inl ⟨rfl, _, rfl, T4⟩), by first | exact B4 | (rw [hg1]; exact B4)⟩
  have q0 : (dir == 0) = false := by simpa using hd0
  have q1 : (dir == 1) = false := by simpa using hd1
  clear hB0 T0 a1 a2 a3 a4 a5
  go_wp2
  go_ret
  exact ⟨.inr (.inr ⟨hd0, hd1, rfl⟩), by first | exact hB | (rw [hg1]; exact hB)⟩

end Go.Proofs.Ytgacfocbdeohaaa
