/-
  Package cursor: what a new cursor holds is memory of its own.
-/
import Derived.Test.YtaokbaddleplfaaCursorRead
namespace Go.Proofs.Ytaokbaddleplfaa
open Go.RowKit
open Word Cursor

/-- The blocks from S on are as they were. -/
structure From (S : Nat) (w w' : World) : Prop where
  size : w.heap.size ≤ w'.heap.size
  block : ∀ k, S ≤ k → k < w.heap.size → w'.heap[k]? = w.heap[k]?

theorem From.refl (S : Nat) (w : World) : From S w w := ⟨Nat.le_refl _, fun _ _ _ => rfl⟩
theorem From.trans {S : Nat} {a b c : World} (h : From S a b) (k : From S b c) : From S a c :=
  ⟨Nat.le_trans h.size k.size, fun i hi hn => (k.block i hi (Nat.lt_of_lt_of_le hn h.size)).trans (h.block i hi hn)⟩
theorem From.of {S : Nat} {a b : World} (h : Below a.heap.size a b) : From S a b := ⟨h.size, fun k _ hk => h.block k hk⟩
theorem From.setCell {S g : Nat} (hg : g < S) (i : Nat) (w : World) (u : Value) : From S w (w.setCell ⟨g, i, none⟩ u) :=
  ⟨by simp [World.setCell], fun _ _ _ => Below.heap_setCell _ _ _ _ (by show _ ≠ g; omega)⟩
theorem From.drew {S : Nat} {w v : World} (h : From S w v) : From S w v.drew := ⟨h.size, h.block⟩
theorem From.draws {S : Nat} {w v : World} (h : From S w v) (n : Nat) : From S w (v.drewN n) := ⟨h.size, h.block⟩

theorem Own.from {α : Type} {f : α → Value} {w w' : World} {B : Nat} {a : Option Addr} {len cap : Nat} {xs : List α} (h : Own f w B a len cap xs) (hb : From B w w') : Own f w' B a len cap xs :=
  ⟨⟨h.sl.hlen, h.sl.hle, h.sl.hmax, fun i hi => by
    obtain ⟨b, off, ha, hlt, hc⟩ := h.sl.hcell i hi
    obtain ⟨b', off', ha', hB, _⟩ := h.room i (by have := h.sl.hle; have := h.sl.hlen; omega)
    rw [ha] at ha'
    cases ha'
    exact ⟨b, off, ha, Nat.lt_of_lt_of_le hlt hb.size, (World.cell?_of_block (w := w) (a := ⟨b, off + i, none⟩) (hb.block b hB hlt)).trans hc⟩⟩, fun i hi => by
    obtain ⟨b, off, ha, hB, hlt, hc, hf⟩ := h.room i hi
    have e := hb.block b hB hlt
    exact ⟨b, off, ha, hB, Nat.lt_of_lt_of_le hlt hb.size, by rw [World.cell?_of_block (w := w) (a := ⟨b, off + i, none⟩) e]; exact hc, by simpa [World.frozen?, e] using hf⟩⟩

set_option maxHeartbeats 400000 in
theorem clone_own (a : Option Addr) (len cap : Nat) (xs : List UInt8) (w : World) (hx : Bs w a len cap xs) (hlen : len ≤ 100000) :
    Calls Try.prog 38 #[.slice a len cap] w fun e w' => (∃ a' c', e = .returned (.slice a' len c') ∧ Own byteV w' w.heap.size a' len c' xs) ∧ Below w.heap.size w w' := by
  have q : ∀ (w : World) (a : Option Addr) (n c n' c' : Nat), (binOp .eql 22 (.slice a n c) (.slice none n' c')).run Try.prog w = .ok (.bool a.isNone) w := fun w a n c n' c' => Lib.run_eql_slice_nil w _ _ a n c n' c' Try.underlying22
  have hl := hide hx.hlen
  go_enter Try.func38, Try.ntmps38
  cases a with
  | none =>
    have h0 : len = 0 := by
      rcases Nat.eq_zero_or_pos len with h | h
      · exact h
      · obtain ⟨_, _, hh, _⟩ := hx.at h; cases hh
    subst h0
    have : xs = [] := List.eq_nil_of_length_eq_zero hl.out
    subst this
    go_wp2
    go_ret
    exact ⟨⟨_, _, rfl, Own.empty _ _ _⟩, Below.refl _ _⟩
  | some x =>
    go_wp2_with (at_builtin; refine app (by rfl) _ _ rfl w.heap.size rfl (Own.empty _ _ _) rfl (hx.alloc _) (by omega) (by simp) ?_)
    intro a' c' w' ho hb
    replace hb := ((Below.refl w.heap.size w).alloc (Nat.le_refl _) _).trans hb
    go_wp2
    go_ret
    exact ⟨⟨a', c', rfl, by simpa using ho⟩, hb⟩

theorem Bp.from {w w' : World} {B : Nat} {a : Option Addr} {len cap : Nat} {xs : List UInt8} (h : Bp w a len cap xs) (ho : ∀ b off, a = some ⟨b, off, none⟩ → B ≤ b) (hb : From B w w') : Bp w' a len cap xs :=
  h.moved hb.size fun b off ha _ hlt => hb.block b (ho b off ha) hlt

set_option maxHeartbeats 400000 in
theorem clone_pure (a : Option Addr) (len cap : Nat) (xs : List UInt8) (w : World) (hx : Bs w a len cap xs) (hlen : len ≤ 100000) :
    Calls Try.prog 38 #[.slice a len cap] w fun e w' => (∃ a' c', e = .returned (.slice a' len c') ∧ Bp w' a' len c' xs ∧ ∀ v, From w.heap.size w' v → Bp v a' len c' xs) ∧ Below w.heap.size w w' := by
  have q : ∀ (w : World) (a : Option Addr) (n c n' c' : Nat), (binOp .eql 22 (.slice a n c) (.slice none n' c')).run Try.prog w = .ok (.bool a.isNone) w := fun w a n c n' c' => Lib.run_eql_slice_nil w _ _ a n c n' c' Try.underlying22
  have hl := hide hx.hlen
  go_enter Try.func38, Try.ntmps38
  cases a with
  | none =>
    have h0 : len = 0 := by
      rcases Nat.eq_zero_or_pos len with h | h
      · exact h
      · obtain ⟨_, _, hh, _⟩ := hx.at h; cases hh
    subst h0
    have : xs = [] := List.eq_nil_of_length_eq_zero hl.out
    subst this
    go_wp2
    go_ret
    exact ⟨⟨_, _, rfl, Bp.nil _ _ (by unfold maxLen; omega), fun v _ => Bp.nil _ _ (by unfold maxLen; omega)⟩, Below.refl _ _⟩
  | some x =>
    go_wp2_with (at_builtin; refine app_pure (by rfl) _ _ rfl w.heap.size rfl (heap_alloc_new _ _) rfl (hx.alloc _) (by omega) (by simp) ?_)
    intro a' c' w' ho ha hb
    replace hb := ((Below.refl w.heap.size w).alloc (Nat.le_refl _) _).trans hb
    go_wp2
    go_ret
    refine ⟨⟨a', c', rfl, ⟨ho.sl, ha⟩, fun v hv => ?_⟩, hb⟩
    refine (show Bp w' a' len c' xs from ⟨ho.sl, ha⟩).moved hv.size fun b off e hl' hlt => ?_
    obtain ⟨b', off', e', hB, _⟩ := ho.room 0 (by have := ho.sl.hle; omega)
    rw [e] at e'
    cases e'
    exact hv.block b hB hlt

set_option maxHeartbeats 400000 in
theorem new_own (a : Option Addr) (len cap : Nat) (xs : List UInt8) (w : World) (hx : Bs w a len cap xs) (hlen : len ≤ 100000) :
    Calls Try.prog 20 #[.slice a len cap] w fun e w' => (∃ g, e = .returned (.pointer (some ⟨g, 0, none⟩)) ∧ w.heap.size ≤ g ∧ g < w'.heap.size ∧ ∀ v, From w.heap.size w' v → Cur v g (St.new xs)) ∧ Below w.heap.size w w' := by
  have hmf : ∀ (fn : Fn) (first cap : Array Value) (w : World), (Instr.makeFunc fn first cap).run Try.prog w = .ok (.func fn first cap) w := fun _ _ _ _ => rfl
  go_enter Try.func20, Try.ntmps20
  go_wp2_with fail
  refine (clone_pure _ _ _ _ _ hx hlen).mono ?_
  rintro e w1 ⟨⟨a1, c1, rfl, hx1, hf1⟩, hb1⟩
  have hb2 := (Below.refl w1.heap.size w1).alloc (Nat.le_refl _) (curObj w1.heap.size a1 len c1 false 0)
  go_wp2
  go_ret
  refine ⟨⟨w1.heap.size, rfl, hb1.size, ?_, fun v hv => ?_⟩, below_next hb1 hb2 (Nat.le_refl _)⟩
  · exact lt_of_block (heap_alloc_new w1 (curObj w1.heap.size a1 len c1 false 0))
  · exact ⟨a1, len, c1, (hv.block _ hb1.size (lt_of_block (heap_alloc_new w1 (curObj w1.heap.size a1 len c1 false 0)))).trans (heap_alloc_new _ _), hf1 v ((From.of hb2).trans hv), hlen⟩

end Go.Proofs.Ytaokbaddleplfaa
