/-
  A loop over an iterator whose body always goes on: the statement's law with the rounds laid open (what the iterator keeps, and what it writes, is the caller's own business).
-/
import Derived.RangeFuncNested
import Derived.RangeFuncBound
import Derived.RangeFuncCalls
import Derived.RangeFuncLeaves
namespace Go.Proofs.Ytolkcohmoalnhaa
open Go.RowKit

/-- A round that goes on. -/
def onwards (l : Nat) (ready busy : Obj) (R : Ending → World → Prop) : Exit → Act → World → Prop
  | .normal, _, W => W.heap[l]? = some busy ∧ R (.returned (.bool true)) (W.putObj l ready)
  | _, _, _ => False

theorem wpIn_rounds {F : Fence} {n : Nat} {P : Program} {g : Operand} {ps : Array Tmp} {assign body : Code} {Q : Exit → Act → World → Prop} {a : Act} {w : World}
    (hro : F.round = none) (h1 : 1 ≤ n) {gf : Nat} {lb : Array Value} (hg : a.eval g = .func (.func gf) #[] lb) (hFg : F.fn gf) (eg : ∀ args w, (callFunc gf args).run P w = .ok (.enter gf args) w) (hps : ps.size = 1)
    (h : ∀ (ready busy over : Obj), ready.isCells = false → busy.isCells = false → over.isCells = false →
      (∀ (x : Value) (W : World) (R : Ending → World → Prop), W.heap[w.heap.size + 1]? = some ready →
        assign.wpIn (F.inRound (w.heap.size + 1)) (n - 1 - 1) P (Exit.then (fun a1 Wa => Wa.heap[w.heap.size + 1]? = some ready ∧
          body.wpIn (F.inRound (w.heap.size + 1)) (n - 1 - 1) P (onwards (w.heap.size + 1) ready busy R) a1 (Wa.putObj (w.heap.size + 1) busy)) (fun _ _ _ => False))
          { tmps := (ps.zip #[x]).foldl (fun t (p, v) => t.setIfInBounds p v) a.tmps, defers := [] } W →
        YieldAt F (n - 1 - 1) P (w.heap.size + 1) #[x] W R) →
      CallsIn F (n - 1) P gf (#[.func (.yield (w.heap.size + 1)) #[] #[]] ++ lb) ((w.alloc (.deferred (some []))).alloc ready) (fun e W2 => (∃ v, e = .returned v) ∧ W2.heap[w.heap.size + 1]? = some ready ∧
        Q .normal { a with defers := { target := .collected w.heap.size, args := #[] } :: a.defers } (W2.putObj (w.heap.size + 1) over))) :
    (Code.rangeFunc g ps assign body).wpIn F n P Q a w := by
  refine wpIn_rangeFunc ?_
  intro fn hfn
  rw [hro]
  obtain ⟨rec, hrec⟩ : ∃ rec : LoopState → Option Code → Loop, rec = fun st pe => { state := st, pending := pe, fn, tmps := a.tmps, params := ps, assign, body, defers := w.heap.size } := ⟨_, rfl⟩
  obtain ⟨W1, hW1⟩ : ∃ W1, (w.alloc (.deferred (some []))).alloc (.loop (rec .ready none)) = W1 := ⟨_, rfl⟩
  refine ⟨w.heap.size + 1, [{ target := .collected w.heap.size, args := #[] }], W1, { target := .fn (.func gf) lb, args := #[.func (.yield (w.heap.size + 1)) #[] #[]] }, W1, gf,
    #[.func (.yield (w.heap.size + 1)) #[] #[]] ++ lb, W1, ?_, ?_, ?_, ?_, fun _ => h1, ?_⟩
  · rw [← hW1, hrec]; exact run_enterLoop_outer _ _ _ _ _
  · simp only [resolve, hg]
    simp [go_sem]
  · intro f' hf'; simp [Target.leads] at hf'; subst hf'; exact hFg
  · simp [invoke, go_sem, eg]
  · subst hW1
    refine (h (.loop (rec .ready none)) (.loop (rec .busy none)) (.loop (rec .exhausted none)) rfl rfl rfl ?_).mono ?_
    · intro x W R hl hx
      have hy := run_yield (P := P) (args := #[x]) hl (by rw [hrec]; exact hps.symm)
      rw [hrec] at hy
      refine ⟨fn, _, assign, body, hy, roundIn_of_wpIn hfn (wpIn_mono hx ?_)⟩
      intro e a1 Wa hp
      cases e with
      | normal =>
        obtain ⟨hla, hb⟩ := hp
        refine ⟨_, run_beginRound hla (by rw [hrec]), ?_⟩
        have hbe : ({ rec .ready none with state := .busy } : Loop) = rec .busy none := by rw [hrec]
        rw [hbe]
        refine wpIn_mono hb ?_
        intro e a3 W3 hp
        cases e with
        | normal =>
          obtain ⟨hl3, hR⟩ := hp
          have hend := run_endRound (P := P) none hl3
          have hre : ({ rec .busy none with state := if (none : Option Code).isNone = true then .ready else .done, pending := none } : Loop) = rec .ready none := by rw [hrec]; rfl
          rw [hre] at hend
          exact ⟨_, _, hend, hR⟩
        | ret => exact hp.elim
        | exit id => exact hp.elim
        | goto t => exact hp.elim
        | panic ch => exact hp.elim
        | outgrown => exact hp.elim
      | ret => exact hp.elim
      | exit id => exact hp.elim
      | goto t => exact hp.elim
      | panic ch => exact hp.elim
      | outgrown => exact hp.elim
    · rintro e W2 ⟨⟨v, rfl⟩, hl, hq⟩
      have hend := run_endLoop (P := P) hl (by rw [hrec]; simp)
      have hre : ({ rec .ready none with state := .exhausted } : Loop) = rec .exhausted none := by rw [hrec]
      rw [hre] at hend
      exact ⟨none, _, by rw [hend, hrec], hq⟩

end Go.Proofs.Ytolkcohmoalnhaa
