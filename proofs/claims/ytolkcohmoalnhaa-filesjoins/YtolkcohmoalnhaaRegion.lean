/-
  Regions that draw their order: the condition may be turned on the way; 'append' of bytes at a guarded step.
-/
import Derived.Test.YtolkcohmoalnhaaStep
namespace Go.Proofs.Ytolkcohmoalnhaa
open Go.RowKit

/-- From here on another condition, which says more. -/
theorem wpAnyH_sub {P : Program} {ops : Array Oper} {Q : Exit → Act → World → Prop} {md : Region.Mode} {S : World → Prop} (S' : World → Prop) (hs : ∀ w, S' w → S w) :
    ∀ (fuel : Nat) (listed : Array Bool) (a : Act) (w : World), wpAnyH P md ops Q S' fuel listed a w → wpAnyH P md ops Q S fuel listed a w
  | 0, _, _, _, h => h
  | fuel + 1, _, _, _, h => ⟨h.1, fun i hi => wpOp_mono (fun a' w' h' => ⟨hs _ h'.1, wpAnyH_sub S' hs fuel _ a' w' h'.2⟩) (h.2 i hi)⟩

/-- 'append(dst, src...)' of bytes, at a step whose guard says yes. -/
theorem step_app' {w : World} {ops : Array Oper} {o : Oper} {act : Act} {K : Act → World → Prop} {Q : Exit → Act → World → Prop} {E : Prop} (hw' : Region.wanted o (yielded ops act.tmps) = true) (s x : Operand)
    (ho : o.op = .call { callee := .builtin .append, args := #[s, x], argTypes := #[22, 22] }) (B : Nat) {a a2 : Option Addr} {len cap m c2 : Nat} {xs ys : List UInt8}
    (hs : act.eval s = .slice a len cap) (hd : Own byteV w B a len cap xs) (hx : act.eval x = .slice a2 m c2) (hsrc : Bs w a2 m c2 ys) (hsmall : len + m ≤ 1000000) (hB : B ≤ w.heap.size)
    (h : ∀ a' cap' w', Own byteV w' B a' (len + m) cap' (xs ++ ys) → Below B w w' → K (act.put o.dst (.slice a' (len + m) cap')) w') : if Region.wanted o (yielded ops act.tmps) = true then Oper.wp Try.prog o act w K Q else E := by
  rw [if_pos hw']
  obtain ⟨i0, hi, hz0, hz1, hz2⟩ := info_parts Try.infoB
  exact wp_append s x 22 22 ho B 5 i0 (.int .u8 0) Try.underlying22 hi hz0 hz1 rfl a len cap xs hs hd _ m ys hx (hsrc.src (fun _ => rfl) Try.underlying22) (by rw [hz2]; omega) (by unfold maxLen; omega) hB h
/-- The same, onto an empty literal. -/
theorem step_app0 {w : World} {ops : Array Oper} {o : Oper} {act : Act} {K : Act → World → Prop} {Q : Exit → Act → World → Prop} {E : Prop} (hw' : Region.wanted o (yielded ops act.tmps) = true) (s x : Operand)
    (ho : o.op = .call { callee := .builtin .append, args := #[s, x], argTypes := #[22, 22] }) (B : Nat) {a a2 : Option Addr} {m c2 : Nat} {ys : List UInt8}
    (hs : act.eval s = .slice a 0 0) (hx : act.eval x = .slice a2 m c2) (hsrc : Bs w a2 m c2 ys) (hsmall : m ≤ 1000000) (hB : B ≤ w.heap.size)
    (h : ∀ a' cap' w', Own byteV w' B a' m cap' ys → Below B w w' → K (act.put o.dst (.slice a' m cap')) w') : if Region.wanted o (yielded ops act.tmps) = true then Oper.wp Try.prog o act w K Q else E :=
  step_app' hw' s x ho B hs (Own.empty _ _ _) hx hsrc (by omega) hB (fun a' c' w' h1 h2 => by rw [Nat.zero_add] at h1 ⊢; exact h a' c' w' h1 h2)

end Go.Proofs.Ytolkcohmoalnhaa
