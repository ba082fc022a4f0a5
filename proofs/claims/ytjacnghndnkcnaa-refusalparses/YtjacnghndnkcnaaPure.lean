/-
  Bytes in a block of nothing but bytes: what is written into another kind of block leaves them.
-/
import Derived.Test.YtjacnghndnkcnaaBytes
import Derived.Test.YtjacnghndnkcnaaRowApp
namespace Go.Proofs.Ytjacnghndnkcnaa
open Go.RowKit

abbrev isB : Value → Prop := fun v => ∃ y : UInt8, v = byteV y
structure Bp (w : World) (a : Option Addr) (len cap : Nat) (xs : List UInt8) : Prop extends Sl byteV w a len cap xs where
  all : 0 < len → AllC isB w a

theorem AllC.same {p : Value → Prop} {w w' : World} {a : Option Addr} (h : AllC p w a) (hb : ∀ x, a = some x → w'.heap[x.block]? = w.heap[x.block]?) : AllC p w' a := fun x e i v hv => h x e i v (by rw [← World.cell?_of_block (w := w) (w' := w') (a := ⟨x.block, i, none⟩) (hb x e)]; exact hv)

section
variable {w w' : World} {a : Option Addr} {len cap : Nat} {xs : List UInt8}
theorem Bp.nil (w : World) (a : Option Addr) (h : cap ≤ maxLen) : Bp w a 0 cap [] := ⟨Sl.nil w a h, fun h => absurd h (by omega)⟩
/-- It reads so in every world in which its block is the same. -/
theorem Bp.moved (h : Bp w a len cap xs) (hz : w.heap.size ≤ w'.heap.size) (hb : ∀ b off, a = some ⟨b, off, none⟩ → 0 < len → b < w.heap.size → w'.heap[b]? = w.heap[b]?) : Bp w' a len cap xs := by
  refine ⟨⟨h.hlen, h.hle, h.hmax, fun i hi => ?_⟩, fun hl => ?_⟩
  · obtain ⟨b, off, ha, hlt, hc⟩ := h.hcell i hi
    exact ⟨b, off, ha, Nat.lt_of_lt_of_le hlt hz, (World.cell?_of_block (w := w) (a := ⟨b, off + i, none⟩) (hb b off ha (by have := h.hlen; omega) hlt)).trans hc⟩
  · obtain ⟨b, off, ha, hlt, _⟩ := h.toSl.at hl
    refine (h.all hl).same fun x e => ?_
    rw [ha] at e
    injection e with e
    subst e
    exact hb b off ha hl hlt
theorem Bp.mono (h : Bp w a len cap xs) (hb : Below w.heap.size w w') : Bp w' a len cap xs := h.moved hb.size fun b _ _ _ hlt => hb.block b hlt
/-- A block that holds anything but a byte is another one. -/
theorem Bp.apart (h : Bp w a len cap xs) {b off i : Nat} {v : Value} (ha : a = some ⟨b, off, none⟩) (hl : 0 < len) {g : Nat} (hg : w.cell? ⟨g, i, none⟩ = some v) (hv : ∀ y, v ≠ byteV y) : b ≠ g := by
  rintro rfl
  obtain ⟨y, hy⟩ := h.all hl _ ha i v hg
  exact hv y hy
theorem Bp.cellSet (h : Bp w a len cap xs) {g i j : Nat} {v : Value} (hg : w.cell? ⟨g, i, none⟩ = some v) (hv : ∀ y, v ≠ byteV y) (u : Value) : Bp (w.setCell ⟨g, j, none⟩ u) a len cap xs :=
  h.moved (by simp) fun _ _ ha hl _ => Below.heap_setCell _ _ _ _ (h.apart ha hl hg hv)
theorem Bp.dropAny (h : Bp w a len cap xs) (n : Nat) (hn : n ≤ len) : Bp w (if cap = n then a else a.map (·.add n)) (len - n) (cap - n) (xs.drop n) := by
  refine ⟨?_, fun hl => ?_⟩
  · have h0 := h.hlen
    have h1 := h.hle
    have h2 := h.hmax
    by_cases hl : n < len
    · obtain ⟨b, off, rfl, _, _⟩ := h.toSl.at (by omega)
      rw [if_neg (by omega)]
      have := h.toSl.drop n hn
      rw [← Addr.add_lit] at this
      exact this
    · have : n = len := by omega
      subst this
      rw [List.drop_eq_nil_of_le (by omega), Nat.sub_self]
      exact Sl.nil _ _ (by omega)
  · have hall := h.all (by omega)
    obtain ⟨b, off, rfl, _, _⟩ := h.toSl.at (show 0 < len by omega)
    intro x e i v hv
    split at e
    · exact hall x e i v hv
    · injection e with e
      have hb : x.block = b := by rw [← e]; show (Addr.add ⟨b, off, none⟩ n).block = b; rw [Addr.add_lit]
      refine hall ⟨b, off, none⟩ rfl i v ?_
      rw [hb] at hv
      exact hv
end

/-- 'append' of bytes onto none: a block of bytes. -/
theorem app_pure {w : World} {ops : Array Oper} {rest : List Oper} {o : Oper} {act : Act} {Q : Exit → Act → World → Prop} (hw : Region.wanted o (yielded ops act.tmps) = true) (s x : Operand)
    (ho : o.op = .call { callee := .builtin .append, args := #[s, x], argTypes := #[22, 22] }) (B : Nat) {g m c2 : Nat} {a2 : Option Addr} {t : TypeId} {fr : Nat × Nat} {ys : List UInt8}
    (hs : act.eval s = .slice (some ⟨g, 0, none⟩) 0 0) (hg : w.heap[g]? = some (.cells #[] t fr)) (hx : act.eval x = .slice a2 m c2) (hsrc : Bs w a2 m c2 ys) (hsmall : m ≤ 1000000) (hB : B ≤ w.heap.size)
    (h : ∀ a' cap' w', Own byteV w' B a' m cap' ys → (0 < m → AllC isB w' a') → Below B w w' → wpList Try.prog ops Q rest (act.put o.dst (.slice a' m cap')) w') : wpList Try.prog ops Q (o :: rest) act w := by
  rcases Nat.eq_zero_or_pos m with h0 | hm
  · subst h0
    refine app hw s x ho B hs (Own.empty _ _ _) hx hsrc (by omega) hB fun a' c' w' h1 h2 => ?_
    have e : (0 : Nat) + 0 = 0 := rfl
    rw [List.nil_append] at h1
    exact h a' c' w' h1 (fun h => absurd h (by omega)) h2
  · obtain ⟨i0, hi, hz0, hz1, hz2⟩ := info_parts Try.infoB
    obtain ⟨a', cap', w', hr, h2, h3, _, _, h6⟩ := run_appendC (P := Try.prog) 1 w B 22 22 o.type 5 i0 (.int .u8 0) Try.underlying22 hi hz0 hz1 rfl (some ⟨g, 0, none⟩) 0 0 [] (OwnC.empty 1 w B _) _ m _ hm (by omega) (hsrc.src (fun _ => rfl) Try.underlying22) (by rw [hz2]; omega) (by unfold maxLen; omega) hB
    rw [Nat.zero_add] at hr h2
    rw [List.nil_append] at h2
    have hown : Own byteV w' B a' m cap' ys := by
      have hl : ys.length = m := hsrc.hlen
      refine ⟨⟨hl, h2.hle, h2.hmax, fun i hi' => ?_⟩, fun i hi' => ?_⟩
      · obtain ⟨b, off, ha, hlt, hc⟩ := h2.hcell i (by simpa using hi')
        exact ⟨b, off, ha, hlt, by rw [hc]; simp⟩
      · exact h2.room i (by omega)
    have hall : AllC isB w' a' := h6 isB (fun v hv => by cases hv) (fun v hv => by
      obtain ⟨y, _, hy⟩ := List.mem_map.1 hv
      exact ⟨y, hy.symm⟩) (fun i v hv => by
      match i, hv with
      | 0, hv => exact ⟨0, (show v = Value.int .u8 0 by simpa [Value.cells] using hv.symm).trans rfl⟩
      | n + 1, hv => simp [Value.cells] at hv) (fun x e i v hv => by
      injection e with e
      subst e
      rw [cell_of_row w g i _ _ _ hg] at hv
      simp at hv)
    unfold wpList
    rw [if_pos hw]
    refine .inl ?_
    unfold Oper.wp
    simp [execOp, ho, resolve, invoke, builtin, hs, hx, hr, Result.andThen]
    exact h a' cap' w' hown (fun _ => hall) h3

end Go.Proofs.Ytjacnghndnkcnaa
