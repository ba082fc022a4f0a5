/-
  The document's own cursor, and the contracts of its calls.
-/
import Derived.Test.YtaokbaddleplfaaCursorRead
import Derived.Test.YtaokbaddleplfaaRefTake
namespace Go.Proofs.Ytaokbaddleplfaa
open Go.RowKit
open Word Cursor

def refObj (a : Option Addr) (len cap : Nat) (k : Nat) (s : Bool) (e : Int) : Obj :=
  .cells #[.slice a len cap, .int .i64 (k : Int), .bool s, .int .i64 e] 65 (0, 0)

/-- The document's cursor in block g: all its bytes, of which k are read. -/
def RCur (w : World) (g : Nat) (a : Option Addr) (len cap : Nat) (all : List UInt8) (c : St) : Prop :=
  ∃ k : Nat, k ≤ len ∧ c.xs = all.drop k ∧ w.heap[g]? = some (refObj a len cap k c.s c.e) ∧ Bs w a len cap all ∧ len ≤ 100000

section
variable {w w' : World} {g : Nat} {a : Option Addr} {len cap k : Nat} {s : Bool} {e : Int}
theorem rcur_lt (h : w.heap[g]? = some (refObj a len cap k s e)) : g < w.heap.size := lt_of_block h
theorem rcur_c0 (h : w.heap[g]? = some (refObj a len cap k s e)) : w.cell? ⟨g, 0, none⟩ = some (.slice a len cap) := cell_of_row w g 0 _ _ _ h
theorem rcur_c1 (h : w.heap[g]? = some (refObj a len cap k s e)) : w.cell? ⟨g, 1, none⟩ = some (.int .i64 (k : Int)) := cell_of_row w g 1 _ _ _ h
theorem rcur_c2 (h : w.heap[g]? = some (refObj a len cap k s e)) : w.cell? ⟨g, 2, none⟩ = some (.bool s) := cell_of_row w g 2 _ _ _ h
theorem rcur_c3 (h : w.heap[g]? = some (refObj a len cap k s e)) : w.cell? ⟨g, 3, none⟩ = some (.int .i64 e) := cell_of_row w g 3 _ _ _ h
theorem rcur_fr (h : w.heap[g]? = some (refObj a len cap k s e)) (i : Nat) : w.frozen? ⟨g, i, none⟩ = false := by simp [World.frozen?, h, refObj]
theorem rcur_no (h : w.heap[g]? = some (refObj a len cap k s e)) (i : Nat) (x : UInt8) : w.cell? ⟨g, i, none⟩ ≠ some (byteV x) := by
  rw [cell_of_row w g i _ _ _ h]
  match i with
  | 0 | 1 | 2 | 3 => simp
  | i + 4 => simp
theorem rcur_noW (h : w.heap[g]? = some (refObj a len cap k s e)) (i : Nat) (x : UInt16) : w.cell? ⟨g, i, none⟩ ≠ some (wordV x) := by
  rw [cell_of_row w g i _ _ _ h]
  match i with
  | 0 | 1 | 2 | 3 => simp
  | i + 4 => simp
end

theorem RCur.mono {w w' : World} {g : Nat} {a : Option Addr} {len cap : Nat} {all : List UInt8} {c : St} (h : RCur w g a len cap all c) (hb : Below w.heap.size w w') : RCur w' g a len cap all c := by
  obtain ⟨k, hk, hxs, hg, hx, hl⟩ := h
  exact ⟨k, hk, hxs, (hb.block g (rcur_lt hg)).trans hg, hx.mono hb, hl⟩
theorem RCur.lt {w : World} {g : Nat} {a : Option Addr} {len cap : Nat} {all : List UInt8} {c : St} (h : RCur w g a len cap all c) : g < w.heap.size := by
  obtain ⟨k, hk, hxs, hg, _⟩ := h
  exact rcur_lt hg
theorem RCur.small {w : World} {g : Nat} {a : Option Addr} {len cap : Nat} {all : List UInt8} {c : St} (h : RCur w g a len cap all c) : c.xs.length ≤ 100000 := by
  obtain ⟨k, hk, hxs, hg, hx, hl⟩ := h
  rw [hxs, List.length_drop, hx.hlen]; omega
theorem RCur.whole {w : World} {g : Nat} {a : Option Addr} {len cap : Nat} {all : List UInt8} {c : St} (h : RCur w g a len cap all c) : Bs w a len cap all := by
  obtain ⟨k, hk, hxs, hg, hx, hl⟩ := h
  exact hx
theorem RCur.bytes {w w' : World} {g : Nat} {a : Option Addr} {len cap : Nat} {all : List UInt8} {c : St} (h : RCur w g a len cap all c) (hb : But g w w') {a' : Option Addr} {len' cap' : Nat} {xs : List UInt8} (hx : Bs w a' len' cap' xs) : Bs w' a' len' cap' xs := by
  obtain ⟨_, _, _, hg, _⟩ := h
  exact hx.but hb (rcur_no hg)
theorem RCur.words {w w' : World} {g : Nat} {a : Option Addr} {len cap : Nat} {all : List UInt8} {c : St} (h : RCur w g a len cap all c) (hb : But g w w') {a' : Option Addr} {len' cap' : Nat} {xs : List UInt16} (hx : Ws w a' len' cap' xs) : Ws w' a' len' cap' xs := by
  obtain ⟨_, _, _, hg, _⟩ := h
  exact hx.but hb (rcur_noW hg)
/-- The document's cursor beside one that is read, and the other way round. -/
theorem RCur.beside {w w' : World} {g h : Nat} {c d : St} {a : Option Addr} {len cap : Nat} {all : List UInt8} (hd : RCur w h a len cap all d) (hc : Cur w g c) (hn : h ≠ g) (hb : But g w w') : RCur w' h a len cap all d := by
  obtain ⟨k, hk, hxs, hg, hx, hl⟩ := hd
  exact ⟨k, hk, hxs, (hb.block h (rcur_lt hg) hn).trans hg, hc.bytes hb hx, hl⟩
theorem RCur.leaves {w w' : World} {g h : Nat} {c d : St} {a : Option Addr} {len cap : Nat} {all : List UInt8} (hd : RCur w h a len cap all d) (hc : Cur w g c) (hn : h ≠ g) (hb : But h w w') : Cur w' g c := by
  obtain ⟨a1, len1, cap1, hg, hx, hl⟩ := hc
  obtain ⟨_, _, _, hgd, _⟩ := hd
  exact ⟨a1, len1, cap1, (hb.block g (cur_lt hg) (Ne.symm hn)).trans hg, hx.but hb (rcur_no hgd), hl⟩

section
variable (g : Nat) (a : Option Addr) (len cap : Nat) (all : List UInt8) (c : St) (w : World)

theorem refLeft_any (h : RCur w g a len cap all c) :
    Calls Try.prog 27 #[.pointer (some ⟨g, 0, none⟩)] w fun e w' => e = .returned (.int .i64 c.xs.length) ∧ ∃ m, w' = w.drewN m := by
  obtain ⟨k, hk, hxs, hg, hx, hl⟩ := h
  have c0 := rcur_c0 hg
  have c1 := rcur_c1 hg
  have H : Hid (c.xs.length = len - k) := hide (by rw [hxs, List.length_drop, hx.hlen])
  have hwr : IntKind.i64.wrap ((len : Int) - (k : Int)) = ((len - k : Nat) : Int) := by rw [IntKind.wrap_i64]; omega
  clear hxs hg hx
  go_enter Try.func27, Try.ntmps27
  go_wp2
  go_quiet (fail)
  go_wp2
  go_ret
  exact ⟨ret_int (by rw [H.out]), nq, rfl⟩

theorem refNeed_any (h : RCur w g a len cap all c) (ok : Bool) (e : Int) :
    Calls Try.prog 26 #[.pointer (some ⟨g, 0, none⟩), .bool ok, .int .i64 e] w fun r w' => r = .returned (.tuple #[]) ∧ RCur w' g a len cap all (c.need ok e) ∧ But g w w' := by
  obtain ⟨k, hk, hxs, hg, hx, hl⟩ := h
  obtain ⟨xs, s, e0⟩ := c
  have c3 := rcur_c3 hg
  have f3 := rcur_fr hg 3
  have HG := hide hg
  have HX := hide hx
  have HS := hide hxs
  clear hg hx hxs
  go_enter Try.func26, Try.ntmps26
  by_cases h0 : e0 = 0
  · subst h0
    cases ok
    · go_wp2
      go_end0
      exact ⟨rfl, by
        show RCur _ g _ _ _ _ ⟨xs, s, e⟩
        exact ⟨k, hk, HS.out, set_block HG.out _, HX.out.but (But.setCell g 3 _ _) (rcur_no HG.out), hl⟩, But.setCell g 3 _ _⟩
    · go_wp2
      (try simp only [Exit.inBlock, Exit.then]); refine bodyPost_ret (results_none rfl _ _ _) rfl ?_
      exact ⟨rfl, ⟨k, hk, HS.out, HG.out, HX.out, hl⟩, But.refl _ _⟩
  · cases ok
    · go_wp2
      (try simp only [Exit.inBlock, Exit.then]); refine bodyPost_ret (results_none rfl _ _ _) rfl ?_
      exact ⟨rfl, by
        unfold St.need
        rw [if_neg (by simp [h0])]
        exact ⟨k, hk, HS.out, HG.out, HX.out, hl⟩, But.refl _ _⟩
    · go_wp2
      (try simp only [Exit.inBlock, Exit.then]); refine bodyPost_ret (results_none rfl _ _ _) rfl ?_
      exact ⟨rfl, by
        unfold St.need
        rw [if_neg (by simp)]
        exact ⟨k, hk, HS.out, HG.out, HX.out, hl⟩, But.refl _ _⟩

theorem refEnd_any (h : RCur w g a len cap all c) :
    Calls Try.prog 29 #[.pointer (some ⟨g, 0, none⟩)] w fun r w' => r = .returned (.tuple #[]) ∧ RCur w' g a len cap all c.end_ ∧ But g w w' := by
  go_enter Try.func29, Try.ntmps29
  go_wp2_with fail
  refine (refLeft_any g a len cap all c w h).mono ?_
  rintro r w1 ⟨rfl, m, rfl⟩
  have hb1 := below_draws (Below.refl w.heap.size w) m
  have h1 := h.mono hb1
  go_wp2_with fail
  refine (refNeed_any g a len cap all c _ h1 _ 3).mono ?_
  rintro r w2 ⟨rfl, hc2, hb2⟩
  go_wp2
  go_end0
  refine ⟨rfl, ?_, (But.of hb1).trans hb2⟩
  have : c.end_ = c.need ((c.xs.length : Int) == 0) 3 := by
    unfold St.end_
    congr 1
    rw [Bool.eq_iff_iff]; simp
  rw [this]
  exact hc2

set_option maxHeartbeats 1000000 in
theorem refBytes_short (h : RCur w g a len cap all c) (n : Int) (hl : c.lack n 1 = true) :
    Calls Try.prog 28 #[.pointer (some ⟨g, 0, none⟩), .int .i64 n] w fun r w' => r = .returned (.slice none 0 0) ∧ RCur w' g a len cap all (c.next n 1) ∧ But g w w' := by
  obtain ⟨k, hk, hxs, hg, hx, hle⟩ := h
  have HN : Hid (c.next n 1 = St.need ⟨[], true, c.e⟩ false 2) := by
    show _ = _
    unfold St.next St.need
    rw [if_pos hl]
    by_cases h0 : c.e = 0 <;> simp [h0]
  obtain ⟨xs, s, e0⟩ := c
  have c0 := rcur_c0 hg
  have c1 := rcur_c1 hg
  have f1 := rcur_fr hg 1
  have c2 := rcur_c2 hg
  have f2 := rcur_fr hg 2
  have HX : Hid (xs.length = len - k) := hide (by have : xs = all.drop k := hxs; rw [this, List.length_drop, hx.hlen])
  have B2 : Hid (∀ m, But g w (((w.drewN m).setCell ⟨g, 2, none⟩ (.bool true)).setCell ⟨g, 1, none⟩ (.int .i64 (len : Int)))) := hide fun m =>
    (But.of (below_draws (Below.refl w.heap.size w) m)).trans ((But.setCell g 2 (w.drewN m) (.bool true)).trans (But.setCell g 1 _ (.int .i64 (len : Int))))
  have HC : Hid (∀ m, RCur (((w.drewN m).setCell ⟨g, 2, none⟩ (.bool true)).setCell ⟨g, 1, none⟩ (.int .i64 (len : Int))) g a len cap all ⟨[], true, e0⟩) := hide fun m => by
    refine ⟨len, Nat.le_refl _, ?_, set_block (set_block (w := w.drewN m) hg _) _, hx.but (B2.out m) (rcur_no hg), hle⟩
    rw [List.drop_eq_nil_of_le]; rw [hx.hlen]; exact Nat.le_refl _
  have HL := hide hl
  unfold St.lack at HL
  simp only [HX.out] at HL
  simp only at c0 c1 c2
  have hwr : IntKind.i64.wrap ((len : Int) - (k : Int)) = (len : Int) - (k : Int) := by rw [IntKind.wrap_i64]; omega
  clear hg hx hl hxs
  go_enter Try.func28, Try.ntmps28
  cases s with
  | true =>
    go_wp2
    go_quiet (fail)
    go_wp2_with fail
    refine (refNeed_any g _ _ _ _ _ _ (HC.out _) false 2).mono ?_
    rintro r w2 ⟨rfl, hc2, hb2⟩
    go_wp2
    go_ret
    exact ⟨rfl, by rw [HN.out]; exact hc2, (B2.out _).trans hb2⟩
  | false =>
    by_cases hn : n < 0
    · go_wp2
      go_quiet (fail)
      go_wp2_with fail
      refine (refNeed_any g _ _ _ _ _ _ (HC.out _) false 2).mono ?_
      rintro r w2 ⟨rfl, hc2, hb2⟩
      go_wp2
      go_ret
      exact ⟨rfl, by rw [HN.out]; exact hc2, (B2.out _).trans hb2⟩
    · have hbig : (len : Int) - (k : Int) < n := by
        have := HL.out
        simp [hn] at this
        omega
      clear HL
      go_wp2
      go_quiet (fail)
      go_wp2_with fail
      refine (refNeed_any g _ _ _ _ _ _ (HC.out _) false 2).mono ?_
      rintro r w2 ⟨rfl, hc2, hb2⟩
      go_wp2
      go_ret
      exact ⟨rfl, by rw [HN.out]; exact hc2, (B2.out _).trans hb2⟩

set_option maxHeartbeats 1000000 in
theorem refBytes_enough (h : RCur w g a len cap all c) (n : Int) (hl : c.lack n 1 = false) :
    Calls Try.prog 28 #[.pointer (some ⟨g, 0, none⟩), .int .i64 n] w fun r w' =>
      (∃ a' cap', r = .returned (.slice a' (c.got n 1).length cap') ∧ ∀ v, Bs v a len cap all → Bs v a' (c.got n 1).length cap' (c.got n 1)) ∧ RCur w' g a len cap all (c.next n 1) ∧ But g w w' := by
  obtain ⟨k, hk, hxs, hg, hx, hle⟩ := h
  obtain ⟨xs, s, e0⟩ := c
  have HX : Hid (xs.length = len - k) := hide (by have : xs = all.drop k := hxs; rw [this, List.length_drop, hx.hlen])
  have hh := hl
  unfold St.lack at hh
  simp only [HX.out, Bool.or_eq_false_iff, decide_eq_false_iff_not] at hh
  obtain ⟨⟨rfl, hn⟩, hkk⟩ := hh
  obtain ⟨m, rfl⟩ : ∃ m : Nat, n = m := ⟨n.toNat, by omega⟩
  have hmk : k + m ≤ len := by omega
  have HG : Hid (St.got ⟨xs, false, e0⟩ (m : Int) 1 = (all.drop k).take m) := by
    show _ = _
    unfold St.got
    rw [if_neg (by rw [hl]; simp)]
    show xs.take _ = _
    rw [show xs = all.drop k from hxs]; simp
  have HN : Hid (St.next ⟨xs, false, e0⟩ (m : Int) 1 = ⟨all.drop (k + m), false, e0⟩) := by
    show _ = _
    unfold St.next
    rw [if_neg (by rw [hl]; simp)]
    show St.mk (xs.drop _) _ _ = _
    rw [show xs = all.drop k from hxs]; simp
  have hcap := hx.hle
  have hmax := hx.hmax
  unfold maxLen at hmax
  have c0 := rcur_c0 hg
  have c1 := rcur_c1 hg
  have f1 := rcur_fr hg 1
  have c2 := rcur_c2 hg
  simp only at c0 c1 c2
  have HD := hide ((hx.dropAny k hk).take m (by omega))
  have HS := hide (fun (v : World) (hv : Bs v a len cap all) => (hv.dropAny k hk).take m (by omega))
  have HA := hide hx
  have HW := hide hg
  have hwr : IntKind.i64.wrap ((len : Int) - (k : Int)) = (len : Int) - (k : Int) := by rw [IntKind.wrap_i64]; omega
  have hwr2 : IntKind.i64.wrap ((k : Int) + (m : Int)) = (k : Int) + (m : Int) := by rw [IntKind.wrap_i64]; omega
  have hwr3 : IntKind.i64.wrap ((k : Int) + (m : Int) - (m : Int)) = (k : Int) := by rw [IntKind.wrap_i64]; omega
  have hno : ¬ ((len : Int) - (k : Int) < (m : Int)) := by omega
  clear hg hx hl hn hkk hxs
  go_enter Try.func28, Try.ntmps28
  go_wp2
  go_quiet (fail)
  go_wp2
  have hkm : ((k : Int) + (m : Int)) = ((k + m : Nat) : Int) := by omega
  have d1 := But.setCell g 1 (w.drewN nq) (.int .i64 ((k : Int) + (m : Int)))
  have d2 := (But.of (g := g) (below_draws (Below.refl w.heap.size w) nq)).trans d1
  have hv : ((w.drewN nq).setCell ⟨g, 1, none⟩ (.int .i64 ((k : Int) + (m : Int)))).heap[g]? = some (refObj a len cap (k + m) false e0) := by
    rw [hkm]; exact set_block (w := w.drewN nq) HW.out _
  have HDv := hide (HD.out.but d2 (rcur_no HW.out))
  have HAv := hide (HA.out.but d2 (rcur_no HW.out))
  generalize ((w.drewN nq).setCell ⟨g, 1, none⟩ (.int .i64 ((k : Int) + (m : Int)))) = v at *
  clear HD HA HW c0 c1 c2 f1 d1
  have c0 := rcur_c0 hv
  have c1 := rcur_c1 hv
  rw [← hkm] at c1
  clear hkm
  have HV := hide hv
  have D2 := hide d2
  clear hv d2
  have l0 : (0 : Int) ≤ (k : Int) := by omega
  have l1 : (k : Int) ≤ (k : Int) + (m : Int) := by omega
  have l2 : (k : Int) + (m : Int) ≤ (cap : Int) := by omega
  have l3 : (k : Int) ≤ (cap : Int) := by omega
  have t1 : ((k : Int) + (m : Int)).toNat = k + m := by omega
  have t2 : ((k : Int) + (m : Int) - (k : Int)).toNat = m := by omega
  have hx : ∀ j, RCur (v.drewN j) g a len cap all ⟨all.drop (k + m), false, e0⟩ := fun j => RCur.mono ⟨k + m, hmk, rfl, HV.out, HAv.out, hle⟩ (below_draws (Below.refl _ _) j)
  have HR := hide hx
  clear hx
  by_cases hcm : cap = k
  · obtain rfl : m = 0 := by omega
    subst hcm
    rw [if_pos rfl, Nat.sub_self] at HDv
    go_wp2
    go_quiet (fail)
    go_wp2
    go_ret
    refine ⟨⟨_, _, by rw [HG.out, HDv.out.hlen]; rfl, ?_⟩, ?_, D2.out.trans (But.of (below_draws (Below.refl _ _) _))⟩
    · intro v hv
      have h1 := HS.out v hv
      first | rw [if_pos rfl, Nat.sub_self] at h1 | rw [if_pos trivial, Nat.sub_self] at h1
      rw [HG.out, HDv.out.hlen]; exact h1
    · rw [HN.out]; exact HR.out _
  · rw [if_neg hcm] at HDv
    go_wp2
    go_quiet (fail)
    go_wp2
    go_ret
    refine ⟨⟨_, _, by rw [HG.out, HDv.out.hlen]; rfl, ?_⟩, ?_, D2.out.trans (But.of (below_draws (Below.refl _ _) _))⟩
    · intro v hv
      have h1 := HS.out v hv
      rw [if_neg hcm] at h1
      rw [HG.out, HDv.out.hlen]; exact h1
    · rw [HN.out]; exact HR.out _

end
end Go.Proofs.Ytaokbaddleplfaa
