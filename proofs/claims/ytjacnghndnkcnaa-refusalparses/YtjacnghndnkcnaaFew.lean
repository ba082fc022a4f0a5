/-
  The document's own layer 7: has a message lists of a size that is looked at?
-/
import Derived.Test.YtjacnghndnkcnaaMsg
namespace Go.Proofs.Ytjacnghndnkcnaa
open Go.RowKit

def MsgM.few (m : MsgM) : Bool := decide (m.words.length ≤ 300 ∧ m.bits.length ≤ 2500 ∧ m.data.length ≤ 300 ∧ m.recs.length ≤ 50 ∧ m.objects.length ≤ 100 ∧ (∀ r ∈ m.recs, r.words.length ≤ 200) ∧ (∀ o ∈ m.objects, o.value.length ≤ 300))

/-- A new block holds the message; all that was there is as it was. -/
structure Box (w : World) (cs : Array Value) (w' : World) : Prop where
  h1 : w'.heap[w.heap.size]? = some (.cells cs 30 (0, 0))
  below : Below w.heap.size w w'
theorem Box.made (w : World) (cs : Array Value) : Box w cs (w.alloc (.cells cs 30 (0, 0))) := ⟨heap_alloc_new _ _, (Below.refl _ _).alloc (Nat.le_refl _) _⟩
theorem Box.cell {w : World} {cs : Array Value} {a : World} (h : Box w cs a) {i : Nat} {v : Value} (hc : cs[i]? = some v) : a.cell? ⟨w.heap.size, i, none⟩ = some v := by
  rw [cell_of_row a w.heap.size i cs _ _ h.h1]; exact hc

theorem all_step {α : Type} (p : α → Prop) (xs : List α) (k : Nat) (h : k < xs.length) (hp : ∀ x ∈ xs.take k, p x) (hk : p xs[k]) : ∀ x ∈ xs.take (k + 1), p x := by
  intro x hx
  rw [List.take_succ_eq_append_getElem h] at hx
  rcases List.mem_append.1 hx with h1 | h1
  · exact hp x h1
  · simp at h1; rw [h1]; exact hk

set_option maxRecDepth 20000 in
set_option maxHeartbeats 4000000 in
theorem few_raw (x0 x1 x2 x3 x4 x5 x6 x7 x8 x9 x10 x11 x16 x17 x18 x19 x20 : Value) (aw al ad ar ao : Option Addr) (lw cw ll cl ld cd lr cr lo co : Nat) (rs : List RecM) (os : List ObjM) (F : Bool) (w : World)
    (hbw : lw ≤ 2 ^ 63 - 1) (hbl : ll ≤ 2 ^ 63 - 1) (hbd : ld ≤ 2 ^ 63 - 1) (hr : Rs w ar lr cr rs) (ho : Obs w ao lo co os)
    (HF : Hid (F = decide (lw ≤ 300 ∧ ll ≤ 2500 ∧ ld ≤ 300 ∧ lr ≤ 50 ∧ lo ≤ 100 ∧ (∀ r ∈ rs, r.words.length ≤ 200) ∧ (∀ o ∈ os, o.value.length ≤ 300)))) :
    Calls Try.prog 11 #[.agg #[x0, x1, x2, x3, x4, x5, x6, x7, x8, x9, x10, x11, .slice aw lw cw, .slice al ll cl, .slice ad ld cd, .slice ar lr cr, x16, x17, x18, x19, x20, .slice ao lo co]] w fun e w' => e = .returned (.bool F) ∧ Below w.heap.size w w' := by
  have hr0 := hr.hle
  have hr1 := hr.hmax
  have ho0 := ho.hle
  have ho1 := ho.hmax
  unfold maxLen at hr1 ho1
  have HR := hide hr
  have HO := hide ho
  clear hr ho
  go_enter Try.func11, Try.ntmps11
  by_cases hall : lw ≤ 300 ∧ ll ≤ 2500 ∧ ld ≤ 300 ∧ lr ≤ 50 ∧ lo ≤ 100
  · obtain ⟨q1, q2, q3, q4, q5⟩ := hall
    have d1 : decide ((300 : Int) < (lw : Int)) = false := by simp; omega
    have d2 : decide ((2500 : Int) < (ll : Int)) = false := by simp; omega
    have d3 : decide ((300 : Int) < (ld : Int)) = false := by simp; omega
    have d4 : decide ((50 : Int) < (lr : Int)) = false := by simp; omega
    have d5 : decide ((100 : Int) < (lo : Int)) = false := by simp; omega
    go_wp2
    clear d1 d2 d3 d4 d5
    have hB := Box.made w #[x0, x1, x2, x3, x4, x5, x6, x7, x8, x9, x10, x11, .slice aw lw cw, .slice al ll cl, .slice ad ld cd, .slice ar lr cr, x16, x17, x18, x19, x20, .slice ao lo co]
    have c15 := hB.cell (i := 15) rfl
    have c21 := hB.cell (i := 21) rfl
    replace HR := hide (HR.out.mono hB.below)
    replace HO := hide (HO.out.mono hB.below)
    have HB := hide hB.below
    clear hB
    have HG : Hid (F = decide ((∀ r ∈ rs, r.words.length ≤ 200) ∧ (∀ o ∈ os, o.value.length ≤ 300))) := hide (by
      rw [HF.out]
      simp only [q1, q2, q3, q4, q5, true_and])
    clear HF
    generalize w.alloc (.cells #[x0, x1, x2, x3, x4, x5, x6, x7, x8, x9, x10, x11, .slice aw lw cw, .slice al ll cl, .slice ad ld cd, .slice ar lr cr, x16, x17, x18, x19, x20, .slice ao lo co] 30 (0, 0)) = W at *
    go_loopw [3] (fun i wr => ∃ k : Nat, k ≤ lr ∧ i = .int .i64 k ∧ (∀ r ∈ rs.take k, r.words.length ≤ 200) ∧ W = wr) (fun i _ => lr - (intOf i).toNat)
    case atStart => exact ⟨0, Nat.zero_le _, rfl, by simp, rfl⟩
    case round =>
      obtain ⟨k, hk, rfl, hal, rfl⟩ := hrel
      have HA := hide hal
      clear hal
      by_cases hlt : k < lr
      · have hk1 : k < rs.length := by rw [HR.out.hlen]; exact hlt
        obtain ⟨b, off, aw', lw', cw', rfl, hbl, -, -, -, hc3, hw1⟩ := HR.out.hcell k hk1
        have l0 : (0 : Int) ≤ (k : Int) := by omega
        have l1 : (k : Int) < (lr : Int) := by omega
        have hwm := hw1.hmax
        have hwl := hw1.hle
        unfold maxLen at hwm
        have HL : Hid (rs[k].words.length = lw') := hide hw1.hlen
        clear hw1 hbl
        by_cases hbig : 200 < lw'
        · go_wp2
          go_ret
          exact ⟨ret_bool (by
            rw [HG.out, eq_comm, decide_eq_false_iff_not]
            rintro ⟨h1, _⟩
            have := h1 _ (List.getElem_mem hk1)
            have := HL.out
            omega), HB.out⟩
        · go_wp2
          go_roundw
          case rel => exact ⟨k + 1, by omega, by go_num, all_step _ rs k hk1 HA.out (by rw [HL.out]; omega), by simp⟩
          case measure => simp [intOf]; omega
      · have HE : Hid (∀ r ∈ rs, r.words.length ≤ 200) := hide (by
          have := HA.out
          rw [List.take_of_length_le (by rw [HR.out.hlen]; omega)] at this
          exact this)
        go_wp2
        go_loopw [4] (fun i wr => ∃ k : Nat, k ≤ lo ∧ i = .int .i64 k ∧ (∀ o ∈ os.take k, o.value.length ≤ 300) ∧ W = wr) (fun i _ => lo - (intOf i).toNat)
        case atStart => exact ⟨0, Nat.zero_le _, rfl, by simp, rfl⟩
        case round =>
          obtain ⟨n, hn, rfl, hao, rfl⟩ := hrel
          have HA2 := hide hao
          clear hao
          by_cases hlt2 : n < lo
          · have hk1 : n < os.length := by rw [HO.out.hlen]; exact hlt2
            obtain ⟨b, off, ad', ld', cd', rfl, hbl, -, hc1, hw1⟩ := HO.out.hcell n hk1
            have l0 : (0 : Int) ≤ (n : Int) := by omega
            have l1 : (n : Int) < (lo : Int) := by omega
            have hwm := hw1.hmax
            have hwl := hw1.hle
            unfold maxLen at hwm
            have HL : Hid (os[n].value.length = ld') := hide hw1.hlen
            clear hw1 hbl
            by_cases hbig : 300 < ld'
            · go_wp2
              go_ret
              exact ⟨ret_bool (by
                rw [HG.out, eq_comm, decide_eq_false_iff_not]
                rintro ⟨_, h1⟩
                have := h1 _ (List.getElem_mem hk1)
                have := HL.out
                omega), HB.out⟩
            · go_wp2
              go_roundw
              case rel => exact ⟨n + 1, by omega, by go_num, all_step _ os n hk1 HA2.out (by rw [HL.out]; omega), by simp⟩
              case measure => simp [intOf]; omega
          · go_wp2
            go_ret
            exact ⟨ret_bool (by
              rw [HG.out, eq_comm, decide_eq_true_eq]
              refine ⟨HE.out, ?_⟩
              have := HA2.out
              rw [List.take_of_length_le (by rw [HO.out.hlen]; omega)] at this
              exact this), HB.out⟩
  · have HN := hide hall
    clear hall
    go_wp2
    all_goals first
      | (exfalso; have := HN.out; omega)
      | (go_ret
         exact ⟨ret_bool (by
           rw [HF.out, eq_comm, decide_eq_false_iff_not]
           rintro ⟨q1, q2, q3, q4, q5, _⟩
           exact HN.out ⟨q1, q2, q3, q4, q5⟩), (Below.refl _ _).alloc (Nat.le_refl _) _⟩)

theorem few_any (v : Value) (m : MsgM) (w : World) (h : MsgAt w v m) : Calls Try.prog 11 #[v] w fun e w' => e = .returned (.bool m.few) ∧ Below w.heap.size w w' := by
  obtain ⟨aw, lw, cw, al, ll, cl, ad, ld, cd, ar, lr, cr, ao, lo, co, rfl, hw, hl, hd, hr, ho⟩ := h
  have b1 := hw.hmax
  have b2 := hl.hmax
  have b3 := hd.hmax
  unfold maxLen at b1 b2 b3
  exact few_raw _ _ _ _ _ _ _ _ _ _ _ _ _ _ _ _ _ _ _ _ _ _ _ _ _ _ _ _ _ _ _ _ m.recs m.objects _ w (Nat.le_trans hw.hle b1) (Nat.le_trans hl.hle b2) (Nat.le_trans hd.hle b3) hr ho (hide (by unfold MsgM.few; rw [hw.hlen, hl.hlen, hd.hlen, hr.hlen, ho.hlen]))

end Go.Proofs.Ytjacnghndnkcnaa
