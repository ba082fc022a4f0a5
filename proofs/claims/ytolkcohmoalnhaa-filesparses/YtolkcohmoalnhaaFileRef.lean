/-
  The document's own answers for files: head.
-/
import Derived.Test.YtolkcohmoalnhaaRefRd
import Derived.Test.YtolkcohmoalnhaaFileBlock
import Derived.BigRegion
namespace Go.Proofs.Ytolkcohmoalnhaa
open Go.RowKit
open Word Bits Cursor

theorem St.short_e (c : St) (n : Int) (size : Nat) (h : (c.next n size).s = true) : (c.next n size).e ≠ 0 := by
  unfold St.next at h ⊢
  split
  · show (if c.e = 0 then (2 : Int) else c.e) ≠ 0
    split
    · omega
    · assumption
  · rename_i hl
    rw [if_neg hl] at h
    have h1 : c.s = true := h
    unfold St.lack at hl
    rw [h1] at hl
    simp at hl
theorem St.short_need (c : St) (n : Int) (size : Nat) (e : Int) : (c.next n size).need (!(c.next n size).s) e = c.next n size := by
  cases h : (c.next n size).s with
  | true => exact St.need_bad _ _ _ (St.short_e c n size h)
  | false => exact St.need_true _ _

section
variable {g : Nat} {ab : Option Addr} {lb cb : Nat} {D : List UInt8}
/-- A part that is read by the document's cursor: where its result will lie. -/
structure HRd (w0 : World) (g : Nat) (ab : Option Addr) (lb cb : Nat) (D : List UInt8) (c : St) (w : World) : Prop where
  lg : g < w0.heap.size
  but : But g w0 w
  res : w.heap[w0.heap.size]? = some (.cells zRec 43 (0, 0))
  cur : RCur w g ab lb cb D c
theorem HRd.step {w0 w w' : World} {c c' : St} (h : HRd w0 g ab lb cb D c w) (hc : RCur w' g ab lb cb D c') (hb : But g w w') : HRd w0 g ab lb cb D c' w' :=
  ⟨h.lg, h.but.trans hb, (hb.block _ (lt_of_block h.res) (by have := h.lg; omega)).trans h.res, hc⟩
theorem RCur.short {w : World} {c : St} (h : RCur w g ab lb cb D c) : w.cell? ⟨g, 2, none⟩ = some (.bool c.s) := by
  obtain ⟨k, _, _, hg, _⟩ := h
  exact rcur_c2 hg
theorem RCur.err {w : World} {c : St} (h : RCur w g ab lb cb D c) : w.cell? ⟨g, 3, none⟩ = some (.int .i64 c.e) := by
  obtain ⟨k, _, _, hg, _⟩ := h
  exact rcur_c3 hg
theorem hr_word {w0 w : World} {c : St} (h : HRd w0 g ab lb cb D c w) : Calls Try.prog 74 #[ptrV g] w fun r w' => r = .returned (wordV c.word) ∧ HRd w0 g ab lb cb D c.afterW w' := by
  refine (refWord_any g ab lb cb D c w h.cur).mono ?_
  rintro r w1 ⟨rfl, h1, h2⟩
  exact ⟨by rw [wordV_word], h.step h1 h2⟩
theorem hr_need {w0 w : World} {c : St} (h : HRd w0 g ab lb cb D c w) (ok : Bool) (e : Int) : Calls Try.prog 43 #[ptrV g, .bool ok, .int .i64 e] w fun r w' => r = .returned (.tuple #[]) ∧ HRd w0 g ab lb cb D (c.need ok e) w' := by
  refine (refNeed_any g ab lb cb D c w h.cur ok e).mono ?_
  rintro r w1 ⟨rfl, h1, h2⟩
  exact ⟨rfl, h.step h1 h2⟩
theorem hr_byte {w0 w : World} {c : St} (h : HRd w0 g ab lb cb D c w) : Calls Try.prog 42 #[ptrV g] w fun r w' => r = .returned (byteV c.byte) ∧ HRd w0 g ab lb cb D c.afterB w' := by
  refine (refByte_any g ab lb cb D c w h.cur).mono ?_
  rintro r w1 ⟨rfl, h1, h2⟩
  exact ⟨by rw [byteV_byte], h.step h1 h2⟩
theorem RCur.again {w w' : World} {c : St} (h : RCur w g ab lb cb D c) (hg : w'.heap[g]? = w.heap[g]?) (hx : Bs w' ab lb cb D) : RCur w' g ab lb cb D c := by
  obtain ⟨k, h1, h2, h3, _, h5⟩ := h
  exact ⟨k, h1, h2, hg.trans h3, hx, h5⟩

set_option maxRecDepth 20000 in
set_option maxHeartbeats 2000000 in
theorem refHead_any (c : St) (w : World) (h : RCur w g ab lb cb D c) :
    Calls Try.prog 45 #[ptrV g] w fun r w' => r = .returned (.agg (partC (Files.headRec (Files.rHead c).1 []) (.slice none 0 0))) ∧ RCur w' g ab lb cb D (Files.rHead c).2 ∧ But g w w' := by
  obtain ⟨R, hR⟩ : ∃ R, R = Files.rHead c := ⟨_, rfl⟩
  rw [← hR]
  obtain ⟨s1, h1⟩ : ∃ s, s = c.afterB.need (decide (c.byte.toNat = 6)) 9 := ⟨_, rfl⟩
  obtain ⟨s2, h2⟩ : ∃ s, s = s1.afterW.need (decide (0 < s1.word.toNat)) 6 := ⟨_, rfl⟩
  obtain ⟨s3, h3⟩ : ∃ s, s = s2.afterW.need (decide (s2.word.toNat ≤ 9999)) 7 := ⟨_, rfl⟩
  have HR : Hid (R = ((((c.byte, s1.word), s2.word), s3.word), s3.afterW.need (decide (0 < s3.word.toNat)) 5)) := hide (by rw [hR, h3, h2, h1]; rfl)
  have H1 := hide h1
  have H2 := hide h2
  have H3 := hide h3
  clear h1 h2 h3 hR
  obtain ⟨n0, k0⟩ : ∃ n : Nat, n = c.byte.toNat := ⟨_, rfl⟩
  obtain ⟨n1, k1⟩ : ∃ n : Nat, n = s1.word.toNat := ⟨_, rfl⟩
  obtain ⟨n2, k2⟩ : ∃ n : Nat, n = s2.word.toNat := ⟨_, rfl⟩
  obtain ⟨n3, k3⟩ : ∃ n : Nat, n = s3.word.toNat := ⟨_, rfl⟩
  have K0 : Hid ((byteV c.byte : Value) = .int .u8 (n0 : Int)) := hide (by rw [k0])
  have K1 : Hid ((wordV s1.word : Value) = .int .u16 (n1 : Int)) := hide (by rw [k1])
  have K2 : Hid ((wordV s2.word : Value) = .int .u16 (n2 : Int)) := hide (by rw [k2])
  have K3 : Hid ((wordV s3.word : Value) = .int .u16 (n3 : Int)) := hide (by rw [k3])
  obtain ⟨o0, q0⟩ : ∃ b : Bool, b = decide (n0 = 6) := ⟨_, rfl⟩
  obtain ⟨o1, q1⟩ : ∃ b : Bool, b = decide (0 < n1) := ⟨_, rfl⟩
  obtain ⟨o2, q2⟩ : ∃ b : Bool, b = decide (n2 ≤ 9999) := ⟨_, rfl⟩
  obtain ⟨o3, q3⟩ : ∃ b : Bool, b = decide (0 < n3) := ⟨_, rfl⟩
  rw [← k0, ← q0] at H1
  rw [← k1, ← q1] at H2
  rw [← k2, ← q2] at H3
  rw [← k3, ← q3] at HR
  have r0 : ((n0 : Int) == 6) = o0 := by rw [q0, Bool.eq_iff_iff]; simp; omega
  have r1 : decide (0 < n1) = o1 := q1.symm
  have r1' : decide ((0 : Int) < (n1 : Int)) = o1 := by rw [q1, Bool.eq_iff_iff]; simp
  have r2 : decide ((n2 : Int) ≤ 9999) = o2 := by rw [q2, Bool.eq_iff_iff]; simp; omega
  have r3 : decide (0 < n3) = o3 := q3.symm
  have r3' : decide ((0 : Int) < (n3 : Int)) = o3 := by rw [q3, Bool.eq_iff_iff]; simp
  clear q0 q1 q2 q3 k0 k1 k2 k3
  have e0 := heap_alloc_new w (.cells zRec 43 (0, 0))
  have b0 := (Below.refl w.heap.size w).alloc (Nat.le_refl _) (.cells zRec 43 (0, 0))
  have HP : Hid (HRd w g ab lb cb D c (w.alloc (.cells zRec 43 (0, 0)))) := hide ⟨h.lt, But.of b0, e0, h.mono b0⟩
  clear e0 b0 h
  go_enter Try.func45, Try.ntmps45
  go_wp2_with fail
  generalize w.alloc (.cells zRec 43 (0, 0)) = u at *
  refine (hr_byte HP.out).mono ?_
  rintro r w1 ⟨rfl, hp⟩
  rw [K0.out]
  have kS := hp.cur.short
  have HN := hide (hr_need hp (!c.afterB.s) 5)
  have hz : c.afterB.need (!c.afterB.s) 5 = c.afterB := St.short_need c 1 1 5
  rw [hz] at HN
  clear HP hp hz
  generalize c.afterB.s = sb at *
  go_wp2_with fail
  refine HN.out.mono ?_
  rintro r w2 ⟨rfl, hp⟩
  have HP := hide hp
  clear hp HN kS
  go_wp2_with fail
  refine (hr_need HP.out o0 9).mono ?_
  rintro r w3 ⟨rfl, hp⟩
  rw [← H1.out] at hp
  replace HP := hide hp
  clear hp H1
  go_wp2_with fail
  refine (hr_word HP.out).mono ?_
  rintro r w4 ⟨rfl, hp⟩
  rw [K1.out]
  replace HP := hide hp
  clear hp
  go_wp2_with fail
  refine (hr_need HP.out o1 6).mono ?_
  rintro r w5 ⟨rfl, hp⟩
  rw [← H2.out] at hp
  replace HP := hide hp
  clear hp H2
  go_wp2_with fail
  refine (hr_word HP.out).mono ?_
  rintro r w6 ⟨rfl, hp⟩
  rw [K2.out]
  replace HP := hide hp
  clear hp
  go_wp2_with fail
  refine (hr_need HP.out o2 7).mono ?_
  rintro r w7 ⟨rfl, hp⟩
  rw [← H3.out] at hp
  replace HP := hide hp
  clear hp H3
  go_wp2_with fail
  refine (hr_word HP.out).mono ?_
  rintro r w8 ⟨rfl, hp⟩
  rw [K3.out]
  replace HP := hide hp
  clear hp
  go_wp2_with fail
  refine (hr_need HP.out o3 5).mono ?_
  rintro r w9 ⟨rfl, hp⟩
  have hr := hp.res
  have hlg := hp.lg
  have hwh := hp.cur.whole
  have HWH := hide hwh
  replace HP := hide hp
  obtain ⟨cs, hcs⟩ : ∃ cs, cs = partC ⟨s1.word, s2.word, s3.word, []⟩ (.slice none 0 0) := ⟨_, rfl⟩
  have hsz : (Try.prog.info? 43).map (·.size) = some cs.size := by rw [hcs]; exact rec_size _ _ _ _
  have HOLD : Hid ((4 : Nat) = cs.size) := hide (by rw [hcs]; rfl)
  have hone : cs.all (·.oneCell') = true := by rw [hcs]; exact rec_one _ _ _ _
  have HCS : Hid (cs = #[.int .u16 (n1 : Int), .int .u16 (n2 : Int), .int .u16 (n3 : Int), .slice none 0 0]) := hide (by rw [hcs, ← K1.out, ← K2.out, ← K3.out])
  have HCP := hide hcs
  clear hp hcs hwh
  go_wp2_with ((with_reducible (show wpList _ _ _ ({ dst := _, op := Op.store _ _ _, type := _, pos := _, after := _, guard := _ } :: _) _ _)); refine wpList_store_lies rfl 43 _ _ rfl w.heap.size cs rfl (by rw [HCS.out]; rfl) _ _ hr hsz HOLD.out hone ?_)
  intro w10 h10 b10 n10 z10
  go_wp2
  (try simp only [Exit.inBlock, Exit.then])
  have bl := But.lies b10 n10 z10
  refine bodyPost_ret (results_row Try.results45 _ _ w.heap.size _ _ _ _ rfl h10 Try.underlying43 rfl hsz) rfl ⟨?_, ?_, ?_⟩
  · rw [HCP.out, HR.out]; rfl
  · rw [HR.out]
    exact HP.out.cur.again (bl.block _ HP.out.cur.lt (by omega)) (HWH.out.but bl (rec_no (x := ⟨0, 0, 0, []⟩) (v := .slice none 0 0) (fun _ e => by cases e) hr))
  · exact HP.out.but.past bl (Nat.le_refl _)
end

end Go.Proofs.Ytolkcohmoalnhaa
