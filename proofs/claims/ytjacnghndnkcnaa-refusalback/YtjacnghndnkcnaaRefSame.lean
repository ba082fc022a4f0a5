/-
  The document's own layer 7: when two messages are one.
-/
import Derived.Test.YtjacnghndnkcnaaCodeSame
import Derived.Test.YtjacnghndnkcnaaFrames2
import Derived.Test.YtjacnghndnkcnaaSame
import Derived.Test.YtjacnghndnkcnaaSameBools
namespace Go.Proofs.Ytjacnghndnkcnaa
open Go.RowKit

theorem allSame_len {α : Type} (f : α → α → Bool) : ∀ (xs ys : List α), allSame f xs ys = true → xs.length = ys.length
  | [], [], _ => rfl
  | [], _ :: _, h => by simp [allSame] at h
  | _ :: _, [], h => by simp [allSame] at h
  | _ :: xs, _ :: ys, h => by
    simp only [allSame, Bool.and_eq_true] at h
    simp [allSame_len f xs ys h.2]

theorem many_false (D1 D2 D3 : Bool) (lr lr' lo lo' : Nat) (rs rs' : List RecM) (os os' : List ObjM) (h1 : rs.length = lr) (h2 : rs'.length = lr') (h3 : os.length = lo) (h4 : os'.length = lo')
    (h : (!D1 || !D2 || !D3 || ((lr : Int) != (lr' : Int)) || ((lo : Int) != (lo' : Int))) = true) : (!false && !false && D1 && D2 && D3 && allSame RecM.same rs rs' && allSame ObjM.same os os') = false := by
  cases D1
  · rfl
  cases D2
  · rfl
  cases D3
  · rfl
  cases hs : allSame RecM.same rs rs'
  · rfl
  cases ht : allSame ObjM.same os os'
  · rfl
  have k1 := allSame_len _ _ _ hs
  have k2 := allSame_len _ _ _ ht
  simp at h
  omega
theorem many_true (D1 D2 D3 : Bool) (lr lr' lo lo' : Nat) (h : (!D1 || !D2 || !D3 || ((lr : Int) != (lr' : Int)) || ((lo : Int) != (lo' : Int))) = false) : D1 = true ∧ D2 = true ∧ D3 = true ∧ lr = lr' ∧ lo = lo' := by
  simp at h
  obtain ⟨⟨⟨⟨h1, h2⟩, h3⟩, h4⟩, h5⟩ := h
  exact ⟨h1, h2, h3, by omega, by omega⟩
theorem rec_same (x y : RecM) : RecM.same x y = !(!(decide (x.words = y.words)) || ((x.file.toNat : Int) != (y.file.toNat : Int)) || ((x.record.toNat : Int) != (y.record.toNat : Int)) || ((x.count.toNat : Int) != (y.count.toNat : Int))) := by
  rw [Bool.eq_iff_iff]
  simp [RecM.same]
  constructor
  · rintro ⟨h1, h2, h3, h4⟩
    rw [h1, h2, h3]
    exact ⟨⟨⟨h4, rfl⟩, rfl⟩, rfl⟩
  · rintro ⟨⟨⟨h1, h2⟩, h3⟩, h4⟩
    exact ⟨w16_eq (by omega), w16_eq (by omega), w16_eq (by omega), h1⟩
theorem rec_ne (xs ys : List RecM) (k : Nat) (h1 : k < xs.length) (h2 : k < ys.length) (h : RecM.same xs[k] ys[k] = false) : allSame RecM.same xs ys = false := by
  cases hs : allSame RecM.same xs ys
  · rfl
  · have := (allSame_iff RecM.same_iff xs ys).1 hs
    subst this
    rw [(RecM.same_iff _ _).2 rfl] at h
    cases h

theorem obj_same (x y : ObjM) : ObjM.same x y = !(!(decide (x.value = y.value)) || ((x.id.toNat : Int) != (y.id.toNat : Int))) := by
  rw [Bool.eq_iff_iff]
  simp [ObjM.same]
  constructor
  · rintro ⟨h1, h2⟩
    rw [h1]
    exact ⟨h2, rfl⟩
  · rintro ⟨h1, h2⟩
    exact ⟨w8_eq (by omega), h1⟩
theorem obj_ne (xs ys : List ObjM) (k : Nat) (h1 : k < xs.length) (h2 : k < ys.length) (h : ObjM.same xs[k] ys[k] = false) : allSame ObjM.same xs ys = false := by
  cases hs : allSame ObjM.same xs ys
  · rfl
  · have := (allSame_iff ObjM.same_iff xs ys).1 hs
    subst this
    rw [(ObjM.same_iff _ _).2 rfl] at h
    cases h

set_option maxRecDepth 20000 in
set_option maxHeartbeats 4000000 in
theorem refSame_raw (p0 p1 p2 p3 p4 p5 p6 p7 p8 p9 p10 p11 p16 p17 p18 p19 p20 q0 q1 q2 q3 q4 q5 q6 q7 q8 q9 q10 q11 q16 q17 q18 q19 q20 : Nat) (aw al ad ar ao aw' al' ad' ar' ao' : Option Addr) (lw cw ll cl ld cd lr cr lo co lw' cw' ll' cl' ld' cd' lr' cr' lo' co' : Nat) (rs rs' : List RecM) (os os' : List ObjM) (D1 D2 D3 : Bool) (w : World)
    (hr : Rs w ar lr cr rs) (hr' : Rs w ar' lr' cr' rs') (ho : Obs w ao lo co os) (ho' : Obs w ao' lo' co' os')
    (HW : Hid (∀ wx, Below w.heap.size w wx → Calls Try.prog 21 #[.slice aw lw cw, .slice aw' lw' cw'] wx fun e w' => e = .returned (.bool D1) ∧ Below wx.heap.size wx w'))
    (HL : Hid (∀ wx, Below w.heap.size w wx → Calls Try.prog 22 #[.slice al ll cl, .slice al' ll' cl'] wx fun e w' => e = .returned (.bool D2) ∧ Below wx.heap.size wx w'))
    (HD : Hid (∀ wx, Below w.heap.size w wx → Calls Try.prog 15 #[.slice ad ld cd, .slice ad' ld' cd'] wx fun e w' => e = .returned (.bool D3) ∧ Below wx.heap.size wx w'))
    (hlr : lr ≤ 2 ^ 63 - 1) (hlo : lo ≤ 2 ^ 63 - 1) (R : Bool) (HR : Hid (R = (!(((p0 : Int) != (q0 : Int)) || ((p1 : Int) != (q1 : Int)) || ((p2 : Int) != (q2 : Int)) || ((p3 : Int) != (q3 : Int)) || ((p4 : Int) != (q4 : Int)) || ((p5 : Int) != (q5 : Int)) || ((p6 : Int) != (q6 : Int)) || ((p7 : Int) != (q7 : Int)) || ((p8 : Int) != (q8 : Int)) || ((p9 : Int) != (q9 : Int)) || ((p10 : Int) != (q10 : Int)) || ((p11 : Int) != (q11 : Int))) && !(((p16 : Int) != (q16 : Int)) || ((p17 : Int) != (q17 : Int)) || ((p18 : Int) != (q18 : Int)) || ((p19 : Int) != (q19 : Int)) || ((p20 : Int) != (q20 : Int))) && D1 && D2 && D3 && allSame RecM.same rs rs' && allSame ObjM.same os os'))) :
    Calls Try.prog 10 #[.agg #[.int .u8 (p0 : Int), .int .u8 (p1 : Int), .int .u16 (p2 : Int), .int .u16 (p3 : Int), .int .u16 (p4 : Int), .int .u16 (p5 : Int), .int .u16 (p6 : Int), .int .u16 (p7 : Int), .int .u16 (p8 : Int), .int .u16 (p9 : Int), .int .u16 (p10 : Int), .int .u16 (p11 : Int), .slice aw lw cw, .slice al ll cl, .slice ad ld cd, .slice ar lr cr, .int .u8 (p16 : Int), .int .u8 (p17 : Int), .int .u8 (p18 : Int), .int .u8 (p19 : Int), .int .u8 (p20 : Int), .slice ao lo co], .agg #[.int .u8 (q0 : Int), .int .u8 (q1 : Int), .int .u16 (q2 : Int), .int .u16 (q3 : Int), .int .u16 (q4 : Int), .int .u16 (q5 : Int), .int .u16 (q6 : Int), .int .u16 (q7 : Int), .int .u16 (q8 : Int), .int .u16 (q9 : Int), .int .u16 (q10 : Int), .int .u16 (q11 : Int), .slice aw' lw' cw', .slice al' ll' cl', .slice ad' ld' cd', .slice ar' lr' cr', .int .u8 (q16 : Int), .int .u8 (q17 : Int), .int .u8 (q18 : Int), .int .u8 (q19 : Int), .int .u8 (q20 : Int), .slice ao' lo' co']] w fun e w' => e = .returned (.bool R) ∧ Below w.heap.size w w' := by
  go_enter Try.func10, Try.ntmps10
  obtain ⟨V1, hV1⟩ : ∃ v, v = Value.agg #[.int .u8 (p0 : Int), .int .u8 (p1 : Int), .int .u16 (p2 : Int), .int .u16 (p3 : Int), .int .u16 (p4 : Int), .int .u16 (p5 : Int), .int .u16 (p6 : Int), .int .u16 (p7 : Int), .int .u16 (p8 : Int), .int .u16 (p9 : Int), .int .u16 (p10 : Int), .int .u16 (p11 : Int), .slice aw lw cw, .slice al ll cl, .slice ad ld cd, .slice ar lr cr, .int .u8 (p16 : Int), .int .u8 (p17 : Int), .int .u8 (p18 : Int), .int .u8 (p19 : Int), .int .u8 (p20 : Int), .slice ao lo co] := ⟨_, rfl⟩
  obtain ⟨V2, hV2⟩ : ∃ v, v = Value.agg #[.int .u8 (q0 : Int), .int .u8 (q1 : Int), .int .u16 (q2 : Int), .int .u16 (q3 : Int), .int .u16 (q4 : Int), .int .u16 (q5 : Int), .int .u16 (q6 : Int), .int .u16 (q7 : Int), .int .u16 (q8 : Int), .int .u16 (q9 : Int), .int .u16 (q10 : Int), .int .u16 (q11 : Int), .slice aw' lw' cw', .slice al' ll' cl', .slice ad' ld' cd', .slice ar' lr' cr', .int .u8 (q16 : Int), .int .u8 (q17 : Int), .int .u8 (q18 : Int), .int .u8 (q19 : Int), .int .u8 (q20 : Int), .slice ao' lo' co'] := ⟨_, rfl⟩
  rw [← hV1, ← hV2]
  obtain ⟨A, hA⟩ : ∃ A : Act, A = ⟨#[V1, V2, undef, undef, undef, undef, undef, undef, undef, undef, undef, undef, undef, undef, undef, undef, undef, undef, undef, undef, undef, undef, undef, undef, undef, undef, undef, undef, undef, undef, undef, undef, undef, undef, undef, undef, undef, undef, undef, undef, undef, undef, undef, undef, undef, undef, undef, undef, undef, undef, undef, undef, undef, undef, undef, undef, undef, undef, undef, undef, undef, undef, undef, undef, undef, undef, undef, undef, undef, undef, undef, undef, undef, undef, undef, undef, undef, undef, undef, undef, undef, undef, undef, undef, undef, undef, undef, undef, undef, undef, undef, undef, undef, undef, undef, undef, undef, undef, undef, undef, undef, undef, undef, undef, undef, undef, undef, undef, undef, undef, undef, undef, undef, undef, undef, undef, undef, undef, undef, undef, undef, undef, undef, undef, undef, undef, undef, undef, undef, undef, undef, undef, undef, undef, undef, undef, undef, undef, undef, undef, undef, undef, undef, undef, undef, undef, undef, undef, undef, undef, undef, undef, undef, undef, undef, undef, undef, undef, undef, undef, undef, undef, undef, undef, undef, undef, undef, undef, undef, undef, undef, undef, undef, undef, undef, undef, undef, undef, undef, undef, undef, undef, undef, undef, undef, undef, undef, undef, undef, undef, undef, undef, undef, undef, undef, undef, undef, undef, undef, undef, undef, undef, undef, undef, undef, undef, undef, undef, undef, undef, undef, undef, undef, undef, undef, undef, undef, undef, undef, undef, undef, undef, undef, undef, undef, undef, undef, undef, undef, undef, undef, undef, undef, undef, undef, undef, undef, undef, undef, undef, undef, undef, undef, undef, undef, undef, undef, undef, undef, undef, undef, undef, undef, undef], []⟩ := ⟨_, rfl⟩
  rw [← hA]
  have z_A : A.tmps.size = 254 := by rw [hA]; rfl
  have df : A.defers = [] := by rw [hA]
  have e0 : A.eval (.tmp 0) = .agg #[.int .u8 (p0 : Int), .int .u8 (p1 : Int), .int .u16 (p2 : Int), .int .u16 (p3 : Int), .int .u16 (p4 : Int), .int .u16 (p5 : Int), .int .u16 (p6 : Int), .int .u16 (p7 : Int), .int .u16 (p8 : Int), .int .u16 (p9 : Int), .int .u16 (p10 : Int), .int .u16 (p11 : Int), .slice aw lw cw, .slice al ll cl, .slice ad ld cd, .slice ar lr cr, .int .u8 (p16 : Int), .int .u8 (p17 : Int), .int .u8 (p18 : Int), .int .u8 (p19 : Int), .int .u8 (p20 : Int), .slice ao lo co] := by rw [hA, ← hV1]; rfl
  have e1 : A.eval (.tmp 1) = .agg #[.int .u8 (q0 : Int), .int .u8 (q1 : Int), .int .u16 (q2 : Int), .int .u16 (q3 : Int), .int .u16 (q4 : Int), .int .u16 (q5 : Int), .int .u16 (q6 : Int), .int .u16 (q7 : Int), .int .u16 (q8 : Int), .int .u16 (q9 : Int), .int .u16 (q10 : Int), .int .u16 (q11 : Int), .slice aw' lw' cw', .slice al' ll' cl', .slice ad' ld' cd', .slice ar' lr' cr', .int .u8 (q16 : Int), .int .u8 (q17 : Int), .int .u8 (q18 : Int), .int .u8 (q19 : Int), .int .u8 (q20 : Int), .slice ao' lo' co'] := by rw [hA, ← hV2]; rfl
  refine seq_region ?_
  refine fstepW 2 rfl (by omega) rfl _ _ (run_box w A _ _ _ _ rfl e0) ?_
  intro x1 X1 e2
  have zx1 := X1.size.trans z_A
  refine fstepW 3 rfl (by omega) rfl _ _ (run_box _ x1 _ _ _ _ rfl ((X1.rest 1 (by omega)).trans e1)) ?_
  intro x2 X2 e3
  have zx2 := X2.size.trans zx1
  refine fstep0 4 rfl (by omega) rfl _ (run_assign _ x2 _ _ rfl) ?_
  intro x3 X3 e4
  have zx3 : x3.tmps.size = 254 := X3.size.trans zx2
  have FA : Fr A x3 2 171 := ((X1.wide (Nat.le_refl _) (by omega)).trans X2 (by omega) (by omega)).trans X3 (by omega) (by omega)
  replace e2 := (X3.rest 2 (by omega)).trans ((X2.rest 2 (by omega)).trans e2)
  replace e3 := (X3.rest 3 (by omega)).trans e3
  replace e4 : x3.eval (.tmp 4) = .bool false := e4
  have hHW := Held.made w #[.int .u8 (p0 : Int), .int .u8 (p1 : Int), .int .u16 (p2 : Int), .int .u16 (p3 : Int), .int .u16 (p4 : Int), .int .u16 (p5 : Int), .int .u16 (p6 : Int), .int .u16 (p7 : Int), .int .u16 (p8 : Int), .int .u16 (p9 : Int), .int .u16 (p10 : Int), .int .u16 (p11 : Int), .slice aw lw cw, .slice al ll cl, .slice ad ld cd, .slice ar lr cr, .int .u8 (p16 : Int), .int .u8 (p17 : Int), .int .u8 (p18 : Int), .int .u8 (p19 : Int), .int .u8 (p20 : Int), .slice ao lo co] #[.int .u8 (q0 : Int), .int .u8 (q1 : Int), .int .u16 (q2 : Int), .int .u16 (q3 : Int), .int .u16 (q4 : Int), .int .u16 (q5 : Int), .int .u16 (q6 : Int), .int .u16 (q7 : Int), .int .u16 (q8 : Int), .int .u16 (q9 : Int), .int .u16 (q10 : Int), .int .u16 (q11 : Int), .slice aw' lw' cw', .slice al' ll' cl', .slice ad' ld' cd', .slice ar' lr' cr', .int .u8 (q16 : Int), .int .u8 (q17 : Int), .int .u8 (q18 : Int), .int .u8 (q19 : Int), .int .u8 (q20 : Int), .slice ao' lo' co']
  rw [show (w.alloc (.cells #[.int .u8 (p0 : Int), .int .u8 (p1 : Int), .int .u16 (p2 : Int), .int .u16 (p3 : Int), .int .u16 (p4 : Int), .int .u16 (p5 : Int), .int .u16 (p6 : Int), .int .u16 (p7 : Int), .int .u16 (p8 : Int), .int .u16 (p9 : Int), .int .u16 (p10 : Int), .int .u16 (p11 : Int), .slice aw lw cw, .slice al ll cl, .slice ad ld cd, .slice ar lr cr, .int .u8 (p16 : Int), .int .u8 (p17 : Int), .int .u8 (p18 : Int), .int .u8 (p19 : Int), .int .u8 (p20 : Int), .slice ao lo co] 30 (0, 0))).heap.size = w.heap.size + 1 from by simp] at e3
  generalize ((w.alloc (.cells #[.int .u8 (p0 : Int), .int .u8 (p1 : Int), .int .u16 (p2 : Int), .int .u16 (p3 : Int), .int .u16 (p4 : Int), .int .u16 (p5 : Int), .int .u16 (p6 : Int), .int .u16 (p7 : Int), .int .u16 (p8 : Int), .int .u16 (p9 : Int), .int .u16 (p10 : Int), .int .u16 (p11 : Int), .slice aw lw cw, .slice al ll cl, .slice ad ld cd, .slice ar lr cr, .int .u8 (p16 : Int), .int .u8 (p17 : Int), .int .u8 (p18 : Int), .int .u8 (p19 : Int), .int .u8 (p20 : Int), .slice ao lo co] 30 (0, 0))).alloc (.cells #[.int .u8 (q0 : Int), .int .u8 (q1 : Int), .int .u16 (q2 : Int), .int .u16 (q3 : Int), .int .u16 (q4 : Int), .int .u16 (q5 : Int), .int .u16 (q6 : Int), .int .u16 (q7 : Int), .int .u16 (q8 : Int), .int .u16 (q9 : Int), .int .u16 (q10 : Int), .int .u16 (q11 : Int), .slice aw' lw' cw', .slice al' ll' cl', .slice ad' ld' cd', .slice ar' lr' cr', .int .u8 (q16 : Int), .int .u8 (q17 : Int), .int .u8 (q18 : Int), .int .u8 (q19 : Int), .int .u8 (q20 : Int), .slice ao' lo' co'] 30 (0, 0))) = W at *
  clear X1 X2 X3 zx1 zx2 x1 x2 e0 e1
  refine list_end ?_
  refine wp_seq ?_
  refine seq_region ?_
  refine unit0 14 0 5 .u8 w.heap.size (w.heap.size + 1) p0 q0 _ _ Try.underlying30 rfl (by kernel_rfl) rfl (isA8 _) (by decide) (sz_lt zx3 (by decide)) e2 e3 (hHW.cell1 (i := 0) rfl) (hHW.cell2 (i := 0) rfl) rfl rfl rfl rfl rfl rfl rfl rfl rfl rfl rfl rfl rfl rfl rfl rfl rfl rfl ?_
  intro b0 F_b0 v_b0
  have z_b0 : b0.tmps.size = 254 := F_b0.size.trans zx3
  have A_b0 : Fr A b0 2 171 := FA.trans F_b0 (by decide) (by decide)
  have e2_b0 := (F_b0.rest 2 (by decide)).trans e2
  have e3_b0 := (F_b0.rest 3 (by decide)).trans e3
  have e4_b0 := (F_b0.rest 4 (by decide)).trans e4
  refine unit 30 2 3 20 19 5 1 5 .u8 w.heap.size (w.heap.size + 1) p1 q1 _ _ _ Try.underlying30 rfl (by kernel_rfl) rfl (isA8 _) rfl (by decide) (by decide) (sz_lt z_b0 (by decide)) e2_b0 e3_b0 v_b0 (hHW.cell1 (i := 1) rfl) (hHW.cell2 (i := 1) rfl) rfl rfl rfl rfl rfl rfl rfl rfl rfl rfl rfl rfl rfl rfl rfl rfl rfl rfl ?_
  intro b1 F_b1 v_b1
  have z_b1 : b1.tmps.size = 254 := F_b1.size.trans z_b0
  have A_b1 : Fr A b1 2 171 := A_b0.trans F_b1 (by decide) (by decide)
  have e2_b1 := (F_b1.rest 2 (by decide)).trans e2_b0
  have e3_b1 := (F_b1.rest 3 (by decide)).trans e3_b0
  have e4_b1 := (F_b1.rest 4 (by decide)).trans e4_b0
  refine fstep0 26 rfl (sz_lt z_b1 (by decide)) rfl _ (run_move _ b1 _ _ rfl) ?_
  intro b2 F_b2 v_b2
  have z_b2 : b2.tmps.size = 254 := F_b2.size.trans z_b1
  have A_b2 : Fr A b2 2 171 := A_b1.trans F_b2 (by decide) (by decide)
  have e2_b2 := (F_b2.rest 2 (by decide)).trans e2_b1
  have e3_b2 := (F_b2.rest 3 (by decide)).trans e3_b1
  have e4_b2 := (F_b2.rest 4 (by decide)).trans e4_b1
  replace v_b2 := v_b2.trans v_b1
  refine unit 30 2 3 27 26 12 2 24 .u16 w.heap.size (w.heap.size + 1) p2 q2 _ _ _ Try.underlying30 rfl (by kernel_rfl) rfl (isA16 _) rfl (by decide) (by decide) (sz_lt z_b2 (by decide)) e2_b2 e3_b2 v_b2 (hHW.cell1 (i := 2) rfl) (hHW.cell2 (i := 2) rfl) rfl rfl rfl rfl rfl rfl rfl rfl rfl rfl rfl rfl rfl rfl rfl rfl rfl rfl ?_
  intro b3 F_b3 v_b3
  have z_b3 : b3.tmps.size = 254 := F_b3.size.trans z_b2
  have A_b3 : Fr A b3 2 171 := A_b2.trans F_b3 (by decide) (by decide)
  have e2_b3 := (F_b3.rest 2 (by decide)).trans e2_b2
  have e3_b3 := (F_b3.rest 3 (by decide)).trans e3_b2
  have e4_b3 := (F_b3.rest 4 (by decide)).trans e4_b2
  refine fstep0 33 rfl (sz_lt z_b3 (by decide)) rfl _ (run_move _ b3 _ _ rfl) ?_
  intro b4 F_b4 v_b4
  have z_b4 : b4.tmps.size = 254 := F_b4.size.trans z_b3
  have A_b4 : Fr A b4 2 171 := A_b3.trans F_b4 (by decide) (by decide)
  have e2_b4 := (F_b4.rest 2 (by decide)).trans e2_b3
  have e3_b4 := (F_b4.rest 3 (by decide)).trans e3_b3
  have e4_b4 := (F_b4.rest 4 (by decide)).trans e4_b3
  replace v_b4 := v_b4.trans v_b3
  refine unit 30 2 3 34 33 19 3 24 .u16 w.heap.size (w.heap.size + 1) p3 q3 _ _ _ Try.underlying30 rfl (by kernel_rfl) rfl (isA16 _) rfl (by decide) (by decide) (sz_lt z_b4 (by decide)) e2_b4 e3_b4 v_b4 (hHW.cell1 (i := 3) rfl) (hHW.cell2 (i := 3) rfl) rfl rfl rfl rfl rfl rfl rfl rfl rfl rfl rfl rfl rfl rfl rfl rfl rfl rfl ?_
  intro b5 F_b5 v_b5
  have z_b5 : b5.tmps.size = 254 := F_b5.size.trans z_b4
  have A_b5 : Fr A b5 2 171 := A_b4.trans F_b5 (by decide) (by decide)
  have e2_b5 := (F_b5.rest 2 (by decide)).trans e2_b4
  have e3_b5 := (F_b5.rest 3 (by decide)).trans e3_b4
  have e4_b5 := (F_b5.rest 4 (by decide)).trans e4_b4
  refine fstep0 40 rfl (sz_lt z_b5 (by decide)) rfl _ (run_move _ b5 _ _ rfl) ?_
  intro b6 F_b6 v_b6
  have z_b6 : b6.tmps.size = 254 := F_b6.size.trans z_b5
  have A_b6 : Fr A b6 2 171 := A_b5.trans F_b6 (by decide) (by decide)
  have e2_b6 := (F_b6.rest 2 (by decide)).trans e2_b5
  have e3_b6 := (F_b6.rest 3 (by decide)).trans e3_b5
  have e4_b6 := (F_b6.rest 4 (by decide)).trans e4_b5
  replace v_b6 := v_b6.trans v_b5
  refine unit 30 2 3 41 40 26 4 24 .u16 w.heap.size (w.heap.size + 1) p4 q4 _ _ _ Try.underlying30 rfl (by kernel_rfl) rfl (isA16 _) rfl (by decide) (by decide) (sz_lt z_b6 (by decide)) e2_b6 e3_b6 v_b6 (hHW.cell1 (i := 4) rfl) (hHW.cell2 (i := 4) rfl) rfl rfl rfl rfl rfl rfl rfl rfl rfl rfl rfl rfl rfl rfl rfl rfl rfl rfl ?_
  intro b7 F_b7 v_b7
  have z_b7 : b7.tmps.size = 254 := F_b7.size.trans z_b6
  have A_b7 : Fr A b7 2 171 := A_b6.trans F_b7 (by decide) (by decide)
  have e2_b7 := (F_b7.rest 2 (by decide)).trans e2_b6
  have e3_b7 := (F_b7.rest 3 (by decide)).trans e3_b6
  have e4_b7 := (F_b7.rest 4 (by decide)).trans e4_b6
  refine fstep0 47 rfl (sz_lt z_b7 (by decide)) rfl _ (run_move _ b7 _ _ rfl) ?_
  intro b8 F_b8 v_b8
  have z_b8 : b8.tmps.size = 254 := F_b8.size.trans z_b7
  have A_b8 : Fr A b8 2 171 := A_b7.trans F_b8 (by decide) (by decide)
  have e2_b8 := (F_b8.rest 2 (by decide)).trans e2_b7
  have e3_b8 := (F_b8.rest 3 (by decide)).trans e3_b7
  have e4_b8 := (F_b8.rest 4 (by decide)).trans e4_b7
  replace v_b8 := v_b8.trans v_b7
  refine unit 30 2 3 48 47 33 5 24 .u16 w.heap.size (w.heap.size + 1) p5 q5 _ _ _ Try.underlying30 rfl (by kernel_rfl) rfl (isA16 _) rfl (by decide) (by decide) (sz_lt z_b8 (by decide)) e2_b8 e3_b8 v_b8 (hHW.cell1 (i := 5) rfl) (hHW.cell2 (i := 5) rfl) rfl rfl rfl rfl rfl rfl rfl rfl rfl rfl rfl rfl rfl rfl rfl rfl rfl rfl ?_
  intro b9 F_b9 v_b9
  have z_b9 : b9.tmps.size = 254 := F_b9.size.trans z_b8
  have A_b9 : Fr A b9 2 171 := A_b8.trans F_b9 (by decide) (by decide)
  have e2_b9 := (F_b9.rest 2 (by decide)).trans e2_b8
  have e3_b9 := (F_b9.rest 3 (by decide)).trans e3_b8
  have e4_b9 := (F_b9.rest 4 (by decide)).trans e4_b8
  refine fstep0 54 rfl (sz_lt z_b9 (by decide)) rfl _ (run_move _ b9 _ _ rfl) ?_
  intro b10 F_b10 v_b10
  have z_b10 : b10.tmps.size = 254 := F_b10.size.trans z_b9
  have A_b10 : Fr A b10 2 171 := A_b9.trans F_b10 (by decide) (by decide)
  have e2_b10 := (F_b10.rest 2 (by decide)).trans e2_b9
  have e3_b10 := (F_b10.rest 3 (by decide)).trans e3_b9
  have e4_b10 := (F_b10.rest 4 (by decide)).trans e4_b9
  replace v_b10 := v_b10.trans v_b9
  refine unit 30 2 3 55 54 40 6 24 .u16 w.heap.size (w.heap.size + 1) p6 q6 _ _ _ Try.underlying30 rfl (by kernel_rfl) rfl (isA16 _) rfl (by decide) (by decide) (sz_lt z_b10 (by decide)) e2_b10 e3_b10 v_b10 (hHW.cell1 (i := 6) rfl) (hHW.cell2 (i := 6) rfl) rfl rfl rfl rfl rfl rfl rfl rfl rfl rfl rfl rfl rfl rfl rfl rfl rfl rfl ?_
  intro b11 F_b11 v_b11
  have z_b11 : b11.tmps.size = 254 := F_b11.size.trans z_b10
  have A_b11 : Fr A b11 2 171 := A_b10.trans F_b11 (by decide) (by decide)
  have e2_b11 := (F_b11.rest 2 (by decide)).trans e2_b10
  have e3_b11 := (F_b11.rest 3 (by decide)).trans e3_b10
  have e4_b11 := (F_b11.rest 4 (by decide)).trans e4_b10
  refine fstep0 61 rfl (sz_lt z_b11 (by decide)) rfl _ (run_move _ b11 _ _ rfl) ?_
  intro b12 F_b12 v_b12
  have z_b12 : b12.tmps.size = 254 := F_b12.size.trans z_b11
  have A_b12 : Fr A b12 2 171 := A_b11.trans F_b12 (by decide) (by decide)
  have e2_b12 := (F_b12.rest 2 (by decide)).trans e2_b11
  have e3_b12 := (F_b12.rest 3 (by decide)).trans e3_b11
  have e4_b12 := (F_b12.rest 4 (by decide)).trans e4_b11
  replace v_b12 := v_b12.trans v_b11
  refine unit 30 2 3 62 61 47 7 24 .u16 w.heap.size (w.heap.size + 1) p7 q7 _ _ _ Try.underlying30 rfl (by kernel_rfl) rfl (isA16 _) rfl (by decide) (by decide) (sz_lt z_b12 (by decide)) e2_b12 e3_b12 v_b12 (hHW.cell1 (i := 7) rfl) (hHW.cell2 (i := 7) rfl) rfl rfl rfl rfl rfl rfl rfl rfl rfl rfl rfl rfl rfl rfl rfl rfl rfl rfl ?_
  intro b13 F_b13 v_b13
  have z_b13 : b13.tmps.size = 254 := F_b13.size.trans z_b12
  have A_b13 : Fr A b13 2 171 := A_b12.trans F_b13 (by decide) (by decide)
  have e2_b13 := (F_b13.rest 2 (by decide)).trans e2_b12
  have e3_b13 := (F_b13.rest 3 (by decide)).trans e3_b12
  have e4_b13 := (F_b13.rest 4 (by decide)).trans e4_b12
  refine fstep0 68 rfl (sz_lt z_b13 (by decide)) rfl _ (run_move _ b13 _ _ rfl) ?_
  intro b14 F_b14 v_b14
  have z_b14 : b14.tmps.size = 254 := F_b14.size.trans z_b13
  have A_b14 : Fr A b14 2 171 := A_b13.trans F_b14 (by decide) (by decide)
  have e2_b14 := (F_b14.rest 2 (by decide)).trans e2_b13
  have e3_b14 := (F_b14.rest 3 (by decide)).trans e3_b13
  have e4_b14 := (F_b14.rest 4 (by decide)).trans e4_b13
  replace v_b14 := v_b14.trans v_b13
  refine unit 30 2 3 69 68 54 8 24 .u16 w.heap.size (w.heap.size + 1) p8 q8 _ _ _ Try.underlying30 rfl (by kernel_rfl) rfl (isA16 _) rfl (by decide) (by decide) (sz_lt z_b14 (by decide)) e2_b14 e3_b14 v_b14 (hHW.cell1 (i := 8) rfl) (hHW.cell2 (i := 8) rfl) rfl rfl rfl rfl rfl rfl rfl rfl rfl rfl rfl rfl rfl rfl rfl rfl rfl rfl ?_
  intro b15 F_b15 v_b15
  have z_b15 : b15.tmps.size = 254 := F_b15.size.trans z_b14
  have A_b15 : Fr A b15 2 171 := A_b14.trans F_b15 (by decide) (by decide)
  have e2_b15 := (F_b15.rest 2 (by decide)).trans e2_b14
  have e3_b15 := (F_b15.rest 3 (by decide)).trans e3_b14
  have e4_b15 := (F_b15.rest 4 (by decide)).trans e4_b14
  refine fstep0 75 rfl (sz_lt z_b15 (by decide)) rfl _ (run_move _ b15 _ _ rfl) ?_
  intro b16 F_b16 v_b16
  have z_b16 : b16.tmps.size = 254 := F_b16.size.trans z_b15
  have A_b16 : Fr A b16 2 171 := A_b15.trans F_b16 (by decide) (by decide)
  have e2_b16 := (F_b16.rest 2 (by decide)).trans e2_b15
  have e3_b16 := (F_b16.rest 3 (by decide)).trans e3_b15
  have e4_b16 := (F_b16.rest 4 (by decide)).trans e4_b15
  replace v_b16 := v_b16.trans v_b15
  refine unit 30 2 3 76 75 61 9 24 .u16 w.heap.size (w.heap.size + 1) p9 q9 _ _ _ Try.underlying30 rfl (by kernel_rfl) rfl (isA16 _) rfl (by decide) (by decide) (sz_lt z_b16 (by decide)) e2_b16 e3_b16 v_b16 (hHW.cell1 (i := 9) rfl) (hHW.cell2 (i := 9) rfl) rfl rfl rfl rfl rfl rfl rfl rfl rfl rfl rfl rfl rfl rfl rfl rfl rfl rfl ?_
  intro b17 F_b17 v_b17
  have z_b17 : b17.tmps.size = 254 := F_b17.size.trans z_b16
  have A_b17 : Fr A b17 2 171 := A_b16.trans F_b17 (by decide) (by decide)
  have e2_b17 := (F_b17.rest 2 (by decide)).trans e2_b16
  have e3_b17 := (F_b17.rest 3 (by decide)).trans e3_b16
  have e4_b17 := (F_b17.rest 4 (by decide)).trans e4_b16
  refine fstep0 82 rfl (sz_lt z_b17 (by decide)) rfl _ (run_move _ b17 _ _ rfl) ?_
  intro b18 F_b18 v_b18
  have z_b18 : b18.tmps.size = 254 := F_b18.size.trans z_b17
  have A_b18 : Fr A b18 2 171 := A_b17.trans F_b18 (by decide) (by decide)
  have e2_b18 := (F_b18.rest 2 (by decide)).trans e2_b17
  have e3_b18 := (F_b18.rest 3 (by decide)).trans e3_b17
  have e4_b18 := (F_b18.rest 4 (by decide)).trans e4_b17
  replace v_b18 := v_b18.trans v_b17
  refine unit 30 2 3 83 82 68 10 24 .u16 w.heap.size (w.heap.size + 1) p10 q10 _ _ _ Try.underlying30 rfl (by kernel_rfl) rfl (isA16 _) rfl (by decide) (by decide) (sz_lt z_b18 (by decide)) e2_b18 e3_b18 v_b18 (hHW.cell1 (i := 10) rfl) (hHW.cell2 (i := 10) rfl) rfl rfl rfl rfl rfl rfl rfl rfl rfl rfl rfl rfl rfl rfl rfl rfl rfl rfl ?_
  intro b19 F_b19 v_b19
  have z_b19 : b19.tmps.size = 254 := F_b19.size.trans z_b18
  have A_b19 : Fr A b19 2 171 := A_b18.trans F_b19 (by decide) (by decide)
  have e2_b19 := (F_b19.rest 2 (by decide)).trans e2_b18
  have e3_b19 := (F_b19.rest 3 (by decide)).trans e3_b18
  have e4_b19 := (F_b19.rest 4 (by decide)).trans e4_b18
  refine fstep0 89 rfl (sz_lt z_b19 (by decide)) rfl _ (run_move _ b19 _ _ rfl) ?_
  intro b20 F_b20 v_b20
  have z_b20 : b20.tmps.size = 254 := F_b20.size.trans z_b19
  have A_b20 : Fr A b20 2 171 := A_b19.trans F_b20 (by decide) (by decide)
  have e2_b20 := (F_b20.rest 2 (by decide)).trans e2_b19
  have e3_b20 := (F_b20.rest 3 (by decide)).trans e3_b19
  have e4_b20 := (F_b20.rest 4 (by decide)).trans e4_b19
  replace v_b20 := v_b20.trans v_b19
  refine unit 30 2 3 90 89 75 11 24 .u16 w.heap.size (w.heap.size + 1) p11 q11 _ _ _ Try.underlying30 rfl (by kernel_rfl) rfl (isA16 _) rfl (by decide) (by decide) (sz_lt z_b20 (by decide)) e2_b20 e3_b20 v_b20 (hHW.cell1 (i := 11) rfl) (hHW.cell2 (i := 11) rfl) rfl rfl rfl rfl rfl rfl rfl rfl rfl rfl rfl rfl rfl rfl rfl rfl rfl rfl ?_
  intro b21 F_b21 v_b21
  have z_b21 : b21.tmps.size = 254 := F_b21.size.trans z_b20
  have A_b21 : Fr A b21 2 171 := A_b20.trans F_b21 (by decide) (by decide)
  have e2_b21 := (F_b21.rest 2 (by decide)).trans e2_b20
  have e3_b21 := (F_b21.rest 3 (by decide)).trans e3_b20
  have e4_b21 := (F_b21.rest 4 (by decide)).trans e4_b20
  obtain ⟨r1, h_r1⟩ : ∃ r, r = (((p0 : Int) != (q0 : Int)) || ((p1 : Int) != (q1 : Int)) || ((p2 : Int) != (q2 : Int)) || ((p3 : Int) != (q3 : Int)) || ((p4 : Int) != (q4 : Int)) || ((p5 : Int) != (q5 : Int)) || ((p6 : Int) != (q6 : Int)) || ((p7 : Int) != (q7 : Int)) || ((p8 : Int) != (q8 : Int)) || ((p9 : Int) != (q9 : Int)) || ((p10 : Int) != (q10 : Int)) || ((p11 : Int) != (q11 : Int))) := ⟨_, rfl⟩
  rw [← h_r1] at v_b21 HR
  clear h_r1
  refine list_end ?_
  cases r1 with
  | true =>
    refine wp_cond_true v_b21 ?_
    refine seq_region ?_
    refine fstep0 4 rfl (sz_lt z_b21 (by decide)) rfl _ (run_assign _ b21 _ _ rfl) ?_
    intro b22 F_b22 v_b22
    refine list_end ?_
    refine wp_ret (then_ret ?_)
    refine bodyPost_ret (results_tmp Try.results10 _ _ _) (F_b22.defers.trans (A_b21.defers.trans df)) ?_
    exact ⟨congrArg Ending.returned ((show _ = Value.bool false from v_b22).trans (by rw [HR.out]; simp)), hHW.below⟩
  | false =>
  refine wp_cond_false v_b21 ?_
  refine skip_next ?_
  refine wp_seq ?_
  refine seq_region ?_
  refine unit0 96 16 5 .u8 w.heap.size (w.heap.size + 1) p16 q16 _ _ Try.underlying30 rfl (by kernel_rfl) rfl (isA8 _) (by decide) (sz_lt z_b21 (by decide)) e2_b21 e3_b21 (hHW.cell1 (i := 16) rfl) (hHW.cell2 (i := 16) rfl) rfl rfl rfl rfl rfl rfl rfl rfl rfl rfl rfl rfl rfl rfl rfl rfl rfl rfl ?_
  intro b23 F_b23 v_b23
  have z_b23 : b23.tmps.size = 254 := F_b23.size.trans z_b21
  have A_b23 : Fr A b23 2 171 := A_b21.trans F_b23 (by decide) (by decide)
  have e2_b23 := (F_b23.rest 2 (by decide)).trans e2_b21
  have e3_b23 := (F_b23.rest 3 (by decide)).trans e3_b21
  have e4_b23 := (F_b23.rest 4 (by decide)).trans e4_b21
  refine unit 30 2 3 102 101 5 17 5 .u8 w.heap.size (w.heap.size + 1) p17 q17 _ _ _ Try.underlying30 rfl (by kernel_rfl) rfl (isA8 _) rfl (by decide) (by decide) (sz_lt z_b23 (by decide)) e2_b23 e3_b23 v_b23 (hHW.cell1 (i := 17) rfl) (hHW.cell2 (i := 17) rfl) rfl rfl rfl rfl rfl rfl rfl rfl rfl rfl rfl rfl rfl rfl rfl rfl rfl rfl ?_
  intro b24 F_b24 v_b24
  have z_b24 : b24.tmps.size = 254 := F_b24.size.trans z_b23
  have A_b24 : Fr A b24 2 171 := A_b23.trans F_b24 (by decide) (by decide)
  have e2_b24 := (F_b24.rest 2 (by decide)).trans e2_b23
  have e3_b24 := (F_b24.rest 3 (by decide)).trans e3_b23
  have e4_b24 := (F_b24.rest 4 (by decide)).trans e4_b23
  refine fstep0 108 rfl (sz_lt z_b24 (by decide)) rfl _ (run_move _ b24 _ _ rfl) ?_
  intro b25 F_b25 v_b25
  have z_b25 : b25.tmps.size = 254 := F_b25.size.trans z_b24
  have A_b25 : Fr A b25 2 171 := A_b24.trans F_b25 (by decide) (by decide)
  have e2_b25 := (F_b25.rest 2 (by decide)).trans e2_b24
  have e3_b25 := (F_b25.rest 3 (by decide)).trans e3_b24
  have e4_b25 := (F_b25.rest 4 (by decide)).trans e4_b24
  replace v_b25 := v_b25.trans v_b24
  refine unit 30 2 3 109 108 12 18 5 .u8 w.heap.size (w.heap.size + 1) p18 q18 _ _ _ Try.underlying30 rfl (by kernel_rfl) rfl (isA8 _) rfl (by decide) (by decide) (sz_lt z_b25 (by decide)) e2_b25 e3_b25 v_b25 (hHW.cell1 (i := 18) rfl) (hHW.cell2 (i := 18) rfl) rfl rfl rfl rfl rfl rfl rfl rfl rfl rfl rfl rfl rfl rfl rfl rfl rfl rfl ?_
  intro b26 F_b26 v_b26
  have z_b26 : b26.tmps.size = 254 := F_b26.size.trans z_b25
  have A_b26 : Fr A b26 2 171 := A_b25.trans F_b26 (by decide) (by decide)
  have e2_b26 := (F_b26.rest 2 (by decide)).trans e2_b25
  have e3_b26 := (F_b26.rest 3 (by decide)).trans e3_b25
  have e4_b26 := (F_b26.rest 4 (by decide)).trans e4_b25
  refine fstep0 115 rfl (sz_lt z_b26 (by decide)) rfl _ (run_move _ b26 _ _ rfl) ?_
  intro b27 F_b27 v_b27
  have z_b27 : b27.tmps.size = 254 := F_b27.size.trans z_b26
  have A_b27 : Fr A b27 2 171 := A_b26.trans F_b27 (by decide) (by decide)
  have e2_b27 := (F_b27.rest 2 (by decide)).trans e2_b26
  have e3_b27 := (F_b27.rest 3 (by decide)).trans e3_b26
  have e4_b27 := (F_b27.rest 4 (by decide)).trans e4_b26
  replace v_b27 := v_b27.trans v_b26
  refine unit 30 2 3 116 115 19 19 5 .u8 w.heap.size (w.heap.size + 1) p19 q19 _ _ _ Try.underlying30 rfl (by kernel_rfl) rfl (isA8 _) rfl (by decide) (by decide) (sz_lt z_b27 (by decide)) e2_b27 e3_b27 v_b27 (hHW.cell1 (i := 19) rfl) (hHW.cell2 (i := 19) rfl) rfl rfl rfl rfl rfl rfl rfl rfl rfl rfl rfl rfl rfl rfl rfl rfl rfl rfl ?_
  intro b28 F_b28 v_b28
  have z_b28 : b28.tmps.size = 254 := F_b28.size.trans z_b27
  have A_b28 : Fr A b28 2 171 := A_b27.trans F_b28 (by decide) (by decide)
  have e2_b28 := (F_b28.rest 2 (by decide)).trans e2_b27
  have e3_b28 := (F_b28.rest 3 (by decide)).trans e3_b27
  have e4_b28 := (F_b28.rest 4 (by decide)).trans e4_b27
  refine fstep0 122 rfl (sz_lt z_b28 (by decide)) rfl _ (run_move _ b28 _ _ rfl) ?_
  intro b29 F_b29 v_b29
  have z_b29 : b29.tmps.size = 254 := F_b29.size.trans z_b28
  have A_b29 : Fr A b29 2 171 := A_b28.trans F_b29 (by decide) (by decide)
  have e2_b29 := (F_b29.rest 2 (by decide)).trans e2_b28
  have e3_b29 := (F_b29.rest 3 (by decide)).trans e3_b28
  have e4_b29 := (F_b29.rest 4 (by decide)).trans e4_b28
  replace v_b29 := v_b29.trans v_b28
  refine unit 30 2 3 123 122 26 20 5 .u8 w.heap.size (w.heap.size + 1) p20 q20 _ _ _ Try.underlying30 rfl (by kernel_rfl) rfl (isA8 _) rfl (by decide) (by decide) (sz_lt z_b29 (by decide)) e2_b29 e3_b29 v_b29 (hHW.cell1 (i := 20) rfl) (hHW.cell2 (i := 20) rfl) rfl rfl rfl rfl rfl rfl rfl rfl rfl rfl rfl rfl rfl rfl rfl rfl rfl rfl ?_
  intro b30 F_b30 v_b30
  have z_b30 : b30.tmps.size = 254 := F_b30.size.trans z_b29
  have A_b30 : Fr A b30 2 171 := A_b29.trans F_b30 (by decide) (by decide)
  have e2_b30 := (F_b30.rest 2 (by decide)).trans e2_b29
  have e3_b30 := (F_b30.rest 3 (by decide)).trans e3_b29
  have e4_b30 := (F_b30.rest 4 (by decide)).trans e4_b29
  obtain ⟨r2, h_r2⟩ : ∃ r, r = (((p16 : Int) != (q16 : Int)) || ((p17 : Int) != (q17 : Int)) || ((p18 : Int) != (q18 : Int)) || ((p19 : Int) != (q19 : Int)) || ((p20 : Int) != (q20 : Int))) := ⟨_, rfl⟩
  rw [← h_r2] at v_b30 HR
  clear h_r2
  refine list_end ?_
  cases r2 with
  | true =>
    refine wp_cond_true v_b30 ?_
    refine seq_region ?_
    refine fstep0 4 rfl (sz_lt z_b30 (by decide)) rfl _ (run_assign _ b30 _ _ rfl) ?_
    intro b31 F_b31 v_b31
    refine list_end ?_
    refine wp_ret (then_ret ?_)
    refine bodyPost_ret (results_tmp Try.results10 _ _ _) (F_b31.defers.trans (A_b30.defers.trans df)) ?_
    exact ⟨congrArg Ending.returned ((show _ = Value.bool false from v_b31).trans (by rw [HR.out]; simp)), hHW.below⟩
  | false =>
  refine wp_cond_false v_b30 ?_
  refine skip_next ?_
  refine seq_region ?_
  refine unitCall 129 5 12 25 21 w.heap.size (w.heap.size + 1) (.slice aw lw cw) (.slice aw' lw' cw') _ _ D1 Try.underlying30 rfl (by kernel_rfl) rfl (isAw _) (by decide) (by decide) (sz_lt z_b30 (by decide)) e2_b30 e3_b30 (hHW.cell1 (i := 12) rfl) (hHW.cell2 (i := 12) rfl) (calls30 _ _ _) (HW.out _ hHW.below) rfl rfl rfl rfl rfl rfl rfl rfl rfl rfl rfl rfl rfl rfl rfl rfl rfl rfl ?_
  intro b32 w_b32 F_b32 X_b32 v_b32 k_b32
  have z_b32 : b32.tmps.size = 254 := F_b32.size.trans z_b30
  have A_b32 : Fr A b32 2 171 := A_b30.trans F_b32 (by decide) (by decide)
  have e2_b32 := (X_b32 2 (by decide) (by decide)).trans e2_b30
  have e3_b32 := (X_b32 3 (by decide) (by decide)).trans e3_b30
  have e4_b32 := (X_b32 4 (by decide) (by decide)).trans e4_b30
  have h_b32 := hHW.next k_b32
  refine list_end ?_
  refine seq_region ?_
  refine unitCall 134 6 13 26 22 w.heap.size (w.heap.size + 1) (.slice al ll cl) (.slice al' ll' cl') _ _ D2 Try.underlying30 rfl (by kernel_rfl) rfl (isAl _) (by decide) (by decide) (sz_lt z_b32 (by decide)) e2_b32 e3_b32 (h_b32.cell1 (i := 13) rfl) (h_b32.cell2 (i := 13) rfl) (calls31 _ _ _) (HL.out _ h_b32.below) rfl rfl rfl rfl rfl rfl rfl rfl rfl rfl rfl rfl rfl rfl rfl rfl rfl rfl ?_
  intro b33 w_b33 F_b33 X_b33 v_b33 k_b33
  have z_b33 : b33.tmps.size = 254 := F_b33.size.trans z_b32
  have A_b33 : Fr A b33 2 171 := A_b32.trans F_b33 (by decide) (by decide)
  have e2_b33 := (X_b33 2 (by decide) (by decide)).trans e2_b32
  have e3_b33 := (X_b33 3 (by decide) (by decide)).trans e3_b32
  have e4_b33 := (X_b33 4 (by decide) (by decide)).trans e4_b32
  have e5_b33 := (X_b33 5 (by decide) (by decide)).trans v_b32
  have h_b33 := h_b32.next k_b33
  refine list_end ?_
  refine seq_region ?_
  refine unitCall 139 7 14 22 15 w.heap.size (w.heap.size + 1) (.slice ad ld cd) (.slice ad' ld' cd') _ _ D3 Try.underlying30 rfl (by kernel_rfl) rfl (isAd _) (by decide) (by decide) (sz_lt z_b33 (by decide)) e2_b33 e3_b33 (h_b33.cell1 (i := 14) rfl) (h_b33.cell2 (i := 14) rfl) (calls32 _ _ _) (HD.out _ h_b33.below) rfl rfl rfl rfl rfl rfl rfl rfl rfl rfl rfl rfl rfl rfl rfl rfl rfl rfl ?_
  intro b34 w_b34 F_b34 X_b34 v_b34 k_b34
  have z_b34 : b34.tmps.size = 254 := F_b34.size.trans z_b33
  have A_b34 : Fr A b34 2 171 := A_b33.trans F_b34 (by decide) (by decide)
  have e2_b34 := (X_b34 2 (by decide) (by decide)).trans e2_b33
  have e3_b34 := (X_b34 3 (by decide) (by decide)).trans e3_b33
  have e4_b34 := (X_b34 4 (by decide) (by decide)).trans e4_b33
  have e5_b34 := (X_b34 5 (by decide) (by decide)).trans e5_b33
  have e6_b34 := (X_b34 6 (by decide) (by decide)).trans v_b33
  have h_b34 := h_b33.next k_b34
  refine list_end ?_
  refine wp_seq ?_
  refine seq_region ?_
  refine fstep0 144 rfl (sz_lt z_b34 (by decide)) rfl (.bool D1) (by rw [run_move _ b34 _ _ rfl, e5_b34]) ?_
  intro b35 F_b35 v_b35
  have z_b35 : b35.tmps.size = 254 := F_b35.size.trans z_b34
  have A_b35 : Fr A b35 2 171 := A_b34.trans F_b35 (by decide) (by decide)
  have e2_b35 := (F_b35.rest 2 (by decide)).trans e2_b34
  have e3_b35 := (F_b35.rest 3 (by decide)).trans e3_b34
  have e4_b35 := (F_b35.rest 4 (by decide)).trans e4_b34
  have e5_b35 := (F_b35.rest 5 (by decide)).trans e5_b34
  have e6_b35 := (F_b35.rest 6 (by decide)).trans e6_b34
  have e7_b35 := (F_b35.rest 7 (by decide)).trans v_b34
  refine fstep0 145 rfl (sz_lt z_b35 (by decide)) rfl _ (run_not _ b35 _ _ D1 rfl v_b35) ?_
  intro b36 F_b36 v_b36
  have z_b36 : b36.tmps.size = 254 := F_b36.size.trans z_b35
  have A_b36 : Fr A b36 2 171 := A_b35.trans F_b36 (by decide) (by decide)
  have e2_b36 := (F_b36.rest 2 (by decide)).trans e2_b35
  have e3_b36 := (F_b36.rest 3 (by decide)).trans e3_b35
  have e4_b36 := (F_b36.rest 4 (by decide)).trans e4_b35
  have e5_b36 := (F_b36.rest 5 (by decide)).trans e5_b35
  have e6_b36 := (F_b36.rest 6 (by decide)).trans e6_b35
  have e7_b36 := (F_b36.rest 7 (by decide)).trans e7_b35
  refine fstep0 146 rfl (sz_lt z_b36 (by decide)) rfl (.bool (!D1)) (by rw [run_move _ b36 _ _ rfl, v_b36]) ?_
  intro b37 F_b37 v_b37
  have z_b37 : b37.tmps.size = 254 := F_b37.size.trans z_b36
  have A_b37 : Fr A b37 2 171 := A_b36.trans F_b37 (by decide) (by decide)
  have e2_b37 := (F_b37.rest 2 (by decide)).trans e2_b36
  have e3_b37 := (F_b37.rest 3 (by decide)).trans e3_b36
  have e4_b37 := (F_b37.rest 4 (by decide)).trans e4_b36
  have e5_b37 := (F_b37.rest 5 (by decide)).trans e5_b36
  have e6_b37 := (F_b37.rest 6 (by decide)).trans e6_b36
  have e7_b37 := (F_b37.rest 7 (by decide)).trans e7_b36
  refine unitNot 147 146 2 6 _ D2 rfl (by decide) (sz_lt z_b37 (by decide)) e6_b37 v_b37 rfl rfl rfl rfl rfl rfl rfl rfl rfl ?_
  intro b38 F_b38 v_b38
  have z_b38 : b38.tmps.size = 254 := F_b38.size.trans z_b37
  have A_b38 : Fr A b38 2 171 := A_b37.trans F_b38 (by decide) (by decide)
  have e2_b38 := (F_b38.rest 2 (by decide)).trans e2_b37
  have e3_b38 := (F_b38.rest 3 (by decide)).trans e3_b37
  have e4_b38 := (F_b38.rest 4 (by decide)).trans e4_b37
  have e5_b38 := (F_b38.rest 5 (by decide)).trans e5_b37
  have e6_b38 := (F_b38.rest 6 (by decide)).trans e6_b37
  have e7_b38 := (F_b38.rest 7 (by decide)).trans e7_b37
  refine fstep0 150 rfl (sz_lt z_b38 (by decide)) rfl _ (run_move _ b38 _ _ rfl) ?_
  intro b39 F_b39 v_b39
  have z_b39 : b39.tmps.size = 254 := F_b39.size.trans z_b38
  have A_b39 : Fr A b39 2 171 := A_b38.trans F_b39 (by decide) (by decide)
  have e2_b39 := (F_b39.rest 2 (by decide)).trans e2_b38
  have e3_b39 := (F_b39.rest 3 (by decide)).trans e3_b38
  have e4_b39 := (F_b39.rest 4 (by decide)).trans e4_b38
  have e5_b39 := (F_b39.rest 5 (by decide)).trans e5_b38
  have e6_b39 := (F_b39.rest 6 (by decide)).trans e6_b38
  have e7_b39 := (F_b39.rest 7 (by decide)).trans e7_b38
  replace v_b39 := v_b39.trans v_b38
  refine unitNot 151 150 6 7 _ D3 rfl (by decide) (sz_lt z_b39 (by decide)) e7_b39 v_b39 rfl rfl rfl rfl rfl rfl rfl rfl rfl ?_
  intro b40 F_b40 v_b40
  have z_b40 : b40.tmps.size = 254 := F_b40.size.trans z_b39
  have A_b40 : Fr A b40 2 171 := A_b39.trans F_b40 (by decide) (by decide)
  have e2_b40 := (F_b40.rest 2 (by decide)).trans e2_b39
  have e3_b40 := (F_b40.rest 3 (by decide)).trans e3_b39
  have e4_b40 := (F_b40.rest 4 (by decide)).trans e4_b39
  have e5_b40 := (F_b40.rest 5 (by decide)).trans e5_b39
  have e6_b40 := (F_b40.rest 6 (by decide)).trans e6_b39
  have e7_b40 := (F_b40.rest 7 (by decide)).trans e7_b39
  refine fstep0 154 rfl (sz_lt z_b40 (by decide)) rfl _ (run_move _ b40 _ _ rfl) ?_
  intro b41 F_b41 v_b41
  have z_b41 : b41.tmps.size = 254 := F_b41.size.trans z_b40
  have A_b41 : Fr A b41 2 171 := A_b40.trans F_b41 (by decide) (by decide)
  have e2_b41 := (F_b41.rest 2 (by decide)).trans e2_b40
  have e3_b41 := (F_b41.rest 3 (by decide)).trans e3_b40
  have e4_b41 := (F_b41.rest 4 (by decide)).trans e4_b40
  have e5_b41 := (F_b41.rest 5 (by decide)).trans e5_b40
  have e6_b41 := (F_b41.rest 6 (by decide)).trans e6_b40
  have e7_b41 := (F_b41.rest 7 (by decide)).trans e7_b40
  replace v_b41 := v_b41.trans v_b40
  refine unitLen 155 154 10 15 27 50 w.heap.size (w.heap.size + 1) ar ar' lr lr' cr cr' _ _ _ Try.underlying30 rfl (by kernel_rfl) rfl Try.underlying27 (isAr _) rfl (by decide) (by decide) (sz_lt z_b41 (by decide)) e2_b41 e3_b41 v_b41 (h_b34.cell1 (i := 15) rfl) (h_b34.cell2 (i := 15) rfl) rfl rfl rfl rfl rfl rfl rfl rfl rfl rfl rfl rfl rfl rfl rfl rfl rfl rfl rfl rfl rfl rfl rfl rfl ?_
  intro b42 F_b42 v_b42
  have z_b42 : b42.tmps.size = 254 := F_b42.size.trans z_b41
  have A_b42 : Fr A b42 2 171 := A_b41.trans F_b42 (by decide) (by decide)
  have e2_b42 := (F_b42.rest 2 (by decide)).trans e2_b41
  have e3_b42 := (F_b42.rest 3 (by decide)).trans e3_b41
  have e4_b42 := (F_b42.rest 4 (by decide)).trans e4_b41
  have e5_b42 := (F_b42.rest 5 (by decide)).trans e5_b41
  have e6_b42 := (F_b42.rest 6 (by decide)).trans e6_b41
  have e7_b42 := (F_b42.rest 7 (by decide)).trans e7_b41
  refine fstep0 163 rfl (sz_lt z_b42 (by decide)) rfl _ (run_move _ b42 _ _ rfl) ?_
  intro b43 F_b43 v_b43
  have z_b43 : b43.tmps.size = 254 := F_b43.size.trans z_b42
  have A_b43 : Fr A b43 2 171 := A_b42.trans F_b43 (by decide) (by decide)
  have e2_b43 := (F_b43.rest 2 (by decide)).trans e2_b42
  have e3_b43 := (F_b43.rest 3 (by decide)).trans e3_b42
  have e4_b43 := (F_b43.rest 4 (by decide)).trans e4_b42
  have e5_b43 := (F_b43.rest 5 (by decide)).trans e5_b42
  have e6_b43 := (F_b43.rest 6 (by decide)).trans e6_b42
  have e7_b43 := (F_b43.rest 7 (by decide)).trans e7_b42
  replace v_b43 := v_b43.trans v_b42
  refine unitLen 164 163 19 21 28 52 w.heap.size (w.heap.size + 1) ao ao' lo lo' co co' _ _ _ Try.underlying30 rfl (by kernel_rfl) rfl Try.underlying28 (isAo _) rfl (by decide) (by decide) (sz_lt z_b43 (by decide)) e2_b43 e3_b43 v_b43 (h_b34.cell1 (i := 21) rfl) (h_b34.cell2 (i := 21) rfl) rfl rfl rfl rfl rfl rfl rfl rfl rfl rfl rfl rfl rfl rfl rfl rfl rfl rfl rfl rfl rfl rfl rfl rfl ?_
  intro b44 F_b44 v_b44
  have z_b44 : b44.tmps.size = 254 := F_b44.size.trans z_b43
  have A_b44 : Fr A b44 2 171 := A_b43.trans F_b44 (by decide) (by decide)
  have e2_b44 := (F_b44.rest 2 (by decide)).trans e2_b43
  have e3_b44 := (F_b44.rest 3 (by decide)).trans e3_b43
  have e4_b44 := (F_b44.rest 4 (by decide)).trans e4_b43
  have e5_b44 := (F_b44.rest 5 (by decide)).trans e5_b43
  have e6_b44 := (F_b44.rest 6 (by decide)).trans e6_b43
  have e7_b44 := (F_b44.rest 7 (by decide)).trans e7_b43
  obtain ⟨r3, h_r3⟩ : ∃ r, r = (!D1 || !D2 || !D3 || ((lr : Int) != (lr' : Int)) || ((lo : Int) != (lo' : Int))) := ⟨_, rfl⟩
  rw [← h_r3] at v_b44
  refine list_end ?_
  cases r3 with
  | true =>
    refine wp_cond_true v_b44 ?_
    refine seq_region ?_
    refine fstep0 4 rfl (sz_lt z_b44 (by decide)) rfl _ (run_assign _ b44 _ _ rfl) ?_
    intro b45 F_b45 v_b45
    refine list_end ?_
    refine wp_ret (then_ret ?_)
    refine bodyPost_ret (results_tmp Try.results10 _ _ _) (F_b45.defers.trans (A_b44.defers.trans df)) ?_
    exact ⟨congrArg Ending.returned ((show _ = Value.bool false from v_b45).trans (by rw [HR.out]; exact congrArg Value.bool (many_false D1 D2 D3 lr lr' lo lo' rs rs' os os' hr.hlen hr'.hlen ho.hlen ho'.hlen h_r3.symm).symm)), h_b34.below⟩
  | false =>
  refine wp_cond_false v_b44 ?_
  refine skip_next ?_
  obtain ⟨rfl, rfl, rfl, hlr2, hlo2⟩ := many_true D1 D2 D3 lr lr' lo lo' h_r3.symm
  replace HR : Hid (R = (allSame RecM.same rs rs' && allSame ObjM.same os os')) := hide (by rw [HR.out]; simp)
  clear h_r3 HW HL HD hHW
  have hHW := h_b34
  refine wp_seq ?_
  refine seq_region ?_
  refine fstep0 8 rfl (sz_lt z_b44 (by decide)) rfl _ (run_assign _ b44 _ _ rfl) ?_
  intro c1 cF1 cv1
  have cz1 : c1.tmps.size = 254 := cF1.size.trans z_b44
  have dc : c1.defers = [] := cF1.defers.trans (A_b44.defers.trans df)
  refine list_end ?_
  refine wp_block ?_
  refine wp_loop (fun b wx => b.tmps.size = 254 ∧ b.defers = [] ∧ b.eval (.tmp 2) = .pointer (some ⟨w.heap.size, 0, none⟩) ∧ b.eval (.tmp 3) = .pointer (some ⟨w.heap.size + 1, 0, none⟩) ∧ Held w #[.int .u8 (p0 : Int), .int .u8 (p1 : Int), .int .u16 (p2 : Int), .int .u16 (p3 : Int), .int .u16 (p4 : Int), .int .u16 (p5 : Int), .int .u16 (p6 : Int), .int .u16 (p7 : Int), .int .u16 (p8 : Int), .int .u16 (p9 : Int), .int .u16 (p10 : Int), .int .u16 (p11 : Int), .slice aw lw cw, .slice al ll cl, .slice ad ld cd, .slice ar lr cr, .int .u8 (p16 : Int), .int .u8 (p17 : Int), .int .u8 (p18 : Int), .int .u8 (p19 : Int), .int .u8 (p20 : Int), .slice ao lo co] #[.int .u8 (q0 : Int), .int .u8 (q1 : Int), .int .u16 (q2 : Int), .int .u16 (q3 : Int), .int .u16 (q4 : Int), .int .u16 (q5 : Int), .int .u16 (q6 : Int), .int .u16 (q7 : Int), .int .u16 (q8 : Int), .int .u16 (q9 : Int), .int .u16 (q10 : Int), .int .u16 (q11 : Int), .slice aw' lw' cw', .slice al' ll' cl', .slice ad' ld' cd', .slice ar' lr' cr', .int .u8 (q16 : Int), .int .u8 (q17 : Int), .int .u8 (q18 : Int), .int .u8 (q19 : Int), .int .u8 (q20 : Int), .slice ao' lo' co'] wx ∧ ∃ k : Nat, k ≤ lr ∧ b.eval (.tmp 8) = .int .i64 (k : Int) ∧ rs.take k = rs'.take k) (fun b _ => lr - (intOf (b.eval (.tmp 8))).toNat) ?_ ?_
  · exact ⟨cz1, dc, ((cF1.rest 2 (by decide)).trans e2_b44), ((cF1.rest 3 (by decide)).trans e3_b44), hHW, 0, Nat.zero_le _, cv1, rfl⟩
  intro d0 wb hI
  obtain ⟨dz0, db, b2, b3, hH, k, hk, b8, heq⟩ := hI
  refine wp_seq ?_
  refine seq_region ?_
  refine fstep0 172 rfl (sz_lt dz0 (by decide)) rfl (.int .i64 (k : Int)) (by rw [run_move _ d0 _ _ rfl, b8]) ?_
  intro d1 dF1 dv1
  have dz1 : d1.tmps.size = 254 := dF1.size.trans dz0
  refine fstep0 173 rfl (sz_lt dz1 (by decide)) rfl _ (run_field _ d1 _ _ _ 15 w.heap.size _ _ rfl ((dF1.rest 2 (by decide)).trans b2) Try.underlying30 rfl (by kernel_rfl) rfl) ?_
  intro d2 dF2 dv2
  have dz2 : d2.tmps.size = 254 := dF2.size.trans dz1
  refine fstep0 174 rfl (sz_lt dz2 (by decide)) rfl _ (run_load _ d2 _ _ _ _ _ rfl dv2 (hH.cell1 (i := 15) rfl) (isAr _)) ?_
  intro d3 dF3 dv3
  have dz3 : d3.tmps.size = 254 := dF3.size.trans dz2
  refine fstep0 175 rfl (sz_lt dz3 (by decide)) rfl _ (run_len _ d3 _ _ _ _ _ _ _ rfl dv3 Try.underlying27) ?_
  intro d4 dF4 dv4
  have dz4 : d4.tmps.size = 254 := dF4.size.trans dz3
  refine fstep0 176 rfl (sz_lt dz4 (by decide)) rfl _ (run_lss _ d4 _ _ _ k lr rfl ((dF4.rest 172 (by decide)).trans ((dF3.rest 172 (by decide)).trans ((dF2.rest 172 (by decide)).trans dv1))) dv4) ?_
  intro d5 dF5 dv5
  have dz5 : d5.tmps.size = 254 := dF5.size.trans dz4
  refine list_end ?_
  by_cases hlt : k < lr
  · refine wp_cond_true (dv5.trans (by simp [hlt])) ?_
    refine skip_next ?_
    refine wp_seq ?_
    refine wp_block ?_
    refine seq_region ?_
    have hk1 : k < rs.length := by rw [hr.hlen]; exact hlt
    have hk2 : k < rs'.length := by rw [hr'.hlen]; omega
    obtain ⟨g, off, ax, lx, cx, har, hgl, x0, x1, x2, x3, hwx⟩ := (hr.mono hH.below).hcell k hk1
    subst har
    refine fstep0 179 rfl (sz_lt dz5 (by decide)) rfl _ (run_field _ d5 _ _ _ 15 w.heap.size _ _ rfl ((dF5.rest 2 (by decide)).trans ((dF4.rest 2 (by decide)).trans ((dF3.rest 2 (by decide)).trans ((dF2.rest 2 (by decide)).trans ((dF1.rest 2 (by decide)).trans b2))))) Try.underlying30 rfl (by kernel_rfl) rfl) ?_
    intro d6 dF6 dv6
    have dz6 : d6.tmps.size = 254 := dF6.size.trans dz5
    refine fstep0 180 rfl (sz_lt dz6 (by decide)) rfl _ (run_load _ d6 _ _ _ _ _ rfl dv6 (hH.cell1 (i := 15) rfl) (isAr _)) ?_
    intro d7 dF7 dv7
    have dz7 : d7.tmps.size = 254 := dF7.size.trans dz6
    refine fstep0 181 rfl (sz_lt dz7 (by decide)) rfl (.int .i64 (k : Int)) (by rw [run_move _ d7 _ _ rfl, ((dF7.rest 8 (by decide)).trans ((dF6.rest 8 (by decide)).trans ((dF5.rest 8 (by decide)).trans ((dF4.rest 8 (by decide)).trans ((dF3.rest 8 (by decide)).trans ((dF2.rest 8 (by decide)).trans ((dF1.rest 8 (by decide)).trans b8)))))))]) ?_
    intro d8 dF8 dv8
    have dz8 : d8.tmps.size = 254 := dF8.size.trans dz7
    refine fstep0 182 rfl (sz_lt dz8 (by decide)) rfl _ (run_index _ d8 _ _ _ _ _ g off _ _ k 4 rfl ((dF8.rest 180 (by decide)).trans dv7) dv8 hlt Try.underlying27 (by kernel_rfl)) ?_
    intro d9 dF9 dv9
    have dz9 : d9.tmps.size = 254 := dF9.size.trans dz8
    refine fstep0 183 rfl (sz_lt dz9 (by decide)) rfl _ (run_load4 _ d9 _ _ g (off + k * 4) _ _ _ _ rfl dv9 x0 x1 x2 x3) ?_
    intro d10 dF10 dv10
    have dz10 : d10.tmps.size = 254 := dF10.size.trans dz9
    refine fcopy 9 183 _ _ _ _ (by decide) (sz_lt dz10 (by decide)) dv10 (by simp [Value.oneCell']) rfl rfl rfl rfl rfl rfl ?_
    intro d11 w1 dF11 dv11 hb1 bel1
    have dz11 : d11.tmps.size = 254 := dF11.size.trans dz10
    have hH1 := hH.next bel1
    refine list_end ?_
    refine seq_region ?_
    obtain ⟨g', off', ay, ly, cy, har', hgl', y0, y1, y2, y3, hwy⟩ := (hr'.mono hH1.below).hcell k hk2
    subst har'
    refine fstep0 184 rfl (sz_lt dz11 (by decide)) rfl _ (run_field _ d11 _ _ _ 15 (w.heap.size + 1) _ _ rfl ((dF11.rest 3 (by decide)).trans ((dF10.rest 3 (by decide)).trans ((dF9.rest 3 (by decide)).trans ((dF8.rest 3 (by decide)).trans ((dF7.rest 3 (by decide)).trans ((dF6.rest 3 (by decide)).trans ((dF5.rest 3 (by decide)).trans ((dF4.rest 3 (by decide)).trans ((dF3.rest 3 (by decide)).trans ((dF2.rest 3 (by decide)).trans ((dF1.rest 3 (by decide)).trans b3))))))))))) Try.underlying30 rfl (by kernel_rfl) rfl) ?_
    intro d12 dF12 dv12
    have dz12 : d12.tmps.size = 254 := dF12.size.trans dz11
    refine fstep0 185 rfl (sz_lt dz12 (by decide)) rfl _ (run_load _ d12 _ _ _ _ _ rfl dv12 (hH1.cell2 (i := 15) rfl) (isAr _)) ?_
    intro d13 dF13 dv13
    have dz13 : d13.tmps.size = 254 := dF13.size.trans dz12
    refine fstep0 186 rfl (sz_lt dz13 (by decide)) rfl (.int .i64 (k : Int)) (by rw [run_move _ d13 _ _ rfl, ((dF13.rest 8 (by decide)).trans ((dF12.rest 8 (by decide)).trans ((dF11.rest 8 (by decide)).trans ((dF10.rest 8 (by decide)).trans ((dF9.rest 8 (by decide)).trans ((dF8.rest 8 (by decide)).trans ((dF7.rest 8 (by decide)).trans ((dF6.rest 8 (by decide)).trans ((dF5.rest 8 (by decide)).trans ((dF4.rest 8 (by decide)).trans ((dF3.rest 8 (by decide)).trans ((dF2.rest 8 (by decide)).trans ((dF1.rest 8 (by decide)).trans b8)))))))))))))]) ?_
    intro d14 dF14 dv14
    have dz14 : d14.tmps.size = 254 := dF14.size.trans dz13
    refine fstep0 187 rfl (sz_lt dz14 (by decide)) rfl _ (run_index _ d14 _ _ _ _ _ g' off' _ _ k 4 rfl ((dF14.rest 185 (by decide)).trans dv13) dv14 (by omega) Try.underlying27 (by kernel_rfl)) ?_
    intro d15 dF15 dv15
    have dz15 : d15.tmps.size = 254 := dF15.size.trans dz14
    refine fstep0 188 rfl (sz_lt dz15 (by decide)) rfl _ (run_load4 _ d15 _ _ g' (off' + k * 4) _ _ _ _ rfl dv15 y0 y1 y2 y3) ?_
    intro d16 dF16 dv16
    have dz16 : d16.tmps.size = 254 := dF16.size.trans dz15
    refine fcopy 10 188 _ _ _ _ (by decide) (sz_lt dz16 (by decide)) dv16 (by simp [Value.oneCell']) rfl rfl rfl rfl rfl rfl ?_
    intro d17 w2 dF17 dv17 hb2 bel2
    have dz17 : d17.tmps.size = 254 := dF17.size.trans dz16
    have hH2 := hH1.next bel2
    replace hb1 := (bel2.block _ (Array.getElem?_eq_some_iff.1 hb1).1).trans hb1
    refine list_end ?_
    refine seq_region ?_
    refine fstep0 189 rfl (sz_lt dz17 (by decide)) rfl _ (run_field _ d17 _ _ _ 3 wb.heap.size _ _ rfl ((dF17.rest 9 (by decide)).trans ((dF16.rest 9 (by decide)).trans ((dF15.rest 9 (by decide)).trans ((dF14.rest 9 (by decide)).trans ((dF13.rest 9 (by decide)).trans ((dF12.rest 9 (by decide)).trans dv11)))))) Try.underlying50 rfl (by kernel_rfl) rfl) ?_
    intro d18 dF18 dv18
    have dz18 : d18.tmps.size = 254 := dF18.size.trans dz17
    refine fstep0 190 rfl (sz_lt dz18 (by decide)) rfl _ (run_load _ d18 _ _ _ _ _ rfl dv18 ((cell_of_row w2 wb.heap.size 3 _ _ _ hb1).trans rfl) (isAw _)) ?_
    intro d19 dF19 dv19
    have dz19 : d19.tmps.size = 254 := dF19.size.trans dz18
    refine fstep0 191 rfl (sz_lt dz19 (by decide)) rfl _ (run_field _ d19 _ _ _ 3 w1.heap.size _ _ rfl ((dF19.rest 10 (by decide)).trans ((dF18.rest 10 (by decide)).trans dv17)) Try.underlying50 rfl (by kernel_rfl) rfl) ?_
    intro d20 dF20 dv20
    have dz20 : d20.tmps.size = 254 := dF20.size.trans dz19
    refine fstep0 192 rfl (sz_lt dz20 (by decide)) rfl _ (run_load _ d20 _ _ _ _ _ rfl dv20 ((cell_of_row w2 w1.heap.size 3 _ _ _ hb2).trans rfl) (isAw _)) ?_
    intro d21 dF21 dv21
    have dz21 : d21.tmps.size = 254 := dF21.size.trans dz20
    refine fcall 193 rfl (sz_lt dz21 (by decide)) rfl _ _ (run_call2 _ d21 _ 21 _ _ _ _ _ _ rfl ((dF21.rest 190 (by decide)).trans ((dF20.rest 190 (by decide)).trans dv19)) dv21 (calls30 _ _ _)) (fun v wx => v = .bool (decide (rs[k].words = rs'[k].words)) ∧ Below w2.heap.size w2 wx) ((words_any _ _ _ _ _ _ _ _ w2 (hwx.mono (below_next bel1 bel2 (Nat.le_refl _))) (hwy.mono bel2)).mono fun e wx hh => ⟨_, hh.1, rfl, hh.2⟩) ?_
    intro d22 w3 vr dF22 dv22 hR3
    have dz22 : d22.tmps.size = 254 := dF22.size.trans dz21
    obtain ⟨rfl, bel3⟩ := hR3
    refine fstep0 11 rfl (sz_lt dz22 (by decide)) rfl (.bool (decide (rs[k].words = rs'[k].words))) (by rw [run_assign _ d22 _ _ rfl, dv22]) ?_
    intro d23 dF23 dv23
    have dz23 : d23.tmps.size = 254 := dF23.size.trans dz22
    have hH3 := hH2.next bel3
    replace hb1 := (bel3.block _ (Array.getElem?_eq_some_iff.1 hb1).1).trans hb1
    replace hb2 := (bel3.block _ (Array.getElem?_eq_some_iff.1 hb2).1).trans hb2
    refine list_end ?_
    refine seq_region ?_
    have HT : Hid (RecM.same rs[k] rs'[k] = !(!(decide (rs[k].words = rs'[k].words)) || ((rs[k].file.toNat : Int) != (rs'[k].file.toNat : Int)) || ((rs[k].record.toNat : Int) != (rs'[k].record.toNat : Int)) || ((rs[k].count.toNat : Int) != (rs'[k].count.toNat : Int)))) := hide (rec_same _ _)
    refine fstep0 194 rfl (sz_lt dz23 (by decide)) rfl (.bool (decide (rs[k].words = rs'[k].words))) (by rw [run_move _ d23 _ _ rfl, dv23]) ?_
    intro d24 dF24 dv24
    have dz24 : d24.tmps.size = 254 := dF24.size.trans dz23
    refine fstep0 195 rfl (sz_lt dz24 (by decide)) rfl _ (run_not _ d24 _ _ _ rfl dv24) ?_
    intro d25 dF25 dv25
    have dz25 : d25.tmps.size = 254 := dF25.size.trans dz24
    refine fstep0 196 rfl (sz_lt dz25 (by decide)) rfl (.bool (!(decide (rs[k].words = rs'[k].words)))) (by rw [run_move _ d25 _ _ rfl, dv25]) ?_
    intro d26 dF26 dv26
    have dz26 : d26.tmps.size = 254 := dF26.size.trans dz25
    refine unit 50 9 10 197 196 2 0 24 .u16 wb.heap.size w1.heap.size (rs[k].file.toNat : Int) (rs'[k].file.toNat : Int) _ _ _ Try.underlying50 rfl (by kernel_rfl) rfl (isA16 _) rfl (by decide) (by decide) (sz_lt dz26 (by decide)) ((dF26.rest 9 (by decide)).trans ((dF25.rest 9 (by decide)).trans ((dF24.rest 9 (by decide)).trans ((dF23.rest 9 (by decide)).trans ((dF22.rest 9 (by decide)).trans ((dF21.rest 9 (by decide)).trans ((dF20.rest 9 (by decide)).trans ((dF19.rest 9 (by decide)).trans ((dF18.rest 9 (by decide)).trans ((dF17.rest 9 (by decide)).trans ((dF16.rest 9 (by decide)).trans ((dF15.rest 9 (by decide)).trans ((dF14.rest 9 (by decide)).trans ((dF13.rest 9 (by decide)).trans ((dF12.rest 9 (by decide)).trans dv11))))))))))))))) ((dF26.rest 10 (by decide)).trans ((dF25.rest 10 (by decide)).trans ((dF24.rest 10 (by decide)).trans ((dF23.rest 10 (by decide)).trans ((dF22.rest 10 (by decide)).trans ((dF21.rest 10 (by decide)).trans ((dF20.rest 10 (by decide)).trans ((dF19.rest 10 (by decide)).trans ((dF18.rest 10 (by decide)).trans dv17))))))))) dv26 ((cell_of_row w3 wb.heap.size 0 _ _ _ hb1).trans rfl) ((cell_of_row w3 w1.heap.size 0 _ _ _ hb2).trans rfl) rfl rfl rfl rfl rfl rfl rfl rfl rfl rfl rfl rfl rfl rfl rfl rfl rfl rfl ?_
    intro d27 dF27 dv27
    have dz27 : d27.tmps.size = 254 := dF27.size.trans dz26
    refine fstep0 203 rfl (sz_lt dz27 (by decide)) rfl _ (run_move _ d27 _ _ rfl) ?_
    intro d28 dF28 dv28
    have dz28 : d28.tmps.size = 254 := dF28.size.trans dz27
    replace dv28 := dv28.trans dv27
    refine unit 50 9 10 204 203 9 1 24 .u16 wb.heap.size w1.heap.size (rs[k].record.toNat : Int) (rs'[k].record.toNat : Int) _ _ _ Try.underlying50 rfl (by kernel_rfl) rfl (isA16 _) rfl (by decide) (by decide) (sz_lt dz28 (by decide)) ((dF28.rest 9 (by decide)).trans ((dF27.rest 9 (by decide)).trans ((dF26.rest 9 (by decide)).trans ((dF25.rest 9 (by decide)).trans ((dF24.rest 9 (by decide)).trans ((dF23.rest 9 (by decide)).trans ((dF22.rest 9 (by decide)).trans ((dF21.rest 9 (by decide)).trans ((dF20.rest 9 (by decide)).trans ((dF19.rest 9 (by decide)).trans ((dF18.rest 9 (by decide)).trans ((dF17.rest 9 (by decide)).trans ((dF16.rest 9 (by decide)).trans ((dF15.rest 9 (by decide)).trans ((dF14.rest 9 (by decide)).trans ((dF13.rest 9 (by decide)).trans ((dF12.rest 9 (by decide)).trans dv11))))))))))))))))) ((dF28.rest 10 (by decide)).trans ((dF27.rest 10 (by decide)).trans ((dF26.rest 10 (by decide)).trans ((dF25.rest 10 (by decide)).trans ((dF24.rest 10 (by decide)).trans ((dF23.rest 10 (by decide)).trans ((dF22.rest 10 (by decide)).trans ((dF21.rest 10 (by decide)).trans ((dF20.rest 10 (by decide)).trans ((dF19.rest 10 (by decide)).trans ((dF18.rest 10 (by decide)).trans dv17))))))))))) dv28 ((cell_of_row w3 wb.heap.size 1 _ _ _ hb1).trans rfl) ((cell_of_row w3 w1.heap.size 1 _ _ _ hb2).trans rfl) rfl rfl rfl rfl rfl rfl rfl rfl rfl rfl rfl rfl rfl rfl rfl rfl rfl rfl ?_
    intro d29 dF29 dv29
    have dz29 : d29.tmps.size = 254 := dF29.size.trans dz28
    refine fstep0 210 rfl (sz_lt dz29 (by decide)) rfl _ (run_move _ d29 _ _ rfl) ?_
    intro d30 dF30 dv30
    have dz30 : d30.tmps.size = 254 := dF30.size.trans dz29
    replace dv30 := dv30.trans dv29
    refine unit 50 9 10 211 210 16 2 24 .u16 wb.heap.size w1.heap.size (rs[k].count.toNat : Int) (rs'[k].count.toNat : Int) _ _ _ Try.underlying50 rfl (by kernel_rfl) rfl (isA16 _) rfl (by decide) (by decide) (sz_lt dz30 (by decide)) ((dF30.rest 9 (by decide)).trans ((dF29.rest 9 (by decide)).trans ((dF28.rest 9 (by decide)).trans ((dF27.rest 9 (by decide)).trans ((dF26.rest 9 (by decide)).trans ((dF25.rest 9 (by decide)).trans ((dF24.rest 9 (by decide)).trans ((dF23.rest 9 (by decide)).trans ((dF22.rest 9 (by decide)).trans ((dF21.rest 9 (by decide)).trans ((dF20.rest 9 (by decide)).trans ((dF19.rest 9 (by decide)).trans ((dF18.rest 9 (by decide)).trans ((dF17.rest 9 (by decide)).trans ((dF16.rest 9 (by decide)).trans ((dF15.rest 9 (by decide)).trans ((dF14.rest 9 (by decide)).trans ((dF13.rest 9 (by decide)).trans ((dF12.rest 9 (by decide)).trans dv11))))))))))))))))))) ((dF30.rest 10 (by decide)).trans ((dF29.rest 10 (by decide)).trans ((dF28.rest 10 (by decide)).trans ((dF27.rest 10 (by decide)).trans ((dF26.rest 10 (by decide)).trans ((dF25.rest 10 (by decide)).trans ((dF24.rest 10 (by decide)).trans ((dF23.rest 10 (by decide)).trans ((dF22.rest 10 (by decide)).trans ((dF21.rest 10 (by decide)).trans ((dF20.rest 10 (by decide)).trans ((dF19.rest 10 (by decide)).trans ((dF18.rest 10 (by decide)).trans dv17))))))))))))) dv30 ((cell_of_row w3 wb.heap.size 2 _ _ _ hb1).trans rfl) ((cell_of_row w3 w1.heap.size 2 _ _ _ hb2).trans rfl) rfl rfl rfl rfl rfl rfl rfl rfl rfl rfl rfl rfl rfl rfl rfl rfl rfl rfl ?_
    intro d31 dF31 dv31
    have dz31 : d31.tmps.size = 254 := dF31.size.trans dz30
    refine list_end ?_
    obtain ⟨T, hT⟩ : ∃ T, T = RecM.same rs[k] rs'[k] := ⟨_, rfl⟩
    have hv : d31.eval (.tmp 216) = .bool (!T) := by rw [hT, HT.out, Bool.not_not]; exact dv31
    cases T with
    | false =>
      refine wp_cond_true hv ?_
      refine seq_region ?_
      refine fstep0 4 rfl (sz_lt dz31 (by decide)) rfl _ (run_assign _ d31 _ _ rfl) ?_
      intro e0 eF ev
      refine list_end ?_
      refine wp_ret (block_ret (then_ret (then_ret (block_ret (then_ret ?_)))))
      refine bodyPost_ret (results_tmp Try.results10 _ _ _) (eF.defers.trans (dF31.defers.trans (dF30.defers.trans (dF29.defers.trans (dF28.defers.trans (dF27.defers.trans (dF26.defers.trans (dF25.defers.trans (dF24.defers.trans (dF23.defers.trans (dF22.defers.trans (dF21.defers.trans (dF20.defers.trans (dF19.defers.trans (dF18.defers.trans (dF17.defers.trans (dF16.defers.trans (dF15.defers.trans (dF14.defers.trans (dF13.defers.trans (dF12.defers.trans (dF11.defers.trans (dF10.defers.trans (dF9.defers.trans (dF8.defers.trans (dF7.defers.trans (dF6.defers.trans (dF5.defers.trans (dF4.defers.trans (dF3.defers.trans (dF2.defers.trans (dF1.defers.trans db)))))))))))))))))))))))))))))))) ?_
      exact ⟨congrArg Ending.returned ((show _ = Value.bool false from ev).trans (congrArg Value.bool (Eq.symm (by rw [HR.out, rec_ne rs rs' k hk1 hk2 hT.symm]; rfl)))), hH3.below⟩
    | true =>
      refine wp_cond_false hv ?_
      refine wp_skip ?_
      refine block_end ?_
      refine then_end ?_
      refine wp_region_lit ?_
      refine fstep0 177 rfl (sz_lt dz31 (by decide)) rfl (.int .i64 (k : Int)) (by rw [run_move _ d31 _ _ rfl, ((dF31.rest 8 (by decide)).trans ((dF30.rest 8 (by decide)).trans ((dF29.rest 8 (by decide)).trans ((dF28.rest 8 (by decide)).trans ((dF27.rest 8 (by decide)).trans ((dF26.rest 8 (by decide)).trans ((dF25.rest 8 (by decide)).trans ((dF24.rest 8 (by decide)).trans ((dF23.rest 8 (by decide)).trans ((dF22.rest 8 (by decide)).trans ((dF21.rest 8 (by decide)).trans ((dF20.rest 8 (by decide)).trans ((dF19.rest 8 (by decide)).trans ((dF18.rest 8 (by decide)).trans ((dF17.rest 8 (by decide)).trans ((dF16.rest 8 (by decide)).trans ((dF15.rest 8 (by decide)).trans ((dF14.rest 8 (by decide)).trans ((dF13.rest 8 (by decide)).trans ((dF12.rest 8 (by decide)).trans ((dF11.rest 8 (by decide)).trans ((dF10.rest 8 (by decide)).trans ((dF9.rest 8 (by decide)).trans ((dF8.rest 8 (by decide)).trans ((dF7.rest 8 (by decide)).trans ((dF6.rest 8 (by decide)).trans ((dF5.rest 8 (by decide)).trans ((dF4.rest 8 (by decide)).trans ((dF3.rest 8 (by decide)).trans ((dF2.rest 8 (by decide)).trans ((dF1.rest 8 (by decide)).trans b8)))))))))))))))))))))))))))))))]) ?_
      intro d32 dF32 dv32
      have dz32 : d32.tmps.size = 254 := dF32.size.trans dz31
      refine fstep0 178 rfl (sz_lt dz32 (by decide)) rfl _ (run_inc _ d32 _ _ k (by omega) rfl dv32) ?_
      intro d33 dF33 dv33
      have dz33 : d33.tmps.size = 254 := dF33.size.trans dz32
      refine fstep0 8 rfl (sz_lt dz33 (by decide)) rfl (.int .i64 ((k + 1 : Nat) : Int)) (by rw [run_assign _ d33 _ _ rfl, dv33]) ?_
      intro d34 dF34 dv34
      have dz34 : d34.tmps.size = 254 := dF34.size.trans dz33
      refine wpList_nil ?_
      refine then_end ?_
      refine ⟨⟨dz34, (dF34.defers.trans (dF33.defers.trans (dF32.defers.trans (dF31.defers.trans (dF30.defers.trans (dF29.defers.trans (dF28.defers.trans (dF27.defers.trans (dF26.defers.trans (dF25.defers.trans (dF24.defers.trans (dF23.defers.trans (dF22.defers.trans (dF21.defers.trans (dF20.defers.trans (dF19.defers.trans (dF18.defers.trans (dF17.defers.trans (dF16.defers.trans (dF15.defers.trans (dF14.defers.trans (dF13.defers.trans (dF12.defers.trans (dF11.defers.trans (dF10.defers.trans (dF9.defers.trans (dF8.defers.trans (dF7.defers.trans (dF6.defers.trans (dF5.defers.trans (dF4.defers.trans (dF3.defers.trans (dF2.defers.trans (dF1.defers.trans db)))))))))))))))))))))))))))))))))), ((dF34.rest 2 (by decide)).trans ((dF33.rest 2 (by decide)).trans ((dF32.rest 2 (by decide)).trans ((dF31.rest 2 (by decide)).trans ((dF30.rest 2 (by decide)).trans ((dF29.rest 2 (by decide)).trans ((dF28.rest 2 (by decide)).trans ((dF27.rest 2 (by decide)).trans ((dF26.rest 2 (by decide)).trans ((dF25.rest 2 (by decide)).trans ((dF24.rest 2 (by decide)).trans ((dF23.rest 2 (by decide)).trans ((dF22.rest 2 (by decide)).trans ((dF21.rest 2 (by decide)).trans ((dF20.rest 2 (by decide)).trans ((dF19.rest 2 (by decide)).trans ((dF18.rest 2 (by decide)).trans ((dF17.rest 2 (by decide)).trans ((dF16.rest 2 (by decide)).trans ((dF15.rest 2 (by decide)).trans ((dF14.rest 2 (by decide)).trans ((dF13.rest 2 (by decide)).trans ((dF12.rest 2 (by decide)).trans ((dF11.rest 2 (by decide)).trans ((dF10.rest 2 (by decide)).trans ((dF9.rest 2 (by decide)).trans ((dF8.rest 2 (by decide)).trans ((dF7.rest 2 (by decide)).trans ((dF6.rest 2 (by decide)).trans ((dF5.rest 2 (by decide)).trans ((dF4.rest 2 (by decide)).trans ((dF3.rest 2 (by decide)).trans ((dF2.rest 2 (by decide)).trans ((dF1.rest 2 (by decide)).trans b2)))))))))))))))))))))))))))))))))), ((dF34.rest 3 (by decide)).trans ((dF33.rest 3 (by decide)).trans ((dF32.rest 3 (by decide)).trans ((dF31.rest 3 (by decide)).trans ((dF30.rest 3 (by decide)).trans ((dF29.rest 3 (by decide)).trans ((dF28.rest 3 (by decide)).trans ((dF27.rest 3 (by decide)).trans ((dF26.rest 3 (by decide)).trans ((dF25.rest 3 (by decide)).trans ((dF24.rest 3 (by decide)).trans ((dF23.rest 3 (by decide)).trans ((dF22.rest 3 (by decide)).trans ((dF21.rest 3 (by decide)).trans ((dF20.rest 3 (by decide)).trans ((dF19.rest 3 (by decide)).trans ((dF18.rest 3 (by decide)).trans ((dF17.rest 3 (by decide)).trans ((dF16.rest 3 (by decide)).trans ((dF15.rest 3 (by decide)).trans ((dF14.rest 3 (by decide)).trans ((dF13.rest 3 (by decide)).trans ((dF12.rest 3 (by decide)).trans ((dF11.rest 3 (by decide)).trans ((dF10.rest 3 (by decide)).trans ((dF9.rest 3 (by decide)).trans ((dF8.rest 3 (by decide)).trans ((dF7.rest 3 (by decide)).trans ((dF6.rest 3 (by decide)).trans ((dF5.rest 3 (by decide)).trans ((dF4.rest 3 (by decide)).trans ((dF3.rest 3 (by decide)).trans ((dF2.rest 3 (by decide)).trans ((dF1.rest 3 (by decide)).trans b3)))))))))))))))))))))))))))))))))), hH3, k + 1, by omega, dv34, ?_⟩, ?_⟩
      · rw [List.take_succ_eq_append_getElem hk1, List.take_succ_eq_append_getElem hk2, heq, (RecM.same_iff _ _).1 hT.symm]
      · rw [dv34, b8]; simp [intOf]; omega
  · refine wp_cond_false (dv5.trans (by simp [hlt])) ?_
    refine wp_exit (then_exit (then_exit (block_exit (then_end ?_))))
    replace HR : Hid (R = allSame ObjM.same os os') := hide (by
      rw [List.take_of_length_le (by rw [hr.hlen]; omega), List.take_of_length_le (by rw [hr'.hlen]; omega)] at heq
      rw [HR.out, (allSame_iff RecM.same_iff rs rs').2 heq, Bool.true_and])
    have de5 : d5.defers = [] := (dF5.defers.trans (dF4.defers.trans (dF3.defers.trans (dF2.defers.trans (dF1.defers.trans db)))))
    have k2 := ((dF5.rest 2 (by decide)).trans ((dF4.rest 2 (by decide)).trans ((dF3.rest 2 (by decide)).trans ((dF2.rest 2 (by decide)).trans ((dF1.rest 2 (by decide)).trans b2)))))
    have k3 := ((dF5.rest 3 (by decide)).trans ((dF4.rest 3 (by decide)).trans ((dF3.rest 3 (by decide)).trans ((dF2.rest 3 (by decide)).trans ((dF1.rest 3 (by decide)).trans b3)))))
    refine wp_seq ?_
    refine seq_region ?_
    refine fstep0 12 rfl (sz_lt dz5 (by decide)) rfl _ (run_assign _ d5 _ _ rfl) ?_
    intro e1 eF1 ev1
    have ez1 : e1.tmps.size = 254 := eF1.size.trans dz5
    refine list_end ?_
    refine wp_block ?_
    refine wp_loop (fun b wx => b.tmps.size = 254 ∧ b.defers = [] ∧ b.eval (.tmp 2) = .pointer (some ⟨w.heap.size, 0, none⟩) ∧ b.eval (.tmp 3) = .pointer (some ⟨w.heap.size + 1, 0, none⟩) ∧ Held w #[.int .u8 (p0 : Int), .int .u8 (p1 : Int), .int .u16 (p2 : Int), .int .u16 (p3 : Int), .int .u16 (p4 : Int), .int .u16 (p5 : Int), .int .u16 (p6 : Int), .int .u16 (p7 : Int), .int .u16 (p8 : Int), .int .u16 (p9 : Int), .int .u16 (p10 : Int), .int .u16 (p11 : Int), .slice aw lw cw, .slice al ll cl, .slice ad ld cd, .slice ar lr cr, .int .u8 (p16 : Int), .int .u8 (p17 : Int), .int .u8 (p18 : Int), .int .u8 (p19 : Int), .int .u8 (p20 : Int), .slice ao lo co] #[.int .u8 (q0 : Int), .int .u8 (q1 : Int), .int .u16 (q2 : Int), .int .u16 (q3 : Int), .int .u16 (q4 : Int), .int .u16 (q5 : Int), .int .u16 (q6 : Int), .int .u16 (q7 : Int), .int .u16 (q8 : Int), .int .u16 (q9 : Int), .int .u16 (q10 : Int), .int .u16 (q11 : Int), .slice aw' lw' cw', .slice al' ll' cl', .slice ad' ld' cd', .slice ar' lr' cr', .int .u8 (q16 : Int), .int .u8 (q17 : Int), .int .u8 (q18 : Int), .int .u8 (q19 : Int), .int .u8 (q20 : Int), .slice ao' lo' co'] wx ∧ ∃ k : Nat, k ≤ lo ∧ b.eval (.tmp 12) = .int .i64 (k : Int) ∧ os.take k = os'.take k) (fun b _ => lo - (intOf (b.eval (.tmp 12))).toNat) ?_ ?_
    · exact ⟨ez1, eF1.defers.trans de5, ((eF1.rest 2 (by decide)).trans k2), ((eF1.rest 3 (by decide)).trans k3), hH, 0, Nat.zero_le _, ev1, rfl⟩
    intro g0 wc hI
    obtain ⟨gz0, gdf, b2', b3', hK, n, hn, b12, heq2⟩ := hI
    refine wp_seq ?_
    refine seq_region ?_
    refine fstep0 217 rfl (sz_lt gz0 (by decide)) rfl (.int .i64 (n : Int)) (by rw [run_move _ g0 _ _ rfl, b12]) ?_
    intro g1 gF1 gv1
    have gz1 : g1.tmps.size = 254 := gF1.size.trans gz0
    refine fstep0 218 rfl (sz_lt gz1 (by decide)) rfl _ (run_field _ g1 _ _ _ 21 w.heap.size _ _ rfl ((gF1.rest 2 (by decide)).trans b2') Try.underlying30 rfl (by kernel_rfl) rfl) ?_
    intro g2 gF2 gv2
    have gz2 : g2.tmps.size = 254 := gF2.size.trans gz1
    refine fstep0 219 rfl (sz_lt gz2 (by decide)) rfl _ (run_load _ g2 _ _ _ _ _ rfl gv2 (hK.cell1 (i := 21) rfl) (isAo _)) ?_
    intro g3 gF3 gv3
    have gz3 : g3.tmps.size = 254 := gF3.size.trans gz2
    refine fstep0 220 rfl (sz_lt gz3 (by decide)) rfl _ (run_len _ g3 _ _ _ _ _ _ _ rfl gv3 Try.underlying28) ?_
    intro g4 gF4 gv4
    have gz4 : g4.tmps.size = 254 := gF4.size.trans gz3
    refine fstep0 221 rfl (sz_lt gz4 (by decide)) rfl _ (run_lss _ g4 _ _ _ n lo rfl ((gF4.rest 217 (by decide)).trans ((gF3.rest 217 (by decide)).trans ((gF2.rest 217 (by decide)).trans gv1))) gv4) ?_
    intro g5 gF5 gv5
    have gz5 : g5.tmps.size = 254 := gF5.size.trans gz4
    refine list_end ?_
    by_cases hlt2 : n < lo
    · refine wp_cond_true (gv5.trans (by simp [hlt2])) ?_
      refine skip_next ?_
      refine wp_seq ?_
      refine wp_block ?_
      have hk1 : n < os.length := by rw [ho.hlen]; exact hlt2
      have hk2 : n < os'.length := by rw [ho'.hlen]; omega
      obtain ⟨g, off, ax, lx, cx, hao, hgl, x0, x1, hwx⟩ := ho.hcell n hk1
      obtain ⟨g', off', ay, ly, cy, hao', hgl', y0, y1, hwy⟩ := ho'.hcell n hk2
      have HC : Hid (∀ wq, Held w #[.int .u8 (p0 : Int), .int .u8 (p1 : Int), .int .u16 (p2 : Int), .int .u16 (p3 : Int), .int .u16 (p4 : Int), .int .u16 (p5 : Int), .int .u16 (p6 : Int), .int .u16 (p7 : Int), .int .u16 (p8 : Int), .int .u16 (p9 : Int), .int .u16 (p10 : Int), .int .u16 (p11 : Int), .slice aw lw cw, .slice al ll cl, .slice ad ld cd, .slice ar lr cr, .int .u8 (p16 : Int), .int .u8 (p17 : Int), .int .u8 (p18 : Int), .int .u8 (p19 : Int), .int .u8 (p20 : Int), .slice ao lo co] #[.int .u8 (q0 : Int), .int .u8 (q1 : Int), .int .u16 (q2 : Int), .int .u16 (q3 : Int), .int .u16 (q4 : Int), .int .u16 (q5 : Int), .int .u16 (q6 : Int), .int .u16 (q7 : Int), .int .u16 (q8 : Int), .int .u16 (q9 : Int), .int .u16 (q10 : Int), .int .u16 (q11 : Int), .slice aw' lw' cw', .slice al' ll' cl', .slice ad' ld' cd', .slice ar' lr' cr', .int .u8 (q16 : Int), .int .u8 (q17 : Int), .int .u8 (q18 : Int), .int .u8 (q19 : Int), .int .u8 (q20 : Int), .slice ao' lo' co'] wq → Calls Try.prog 15 #[.slice ax lx cx, .slice ay ly cy] wq fun e w' => e = .returned (.bool (decide (os[n].value = os'[n].value))) ∧ Held w #[.int .u8 (p0 : Int), .int .u8 (p1 : Int), .int .u16 (p2 : Int), .int .u16 (p3 : Int), .int .u16 (p4 : Int), .int .u16 (p5 : Int), .int .u16 (p6 : Int), .int .u16 (p7 : Int), .int .u16 (p8 : Int), .int .u16 (p9 : Int), .int .u16 (p10 : Int), .int .u16 (p11 : Int), .slice aw lw cw, .slice al ll cl, .slice ad ld cd, .slice ar lr cr, .int .u8 (p16 : Int), .int .u8 (p17 : Int), .int .u8 (p18 : Int), .int .u8 (p19 : Int), .int .u8 (p20 : Int), .slice ao lo co] #[.int .u8 (q0 : Int), .int .u8 (q1 : Int), .int .u16 (q2 : Int), .int .u16 (q3 : Int), .int .u16 (q4 : Int), .int .u16 (q5 : Int), .int .u16 (q6 : Int), .int .u16 (q7 : Int), .int .u16 (q8 : Int), .int .u16 (q9 : Int), .int .u16 (q10 : Int), .int .u16 (q11 : Int), .slice aw' lw' cw', .slice al' ll' cl', .slice ad' ld' cd', .slice ar' lr' cr', .int .u8 (q16 : Int), .int .u8 (q17 : Int), .int .u8 (q18 : Int), .int .u8 (q19 : Int), .int .u8 (q20 : Int), .slice ao' lo' co'] w') := hide fun wq hq => (same_any _ _ _ _ _ _ _ _ wq (hwx.mono hq.below) (hwy.mono hq.below)).mono fun e w' hh => ⟨hh.1, hh.2 ▸ hq⟩
      subst hao hao'
      have HT : Hid (ObjM.same os[n] os'[n] = !(!(decide (os[n].value = os'[n].value)) || ((os[n].id.toNat : Int) != (os'[n].id.toNat : Int)))) := hide (obj_same _ _)
      generalize decide (os[n].value = os'[n].value) = D at *
      refine seq_drawn _ (by kernel_rfl) (by kernel_rfl) hK.drew ?_
      refine qstep0 224 rfl (sz_lt gz5 (by decide)) rfl _ (fun wq hq => run_field _ g5 _ _ _ 21 w.heap.size _ _ rfl ((gF5.rest 2 (by decide)).trans ((gF4.rest 2 (by decide)).trans ((gF3.rest 2 (by decide)).trans ((gF2.rest 2 (by decide)).trans ((gF1.rest 2 (by decide)).trans b2'))))) Try.underlying30 rfl (by kernel_rfl) rfl) ?_
      intro g6 gF6 gv6
      have gz6 : g6.tmps.size = 254 := gF6.size.trans gz5
      refine qstep0 225 rfl (sz_lt gz6 (by decide)) rfl _ (fun wq hq => run_load _ g6 _ _ _ _ _ rfl gv6 (hq.cell1 (i := 21) rfl) (isAo _)) ?_
      intro g7 gF7 gv7
      have gz7 : g7.tmps.size = 254 := gF7.size.trans gz6
      refine qstep0 226 rfl (sz_lt gz7 (by decide)) rfl (.int .i64 (n : Int)) (fun wq hq => by rw [run_move _ g7 _ _ rfl, ((gF7.rest 12 (by decide)).trans ((gF6.rest 12 (by decide)).trans ((gF5.rest 12 (by decide)).trans ((gF4.rest 12 (by decide)).trans ((gF3.rest 12 (by decide)).trans ((gF2.rest 12 (by decide)).trans ((gF1.rest 12 (by decide)).trans b12)))))))]) ?_
      intro g8 gF8 gv8
      have gz8 : g8.tmps.size = 254 := gF8.size.trans gz7
      refine qstep0 227 rfl (sz_lt gz8 (by decide)) rfl _ (fun wq hq => run_index _ g8 _ _ _ _ _ g off _ _ n 2 rfl ((gF8.rest 225 (by decide)).trans gv7) gv8 hlt2 Try.underlying28 (by kernel_rfl)) ?_
      intro g9 gF9 gv9
      have gz9 : g9.tmps.size = 254 := gF9.size.trans gz8
      refine qstep0 228 rfl (sz_lt gz9 (by decide)) rfl _ (fun wq hq => run_fieldO _ g9 _ _ _ 1 g (off + n * 2) _ _ rfl gv9 Try.underlying52 rfl (by kernel_rfl) rfl) ?_
      intro g10 gF10 gv10
      have gz10 : g10.tmps.size = 254 := gF10.size.trans gz9
      refine qstep0 229 rfl (sz_lt gz10 (by decide)) rfl _ (fun wq hq => run_load _ g10 _ _ _ _ _ rfl gv10 ((hq.below.cell (p := ⟨g, off + n * 2 + 1, none⟩) hgl).trans x1) (isAd _)) ?_
      intro g11 gF11 gv11
      have gz11 : g11.tmps.size = 254 := gF11.size.trans gz10
      refine qstep0 230 rfl (sz_lt gz11 (by decide)) rfl _ (fun wq hq => run_field _ g11 _ _ _ 21 (w.heap.size + 1) _ _ rfl ((gF11.rest 3 (by decide)).trans ((gF10.rest 3 (by decide)).trans ((gF9.rest 3 (by decide)).trans ((gF8.rest 3 (by decide)).trans ((gF7.rest 3 (by decide)).trans ((gF6.rest 3 (by decide)).trans ((gF5.rest 3 (by decide)).trans ((gF4.rest 3 (by decide)).trans ((gF3.rest 3 (by decide)).trans ((gF2.rest 3 (by decide)).trans ((gF1.rest 3 (by decide)).trans b3'))))))))))) Try.underlying30 rfl (by kernel_rfl) rfl) ?_
      intro g12 gF12 gv12
      have gz12 : g12.tmps.size = 254 := gF12.size.trans gz11
      refine qstep0 231 rfl (sz_lt gz12 (by decide)) rfl _ (fun wq hq => run_load _ g12 _ _ _ _ _ rfl gv12 (hq.cell2 (i := 21) rfl) (isAo _)) ?_
      intro g13 gF13 gv13
      have gz13 : g13.tmps.size = 254 := gF13.size.trans gz12
      refine qstep0 232 rfl (sz_lt gz13 (by decide)) rfl (.int .i64 (n : Int)) (fun wq hq => by rw [run_move _ g13 _ _ rfl, ((gF13.rest 12 (by decide)).trans ((gF12.rest 12 (by decide)).trans ((gF11.rest 12 (by decide)).trans ((gF10.rest 12 (by decide)).trans ((gF9.rest 12 (by decide)).trans ((gF8.rest 12 (by decide)).trans ((gF7.rest 12 (by decide)).trans ((gF6.rest 12 (by decide)).trans ((gF5.rest 12 (by decide)).trans ((gF4.rest 12 (by decide)).trans ((gF3.rest 12 (by decide)).trans ((gF2.rest 12 (by decide)).trans ((gF1.rest 12 (by decide)).trans b12)))))))))))))]) ?_
      intro g14 gF14 gv14
      have gz14 : g14.tmps.size = 254 := gF14.size.trans gz13
      refine qstep0 233 rfl (sz_lt gz14 (by decide)) rfl _ (fun wq hq => run_index _ g14 _ _ _ _ _ g' off' _ _ n 2 rfl ((gF14.rest 231 (by decide)).trans gv13) gv14 (by omega) Try.underlying28 (by kernel_rfl)) ?_
      intro g15 gF15 gv15
      have gz15 : g15.tmps.size = 254 := gF15.size.trans gz14
      refine qstep0 234 rfl (sz_lt gz15 (by decide)) rfl _ (fun wq hq => run_fieldO _ g15 _ _ _ 1 g' (off' + n * 2) _ _ rfl gv15 Try.underlying52 rfl (by kernel_rfl) rfl) ?_
      intro g16 gF16 gv16
      have gz16 : g16.tmps.size = 254 := gF16.size.trans gz15
      refine qstep0 235 rfl (sz_lt gz16 (by decide)) rfl _ (fun wq hq => run_load _ g16 _ _ _ _ _ rfl gv16 ((hq.below.cell (p := ⟨g', off' + n * 2 + 1, none⟩) hgl').trans y1) (isAd _)) ?_
      intro g17 gF17 gv17
      have gz17 : g17.tmps.size = 254 := gF17.size.trans gz16
      refine qcall 236 rfl (sz_lt gz17 (by decide)) rfl _ _ (.bool D) (fun wq _ => run_call2 _ g17 _ 15 _ _ _ _ _ _ rfl ((gF17.rest 229 (by decide)).trans ((gF16.rest 229 (by decide)).trans ((gF15.rest 229 (by decide)).trans ((gF14.rest 229 (by decide)).trans ((gF13.rest 229 (by decide)).trans ((gF12.rest 229 (by decide)).trans gv11)))))) gv17 (calls32 _ _ _)) HC.out ?_
      intro g18 gF18 gv18
      have gz18 : g18.tmps.size = 254 := gF18.size.trans gz17
      refine qstep0 13 rfl (sz_lt gz18 (by decide)) rfl (.bool D) (fun wq hq => by rw [run_assign _ g18 _ _ rfl, gv18]) ?_
      intro g19 gF19 gv19
      have gz19 : g19.tmps.size = 254 := gF19.size.trans gz18
      refine wpQuiet_nil ?_
      intro wd hHd
      refine seq_drawn _ (by kernel_rfl) (by kernel_rfl) hHd.drew ?_
      refine qstep0 237 rfl (sz_lt gz19 (by decide)) rfl (.bool D) (fun wq hq => by rw [run_move _ g19 _ _ rfl, gv19]) ?_
      intro g20 gF20 gv20
      have gz20 : g20.tmps.size = 254 := gF20.size.trans gz19
      refine qstep0 238 rfl (sz_lt gz20 (by decide)) rfl _ (fun wq hq => run_not _ g20 _ _ _ rfl gv20) ?_
      intro g21 gF21 gv21
      have gz21 : g21.tmps.size = 254 := gF21.size.trans gz20
      refine qstep0 239 rfl (sz_lt gz21 (by decide)) rfl (.bool (!D)) (fun wq hq => by rw [run_move _ g21 _ _ rfl, gv21]) ?_
      intro g22 gF22 gv22
      have gz22 : g22.tmps.size = 254 := gF22.size.trans gz21
      refine qstep 240 rfl (sz_lt gz22 (by decide)) ((!D) == false) (wanted_by rfl rfl (sz_lt gz22 (by decide)) gv22) _ (fun hc wq hq => run_field _ g22 _ _ _ 21 w.heap.size _ _ rfl ((gF22.rest 2 (by decide)).trans ((gF21.rest 2 (by decide)).trans ((gF20.rest 2 (by decide)).trans ((gF19.rest 2 (by decide)).trans ((gF18.rest 2 (by decide)).trans ((gF17.rest 2 (by decide)).trans ((gF16.rest 2 (by decide)).trans ((gF15.rest 2 (by decide)).trans ((gF14.rest 2 (by decide)).trans ((gF13.rest 2 (by decide)).trans ((gF12.rest 2 (by decide)).trans ((gF11.rest 2 (by decide)).trans ((gF10.rest 2 (by decide)).trans ((gF9.rest 2 (by decide)).trans ((gF8.rest 2 (by decide)).trans ((gF7.rest 2 (by decide)).trans ((gF6.rest 2 (by decide)).trans ((gF5.rest 2 (by decide)).trans ((gF4.rest 2 (by decide)).trans ((gF3.rest 2 (by decide)).trans ((gF2.rest 2 (by decide)).trans ((gF1.rest 2 (by decide)).trans b2')))))))))))))))))))))) Try.underlying30 rfl (by kernel_rfl) rfl) ?_
      intro g23 gF23 gv23
      have gz23 : g23.tmps.size = 254 := gF23.size.trans gz22
      refine qstep 241 rfl (sz_lt gz23 (by decide)) ((!D) == false) (wanted_by rfl rfl (sz_lt gz23 (by decide)) ((gF23.rest 239 (by decide)).trans gv22)) _ (fun hc wq hq => run_load _ g23 _ _ _ _ _ rfl (gv23 hc) (hq.cell1 (i := 21) rfl) (isAo _)) ?_
      intro g24 gF24 gv24
      have gz24 : g24.tmps.size = 254 := gF24.size.trans gz23
      refine qstep 242 rfl (sz_lt gz24 (by decide)) ((!D) == false) (wanted_by rfl rfl (sz_lt gz24 (by decide)) ((gF24.rest 239 (by decide)).trans ((gF23.rest 239 (by decide)).trans gv22))) (.int .i64 (n : Int)) (fun hc wq hq => by rw [run_move _ g24 _ _ rfl, ((gF24.rest 12 (by decide)).trans ((gF23.rest 12 (by decide)).trans ((gF22.rest 12 (by decide)).trans ((gF21.rest 12 (by decide)).trans ((gF20.rest 12 (by decide)).trans ((gF19.rest 12 (by decide)).trans ((gF18.rest 12 (by decide)).trans ((gF17.rest 12 (by decide)).trans ((gF16.rest 12 (by decide)).trans ((gF15.rest 12 (by decide)).trans ((gF14.rest 12 (by decide)).trans ((gF13.rest 12 (by decide)).trans ((gF12.rest 12 (by decide)).trans ((gF11.rest 12 (by decide)).trans ((gF10.rest 12 (by decide)).trans ((gF9.rest 12 (by decide)).trans ((gF8.rest 12 (by decide)).trans ((gF7.rest 12 (by decide)).trans ((gF6.rest 12 (by decide)).trans ((gF5.rest 12 (by decide)).trans ((gF4.rest 12 (by decide)).trans ((gF3.rest 12 (by decide)).trans ((gF2.rest 12 (by decide)).trans ((gF1.rest 12 (by decide)).trans b12))))))))))))))))))))))))]) ?_
      intro g25 gF25 gv25
      have gz25 : g25.tmps.size = 254 := gF25.size.trans gz24
      refine qstep 243 rfl (sz_lt gz25 (by decide)) ((!D) == false) (wanted_by rfl rfl (sz_lt gz25 (by decide)) ((gF25.rest 239 (by decide)).trans ((gF24.rest 239 (by decide)).trans ((gF23.rest 239 (by decide)).trans gv22)))) _ (fun hc wq hq => run_index _ g25 _ _ _ _ _ g off _ _ n 2 rfl ((gF25.rest 241 (by decide)).trans (gv24 hc)) (gv25 hc) hlt2 Try.underlying28 (by kernel_rfl)) ?_
      intro g26 gF26 gv26
      have gz26 : g26.tmps.size = 254 := gF26.size.trans gz25
      refine qstep 244 rfl (sz_lt gz26 (by decide)) ((!D) == false) (wanted_by rfl rfl (sz_lt gz26 (by decide)) ((gF26.rest 239 (by decide)).trans ((gF25.rest 239 (by decide)).trans ((gF24.rest 239 (by decide)).trans ((gF23.rest 239 (by decide)).trans gv22))))) _ (fun hc wq hq => run_fieldO _ g26 _ _ _ 0 g (off + n * 2) _ _ rfl (gv26 hc) Try.underlying52 rfl (by kernel_rfl) rfl) ?_
      intro g27 gF27 gv27
      have gz27 : g27.tmps.size = 254 := gF27.size.trans gz26
      refine qstep 245 rfl (sz_lt gz27 (by decide)) ((!D) == false) (wanted_by rfl rfl (sz_lt gz27 (by decide)) ((gF27.rest 239 (by decide)).trans ((gF26.rest 239 (by decide)).trans ((gF25.rest 239 (by decide)).trans ((gF24.rest 239 (by decide)).trans ((gF23.rest 239 (by decide)).trans gv22)))))) _ (fun hc wq hq => run_load _ g27 _ _ _ _ _ rfl (gv27 hc) ((hq.below.cell (p := ⟨g, off + n * 2, none⟩) hgl).trans x0) (isA8 _)) ?_
      intro g28 gF28 gv28
      have gz28 : g28.tmps.size = 254 := gF28.size.trans gz27
      refine qstep 246 rfl (sz_lt gz28 (by decide)) ((!D) == false) (wanted_by rfl rfl (sz_lt gz28 (by decide)) ((gF28.rest 239 (by decide)).trans ((gF27.rest 239 (by decide)).trans ((gF26.rest 239 (by decide)).trans ((gF25.rest 239 (by decide)).trans ((gF24.rest 239 (by decide)).trans ((gF23.rest 239 (by decide)).trans gv22))))))) _ (fun hc wq hq => run_field _ g28 _ _ _ 21 (w.heap.size + 1) _ _ rfl ((gF28.rest 3 (by decide)).trans ((gF27.rest 3 (by decide)).trans ((gF26.rest 3 (by decide)).trans ((gF25.rest 3 (by decide)).trans ((gF24.rest 3 (by decide)).trans ((gF23.rest 3 (by decide)).trans ((gF22.rest 3 (by decide)).trans ((gF21.rest 3 (by decide)).trans ((gF20.rest 3 (by decide)).trans ((gF19.rest 3 (by decide)).trans ((gF18.rest 3 (by decide)).trans ((gF17.rest 3 (by decide)).trans ((gF16.rest 3 (by decide)).trans ((gF15.rest 3 (by decide)).trans ((gF14.rest 3 (by decide)).trans ((gF13.rest 3 (by decide)).trans ((gF12.rest 3 (by decide)).trans ((gF11.rest 3 (by decide)).trans ((gF10.rest 3 (by decide)).trans ((gF9.rest 3 (by decide)).trans ((gF8.rest 3 (by decide)).trans ((gF7.rest 3 (by decide)).trans ((gF6.rest 3 (by decide)).trans ((gF5.rest 3 (by decide)).trans ((gF4.rest 3 (by decide)).trans ((gF3.rest 3 (by decide)).trans ((gF2.rest 3 (by decide)).trans ((gF1.rest 3 (by decide)).trans b3')))))))))))))))))))))))))))) Try.underlying30 rfl (by kernel_rfl) rfl) ?_
      intro g29 gF29 gv29
      have gz29 : g29.tmps.size = 254 := gF29.size.trans gz28
      refine qstep 247 rfl (sz_lt gz29 (by decide)) ((!D) == false) (wanted_by rfl rfl (sz_lt gz29 (by decide)) ((gF29.rest 239 (by decide)).trans ((gF28.rest 239 (by decide)).trans ((gF27.rest 239 (by decide)).trans ((gF26.rest 239 (by decide)).trans ((gF25.rest 239 (by decide)).trans ((gF24.rest 239 (by decide)).trans ((gF23.rest 239 (by decide)).trans gv22)))))))) _ (fun hc wq hq => run_load _ g29 _ _ _ _ _ rfl (gv29 hc) (hq.cell2 (i := 21) rfl) (isAo _)) ?_
      intro g30 gF30 gv30
      have gz30 : g30.tmps.size = 254 := gF30.size.trans gz29
      refine qstep 248 rfl (sz_lt gz30 (by decide)) ((!D) == false) (wanted_by rfl rfl (sz_lt gz30 (by decide)) ((gF30.rest 239 (by decide)).trans ((gF29.rest 239 (by decide)).trans ((gF28.rest 239 (by decide)).trans ((gF27.rest 239 (by decide)).trans ((gF26.rest 239 (by decide)).trans ((gF25.rest 239 (by decide)).trans ((gF24.rest 239 (by decide)).trans ((gF23.rest 239 (by decide)).trans gv22))))))))) (.int .i64 (n : Int)) (fun hc wq hq => by rw [run_move _ g30 _ _ rfl, ((gF30.rest 12 (by decide)).trans ((gF29.rest 12 (by decide)).trans ((gF28.rest 12 (by decide)).trans ((gF27.rest 12 (by decide)).trans ((gF26.rest 12 (by decide)).trans ((gF25.rest 12 (by decide)).trans ((gF24.rest 12 (by decide)).trans ((gF23.rest 12 (by decide)).trans ((gF22.rest 12 (by decide)).trans ((gF21.rest 12 (by decide)).trans ((gF20.rest 12 (by decide)).trans ((gF19.rest 12 (by decide)).trans ((gF18.rest 12 (by decide)).trans ((gF17.rest 12 (by decide)).trans ((gF16.rest 12 (by decide)).trans ((gF15.rest 12 (by decide)).trans ((gF14.rest 12 (by decide)).trans ((gF13.rest 12 (by decide)).trans ((gF12.rest 12 (by decide)).trans ((gF11.rest 12 (by decide)).trans ((gF10.rest 12 (by decide)).trans ((gF9.rest 12 (by decide)).trans ((gF8.rest 12 (by decide)).trans ((gF7.rest 12 (by decide)).trans ((gF6.rest 12 (by decide)).trans ((gF5.rest 12 (by decide)).trans ((gF4.rest 12 (by decide)).trans ((gF3.rest 12 (by decide)).trans ((gF2.rest 12 (by decide)).trans ((gF1.rest 12 (by decide)).trans b12))))))))))))))))))))))))))))))]) ?_
      intro g31 gF31 gv31
      have gz31 : g31.tmps.size = 254 := gF31.size.trans gz30
      refine qstep 249 rfl (sz_lt gz31 (by decide)) ((!D) == false) (wanted_by rfl rfl (sz_lt gz31 (by decide)) ((gF31.rest 239 (by decide)).trans ((gF30.rest 239 (by decide)).trans ((gF29.rest 239 (by decide)).trans ((gF28.rest 239 (by decide)).trans ((gF27.rest 239 (by decide)).trans ((gF26.rest 239 (by decide)).trans ((gF25.rest 239 (by decide)).trans ((gF24.rest 239 (by decide)).trans ((gF23.rest 239 (by decide)).trans gv22)))))))))) _ (fun hc wq hq => run_index _ g31 _ _ _ _ _ g' off' _ _ n 2 rfl ((gF31.rest 247 (by decide)).trans (gv30 hc)) (gv31 hc) (by omega) Try.underlying28 (by kernel_rfl)) ?_
      intro g32 gF32 gv32
      have gz32 : g32.tmps.size = 254 := gF32.size.trans gz31
      refine qstep 250 rfl (sz_lt gz32 (by decide)) ((!D) == false) (wanted_by rfl rfl (sz_lt gz32 (by decide)) ((gF32.rest 239 (by decide)).trans ((gF31.rest 239 (by decide)).trans ((gF30.rest 239 (by decide)).trans ((gF29.rest 239 (by decide)).trans ((gF28.rest 239 (by decide)).trans ((gF27.rest 239 (by decide)).trans ((gF26.rest 239 (by decide)).trans ((gF25.rest 239 (by decide)).trans ((gF24.rest 239 (by decide)).trans ((gF23.rest 239 (by decide)).trans gv22))))))))))) _ (fun hc wq hq => run_fieldO _ g32 _ _ _ 0 g' (off' + n * 2) _ _ rfl (gv32 hc) Try.underlying52 rfl (by kernel_rfl) rfl) ?_
      intro g33 gF33 gv33
      have gz33 : g33.tmps.size = 254 := gF33.size.trans gz32
      refine qstep 251 rfl (sz_lt gz33 (by decide)) ((!D) == false) (wanted_by rfl rfl (sz_lt gz33 (by decide)) ((gF33.rest 239 (by decide)).trans ((gF32.rest 239 (by decide)).trans ((gF31.rest 239 (by decide)).trans ((gF30.rest 239 (by decide)).trans ((gF29.rest 239 (by decide)).trans ((gF28.rest 239 (by decide)).trans ((gF27.rest 239 (by decide)).trans ((gF26.rest 239 (by decide)).trans ((gF25.rest 239 (by decide)).trans ((gF24.rest 239 (by decide)).trans ((gF23.rest 239 (by decide)).trans gv22)))))))))))) _ (fun hc wq hq => run_load _ g33 _ _ _ _ _ rfl (gv33 hc) ((hq.below.cell (p := ⟨g', off' + n * 2, none⟩) hgl').trans y0) (isA8 _)) ?_
      intro g34 gF34 gv34
      have gz34 : g34.tmps.size = 254 := gF34.size.trans gz33
      refine qstep 252 rfl (sz_lt gz34 (by decide)) ((!D) == false) (wanted_by rfl rfl (sz_lt gz34 (by decide)) ((gF34.rest 239 (by decide)).trans ((gF33.rest 239 (by decide)).trans ((gF32.rest 239 (by decide)).trans ((gF31.rest 239 (by decide)).trans ((gF30.rest 239 (by decide)).trans ((gF29.rest 239 (by decide)).trans ((gF28.rest 239 (by decide)).trans ((gF27.rest 239 (by decide)).trans ((gF26.rest 239 (by decide)).trans ((gF25.rest 239 (by decide)).trans ((gF24.rest 239 (by decide)).trans ((gF23.rest 239 (by decide)).trans gv22))))))))))))) _ (fun hc wq hq => run_neq _ g34 _ _ _ _ _ _ _ rfl ((gF34.rest 245 (by decide)).trans ((gF33.rest 245 (by decide)).trans ((gF32.rest 245 (by decide)).trans ((gF31.rest 245 (by decide)).trans ((gF30.rest 245 (by decide)).trans ((gF29.rest 245 (by decide)).trans (gv28 hc))))))) (gv34 hc)) ?_
      intro g35 gF35 gv35
      have gz35 : g35.tmps.size = 254 := gF35.size.trans gz34
      refine qstep0 253 rfl (sz_lt gz35 (by decide)) rfl (.bool ((!D) || ((os[n].id.toNat : Int) != (os'[n].id.toNat : Int)))) (fun wq hq => by
        rw [run_pick _ g35 _ _ _ _ (!D) rfl ((gF35.rest 239 (by decide)).trans ((gF34.rest 239 (by decide)).trans ((gF33.rest 239 (by decide)).trans ((gF32.rest 239 (by decide)).trans ((gF31.rest 239 (by decide)).trans ((gF30.rest 239 (by decide)).trans ((gF29.rest 239 (by decide)).trans ((gF28.rest 239 (by decide)).trans ((gF27.rest 239 (by decide)).trans ((gF26.rest 239 (by decide)).trans ((gF25.rest 239 (by decide)).trans ((gF24.rest 239 (by decide)).trans ((gF23.rest 239 (by decide)).trans gv22)))))))))))))]
        cases D
        · simp [Act.eval]
        · have hc : ((!true) == false) = true := rfl
          have := (gv35 hc)
          simp [this]) ?_
      intro g36 gF36 gv36
      have gz36 : g36.tmps.size = 254 := gF36.size.trans gz35
      refine wpQuiet_nil ?_
      intro we hHe
      obtain ⟨T, hT⟩ : ∃ T, T = ObjM.same os[n] os'[n] := ⟨_, rfl⟩
      have hv : g36.eval (.tmp 253) = .bool (!T) := by rw [hT, HT.out, Bool.not_not]; exact gv36
      cases T with
      | false =>
        refine wp_cond_true hv ?_
        refine seq_region ?_
        refine fstep0 4 rfl (sz_lt gz36 (by decide)) rfl _ (run_assign _ g36 _ _ rfl) ?_
        intro q0 qF qv
        refine list_end ?_
        refine wp_ret (block_ret (then_ret (then_ret (block_ret (then_ret ?_)))))
        refine bodyPost_ret (results_tmp Try.results10 _ _ _) (qF.defers.trans (gF36.defers.trans (gF35.defers.trans (gF34.defers.trans (gF33.defers.trans (gF32.defers.trans (gF31.defers.trans (gF30.defers.trans (gF29.defers.trans (gF28.defers.trans (gF27.defers.trans (gF26.defers.trans (gF25.defers.trans (gF24.defers.trans (gF23.defers.trans (gF22.defers.trans (gF21.defers.trans (gF20.defers.trans (gF19.defers.trans (gF18.defers.trans (gF17.defers.trans (gF16.defers.trans (gF15.defers.trans (gF14.defers.trans (gF13.defers.trans (gF12.defers.trans (gF11.defers.trans (gF10.defers.trans (gF9.defers.trans (gF8.defers.trans (gF7.defers.trans (gF6.defers.trans (gF5.defers.trans (gF4.defers.trans (gF3.defers.trans (gF2.defers.trans (gF1.defers.trans gdf))))))))))))))))))))))))))))))))))))) ?_
        exact ⟨congrArg Ending.returned ((show _ = Value.bool false from qv).trans (congrArg Value.bool (Eq.symm (by rw [HR.out, obj_ne os os' n hk1 hk2 hT.symm])))), hHe.below⟩
      | true =>
        refine wp_cond_false hv ?_
        refine wp_skip ?_
        refine block_end ?_
        refine then_end ?_
        refine wp_region_lit ?_
        refine fstep0 222 rfl (sz_lt gz36 (by decide)) rfl (.int .i64 (n : Int)) (by rw [run_move _ g36 _ _ rfl, ((gF36.rest 12 (by decide)).trans ((gF35.rest 12 (by decide)).trans ((gF34.rest 12 (by decide)).trans ((gF33.rest 12 (by decide)).trans ((gF32.rest 12 (by decide)).trans ((gF31.rest 12 (by decide)).trans ((gF30.rest 12 (by decide)).trans ((gF29.rest 12 (by decide)).trans ((gF28.rest 12 (by decide)).trans ((gF27.rest 12 (by decide)).trans ((gF26.rest 12 (by decide)).trans ((gF25.rest 12 (by decide)).trans ((gF24.rest 12 (by decide)).trans ((gF23.rest 12 (by decide)).trans ((gF22.rest 12 (by decide)).trans ((gF21.rest 12 (by decide)).trans ((gF20.rest 12 (by decide)).trans ((gF19.rest 12 (by decide)).trans ((gF18.rest 12 (by decide)).trans ((gF17.rest 12 (by decide)).trans ((gF16.rest 12 (by decide)).trans ((gF15.rest 12 (by decide)).trans ((gF14.rest 12 (by decide)).trans ((gF13.rest 12 (by decide)).trans ((gF12.rest 12 (by decide)).trans ((gF11.rest 12 (by decide)).trans ((gF10.rest 12 (by decide)).trans ((gF9.rest 12 (by decide)).trans ((gF8.rest 12 (by decide)).trans ((gF7.rest 12 (by decide)).trans ((gF6.rest 12 (by decide)).trans ((gF5.rest 12 (by decide)).trans ((gF4.rest 12 (by decide)).trans ((gF3.rest 12 (by decide)).trans ((gF2.rest 12 (by decide)).trans ((gF1.rest 12 (by decide)).trans b12))))))))))))))))))))))))))))))))))))]) ?_
        intro g37 gF37 gv37
        have gz37 : g37.tmps.size = 254 := gF37.size.trans gz36
        refine fstep0 223 rfl (sz_lt gz37 (by decide)) rfl _ (run_inc _ g37 _ _ n (by omega) rfl gv37) ?_
        intro g38 gF38 gv38
        have gz38 : g38.tmps.size = 254 := gF38.size.trans gz37
        refine fstep0 12 rfl (sz_lt gz38 (by decide)) rfl (.int .i64 ((n + 1 : Nat) : Int)) (by rw [run_assign _ g38 _ _ rfl, gv38]) ?_
        intro g39 gF39 gv39
        have gz39 : g39.tmps.size = 254 := gF39.size.trans gz38
        refine wpList_nil ?_
        refine then_end ?_
        refine ⟨⟨gz39, (gF39.defers.trans (gF38.defers.trans (gF37.defers.trans (gF36.defers.trans (gF35.defers.trans (gF34.defers.trans (gF33.defers.trans (gF32.defers.trans (gF31.defers.trans (gF30.defers.trans (gF29.defers.trans (gF28.defers.trans (gF27.defers.trans (gF26.defers.trans (gF25.defers.trans (gF24.defers.trans (gF23.defers.trans (gF22.defers.trans (gF21.defers.trans (gF20.defers.trans (gF19.defers.trans (gF18.defers.trans (gF17.defers.trans (gF16.defers.trans (gF15.defers.trans (gF14.defers.trans (gF13.defers.trans (gF12.defers.trans (gF11.defers.trans (gF10.defers.trans (gF9.defers.trans (gF8.defers.trans (gF7.defers.trans (gF6.defers.trans (gF5.defers.trans (gF4.defers.trans (gF3.defers.trans (gF2.defers.trans (gF1.defers.trans gdf))))))))))))))))))))))))))))))))))))))), ((gF39.rest 2 (by decide)).trans ((gF38.rest 2 (by decide)).trans ((gF37.rest 2 (by decide)).trans ((gF36.rest 2 (by decide)).trans ((gF35.rest 2 (by decide)).trans ((gF34.rest 2 (by decide)).trans ((gF33.rest 2 (by decide)).trans ((gF32.rest 2 (by decide)).trans ((gF31.rest 2 (by decide)).trans ((gF30.rest 2 (by decide)).trans ((gF29.rest 2 (by decide)).trans ((gF28.rest 2 (by decide)).trans ((gF27.rest 2 (by decide)).trans ((gF26.rest 2 (by decide)).trans ((gF25.rest 2 (by decide)).trans ((gF24.rest 2 (by decide)).trans ((gF23.rest 2 (by decide)).trans ((gF22.rest 2 (by decide)).trans ((gF21.rest 2 (by decide)).trans ((gF20.rest 2 (by decide)).trans ((gF19.rest 2 (by decide)).trans ((gF18.rest 2 (by decide)).trans ((gF17.rest 2 (by decide)).trans ((gF16.rest 2 (by decide)).trans ((gF15.rest 2 (by decide)).trans ((gF14.rest 2 (by decide)).trans ((gF13.rest 2 (by decide)).trans ((gF12.rest 2 (by decide)).trans ((gF11.rest 2 (by decide)).trans ((gF10.rest 2 (by decide)).trans ((gF9.rest 2 (by decide)).trans ((gF8.rest 2 (by decide)).trans ((gF7.rest 2 (by decide)).trans ((gF6.rest 2 (by decide)).trans ((gF5.rest 2 (by decide)).trans ((gF4.rest 2 (by decide)).trans ((gF3.rest 2 (by decide)).trans ((gF2.rest 2 (by decide)).trans ((gF1.rest 2 (by decide)).trans b2'))))))))))))))))))))))))))))))))))))))), ((gF39.rest 3 (by decide)).trans ((gF38.rest 3 (by decide)).trans ((gF37.rest 3 (by decide)).trans ((gF36.rest 3 (by decide)).trans ((gF35.rest 3 (by decide)).trans ((gF34.rest 3 (by decide)).trans ((gF33.rest 3 (by decide)).trans ((gF32.rest 3 (by decide)).trans ((gF31.rest 3 (by decide)).trans ((gF30.rest 3 (by decide)).trans ((gF29.rest 3 (by decide)).trans ((gF28.rest 3 (by decide)).trans ((gF27.rest 3 (by decide)).trans ((gF26.rest 3 (by decide)).trans ((gF25.rest 3 (by decide)).trans ((gF24.rest 3 (by decide)).trans ((gF23.rest 3 (by decide)).trans ((gF22.rest 3 (by decide)).trans ((gF21.rest 3 (by decide)).trans ((gF20.rest 3 (by decide)).trans ((gF19.rest 3 (by decide)).trans ((gF18.rest 3 (by decide)).trans ((gF17.rest 3 (by decide)).trans ((gF16.rest 3 (by decide)).trans ((gF15.rest 3 (by decide)).trans ((gF14.rest 3 (by decide)).trans ((gF13.rest 3 (by decide)).trans ((gF12.rest 3 (by decide)).trans ((gF11.rest 3 (by decide)).trans ((gF10.rest 3 (by decide)).trans ((gF9.rest 3 (by decide)).trans ((gF8.rest 3 (by decide)).trans ((gF7.rest 3 (by decide)).trans ((gF6.rest 3 (by decide)).trans ((gF5.rest 3 (by decide)).trans ((gF4.rest 3 (by decide)).trans ((gF3.rest 3 (by decide)).trans ((gF2.rest 3 (by decide)).trans ((gF1.rest 3 (by decide)).trans b3'))))))))))))))))))))))))))))))))))))))), hHe, n + 1, by omega, gv39, ?_⟩, ?_⟩
        · rw [List.take_succ_eq_append_getElem hk1, List.take_succ_eq_append_getElem hk2, heq2, (ObjM.same_iff _ _).1 hT.symm]
        · rw [gv39, b12]; simp [intOf]; omega
    · refine wp_cond_false (gv5.trans (by simp [hlt2])) ?_
      refine wp_exit (then_exit (then_exit (block_exit (then_end ?_))))
      refine seq_region ?_
      refine fstep0 4 rfl (sz_lt gz5 (by decide)) rfl _ (run_assign _ g5 _ _ rfl) ?_
      intro q0 qF qv
      refine list_end ?_
      refine wp_ret ?_
      refine bodyPost_ret (results_tmp Try.results10 _ _ _) (qF.defers.trans (gF5.defers.trans (gF4.defers.trans (gF3.defers.trans (gF2.defers.trans (gF1.defers.trans gdf)))))) ?_
      rw [List.take_of_length_le (by rw [ho.hlen]; omega), List.take_of_length_le (by rw [ho'.hlen]; omega)] at heq2
      exact ⟨congrArg Ending.returned ((show _ = Value.bool true from qv).trans (congrArg Value.bool (Eq.symm (by rw [HR.out, (allSame_iff ObjM.same_iff os os').2 heq2])))), hK.below⟩

theorem nums_test (m n : MsgM) : decide (m.nums = n.nums) = (!(((m.code.toNat : Int) != (n.code.toNat : Int)) || ((m.fail.toNat : Int) != (n.fail.toNat : Int)) || ((m.addr.toNat : Int) != (n.addr.toNat : Int)) || ((m.count.toNat : Int) != (n.count.toNat : Int)) || ((m.value.toNat : Int) != (n.value.toNat : Int)) || ((m.and_.toNat : Int) != (n.and_.toNat : Int)) || ((m.or_.toNat : Int) != (n.or_.toNat : Int)) || ((m.addr2.toNat : Int) != (n.addr2.toNat : Int)) || ((m.sub.toNat : Int) != (n.sub.toNat : Int)) || ((m.status.toNat : Int) != (n.status.toNat : Int)) || ((m.events.toNat : Int) != (n.events.toNat : Int)) || ((m.messages.toNat : Int) != (n.messages.toNat : Int))) && !(((m.mei.toNat : Int) != (n.mei.toNat : Int)) || ((m.kind.toNat : Int) != (n.kind.toNat : Int)) || ((m.level.toNat : Int) != (n.level.toNat : Int)) || ((m.more.toNat : Int) != (n.more.toNat : Int)) || ((m.next.toNat : Int) != (n.next.toNat : Int)))) := by
  rw [Bool.eq_iff_iff]
  simp only [MsgM.nums, decide_eq_true_eq, List.cons.injEq, and_true, Bool.and_eq_true, Bool.not_eq_true', Bool.or_eq_false_iff, bne_eq_false_iff_eq, Int.natCast_inj, and_assoc]

theorem refSame_any (v1 v2 : Value) (m n : MsgM) (w : World) (h1 : MsgAt w v1 m) (h2 : MsgAt w v2 n) :
    Calls Try.prog 10 #[v1, v2] w fun e w' => e = .returned (.bool (MsgM.same m n)) ∧ Below w.heap.size w w' := by
  obtain ⟨aw, lw, cw, al, ll, cl, ad, ld, cd, ar, lr, cr, ao, lo, co, rfl, hw, hl, hd, hr, ho⟩ := h1
  obtain ⟨aw', lw', cw', al', ll', cl', ad', ld', cd', ar', lr', cr', ao', lo', co', rfl, hw', hl', hd', hr', ho'⟩ := h2
  have b1 := hr.hmax
  have b2 := ho.hmax
  unfold maxLen at b1 b2
  refine refSame_raw m.code.toNat m.fail.toNat m.addr.toNat m.count.toNat m.value.toNat m.and_.toNat m.or_.toNat m.addr2.toNat m.sub.toNat m.status.toNat m.events.toNat m.messages.toNat m.mei.toNat m.kind.toNat m.level.toNat m.more.toNat m.next.toNat n.code.toNat n.fail.toNat n.addr.toNat n.count.toNat n.value.toNat n.and_.toNat n.or_.toNat n.addr2.toNat n.sub.toNat n.status.toNat n.events.toNat n.messages.toNat n.mei.toNat n.kind.toNat n.level.toNat n.more.toNat n.next.toNat aw al ad ar ao aw' al' ad' ar' ao' lw cw ll cl ld cd lr cr lo co lw' cw' ll' cl' ld' cd' lr' cr' lo' co' m.recs n.recs m.objects n.objects _ _ _ w hr hr' ho ho'
    (hide fun wx hb => words_any _ _ _ _ _ _ _ _ wx (hw.mono hb) (hw'.mono hb)) (hide fun wx hb => bools_any _ _ _ _ _ _ _ _ wx (hl.mono hb) (hl'.mono hb))
    (hide fun wx hb => (same_any _ _ _ _ _ _ _ _ wx (hd.mono hb) (hd'.mono hb)).mono fun e w' h => ⟨h.1, h.2 ▸ Below.refl _ _⟩) (Nat.le_trans hr.hle b1) (Nat.le_trans ho.hle b2) _ (hide ?_)
  unfold MsgM.same
  rw [nums_test]

end Go.Proofs.Ytjacnghndnkcnaa
