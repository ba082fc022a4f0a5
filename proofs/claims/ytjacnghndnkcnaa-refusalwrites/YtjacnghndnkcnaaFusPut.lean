/-
  The code's refusal: Write, and Of.
-/
import Derived.Test.YtjacnghndnkcnaaFusCode
import Derived.Test.YtjacnghndnkcnaaCodeSame
import Derived.Test.YtjacnghndnkcnaaFrames2
import Derived.Deep.CutBlock
import Derived.Deep.DeepCutAuto
namespace Go.Proofs.Ytjacnghndnkcnaa
open Go.RowKit

/-- Two blocks hold two messages, and what was there is as it was. -/
structure Kept (g1 g2 : Nat) (cs1 cs2 : Array Value) (w w' : World) : Prop where
  h1 : w'.heap[g1]? = some (.cells cs1 30 (0, 0))
  h2 : w'.heap[g2]? = some (.cells cs2 30 (0, 0))
  below : Below w.heap.size w w'
theorem Kept.next {g1 g2 : Nat} {cs1 cs2 : Array Value} {w a b : World} (h : Kept g1 g2 cs1 cs2 w a) (hb : Below a.heap.size a b) : Kept g1 g2 cs1 cs2 w b :=
  ⟨(hb.block _ (lt_of_block h.h1)).trans h.h1, (hb.block _ (lt_of_block h.h2)).trans h.h2, below_next h.below hb (Nat.le_refl _)⟩
theorem Kept.drew {g1 g2 : Nat} {cs1 cs2 : Array Value} {w a : World} (h : Kept g1 g2 cs1 cs2 w a) : Kept g1 g2 cs1 cs2 w a.drew := h.next (Below.refl _ _).drew

theorem run_neqA (w : World) (a : Act) (o : Oper) (t : TypeId) (x y : Operand) (M N : Array Value) (D : Bool) (ho : o.op = .binOp .neq t x y t) (hx : a.eval x = .agg M) (hy : a.eval y = .agg N) (heq : (Op.equalIn 10000 t (.agg M) (.agg N)).run Try.prog w = .ok D w) (hgd : (eqGuard .neq t x y (.agg M) (.agg N)).run Try.prog w = .ok () w) : (execOp a.eval o).run Try.prog w = .ok (.value (.bool (!D))) w := by
  unfold execOp
  simp [ho, hx, hy]
  go_simp

/-- The first fields, held against each other. -/
theorem first_eq (a b c d : Nat) (w : World) : (Op.equalIn 10000 45 (.agg #[.int .u8 (a : Int), .int .u8 (b : Int)]) (.agg #[.int .u8 (c : Int), .int .u8 (d : Int)])).run Try.prog w = .ok (decide (a = c ∧ b = d)) w := by
  by_cases h1 : a = c
  · by_cases h2 : b = d
    · subst h1 h2
      simp
      go_simp
    · simp [h1, h2]
      go_simp
      intro h
      exact h2 (by omega)
  · simp [h1]
    go_simp
    intro h
    exact absurd h (by omega)

theorem hasMore_any (cs : Array Value) (m : MsgM) (w : World) (hm : MsgAt w (.agg cs) m) (hs : cs.size = 22) :
    Calls Try.prog 24 #[.agg cs] w fun e w' => e = .returned (.bool (!MsgM.same m (Fus.ofM m.code m.fail))) ∧ Below w.heap.size w w' := by
  have b0 := (Below.refl w.heap.size w).alloc (Nat.le_refl _) (.cells cs 30 (0, 0))
  have e1 := heap_alloc_new w (.cells cs 30 (0, 0))
  go_enter Try.func24, Try.ntmps24
  obtain ⟨A, hA⟩ : ∃ A : Act, A = ⟨#[.agg cs, undef, undef, undef, undef, undef, undef, undef, undef], []⟩ := ⟨_, rfl⟩
  rw [← hA]
  have zA : A.tmps.size = 9 := by rw [hA]; rfl
  have df : A.defers = [] := by rw [hA]
  have e0 : A.eval (.tmp 0) = .agg cs := by rw [hA]; rfl
  clear hA
  refine seq_region ?_
  refine fstepW 1 rfl (sz_lt zA (by decide)) rfl _ _ (run_box w A _ _ _ _ rfl e0) ?_
  intro f1 fF1 fv1
  have fz1 : f1.tmps.size = 9 := fF1.size.trans zA
  have hK : Kept w.heap.size w.heap.size cs cs w (w.alloc (.cells cs 30 (0, 0))) := ⟨e1, e1, b0⟩
  generalize w.alloc (.cells cs 30 (0, 0)) = u at *
  refine fstep0 2 rfl (sz_lt fz1 (by decide)) rfl _ (run_assign _ f1 _ _ rfl) ?_
  intro f2 fF2 fv2
  have fz2 : f2.tmps.size = 9 := fF2.size.trans fz1
  refine list_end ?_
  refine seq_drawn _ (by kernel_rfl) (by kernel_rfl) hK.drew ?_
  refine qstep0 3 rfl (sz_lt fz2 (by decide)) rfl _ (fun wq hq => load_take _ _ rfl _ ((fF2.rest 1 (by decide)).trans fv1) _ (load_whole hq.h1 hs)) ?_
  intro f3 fF3 fv3
  have fz3 : f3.tmps.size = 9 := fF3.size.trans fz2
  refine qstep0 4 rfl (sz_lt fz3 (by decide)) rfl _ (fun wq hq => load_take _ _ rfl _ ((fF3.rest 1 (by decide)).trans ((fF2.rest 1 (by decide)).trans fv1)) _ (load_whole hq.h1 hs)) ?_
  intro f4 fF4 fv4
  have fz4 : f4.tmps.size = 9 := fF4.size.trans fz3
  refine qcall 5 rfl (sz_lt fz4 (by decide)) rfl _ _ _ (fun wq _ => run_call1 _ f4 _ 23 _ _ _ rfl fv4 (by kernel_rfl)) (fun wq hq => (firstOf_any cs m wq (hm.mono hq.below)).mono fun e w' hh => ⟨hh.1, hq.next hh.2⟩) ?_
  intro f5 fF5 fv5
  have fz5 : f5.tmps.size = 9 := fF5.size.trans fz4
  refine qcall 6 rfl (sz_lt fz5 (by decide)) rfl _ _ _ (fun wq _ => run_call1 _ f5 _ 20 _ _ _ rfl fv5 (by kernel_rfl)) (fun wq hq => (firstMsg_any m.code.toNat m.fail.toNat wq).mono fun e w' hh => ⟨hh.1, hq.next hh.2⟩) ?_
  intro f6 fF6 fv6
  have fz6 : f6.tmps.size = 9 := fF6.size.trans fz5
  refine qcall 7 rfl (sz_lt fz6 (by decide)) rfl _ _ _ (fun wq _ => run_call2 _ f6 _ 26 _ _ _ _ _ _ rfl ((fF6.rest 3 (by decide)).trans ((fF5.rest 3 (by decide)).trans ((fF4.rest 3 (by decide)).trans fv3))) fv6 (by kernel_rfl)) (fun wq hq => (codeSame_any _ _ m (Fus.ofM m.code m.fail) wq (hm.mono hq.below) (Fus.at_cells wq rfl rfl)).mono fun e w' hh => ⟨hh.1, hq.next hh.2⟩) ?_
  intro f7 fF7 fv7
  have fz7 : f7.tmps.size = 9 := fF7.size.trans fz6
  refine qstep0 8 rfl (sz_lt fz7 (by decide)) rfl _ (fun wq hq => run_not _ f7 _ _ _ rfl fv7) ?_
  intro f8 fF8 fv8
  have fz8 : f8.tmps.size = 9 := fF8.size.trans fz7
  refine qstep0 2 rfl (sz_lt fz8 (by decide)) rfl (.bool (!MsgM.same m (Fus.ofM m.code m.fail))) (fun wq hq => by rw [run_assign _ f8 _ _ rfl, fv8]) ?_
  intro f9 fF9 fv9
  have fz9 : f9.tmps.size = 9 := fF9.size.trans fz8
  refine wpQuiet_nil ?_
  intro we hHe
  refine wp_ret ?_
  refine bodyPost_ret (results_tmp Try.results24 _ _ _) (fF9.defers.trans (fF8.defers.trans (fF7.defers.trans (fF6.defers.trans (fF5.defers.trans (fF4.defers.trans (fF3.defers.trans (fF2.defers.trans (fF1.defers.trans df))))))))) ?_
  exact ⟨congrArg Ending.returned fv9, hHe.below⟩

namespace Fus
theorem or_bad : ∀ n < 128, n ||| 128 = n + 128 := by decide +kernel
/-- The code's own way to write: of the bytes with Bad laid in, whether they tell of the message. -/
theorem write_code (m : MsgM) (B : List UInt8) (hB : B = [m.code ||| 128, m.fail]) (p : MsgM × Int) (hp : p = parse B) :
    (p.2 = 0 ∧ p.1.code = m.code ∧ p.1.fail = m.fail ∧ m = ofM m.code m.fail → write m = some B) ∧ (¬ (p.2 = 0 ∧ p.1.code = m.code ∧ p.1.fail = m.fail ∧ m = ofM m.code m.fail) → write m = none) := by
  subst hp
  constructor
  · rintro ⟨h0, h1, h2, h3⟩
    obtain ⟨c, y, e, hc, hy, he⟩ := parse_zero h0
    rw [he] at h1 h2
    have h1' : c = m.code := h1
    have h2' : y = m.fail := h2
    subst h1' h2'
    rw [e]
    exact write_iff.2 ⟨hc, hy, h3, rfl⟩
  · intro h
    refine write_none fun hh => h ?_
    obtain ⟨h1, h2, h3⟩ := hh
    have hor : m.code ||| 128 = m.code + 128 := UInt8.toNat_inj.1 (by
      have := pub_lt h1
      rw [UInt8.toNat_or, UInt8.toNat_add]
      show m.code.toNat ||| 128 = (m.code.toNat + 128) % 256
      rw [or_bad _ (by omega)]
      omega)
    rw [hB, hor, parse_two h1 h2]
    exact ⟨rfl, rfl, rfl, h3⟩
end Fus

/-- The frame by a name. -/
theorem with_frame {c : Code} {Q : Exit → Act → World → Prop} {a : Act} {w : World} (h : ∀ A, A = a → c.wp Try.prog Q A w) : c.wp Try.prog Q a w := h a rfl

set_option maxRecDepth 20000 in
set_option maxHeartbeats 4000000 in
theorem fusWrite_any (v : Value) (m : MsgM) (w : World) (hm : MsgAt w v m) :
    Calls Try.prog 12 #[v] w fun e w' =>
      (∃ a l c, e = .returned (.tuple #[.slice a l c, .int .i64 (Fus.errW (Fus.write m))]) ∧ Bs w' a l c (Fus.outW (Fus.write m))) ∧ Below w.heap.size w w' := by
  obtain ⟨cs, rfl, hsz, hone, _⟩ := hm.agg
  have hMB := MB.made w cs hm 30
  have e1 := heap_alloc_new w (.cells cs 30 (0, 0))
  have b0 := (Below.refl w.heap.size w).alloc (Nat.le_refl _) (.cells cs 30 (0, 0))
  have k0 := hMB.c_code
  have k1 := hMB.c_fail
  have HM := hide (hm.mono b0)
  obtain ⟨R, hR⟩ : ∃ R, R = Fus.write m := ⟨_, rfl⟩
  rw [← hR]
  have HR := hide hR
  obtain ⟨n, hn⟩ : ∃ n : Nat, n = m.code.toNat := ⟨_, rfl⟩
  obtain ⟨j, hj⟩ : ∃ n : Nat, n = m.fail.toNat := ⟨_, rfl⟩
  have hnb : n < 256 := by rw [hn]; exact byte_lt _
  have hjb : j < 256 := by rw [hj]; exact byte_lt _
  rw [show byteV m.code = .int .u8 (n : Int) by rw [hn]] at k0
  rw [show byteV m.fail = .int .u8 (j : Int) by rw [hj]] at k1
  obtain ⟨k, hk⟩ : ∃ k : Nat, k = n ||| 128 := ⟨_, rfl⟩
  have hkb : k < 256 := by rw [hk]; exact Nat.or_lt_two_pow (n := 8) hnb (by decide)
  have hor : bits .or .u8 (n : Int) 128 = (k : Int) := by rw [hk]; exact u8_or_nat n 128 hnb (by decide)
  have HBy : Hid ([UInt8.ofNat k, UInt8.ofNat j] = [m.code ||| 128, m.fail]) := hide (by
    rw [show UInt8.ofNat k = m.code ||| 128 from UInt8.toNat_inj.1 (by rw [UInt8.toNat_or, ← hn]; show (UInt8.ofNat k).toNat = n ||| 128; rw [← hk, UInt8.toNat_ofNat']; omega), show UInt8.ofNat j = m.fail from UInt8.toNat_inj.1 (by rw [← hj]; simp; omega)])
  have hl2 := two_own (w.alloc (.cells cs 30 (0, 0))) (k : Int) (j : Int) k j rfl rfl hkb hjb 5
  have bl := (Below.refl (w.alloc (.cells cs 30 (0, 0))).heap.size (w.alloc (.cells cs 30 (0, 0)))).alloc (Nat.le_refl _) (.cells #[.int .u8 (k : Int), .int .u8 (j : Int)] 5)
  clear hR hm hMB hn hj hk
  go_enter Try.func12, Try.ntmps12
  go_upto_region 1 with (refine wpList_boxC rfl 30 _ rfl cs rfl ?_)
  generalize w.alloc (.cells cs 30 (0, 0)) = u at *
  have z0 := lt_of_block e1
  generalize hr : w.heap.size = r at *
  go_upto_region 2 with fail
  generalize u.alloc (.cells #[.int .u8 (k : Int), .int .u8 (j : Int)] 5) = u2 at *
  have HL := hide hl2.sl
  replace e1 := (bl.block r z0).trans e1
  replace b0 := b0.trans (bl.mono (Nat.le_of_lt z0))
  replace HM := hide (HM.out.mono bl)
  have z1 := lt_of_block e1
  generalize [UInt8.ofNat k, UInt8.ofNat j] = B at *
  clear k0 k1 hl2 bl hor
  go_wp2_with fail
  refine (fusParse_any _ 2 2 B u2 HL.out (by omega)).mono ?_
  rintro e w6 ⟨⟨v6, rfl, hm6⟩, hb6⟩
  obtain ⟨cs6, rfl, hs6, ho6, _⟩ := hm6.agg
  have HX6 := hide (HL.out.mono hb6)
  have HM6 := hide hm6
  have HM7 := hide (HM.out.mono hb6)
  replace e1 := (hb6.block r z1).trans e1
  have HB := hide (b0.trans (hb6.mono (Nat.le_of_lt z1)))
  have z2 := lt_of_block e1
  have HW := hide (Fus.write_code m B HBy.out _ rfl)
  rw [← HR.out] at HW
  clear HM HL HR HBy hb6 hm6 b0 z1
  generalize Fus.parse B = P at *
  obtain ⟨nn, E⟩ := P
  go_wp2_with ((with_reducible show wpList _ _ _ (⟨_, .store _ _ _, _, _, _, _⟩ :: _) _ _); refine wpList_store_new rfl 30 _ _ rfl cs6 rfl rfl (msg_size cs6 hs6) hs6.symm ho6 ?_)
  intro w7 h7 b7
  replace HX6 := hide (HX6.out.mono b7)
  replace HM6 := hide (HM6.out.mono b7)
  replace HM7 := hide (HM7.out.mono b7)
  replace e1 := (b7.block r z2).trans e1
  replace HB := hide (HB.out.trans (b7.mono (Nat.le_of_lt z2)))
  generalize w6.heap.size = g6 at *
  clear b7 z2
  have hzr : r ≤ w7.heap.size := Nat.le_of_lt (lt_of_block e1)
  go_upto_region 3 with fail
  rename_i KR hKR KC hKC
  refine with_frame ?_
  intro A hA
  have hK : Kept g6 r cs6 cs w7 w7 := ⟨h7, e1, Below.refl _ _⟩
  have zA : A.tmps.size = 32 := by rw [hA]; rfl
  have df : A.defers = [] := by rw [hA]
  have e1' : A.eval (.tmp 1) = .pointer (some ⟨r, 0, none⟩) := by rw [hA]; rfl
  have e4 : A.eval (.tmp 4) = .slice (some ⟨u.heap.size, 0, none⟩) 2 2 := by rw [hA]; rfl
  have e5 : A.eval (.tmp 5) = .pointer (some ⟨g6, 0, none⟩) := by rw [hA]; rfl
  have e6 : A.eval (.tmp 6) = .int .i64 E := by rw [hA]; rfl
  clear hA
  refine wp_region_quiet (C := Kept g6 r cs6 cs w7) (by kernel_rfl) (by kernel_rfl) hK.drew ?_
  refine qstep0 18 rfl (sz_lt zA (by decide)) rfl (.int .i64 E) (fun wq hq => by rw [run_move _ A _ _ rfl, e6]) ?_
  intro f1 fF1 fv1
  have fz1 : f1.tmps.size = 32 := fF1.size.trans zA
  refine qstep0 19 rfl (sz_lt fz1 (by decide)) rfl _ (fun wq hq => run_neq _ f1 _ _ _ _ _ _ _ rfl fv1 rfl) ?_
  intro f2 fF2 fv2
  have fz2 : f2.tmps.size = 32 := fF2.size.trans fz1
  refine qstep0 20 rfl (sz_lt fz2 (by decide)) rfl (.bool (E != 0)) (fun wq hq => by rw [run_move _ f2 _ _ rfl, fv2]) ?_
  intro f3 fF3 fv3
  have fz3 : f3.tmps.size = 32 := fF3.size.trans fz2
  by_cases hE : E = 0
  rotate_left
  · have hE1 : (E != 0) = true := by simpa using hE
    rw [hE1] at fv2 fv3
    refine qstep 21 rfl (sz_lt fz3 (by decide)) false ((wanted_by (want := false) rfl rfl (sz_lt fz3 (by decide)) fv3).trans rfl) undef (fun h => absurd h (by decide)) ?_
    intro f4 fF4 fv4
    have fz4 : f4.tmps.size = 32 := fF4.size.trans fz3
    refine qstep 22 rfl (sz_lt fz4 (by decide)) false ((wanted_by (want := false) rfl rfl (sz_lt fz4 (by decide)) ((fF4.rest 20 (by decide)).trans fv3)).trans rfl) undef (fun h => absurd h (by decide)) ?_
    intro f5 fF5 fv5
    have fz5 : f5.tmps.size = 32 := fF5.size.trans fz4
    refine qstep 23 rfl (sz_lt fz5 (by decide)) false ((wanted_by (want := false) rfl rfl (sz_lt fz5 (by decide)) ((fF5.rest 20 (by decide)).trans ((fF4.rest 20 (by decide)).trans fv3))).trans rfl) undef (fun h => absurd h (by decide)) ?_
    intro f6 fF6 fv6
    have fz6 : f6.tmps.size = 32 := fF6.size.trans fz5
    refine qstep 24 rfl (sz_lt fz6 (by decide)) false ((wanted_by (want := false) rfl rfl (sz_lt fz6 (by decide)) ((fF6.rest 20 (by decide)).trans ((fF5.rest 20 (by decide)).trans ((fF4.rest 20 (by decide)).trans fv3)))).trans rfl) undef (fun h => absurd h (by decide)) ?_
    intro f7 fF7 fv7
    have fz7 : f7.tmps.size = 32 := fF7.size.trans fz6
    refine qstep 25 rfl (sz_lt fz7 (by decide)) false ((wanted_by (want := false) rfl rfl (sz_lt fz7 (by decide)) ((fF7.rest 20 (by decide)).trans ((fF6.rest 20 (by decide)).trans ((fF5.rest 20 (by decide)).trans ((fF4.rest 20 (by decide)).trans fv3))))).trans rfl) undef (fun h => absurd h (by decide)) ?_
    intro f8 fF8 fv8
    have fz8 : f8.tmps.size = 32 := fF8.size.trans fz7
    refine qstep0 26 rfl (sz_lt fz8 (by decide)) rfl (.bool true) (fun wq hq => by rw [run_pick _ f8 _ _ _ _ true rfl ((fF8.rest 20 (by decide)).trans ((fF7.rest 20 (by decide)).trans ((fF6.rest 20 (by decide)).trans ((fF5.rest 20 (by decide)).trans ((fF4.rest 20 (by decide)).trans fv3)))))]; rfl) ?_
    intro f9 fF9 fv9
    have fz9 : f9.tmps.size = 32 := fF9.size.trans fz8
    refine qstep0 27 rfl (sz_lt fz9 (by decide)) rfl (.bool true) (fun wq hq => by rw [run_move _ f9 _ _ rfl, fv9]) ?_
    intro f10 fF10 fv10
    have fz10 : f10.tmps.size = 32 := fF10.size.trans fz9
    refine qstep 28 rfl (sz_lt fz10 (by decide)) false ((wanted_by (want := false) rfl rfl (sz_lt fz10 (by decide)) fv10).trans rfl) undef (fun h => absurd h (by decide)) ?_
    intro f11 fF11 fv11
    have fz11 : f11.tmps.size = 32 := fF11.size.trans fz10
    refine qstep 29 rfl (sz_lt fz11 (by decide)) false ((wanted_by (want := false) rfl rfl (sz_lt fz11 (by decide)) ((fF11.rest 27 (by decide)).trans fv10)).trans rfl) undef (fun h => absurd h (by decide)) ?_
    intro f12 fF12 fv12
    have fz12 : f12.tmps.size = 32 := fF12.size.trans fz11
    refine qstep0 30 rfl (sz_lt fz12 (by decide)) rfl (.bool true) (fun wq hq => by rw [run_pick _ f12 _ _ _ _ true rfl ((fF12.rest 27 (by decide)).trans ((fF11.rest 27 (by decide)).trans fv10))]; rfl) ?_
    intro f13 fF13 fv13
    have fz13 : f13.tmps.size = 32 := fF13.size.trans fz12
    refine wpQuiet_nil ?_
    intro we hHe
    refine then_end (hKC _ _ ?_)
    have hR : R = none := HW.out.2 (fun h => hE h.1)
    subst hR
    refine wp_cond_true fv13 ?_
    refine seq_region ?_
    refine fstep0 2 rfl (sz_lt fz13 (by decide)) rfl _ (run_assign _ f13 _ _ rfl) ?_
    intro f14 fF14 fv14
    have fz14 : f14.tmps.size = 32 := fF14.size.trans fz13
    refine fstep0 3 rfl (sz_lt fz14 (by decide)) rfl _ (run_assign _ f14 _ _ rfl) ?_
    intro f15 fF15 fv15
    have fz15 : f15.tmps.size = 32 := fF15.size.trans fz14
    refine list_end ?_
    refine wp_ret (then_ret ?_)
    refine bodyPost_ret (results_tmp2 Try.results12 _ _ _) (fF15.defers.trans (fF14.defers.trans (fF13.defers.trans (fF12.defers.trans (fF11.defers.trans (fF10.defers.trans (fF9.defers.trans (fF8.defers.trans (fF7.defers.trans (fF6.defers.trans (fF5.defers.trans (fF4.defers.trans (fF3.defers.trans (fF2.defers.trans (fF1.defers.trans df))))))))))))))) ?_
    refine ⟨⟨none, 0, 0, ?_, Sl.nil _ _ (by unfold maxLen; omega)⟩, by rw [hr]; exact HB.out.trans (hHe.below.mono hzr)⟩
    show Ending.returned (.tuple #[f15.eval (.tmp 2), f15.eval (.tmp 3)]) = _
    rw [((fF15.rest 2 (by decide)).trans fv14), fv15]
    rfl
  have hE1 : (E != 0) = false := by simp [hE]
  rw [hE1] at fv2 fv3
  refine qstep 21 rfl (sz_lt fz3 (by decide)) true ((wanted_by (want := false) rfl rfl (sz_lt fz3 (by decide)) fv3).trans rfl) _ (fun _ wq hq => load_take _ _ rfl _ ((fF3.rest 5 (by decide)).trans ((fF2.rest 5 (by decide)).trans ((fF1.rest 5 (by decide)).trans e5))) _ (load_whole hq.h1 hs6)) ?_
  intro f4 fF4 fv4
  have fz4 : f4.tmps.size = 32 := fF4.size.trans fz3
  refine qcallG 22 rfl (sz_lt fz4 (by decide)) ((wanted_by (want := false) rfl rfl (sz_lt fz4 (by decide)) ((fF4.rest 20 (by decide)).trans fv3)).trans rfl) _ _ _ (fun wq _ => run_call1 _ f4 _ 23 _ _ _ rfl (fv4 rfl) (by kernel_rfl)) (fun wq hq => (firstOf_any cs6 nn wq (HM6.out.mono hq.below)).mono fun e w' hh => ⟨hh.1, hq.next hh.2⟩) ?_
  intro f5 fF5 fv5
  have fz5 : f5.tmps.size = 32 := fF5.size.trans fz4
  refine qstep 23 rfl (sz_lt fz5 (by decide)) true ((wanted_by (want := false) rfl rfl (sz_lt fz5 (by decide)) ((fF5.rest 20 (by decide)).trans ((fF4.rest 20 (by decide)).trans fv3))).trans rfl) _ (fun _ wq hq => load_take _ _ rfl _ ((fF5.rest 1 (by decide)).trans ((fF4.rest 1 (by decide)).trans ((fF3.rest 1 (by decide)).trans ((fF2.rest 1 (by decide)).trans ((fF1.rest 1 (by decide)).trans e1'))))) _ (load_whole hq.h2 hsz)) ?_
  intro f6 fF6 fv6
  have fz6 : f6.tmps.size = 32 := fF6.size.trans fz5
  refine qcallG 24 rfl (sz_lt fz6 (by decide)) ((wanted_by (want := false) rfl rfl (sz_lt fz6 (by decide)) ((fF6.rest 20 (by decide)).trans ((fF5.rest 20 (by decide)).trans ((fF4.rest 20 (by decide)).trans fv3)))).trans rfl) _ _ _ (fun wq _ => run_call1 _ f6 _ 23 _ _ _ rfl (fv6 rfl) (by kernel_rfl)) (fun wq hq => (firstOf_any cs m wq (HM7.out.mono hq.below)).mono fun e w' hh => ⟨hh.1, hq.next hh.2⟩) ?_
  intro f7 fF7 fv7
  have fz7 : f7.tmps.size = 32 := fF7.size.trans fz6
  obtain ⟨D, hD⟩ : ∃ D, D = decide (nn.code.toNat = m.code.toNat ∧ nn.fail.toNat = m.fail.toNat) := ⟨_, rfl⟩
  refine qstep 25 rfl (sz_lt fz7 (by decide)) true ((wanted_by (want := false) rfl rfl (sz_lt fz7 (by decide)) ((fF7.rest 20 (by decide)).trans ((fF6.rest 20 (by decide)).trans ((fF5.rest 20 (by decide)).trans ((fF4.rest 20 (by decide)).trans fv3))))).trans rfl) (.bool (!D)) (fun _ wq hq => run_neqA _ f7 _ _ _ _ _ _ D rfl ((fF7.rest 22 (by decide)).trans ((fF6.rest 22 (by decide)).trans fv5)) fv7 (by rw [hD]; exact first_eq _ _ _ _ wq) (by kernel_rfl)) ?_
  intro f8 fF8 fv8
  have fz8 : f8.tmps.size = 32 := fF8.size.trans fz7
  refine qstep0 26 rfl (sz_lt fz8 (by decide)) rfl (.bool (!D)) (fun wq hq => by rw [run_pick _ f8 _ _ _ _ false rfl ((fF8.rest 20 (by decide)).trans ((fF7.rest 20 (by decide)).trans ((fF6.rest 20 (by decide)).trans ((fF5.rest 20 (by decide)).trans ((fF4.rest 20 (by decide)).trans fv3)))))]; exact congrArg (fun x => Result.ok (Next.value x) wq) (fv8 rfl)) ?_
  intro f9 fF9 fv9
  have fz9 : f9.tmps.size = 32 := fF9.size.trans fz8
  refine qstep0 27 rfl (sz_lt fz9 (by decide)) rfl (.bool (!D)) (fun wq hq => by rw [run_move _ f9 _ _ rfl, fv9]) ?_
  intro f10 fF10 fv10
  have fz10 : f10.tmps.size = 32 := fF10.size.trans fz9
  cases D with
  | false =>
    refine qstep 28 rfl (sz_lt fz10 (by decide)) false ((wanted_by (want := false) rfl rfl (sz_lt fz10 (by decide)) fv10).trans rfl) undef (fun h => absurd h (by decide)) ?_
    intro f11 fF11 fv11
    have fz11 : f11.tmps.size = 32 := fF11.size.trans fz10
    refine qstep 29 rfl (sz_lt fz11 (by decide)) false ((wanted_by (want := false) rfl rfl (sz_lt fz11 (by decide)) ((fF11.rest 27 (by decide)).trans fv10)).trans rfl) undef (fun h => absurd h (by decide)) ?_
    intro f12 fF12 fv12
    have fz12 : f12.tmps.size = 32 := fF12.size.trans fz11
    refine qstep0 30 rfl (sz_lt fz12 (by decide)) rfl (.bool true) (fun wq hq => by rw [run_pick _ f12 _ _ _ _ true rfl ((fF12.rest 27 (by decide)).trans ((fF11.rest 27 (by decide)).trans fv10))]; rfl) ?_
    intro f13 fF13 fv13
    have fz13 : f13.tmps.size = 32 := fF13.size.trans fz12
    refine wpQuiet_nil ?_
    intro we hHe
    refine then_end (hKC _ _ ?_)
    have hR : R = none := HW.out.2 (fun h => absurd ⟨congrArg UInt8.toNat h.2.1, congrArg UInt8.toNat h.2.2.1⟩ (of_decide_eq_false hD.symm))
    subst hR
    refine wp_cond_true fv13 ?_
    refine seq_region ?_
    refine fstep0 2 rfl (sz_lt fz13 (by decide)) rfl _ (run_assign _ f13 _ _ rfl) ?_
    intro f14 fF14 fv14
    have fz14 : f14.tmps.size = 32 := fF14.size.trans fz13
    refine fstep0 3 rfl (sz_lt fz14 (by decide)) rfl _ (run_assign _ f14 _ _ rfl) ?_
    intro f15 fF15 fv15
    have fz15 : f15.tmps.size = 32 := fF15.size.trans fz14
    refine list_end ?_
    refine wp_ret (then_ret ?_)
    refine bodyPost_ret (results_tmp2 Try.results12 _ _ _) (fF15.defers.trans (fF14.defers.trans (fF13.defers.trans (fF12.defers.trans (fF11.defers.trans (fF10.defers.trans (fF9.defers.trans (fF8.defers.trans (fF7.defers.trans (fF6.defers.trans (fF5.defers.trans (fF4.defers.trans (fF3.defers.trans (fF2.defers.trans (fF1.defers.trans df))))))))))))))) ?_
    refine ⟨⟨none, 0, 0, ?_, Sl.nil _ _ (by unfold maxLen; omega)⟩, by rw [hr]; exact HB.out.trans (hHe.below.mono hzr)⟩
    show Ending.returned (.tuple #[f15.eval (.tmp 2), f15.eval (.tmp 3)]) = _
    rw [((fF15.rest 2 (by decide)).trans fv14), fv15]
    rfl
  | true =>
    have hD2 := of_decide_eq_true hD.symm
    obtain ⟨q, hq0⟩ : ∃ q, q = MsgM.same m (Fus.ofM m.code m.fail) := ⟨_, rfl⟩
    refine qstep 28 rfl (sz_lt fz10 (by decide)) true ((wanted_by (want := false) rfl rfl (sz_lt fz10 (by decide)) fv10).trans rfl) _ (fun _ wq hq => load_take _ _ rfl _ ((fF10.rest 1 (by decide)).trans ((fF9.rest 1 (by decide)).trans ((fF8.rest 1 (by decide)).trans ((fF7.rest 1 (by decide)).trans ((fF6.rest 1 (by decide)).trans ((fF5.rest 1 (by decide)).trans ((fF4.rest 1 (by decide)).trans ((fF3.rest 1 (by decide)).trans ((fF2.rest 1 (by decide)).trans ((fF1.rest 1 (by decide)).trans e1')))))))))) _ (load_whole hq.h2 hsz)) ?_
    intro f11 fF11 fv11
    have fz11 : f11.tmps.size = 32 := fF11.size.trans fz10
    refine qcallG 29 rfl (sz_lt fz11 (by decide)) ((wanted_by (want := false) rfl rfl (sz_lt fz11 (by decide)) ((fF11.rest 27 (by decide)).trans fv10)).trans rfl) _ _ _ (fun wq _ => run_call1 _ f11 _ 24 _ _ _ rfl (fv11 rfl) (by kernel_rfl)) (fun wq hq => (hasMore_any cs m wq (HM7.out.mono hq.below) hsz).mono fun e w' hh => ⟨hh.1, hq.next hh.2⟩) ?_
    intro f12 fF12 fv12
    have fz12 : f12.tmps.size = 32 := fF12.size.trans fz11
    rw [← hq0] at fv12
    refine qstep0 30 rfl (sz_lt fz12 (by decide)) rfl (.bool (!q)) (fun wq hq => by rw [run_pick _ f12 _ _ _ _ false rfl ((fF12.rest 27 (by decide)).trans ((fF11.rest 27 (by decide)).trans fv10))]; exact congrArg (fun x => Result.ok (Next.value x) wq) fv12) ?_
    intro f13 fF13 fv13
    have fz13 : f13.tmps.size = 32 := fF13.size.trans fz12
    cases q with
    | false =>
      refine wpQuiet_nil ?_
      intro we hHe
      refine then_end (hKC _ _ ?_)
      have hR : R = none := HW.out.2 (fun h => absurd ((MsgM.same_iff _ _).2 h.2.2.2) (by rw [← hq0]; decide))
      subst hR
      refine wp_cond_true fv13 ?_
      refine seq_region ?_
      refine fstep0 2 rfl (sz_lt fz13 (by decide)) rfl _ (run_assign _ f13 _ _ rfl) ?_
      intro f14 fF14 fv14
      have fz14 : f14.tmps.size = 32 := fF14.size.trans fz13
      refine fstep0 3 rfl (sz_lt fz14 (by decide)) rfl _ (run_assign _ f14 _ _ rfl) ?_
      intro f15 fF15 fv15
      have fz15 : f15.tmps.size = 32 := fF15.size.trans fz14
      refine list_end ?_
      refine wp_ret (then_ret ?_)
      refine bodyPost_ret (results_tmp2 Try.results12 _ _ _) (fF15.defers.trans (fF14.defers.trans (fF13.defers.trans (fF12.defers.trans (fF11.defers.trans (fF10.defers.trans (fF9.defers.trans (fF8.defers.trans (fF7.defers.trans (fF6.defers.trans (fF5.defers.trans (fF4.defers.trans (fF3.defers.trans (fF2.defers.trans (fF1.defers.trans df))))))))))))))) ?_
      refine ⟨⟨none, 0, 0, ?_, Sl.nil _ _ (by unfold maxLen; omega)⟩, by rw [hr]; exact HB.out.trans (hHe.below.mono hzr)⟩
      show Ending.returned (.tuple #[f15.eval (.tmp 2), f15.eval (.tmp 3)]) = _
      rw [((fF15.rest 2 (by decide)).trans fv14), fv15]
      rfl
    | true =>
      refine wpQuiet_nil ?_
      intro we hHe
      refine then_end (hKC _ _ ?_)
      have hR : R = Option.some B := HW.out.1 ⟨hE, UInt8.toNat_inj.1 hD2.1, UInt8.toNat_inj.1 hD2.2, (MsgM.same_iff _ _).1 hq0.symm⟩
      subst hR
      refine wp_cond_false fv13 ?_
      refine wp_skip (then_end (hKR _ _ ?_))
      refine seq_region ?_
      refine fstep0 31 rfl (sz_lt fz13 (by decide)) rfl _ ((run_move _ f13 _ _ rfl).trans (congrArg (fun x => Result.ok (Next.value x) _) ((fF13.rest 4 (by decide)).trans ((fF12.rest 4 (by decide)).trans ((fF11.rest 4 (by decide)).trans ((fF10.rest 4 (by decide)).trans ((fF9.rest 4 (by decide)).trans ((fF8.rest 4 (by decide)).trans ((fF7.rest 4 (by decide)).trans ((fF6.rest 4 (by decide)).trans ((fF5.rest 4 (by decide)).trans ((fF4.rest 4 (by decide)).trans ((fF3.rest 4 (by decide)).trans ((fF2.rest 4 (by decide)).trans ((fF1.rest 4 (by decide)).trans e4))))))))))))))) ?_
      intro f14 fF14 fv14
      have fz14 : f14.tmps.size = 32 := fF14.size.trans fz13
      refine fstep0 2 rfl (sz_lt fz14 (by decide)) rfl _ ((run_assign _ f14 _ _ rfl).trans (congrArg (fun x => Result.ok (Next.value x) _) fv14)) ?_
      intro f15 fF15 fv15
      have fz15 : f15.tmps.size = 32 := fF15.size.trans fz14
      refine fstep0 3 rfl (sz_lt fz15 (by decide)) rfl _ (run_assign _ f15 _ _ rfl) ?_
      intro f16 fF16 fv16
      have fz16 : f16.tmps.size = 32 := fF16.size.trans fz15
      refine list_end ?_
      refine wp_ret ?_
      refine bodyPost_ret (results_tmp2 Try.results12 _ _ _) (fF16.defers.trans (fF15.defers.trans (fF14.defers.trans (fF13.defers.trans (fF12.defers.trans (fF11.defers.trans (fF10.defers.trans (fF9.defers.trans (fF8.defers.trans (fF7.defers.trans (fF6.defers.trans (fF5.defers.trans (fF4.defers.trans (fF3.defers.trans (fF2.defers.trans (fF1.defers.trans df)))))))))))))))) ?_
      refine ⟨⟨_, _, _, ?_, HX6.out.mono hHe.below⟩, by rw [hr]; exact HB.out.trans (hHe.below.mono hzr)⟩
      show Ending.returned (.tuple #[f16.eval (.tmp 2), f16.eval (.tmp 3)]) = _
      rw [((fF16.rest 2 (by decide)).trans fv15), fv16]
      rfl

set_option maxRecDepth 20000 in
set_option maxHeartbeats 4000000 in
theorem fusOf_any (c y : UInt8) (w : World) :
    Calls Try.prog 14 #[byteV c, byteV y] w fun e w' =>
      (∃ v, e = .returned (.tuple #[v, .int .i64 (Fus.of c y).2]) ∧ MsgAt w' v (Fus.of c y).1) ∧ Below w.heap.size w w' := by
  obtain ⟨R, hR⟩ : ∃ R, R = Fus.of c y := ⟨_, rfl⟩
  rw [← hR]
  have HR := hide hR
  clear hR
  have e0 := heap_alloc_new w (.cells zeroCells 30 (0, 0))
  have b0 := (Below.refl w.heap.size w).alloc (Nat.le_refl _) (.cells zeroCells 30 (0, 0))
  obtain ⟨n, hn⟩ : ∃ n : Nat, n = c.toNat := ⟨_, rfl⟩
  obtain ⟨j, hj⟩ : ∃ n : Nat, n = y.toNat := ⟨_, rfl⟩
  have HC : Hid (byteV c = .int .u8 (n : Int)) := hide (by rw [hn])
  have HD : Hid (byteV y = .int .u8 (j : Int)) := hide (by rw [hj])
  rw [HC.out, HD.out]
  clear hn hj
  go_enter Try.func14, Try.ntmps14
  go_upto_region 1 with fail
  generalize w.alloc (.cells zeroCells 30 (0, 0)) = u at *
  generalize hr : w.heap.size = r at *
  have z0 := lt_of_block e0
  go_wp2_with fail
  refine (firstMsg_any n j u).mono ?_
  rintro e u1 ⟨rfl, b1⟩
  replace e0 := (b1.block _ z0).trans e0
  replace b0 := b0.trans (b1.mono (Nat.le_of_lt z0))
  have z1 := lt_of_block e0
  clear b1 z0
  go_wp2_with ((with_reducible show wpList _ _ _ (⟨_, .store _ _ _, _, _, _, _⟩ :: _) _ _); refine wpList_store_new rfl 30 _ _ rfl (Fus.cells n j) rfl rfl (msg_size _ rfl) rfl (Fus.cells_one n j) ?_)
  intro u2 h2 b2
  replace e0 := (b2.block _ z1).trans e0
  replace b0 := b0.trans (b2.mono (Nat.le_of_lt z1))
  generalize u1.heap.size = g at *
  have z2 := lt_of_block e0
  have zg := lt_of_block h2
  clear b2 z1
  go_wp2_with ((with_reducible show wpList _ _ _ (⟨_, .load _ _, _, _, _, _⟩ :: _) _ _); refine wpList_load_rowG (by rfl) 30 _ rfl g rfl _ (load_whole h2 rfl) ?_)
  refine (fusWrite_any _ (Fus.ofM c y) u2 (Fus.at_cells _ HC.out HD.out)).mono ?_
  rintro e u3 ⟨⟨a3, l3, c3, rfl, _⟩, b3⟩
  replace e0 := (b3.block _ z2).trans e0
  replace h2 := (b3.block _ zg).trans h2
  replace b0 := b0.trans (b3.mono (Nat.le_of_lt z2))
  clear b3 z2 zg
  have HF : Hid (R = if (Fus.write (Fus.ofM c y)).isSome = true then (Fus.ofM c y, 0) else (MsgM.zero, 1)) := hide HR.out
  rcases hs : Fus.write (Fus.ofM c y) with _ | bb
  · have HO : Hid (R = (MsgM.zero, 1)) := hide (by rw [HF.out, hs]; rfl)
    rw [show Fus.errW none = (1 : Int) from rfl]
    clear hs HF HR
    go_wp2_with ((with_reducible show wpList _ _ _ (⟨_, .store _ _ _, _, _, _, _⟩ :: _) _ _); refine wpList_store_lies rfl 30 _ _ rfl r zeroCells rfl rfl _ _ e0 (msg_size _ rfl) rfl zero_one ?_)
    intro w3 h3 b3 n3 z3
    go_wp2
    (try simp only [Exit.inBlock, Exit.then])
    rw [HO.out]
    exact bodyPost_ret (results_row_tmp Try.results14 _ _ r _ _ _ _ rfl h3 Try.underlying30 rfl (msg_size _ rfl) _ rfl) rfl ⟨⟨_, rfl, MsgAt.zero _⟩, by rw [hr]; exact b0.trans (b3 _ (Nat.le_refl _))⟩
  · have HO : Hid (R = (Fus.ofM c y, 0)) := hide (by rw [HF.out, hs]; rfl)
    rw [show Fus.errW (some bb) = (0 : Int) from rfl]
    clear hs HF HR
    go_wp2_with (first
      | ((with_reducible show wpList _ _ _ (⟨_, .load _ _, _, _, _, _⟩ :: _) _ _); refine wpList_load_rowG (by rfl) 30 _ rfl g rfl _ (load_whole h2 rfl) ?_)
      | ((with_reducible show wpList _ _ _ (⟨_, .store _ _ _, _, _, _, _⟩ :: _) _ _); refine wpList_store_lies rfl 30 _ _ rfl r (Fus.cells n j) rfl rfl _ _ e0 (msg_size _ rfl) rfl (Fus.cells_one n j) ?_))
    intro w3 h3 b3 n3 z3
    go_wp2
    (try simp only [Exit.inBlock, Exit.then])
    rw [HO.out]
    exact bodyPost_ret (results_row_tmp Try.results14 _ _ r _ _ _ _ rfl h3 Try.underlying30 rfl (msg_size _ rfl) _ rfl) rfl ⟨⟨_, rfl, Fus.at_cells _ HC.out HD.out⟩, by rw [hr]; exact b0.trans (b3 _ (Nat.le_refl _))⟩

end Go.Proofs.Ytjacnghndnkcnaa
