/-
  Proved: for every input the law MeiBack answers true, and each argument reads behind the call as it read before.
  Conditions: none (the statement Rows.MeiBackSaid as it is given).
-/
import Derived.Test.YtaokbaddleplfaaRows
import Derived.WalkKit
import Derived.ProofKit
import Derived.OpenShut
import Derived.ShutString
import Derived.ChangeOld
import Derived.Below
import Derived.Test.YtaokbaddleplfaaMeiFacts
import Derived.Test.YtaokbaddleplfaaRefSame
import Derived.Test.YtaokbaddleplfaaSame
import Derived.Test.YtaokbaddleplfaaSameBools
import Derived.Test.YtaokbaddleplfaaFew
import Derived.Carry
namespace Go.Proofs.Ytaokbaddleplfaa.meiBack
open Go.ChangeShapes Go.WideShapes Go.ChangeAt Go.RowKit
open Go.ChangeMaps (open_string shut_string)
set_option linter.unusedVariables false

theorem own : ownKnob Try.prog.godebug = none := by kernel_rfl
theorem laidOut : laidOutB Try.prog = true := by kernel_rfl

/-- WHAT THE WALK IS TOLD OF A SLICE OF INTEGERS THAT CAME IN: it is nil; or it leads to a row of 'cap' cells, the numbers 'zs' (the first 'len' are its elements, the rest its spare room), each fitting its kind. -/
def IsRow (k : IntKind) (w : World) (a : Option Addr) (len cap : Nat) (zs : List Int) : Prop :=
  (a = none ∧ len = 0 ∧ cap = 0 ∧ zs = []) ∨
  ∃ x, a = some x ∧ len ≤ cap ∧ cap ≤ maxLen ∧ zs.length = cap ∧ (∀ i, i < zs.length → w.cell? (x.add i) = some (.int k (zs.getD i 0))) ∧ ∀ n ∈ zs, (Lit.int k n).wf = true

/-! ### STEP 1: THE WALK: the Go text returns true, AND WRITES NOTHING THAT WAS THERE: 'Below w.heap.size w w'' (Derived/Below.lean: '.refl', '.alloc', '.drew', '.setCell' at a new block, '.trans'). Open each 'IsRow' by 'rcases' AHEAD of 'go_enter'; part every test ahead of the walk. -/
set_option maxRecDepth 20000 in
set_option maxHeartbeats 2000000 in
theorem walk (a0 : Bool) (a1 : Int) (a2 : Option Addr) (len2 cap2 : Nat) (z2 : List Int) (a3 : Value) (m3 : MsgM) (w : World) (w1 : (Lit.int .u8 a1).wf = true) (w2 : IsRow .u8 w a2 len2 cap2 z2) (w3 : MsgAt w a3 m3) :
    Calls Try.prog 5 #[.bool a0, .int .u8 a1, .slice a2 len2 cap2, a3] w fun e w' => e = .returned (.bool true) ∧ Below w.heap.size w w' := by
  obtain ⟨cs, rfl, hsz, hone, hc0⟩ := w3.agg
  have HC0 := hide hc0
  have HM := hide w3
  have hb0 := (Below.refl w.heap.size w).alloc (Nat.le_refl _) (.cells cs 30 (0, 0))
  have e1 := heap_alloc_new w (.cells cs 30 (0, 0))
  replace HM := hide (HM.out.mono hb0)
  obtain ⟨c, rfl⟩ := byte_arg w1
  obtain ⟨xs, hx⟩ := Bs.ofRow w2
  have hm := hx.hle
  have hm2 := hx.hmax
  unfold maxLen at hm2
  have HX := hide (hx.mono hb0)
  clear w1 w2 w3 hx hc0
  go_enter Try.func5, Try.ntmps5
  go_upto_region 1 with (refine wpList_boxC rfl 30 _ rfl cs rfl ?_)
  generalize w.alloc (.cells cs 30 (0, 0)) = u0 at *
  generalize hr : w.heap.size = r at *
  have hz0 : r < u0.heap.size := lt_of_block e1
  go_wp2_with fail
  refine (awake_any u0).mono ?_
  rintro e u1 ⟨rfl, b1⟩
  replace e1 := (b1.block r hz0).trans e1
  replace HM := hide (HM.out.mono b1)
  have HB := hide (hb0.trans (b1.mono (Nat.le_of_lt hz0)))
  have hz1 : r < u1.heap.size := lt_of_block e1
  replace HX := hide (HX.out.mono b1)
  clear b1 hb0 hz0
  go_wp2_with ((with_reducible (show wpList _ _ _ ({ dst := _, op := Op.load _ _, type := _, pos := _, after := _, guard := _ } :: _) _ _)); refine wpList_load_rowG (by rfl) 30 _ rfl r rfl cs (load_whole e1 hsz) ?_)
  refine (few_any _ m3 u1 HM.out).mono ?_
  rintro e u2 ⟨rfl, b2⟩
  replace e1 := (b2.block r hz1).trans e1
  replace HM := hide (HM.out.mono b2)
  replace HB := hide (HB.out.trans (b2.mono (Nat.le_of_lt hz1)))
  have hz2 : r < u2.heap.size := lt_of_block e1
  have HS : Hid (m3.few = true → m3.Small) := hide MsgM.small_of
  replace HX := hide (HX.out.mono b2)
  clear b2 hz1
  generalize m3.few = q at *
  by_cases hl : len2 ≤ 400
  rotate_left
  · have hl' : (400 : Int) < (len2 : Int) := by omega
    go_wp2
    go_ret
    exact ⟨rfl, by rw [hr]; exact HB.out⟩
  have hl' : ¬ (400 : Int) < (len2 : Int) := by omega
  cases q
  · go_wp2
    go_ret
    exact ⟨rfl, by rw [hr]; exact HB.out⟩
  have hs := HS.out rfl
  clear HS
  cases a0
  · go_wp2_with fail
    refine (Mei.code_parse 0 c _ _ _ xs _ HX.out (by omega)).mono ?_
    rintro e u3 ⟨⟨v3, rfl, hm3⟩, b3⟩
    obtain ⟨cs3, rfl, hs3, ho3, _⟩ := hm3.agg
    have HT : Hid ((Mei.parse 0 c xs).2 = 0 → Mei.write 0 (Mei.parse 0 c xs).1 = some xs ∧ (Mei.parse 0 c xs).1.code = c) := hide Mei.there
    have HZr : Hid ((Mei.parse 0 c xs).2 ≠ 0 → (Mei.parse 0 c xs).1 = MsgM.zero) := hide Mei.parse_zero
    have HSx := hide (Mei.parse_small 0 c xs)
    have HM3 := hide hm3
    replace HX := hide (HX.out.mono b3)
    replace HB := hide (HB.out.trans (b3.mono (Nat.le_of_lt hz2)))
    replace HM := hide (HM.out.mono b3)
    replace e1 := (b3.block r hz2).trans e1
    clear b3 hm3
    generalize Mei.parse 0 c xs = P at *
    obtain ⟨x, E⟩ := P
    go_wp2_with ((with_reducible (show wpList _ _ _ ({ dst := _, op := Op.store _ _ _, type := _, pos := _, after := _, guard := _ } :: _) _ _)); refine wpList_store_new rfl 30 _ _ rfl cs3 rfl rfl (msg_size cs3 hs3) hs3.symm ho3 ?_)
    intro u4 h4 b4
    replace HM3 := hide (HM3.out.mono b4)
    replace HX := hide (HX.out.mono b4)
    replace HB := hide (HB.out.trans (b4.mono (Nat.le_of_lt (lt_of_block e1))))
    replace HM := hide (HM.out.mono b4)
    replace e1 := (b4.block r (lt_of_block e1)).trans e1
    clear b4 hz2
    generalize u3.heap.size = g3 at *
    by_cases hE : E = 0
    · subst hE
      obtain ⟨hw, hc⟩ := HT.out rfl
      have HW := hide hw
      have HC := hide hc
      clear HT HZr hw hc
      go_wp2_with ((with_reducible (show wpList _ _ _ ({ dst := _, op := Op.load _ _, type := _, pos := _, after := _, guard := _ } :: _) _ _)); refine wpList_load_rowG (by rfl) 30 _ rfl g3 rfl cs3 (load_whole h4 hs3) ?_)
      refine (Mei.code_write 0 _ x _ HM3.out HSx.out).mono ?_
      rintro e u5 ⟨⟨a5, l5, c5, rfl, hx5⟩, b5⟩
      rw [HW.out] at hx5 ⊢
      replace hx5 : Bs u5 a5 l5 c5 xs := hx5
      replace HX := hide (HX.out.mono b5)
      replace h4 := (b5.block g3 (lt_of_block h4)).trans h4
      replace HB := hide (HB.out.trans (b5.mono (Nat.le_of_lt (lt_of_block e1))))
      replace e1 := (b5.block r (lt_of_block e1)).trans e1
      replace HM := hide (HM.out.mono b5)
      replace HM3 := hide (HM3.out.mono b5)
      have q5 : Mei.errW (some xs) = 0 := rfl
      rw [q5]
      clear b5 q5 HW
      have k5 : u5.cell? ⟨g3, 0, none⟩ = some (.int .u8 (c.toNat : Int)) := by
        have hb : MB 30 u5 g3 x := ⟨cs3, h4, HM3.out⟩
        rw [hb.c_code, HC.out]
      go_wp2_with fail
      refine (same_any _ _ _ _ _ _ _ _ _ hx5 HX.out).mono ?_
      rintro e u5' ⟨rfl, hu5⟩
      subst hu5
      rw [decide_eq_true (rfl : xs = xs)]
      clear hx5
      go_wp2_with ((with_reducible (show wpList _ _ _ ({ dst := _, op := Op.load _ _, type := _, pos := _, after := _, guard := _ } :: _) _ _)); refine wpList_load_rowG (by rfl) 30 _ rfl r rfl cs (load_whole e1 hsz) ?_)
      refine (Mei.code_write 0 _ m3 _ HM.out hs).mono ?_
      rintro e u6 ⟨⟨a6, l6, c6, rfl, hx6⟩, b6⟩
      replace h4 := (b6.block g3 (lt_of_block h4)).trans h4
      replace HB := hide (HB.out.trans (b6.mono (Nat.le_of_lt (lt_of_block e1))))
      replace e1 := (b6.block r (lt_of_block e1)).trans e1
      replace HM := hide (HM.out.mono b6)
      replace HM3 := hide (HM3.out.mono b6)
      have HBk : Hid (∀ b, Mei.write 0 m3 = some b → Mei.parse 0 m3.code b = (m3, 0) ∧ b.length ≤ 100000) := hide (fun b h => ⟨Mei.back h, Nat.le_trans (Mei.write_len h) (by omega)⟩)
      have HX6 := hide hx6
      clear b6 hx6
      generalize Mei.write 0 m3 = R at *
      cases R with
      | none =>
        have hl6 : l6 = 0 := HX6.out.hlen.symm
        subst hl6
        have q1 : Mei.errW none = 1 := rfl
        rw [q1]
        clear HBk HX6 q1
        go_wp2
        go_ret
        exact ⟨rfl, by rw [hr]; exact HB.out⟩
      | some b =>
        obtain ⟨hp, hbl⟩ := HBk.out b rfl
        have hl6 : l6 ≤ 100000 := by rw [← HX6.out.hlen]; exact hbl
        have q1 : Mei.errW (some b) = 0 := rfl
        rw [q1]
        replace HX6 : Hid (Bs u6 a6 l6 c6 b) := HX6
        have HP := hide hp
        have k6 : u6.cell? ⟨r, 0, none⟩ = some (byteV m3.code) := (cell_of_row u6 r 0 _ _ _ e1).trans HC0.out
        clear HBk q1 hp hbl
        go_wp2_with fail
        refine (Mei.code_parse 0 m3.code _ _ _ b _ HX6.out hl6).mono ?_
        rintro e u7 ⟨⟨v7, rfl, hm7⟩, b7⟩
        rw [HP.out] at hm7 ⊢
        obtain ⟨cs7, rfl, hs7, ho7, _⟩ := hm7.agg
        have HM7 := hide hm7
        replace h4 := (b7.block g3 (lt_of_block h4)).trans h4
        replace HB := hide (HB.out.trans (b7.mono (Nat.le_of_lt (lt_of_block e1))))
        replace e1 := (b7.block r (lt_of_block e1)).trans e1
        replace HM := hide (HM.out.mono b7)
        replace HM3 := hide (HM3.out.mono b7)
        clear b7 hm7 k6 HX6 HP
        go_wp2_with ((with_reducible (show wpList _ _ _ ({ dst := _, op := Op.store _ _ _, type := _, pos := _, after := _, guard := _ } :: _) _ _)); refine wpList_store_new rfl 30 _ _ rfl cs7 rfl rfl (msg_size cs7 hs7) hs7.symm ho7 ?_)
        intro u8 h8 b8
        replace HM7 := hide (HM7.out.mono b8)
        replace h4 := (b8.block g3 (lt_of_block h4)).trans h4
        replace HB := hide (HB.out.trans (b8.mono (Nat.le_of_lt (lt_of_block e1))))
        replace e1 := (b8.block r (lt_of_block e1)).trans e1
        replace HM := hide (HM.out.mono b8)
        replace HM3 := hide (HM3.out.mono b8)
        clear b8
        generalize u7.heap.size = g7 at *
        go_wp2_with ((with_reducible (show wpList _ _ _ ({ dst := _, op := Op.load _ _, type := _, pos := _, after := _, guard := _ } :: _) _ _)); first | (refine wpList_load_rowG (by rfl) 30 _ rfl g7 rfl cs7 (load_whole h8 hs7) ?_) | (refine wpList_load_rowG (by rfl) 30 _ rfl r rfl cs (load_whole e1 hsz) ?_))
        refine (refSame_any _ _ m3 m3 _ HM7.out HM.out).mono ?_
        rintro e u10 ⟨rfl, b10⟩
        rw [(MsgM.same_iff m3 m3).2 rfl]
        replace h4 := (b10.block g3 (lt_of_block h4)).trans h4
        replace HB := hide (HB.out.trans (b10.mono (Nat.le_of_lt (lt_of_block e1))))
        replace e1 := (b10.block r (lt_of_block e1)).trans e1
        replace HM := hide (HM.out.mono b10)
        replace HM3 := hide (HM3.out.mono b10)
        clear b10 h8
        go_wp2
        go_ret
        exact ⟨rfl, by rw [hr]; exact HB.out⟩
    · have hE' : (E == 0) = false := by simpa using hE
      have HX0 := hide (HZr.out hE)
      clear HT HZr HX
      go_wp2_with ((with_reducible (show wpList _ _ _ ({ dst := _, op := Op.load _ _, type := _, pos := _, after := _, guard := _ } :: _) _ _)); refine wpList_load_rowG (by rfl) 30 _ rfl r rfl cs (load_whole e1 hsz) ?_)
      refine (Mei.code_write 0 _ m3 _ HM.out hs).mono ?_
      rintro e u6 ⟨⟨a6, l6, c6, rfl, hx6⟩, b6⟩
      replace h4 := (b6.block g3 (lt_of_block h4)).trans h4
      replace HB := hide (HB.out.trans (b6.mono (Nat.le_of_lt (lt_of_block e1))))
      replace e1 := (b6.block r (lt_of_block e1)).trans e1
      replace HM := hide (HM.out.mono b6)
      replace HM3 := hide (HM3.out.mono b6)
      have HBk : Hid (∀ b, Mei.write 0 m3 = some b → Mei.parse 0 m3.code b = (m3, 0) ∧ b.length ≤ 100000) := hide (fun b h => ⟨Mei.back h, Nat.le_trans (Mei.write_len h) (by omega)⟩)
      have HX6 := hide hx6
      clear b6 hx6
      generalize Mei.write 0 m3 = R at *
      cases R with
      | none =>
        have hl6 : l6 = 0 := HX6.out.hlen.symm
        subst hl6
        have q1 : Mei.errW none = 1 := rfl
        rw [q1]
        clear HBk HX6 q1
        go_wp2_with ((with_reducible (show wpList _ _ _ ({ dst := _, op := Op.load _ _, type := _, pos := _, after := _, guard := _ } :: _) _ _)); refine wpList_load_rowG (by rfl) 30 _ rfl g3 rfl cs3 (load_whole h4 hs3) ?_)
        refine (refSame_any _ _ x MsgM.zero _ HM3.out (MsgAt.zero _)).mono ?_
        rintro e u9 ⟨rfl, b9⟩
        rw [HX0.out, (MsgM.same_iff MsgM.zero MsgM.zero).2 rfl]
        replace HB := hide (HB.out.trans (b9.mono (Nat.le_of_lt (lt_of_block e1))))
        go_wp2
        go_ret
        exact ⟨rfl, by rw [hr]; exact HB.out⟩
      | some b =>
        obtain ⟨hp, hbl⟩ := HBk.out b rfl
        have hl6 : l6 ≤ 100000 := by rw [← HX6.out.hlen]; exact hbl
        have q1 : Mei.errW (some b) = 0 := rfl
        rw [q1]
        replace HX6 : Hid (Bs u6 a6 l6 c6 b) := HX6
        have HP := hide hp
        have k6 : u6.cell? ⟨r, 0, none⟩ = some (byteV m3.code) := (cell_of_row u6 r 0 _ _ _ e1).trans HC0.out
        clear HBk q1 hp hbl
        go_wp2_with fail
        refine (Mei.code_parse 0 m3.code _ _ _ b _ HX6.out hl6).mono ?_
        rintro e u7 ⟨⟨v7, rfl, hm7⟩, b7⟩
        rw [HP.out] at hm7 ⊢
        obtain ⟨cs7, rfl, hs7, ho7, _⟩ := hm7.agg
        have HM7 := hide hm7
        replace h4 := (b7.block g3 (lt_of_block h4)).trans h4
        replace HB := hide (HB.out.trans (b7.mono (Nat.le_of_lt (lt_of_block e1))))
        replace e1 := (b7.block r (lt_of_block e1)).trans e1
        replace HM := hide (HM.out.mono b7)
        replace HM3 := hide (HM3.out.mono b7)
        clear b7 hm7 k6 HX6 HP
        go_wp2_with ((with_reducible (show wpList _ _ _ ({ dst := _, op := Op.store _ _ _, type := _, pos := _, after := _, guard := _ } :: _) _ _)); refine wpList_store_new rfl 30 _ _ rfl cs7 rfl rfl (msg_size cs7 hs7) hs7.symm ho7 ?_)
        intro u8 h8 b8
        replace HM7 := hide (HM7.out.mono b8)
        replace h4 := (b8.block g3 (lt_of_block h4)).trans h4
        replace HB := hide (HB.out.trans (b8.mono (Nat.le_of_lt (lt_of_block e1))))
        replace e1 := (b8.block r (lt_of_block e1)).trans e1
        replace HM := hide (HM.out.mono b8)
        replace HM3 := hide (HM3.out.mono b8)
        clear b8
        generalize u7.heap.size = g7 at *
        go_wp2_with ((with_reducible (show wpList _ _ _ ({ dst := _, op := Op.load _ _, type := _, pos := _, after := _, guard := _ } :: _) _ _)); first | (refine wpList_load_rowG (by rfl) 30 _ rfl g7 rfl cs7 (load_whole h8 hs7) ?_) | (refine wpList_load_rowG (by rfl) 30 _ rfl r rfl cs (load_whole e1 hsz) ?_))
        refine (refSame_any _ _ m3 m3 _ HM7.out HM.out).mono ?_
        rintro e u10 ⟨rfl, b10⟩
        rw [(MsgM.same_iff m3 m3).2 rfl]
        replace h4 := (b10.block g3 (lt_of_block h4)).trans h4
        replace HB := hide (HB.out.trans (b10.mono (Nat.le_of_lt (lt_of_block e1))))
        replace e1 := (b10.block r (lt_of_block e1)).trans e1
        replace HM := hide (HM.out.mono b10)
        replace HM3 := hide (HM3.out.mono b10)
        clear b10 h8
        go_wp2_with ((with_reducible (show wpList _ _ _ ({ dst := _, op := Op.load _ _, type := _, pos := _, after := _, guard := _ } :: _) _ _)); refine wpList_load_rowG (by rfl) 30 _ rfl g3 rfl cs3 (load_whole h4 hs3) ?_)
        refine (refSame_any _ _ x MsgM.zero _ HM3.out (MsgAt.zero _)).mono ?_
        rintro e u9 ⟨rfl, b9⟩
        rw [HX0.out, (MsgM.same_iff MsgM.zero MsgM.zero).2 rfl]
        replace HB := hide (HB.out.trans (b9.mono (Nat.le_of_lt (lt_of_block e1))))
        go_wp2
        go_ret
        exact ⟨rfl, by rw [hr]; exact HB.out⟩
  · go_wp2_with fail
    refine (Mei.code_parse 1 c _ _ _ xs _ HX.out (by omega)).mono ?_
    rintro e u3 ⟨⟨v3, rfl, hm3⟩, b3⟩
    obtain ⟨cs3, rfl, hs3, ho3, _⟩ := hm3.agg
    have HT : Hid ((Mei.parse 1 c xs).2 = 0 → Mei.write 1 (Mei.parse 1 c xs).1 = some xs ∧ (Mei.parse 1 c xs).1.code = c) := hide Mei.there
    have HZr : Hid ((Mei.parse 1 c xs).2 ≠ 0 → (Mei.parse 1 c xs).1 = MsgM.zero) := hide Mei.parse_zero
    have HSx := hide (Mei.parse_small 1 c xs)
    have HM3 := hide hm3
    replace HX := hide (HX.out.mono b3)
    replace HB := hide (HB.out.trans (b3.mono (Nat.le_of_lt hz2)))
    replace HM := hide (HM.out.mono b3)
    replace e1 := (b3.block r hz2).trans e1
    clear b3 hm3
    generalize Mei.parse 1 c xs = P at *
    obtain ⟨x, E⟩ := P
    go_wp2_with ((with_reducible (show wpList _ _ _ ({ dst := _, op := Op.store _ _ _, type := _, pos := _, after := _, guard := _ } :: _) _ _)); refine wpList_store_new rfl 30 _ _ rfl cs3 rfl rfl (msg_size cs3 hs3) hs3.symm ho3 ?_)
    intro u4 h4 b4
    replace HM3 := hide (HM3.out.mono b4)
    replace HX := hide (HX.out.mono b4)
    replace HB := hide (HB.out.trans (b4.mono (Nat.le_of_lt (lt_of_block e1))))
    replace HM := hide (HM.out.mono b4)
    replace e1 := (b4.block r (lt_of_block e1)).trans e1
    clear b4 hz2
    generalize u3.heap.size = g3 at *
    by_cases hE : E = 0
    · subst hE
      obtain ⟨hw, hc⟩ := HT.out rfl
      have HW := hide hw
      have HC := hide hc
      clear HT HZr hw hc
      go_wp2_with ((with_reducible (show wpList _ _ _ ({ dst := _, op := Op.load _ _, type := _, pos := _, after := _, guard := _ } :: _) _ _)); refine wpList_load_rowG (by rfl) 30 _ rfl g3 rfl cs3 (load_whole h4 hs3) ?_)
      refine (Mei.code_write 1 _ x _ HM3.out HSx.out).mono ?_
      rintro e u5 ⟨⟨a5, l5, c5, rfl, hx5⟩, b5⟩
      rw [HW.out] at hx5 ⊢
      replace hx5 : Bs u5 a5 l5 c5 xs := hx5
      replace HX := hide (HX.out.mono b5)
      replace h4 := (b5.block g3 (lt_of_block h4)).trans h4
      replace HB := hide (HB.out.trans (b5.mono (Nat.le_of_lt (lt_of_block e1))))
      replace e1 := (b5.block r (lt_of_block e1)).trans e1
      replace HM := hide (HM.out.mono b5)
      replace HM3 := hide (HM3.out.mono b5)
      have q5 : Mei.errW (some xs) = 0 := rfl
      rw [q5]
      clear b5 q5 HW
      have k5 : u5.cell? ⟨g3, 0, none⟩ = some (.int .u8 (c.toNat : Int)) := by
        have hb : MB 30 u5 g3 x := ⟨cs3, h4, HM3.out⟩
        rw [hb.c_code, HC.out]
      go_wp2_with fail
      refine (same_any _ _ _ _ _ _ _ _ _ hx5 HX.out).mono ?_
      rintro e u5' ⟨rfl, hu5⟩
      subst hu5
      rw [decide_eq_true (rfl : xs = xs)]
      clear hx5
      go_wp2_with ((with_reducible (show wpList _ _ _ ({ dst := _, op := Op.load _ _, type := _, pos := _, after := _, guard := _ } :: _) _ _)); refine wpList_load_rowG (by rfl) 30 _ rfl r rfl cs (load_whole e1 hsz) ?_)
      refine (Mei.code_write 1 _ m3 _ HM.out hs).mono ?_
      rintro e u6 ⟨⟨a6, l6, c6, rfl, hx6⟩, b6⟩
      replace h4 := (b6.block g3 (lt_of_block h4)).trans h4
      replace HB := hide (HB.out.trans (b6.mono (Nat.le_of_lt (lt_of_block e1))))
      replace e1 := (b6.block r (lt_of_block e1)).trans e1
      replace HM := hide (HM.out.mono b6)
      replace HM3 := hide (HM3.out.mono b6)
      have HBk : Hid (∀ b, Mei.write 1 m3 = some b → Mei.parse 1 m3.code b = (m3, 0) ∧ b.length ≤ 100000) := hide (fun b h => ⟨Mei.back h, Nat.le_trans (Mei.write_len h) (by omega)⟩)
      have HX6 := hide hx6
      clear b6 hx6
      generalize Mei.write 1 m3 = R at *
      cases R with
      | none =>
        have hl6 : l6 = 0 := HX6.out.hlen.symm
        subst hl6
        have q1 : Mei.errW none = 1 := rfl
        rw [q1]
        clear HBk HX6 q1
        go_wp2
        go_ret
        exact ⟨rfl, by rw [hr]; exact HB.out⟩
      | some b =>
        obtain ⟨hp, hbl⟩ := HBk.out b rfl
        have hl6 : l6 ≤ 100000 := by rw [← HX6.out.hlen]; exact hbl
        have q1 : Mei.errW (some b) = 0 := rfl
        rw [q1]
        replace HX6 : Hid (Bs u6 a6 l6 c6 b) := HX6
        have HP := hide hp
        have k6 : u6.cell? ⟨r, 0, none⟩ = some (byteV m3.code) := (cell_of_row u6 r 0 _ _ _ e1).trans HC0.out
        clear HBk q1 hp hbl
        go_wp2_with fail
        refine (Mei.code_parse 1 m3.code _ _ _ b _ HX6.out hl6).mono ?_
        rintro e u7 ⟨⟨v7, rfl, hm7⟩, b7⟩
        rw [HP.out] at hm7 ⊢
        obtain ⟨cs7, rfl, hs7, ho7, _⟩ := hm7.agg
        have HM7 := hide hm7
        replace h4 := (b7.block g3 (lt_of_block h4)).trans h4
        replace HB := hide (HB.out.trans (b7.mono (Nat.le_of_lt (lt_of_block e1))))
        replace e1 := (b7.block r (lt_of_block e1)).trans e1
        replace HM := hide (HM.out.mono b7)
        replace HM3 := hide (HM3.out.mono b7)
        clear b7 hm7 k6 HX6 HP
        go_wp2_with ((with_reducible (show wpList _ _ _ ({ dst := _, op := Op.store _ _ _, type := _, pos := _, after := _, guard := _ } :: _) _ _)); refine wpList_store_new rfl 30 _ _ rfl cs7 rfl rfl (msg_size cs7 hs7) hs7.symm ho7 ?_)
        intro u8 h8 b8
        replace HM7 := hide (HM7.out.mono b8)
        replace h4 := (b8.block g3 (lt_of_block h4)).trans h4
        replace HB := hide (HB.out.trans (b8.mono (Nat.le_of_lt (lt_of_block e1))))
        replace e1 := (b8.block r (lt_of_block e1)).trans e1
        replace HM := hide (HM.out.mono b8)
        replace HM3 := hide (HM3.out.mono b8)
        clear b8
        generalize u7.heap.size = g7 at *
        go_wp2_with ((with_reducible (show wpList _ _ _ ({ dst := _, op := Op.load _ _, type := _, pos := _, after := _, guard := _ } :: _) _ _)); first | (refine wpList_load_rowG (by rfl) 30 _ rfl g7 rfl cs7 (load_whole h8 hs7) ?_) | (refine wpList_load_rowG (by rfl) 30 _ rfl r rfl cs (load_whole e1 hsz) ?_))
        refine (refSame_any _ _ m3 m3 _ HM7.out HM.out).mono ?_
        rintro e u10 ⟨rfl, b10⟩
        rw [(MsgM.same_iff m3 m3).2 rfl]
        replace h4 := (b10.block g3 (lt_of_block h4)).trans h4
        replace HB := hide (HB.out.trans (b10.mono (Nat.le_of_lt (lt_of_block e1))))
        replace e1 := (b10.block r (lt_of_block e1)).trans e1
        replace HM := hide (HM.out.mono b10)
        replace HM3 := hide (HM3.out.mono b10)
        clear b10 h8
        go_wp2
        go_ret
        exact ⟨rfl, by rw [hr]; exact HB.out⟩
    · have hE' : (E == 0) = false := by simpa using hE
      have HX0 := hide (HZr.out hE)
      clear HT HZr HX
      go_wp2_with ((with_reducible (show wpList _ _ _ ({ dst := _, op := Op.load _ _, type := _, pos := _, after := _, guard := _ } :: _) _ _)); refine wpList_load_rowG (by rfl) 30 _ rfl r rfl cs (load_whole e1 hsz) ?_)
      refine (Mei.code_write 1 _ m3 _ HM.out hs).mono ?_
      rintro e u6 ⟨⟨a6, l6, c6, rfl, hx6⟩, b6⟩
      replace h4 := (b6.block g3 (lt_of_block h4)).trans h4
      replace HB := hide (HB.out.trans (b6.mono (Nat.le_of_lt (lt_of_block e1))))
      replace e1 := (b6.block r (lt_of_block e1)).trans e1
      replace HM := hide (HM.out.mono b6)
      replace HM3 := hide (HM3.out.mono b6)
      have HBk : Hid (∀ b, Mei.write 1 m3 = some b → Mei.parse 1 m3.code b = (m3, 0) ∧ b.length ≤ 100000) := hide (fun b h => ⟨Mei.back h, Nat.le_trans (Mei.write_len h) (by omega)⟩)
      have HX6 := hide hx6
      clear b6 hx6
      generalize Mei.write 1 m3 = R at *
      cases R with
      | none =>
        have hl6 : l6 = 0 := HX6.out.hlen.symm
        subst hl6
        have q1 : Mei.errW none = 1 := rfl
        rw [q1]
        clear HBk HX6 q1
        go_wp2_with ((with_reducible (show wpList _ _ _ ({ dst := _, op := Op.load _ _, type := _, pos := _, after := _, guard := _ } :: _) _ _)); refine wpList_load_rowG (by rfl) 30 _ rfl g3 rfl cs3 (load_whole h4 hs3) ?_)
        refine (refSame_any _ _ x MsgM.zero _ HM3.out (MsgAt.zero _)).mono ?_
        rintro e u9 ⟨rfl, b9⟩
        rw [HX0.out, (MsgM.same_iff MsgM.zero MsgM.zero).2 rfl]
        replace HB := hide (HB.out.trans (b9.mono (Nat.le_of_lt (lt_of_block e1))))
        go_wp2
        go_ret
        exact ⟨rfl, by rw [hr]; exact HB.out⟩
      | some b =>
        obtain ⟨hp, hbl⟩ := HBk.out b rfl
        have hl6 : l6 ≤ 100000 := by rw [← HX6.out.hlen]; exact hbl
        have q1 : Mei.errW (some b) = 0 := rfl
        rw [q1]
        replace HX6 : Hid (Bs u6 a6 l6 c6 b) := HX6
        have HP := hide hp
        have k6 : u6.cell? ⟨r, 0, none⟩ = some (byteV m3.code) := (cell_of_row u6 r 0 _ _ _ e1).trans HC0.out
        clear HBk q1 hp hbl
        go_wp2_with fail
        refine (Mei.code_parse 1 m3.code _ _ _ b _ HX6.out hl6).mono ?_
        rintro e u7 ⟨⟨v7, rfl, hm7⟩, b7⟩
        rw [HP.out] at hm7 ⊢
        obtain ⟨cs7, rfl, hs7, ho7, _⟩ := hm7.agg
        have HM7 := hide hm7
        replace h4 := (b7.block g3 (lt_of_block h4)).trans h4
        replace HB := hide (HB.out.trans (b7.mono (Nat.le_of_lt (lt_of_block e1))))
        replace e1 := (b7.block r (lt_of_block e1)).trans e1
        replace HM := hide (HM.out.mono b7)
        replace HM3 := hide (HM3.out.mono b7)
        clear b7 hm7 k6 HX6 HP
        go_wp2_with ((with_reducible (show wpList _ _ _ ({ dst := _, op := Op.store _ _ _, type := _, pos := _, after := _, guard := _ } :: _) _ _)); refine wpList_store_new rfl 30 _ _ rfl cs7 rfl rfl (msg_size cs7 hs7) hs7.symm ho7 ?_)
        intro u8 h8 b8
        replace HM7 := hide (HM7.out.mono b8)
        replace h4 := (b8.block g3 (lt_of_block h4)).trans h4
        replace HB := hide (HB.out.trans (b8.mono (Nat.le_of_lt (lt_of_block e1))))
        replace e1 := (b8.block r (lt_of_block e1)).trans e1
        replace HM := hide (HM.out.mono b8)
        replace HM3 := hide (HM3.out.mono b8)
        clear b8
        generalize u7.heap.size = g7 at *
        go_wp2_with ((with_reducible (show wpList _ _ _ ({ dst := _, op := Op.load _ _, type := _, pos := _, after := _, guard := _ } :: _) _ _)); first | (refine wpList_load_rowG (by rfl) 30 _ rfl g7 rfl cs7 (load_whole h8 hs7) ?_) | (refine wpList_load_rowG (by rfl) 30 _ rfl r rfl cs (load_whole e1 hsz) ?_))
        refine (refSame_any _ _ m3 m3 _ HM7.out HM.out).mono ?_
        rintro e u10 ⟨rfl, b10⟩
        rw [(MsgM.same_iff m3 m3).2 rfl]
        replace h4 := (b10.block g3 (lt_of_block h4)).trans h4
        replace HB := hide (HB.out.trans (b10.mono (Nat.le_of_lt (lt_of_block e1))))
        replace e1 := (b10.block r (lt_of_block e1)).trans e1
        replace HM := hide (HM.out.mono b10)
        replace HM3 := hide (HM3.out.mono b10)
        clear b10 h8
        go_wp2_with ((with_reducible (show wpList _ _ _ ({ dst := _, op := Op.load _ _, type := _, pos := _, after := _, guard := _ } :: _) _ _)); refine wpList_load_rowG (by rfl) 30 _ rfl g3 rfl cs3 (load_whole h4 hs3) ?_)
        refine (refSame_any _ _ x MsgM.zero _ HM3.out (MsgAt.zero _)).mono ?_
        rintro e u9 ⟨rfl, b9⟩
        rw [HX0.out, (MsgM.same_iff MsgM.zero MsgM.zero).2 rfl]
        replace HB := hide (HB.out.trans (b9.mono (Nat.le_of_lt (lt_of_block e1))))
        go_wp2
        go_ret
        exact ⟨rfl, by rw [hr]; exact HB.out⟩

/-! ### THE ROW's STEP: WRITTEN OUT: LEAVE IT -/
set_option maxRecDepth 100000 in
theorem lifted (os : Os) (started : os.Started) (H : Type) (enc : TypeId × Value → H) :
    ReturnsInHanded {} Try.checked os 5 .any (Rows.meiBackSpec.pre6 enc Try.prog Try.f5 Rows.meiBackRow.domain false) (Rows.meiBackSpec.post enc Try.prog Try.f5 false true false false) := by
  refine returnsInHanded_of_change (C := Try.checked) own started (by kernel_rfl) Try.func5
    (ChangeSpec.witness6 (enc := enc) (C := Try.checked) false ⟨#[], #[.bool false, .int .u8 0, .slice none 0 0, .agg #[.int .u8 0, .int .u8 0, .int .u16 0, .int .u16 0, .int .u16 0, .int .u16 0, .int .u16 0, .int .u16 0, .int .u16 0, .int .u16 0, .int .u16 0, .int .u16 0, .slice none 0 0, .slice none 0 0, .slice none 0 0, .slice none 0 0, .int .u8 0, .int .u8 0, .int .u8 0, .int .u8 0, .int .u8 0, .slice none 0 0]], []⟩ 8 (by kernel_rfl) (by kernel_rfl) (by kernel_rfl) (by kernel_rfl)) ?_
  intro W base args ds gs before hval0 hW hcnd _
  have hval : ∀ (j : Nat) t v, Try.f5.params[j]? = some t → args[j]? = some v → Value.okWide Try.prog W .any base t v := hval0
  have hW' := hW
  obtain ⟨p, q, hA0, hV, rfl, hfz, hnd⟩ := hW
  have hA : DataW.TrodAll enc Try.prog W 0 (fun _ => true) true Try.f5.params.toList args.toList ds p := hA0
  rw [Try.params5] at hA hval
  obtain ⟨v0, vs0, d0, ds0, p0, q0, hargs, rfl, rfl, h0, r0⟩ := trodAll_cons hA
  obtain ⟨v1, vs1, d1, ds1, p1, q1, rfl, rfl, rfl, h1, r1⟩ := trodAll_cons r0
  obtain ⟨v2, vs2, d2, ds2, p2, q2, rfl, rfl, rfl, h2, r2⟩ := trodAll_cons r1
  obtain ⟨v3, vs3, d3, ds3, p3, q3, rfl, rfl, rfl, h3, r3⟩ := trodAll_cons r2
  obtain ⟨rfl, rfl, rfl⟩ := trodAll_nil r3
  obtain rfl : args = #[v0, v1, v2, v3] := by cases args; simp_all
  obtain ⟨rfl, rfl⟩ := trodVars_none hV
  obtain ⟨a0, rfl, rfl, rfl⟩ := open_bool Try.underlying4 (hval 0 4 v0 rfl rfl) h0
  obtain ⟨a1, rfl, rfl, rfl, w1⟩ := open_int Try.underlying5 (hval 1 5 v1 rfl rfl) h1
  obtain ⟨a2, len2, cap2, rfl⟩ := okWide_slice Try.underlying22 (hval 2 22 v2 rfl rfl)
  have k2 := h2
  have lt2 : ∀ x ∈ p2, x.block < W.heap.size := by obtain ⟨m, hm⟩ := k2; exact DataW.trod_lt m _ _ _ hm
  obtain ⟨z2, w2⟩ : ∃ zs, IsRow .u8 W a2 len2 cap2 zs := by
    obtain ⟨fuel, hf⟩ := h2
    rcases open_ints Try.underlying22 Try.underlying5 (by kernel_rfl) hf with ⟨hcs, _⟩ | ⟨x, l, c, zs, hcs, _, hl, hm, hz, _, hcell, hwz⟩
    · simp [Value.cells] at hcs
      obtain ⟨rfl, rfl, rfl⟩ := hcs
      exact ⟨[], .inl ⟨rfl, rfl, rfl, rfl⟩⟩
    · simp [Value.cells] at hcs
      obtain ⟨rfl, rfl, rfl⟩ := hcs
      exact ⟨zs, .inr ⟨_, rfl, hl, hm, by simpa using hz, hcell, hwz⟩⟩
  have k3 := h3
  have lt3 : ∀ x ∈ p3, x.block < W.heap.size := by obtain ⟨m, hm⟩ := k3; exact DataW.trod_lt m _ _ _ hm
  obtain ⟨m3, w3⟩ := MsgAt.ofTrod (hval 3 30 v3 rfl rfl) h3
  clear hA0 hval0
  refine (walk a0 a1 a2 len2 cap2 z2 v3 m3 W w1 w2 w3).mono fun e W' ⟨he, bel⟩ => ?_
  subst he
  exact ⟨_, rfl, _, _, _, [], _, [], hW', trodAll_mk1 (shut_bool Try.underlying4 _), (trodAll_cons_mk (shut_bool Try.underlying4 _) (trodAll_cons_mk (shut_int Try.underlying5 w1) (trodAll_cons_mk (Below.trod laidOut (by kernel_rfl) (of_decide_eq_true (by kernel_rfl)) k2 bel lt2) (trodAll_cons_mk (Below.trod laidOut (by kernel_rfl) (of_decide_eq_true (by kernel_rfl)) k3 bel lt3) trodAll_mk0)))), rfl, bel.frame _, fun h => by cases h⟩

theorem over : Rows.meiBackRow.holds Try.pinned (OpenSpec.ofChange Rows.meiBackSpec) :=
  OpenClaim.holds_of_wide 5 Try.f5 rfl rfl rfl rfl rfl rfl rfl ⟨rfl, rfl, rfl, rfl, rfl⟩ rfl rfl rfl rfl rfl (by kernel_rfl) Try.func5 (by kernel_rfl)
    (of_decide_eq_true (by kernel_rfl)) (by unfold Func.isWrapper; first | (rw [if_pos (by decide +kernel)]; kernel_rfl) | (rw [if_neg (by decide +kernel)]; exact ⟨rfl, rfl⟩))
    (fun os started H enc _ => lifted os started H enc)

/-- ████ THE STATEMENT ████ -/
theorem proved : Rows.MeiBackSaid := over
#print axioms proved
end Go.Proofs.Ytaokbaddleplfaa.meiBack
