/-
  The code's refusal: its first fields, and Parse.
-/
import Derived.Test.YtjacnghndnkcnaaFusMath
import Derived.Test.YtjacnghndnkcnaaTold
import Derived.Test.YtjacnghndnkcnaaMsgRow
import Derived.Test.YtjacnghndnkcnaaMsgBox
import Derived.Test.YtjacnghndnkcnaaStoreStep
import Derived.Laws.BitsAllLaws
import Derived.Deep.CutBlock
import Derived.Deep.DeepCutAuto
namespace Go.Proofs.Ytjacnghndnkcnaa
open Go.RowKit

namespace Fus
theorem xor_bad : ∀ n < 256, n ^^^ 128 = if n < 128 then n + 128 else n - 128 := by decide +kernel
theorem pub_xor {n : Nat} (hn : n < 256) (h : pub (n ^^^ 128) = false) : n < 128 ∨ pub (n - 128) = false := by
  rw [xor_bad n hn] at h
  by_cases h1 : n < 128
  · exact .inl h1
  · rw [if_neg h1] at h
    exact .inr h
theorem pub_xor_true {n : Nat} (hn : n < 256) (h : pub (n ^^^ 128) = true) : ¬ n < 128 ∧ n ^^^ 128 = n - 128 ∧ ¬ (n < 128 ∨ pub (n - 128) = false) := by
  rw [xor_bad n hn] at h ⊢
  by_cases h1 : n < 128
  · rw [if_pos h1] at h
    have := pub_lt h
    omega
  · rw [if_neg h1] at h ⊢
    exact ⟨h1, rfl, fun hh => hh.elim h1 (by rw [h]; decide)⟩
end Fus

theorem firstMsg_any (k j : Nat) (w : World) :
    Calls Try.prog 20 #[.agg #[.int .u8 (k : Int), .int .u8 (j : Int)]] w fun e w' => e = .returned (.agg (Fus.cells k j)) ∧ Below w.heap.size w w' := by
  go_enter Try.func20, Try.ntmps20
  go_wp2_with ((with_reducible show wpList _ _ _ (⟨_, .store _ _ _, _, _, _, _⟩ :: _) _ _); refine wpList_store_lies rfl 30 _ _ rfl (w.heap.size + 1) (Fus.cells k j) rfl rfl _ _ (heap_alloc2_new _ _ _) (msg_size _ rfl) rfl (Fus.cells_one k j) ?_)
  intro w3 h3 b3 n3 z3
  go_wp2
  (try simp only [Exit.inBlock, Exit.then])
  exact bodyPost_ret (results_row Try.results20 _ _ (w.heap.size + 1) _ _ _ _ rfl h3 Try.underlying30 rfl (msg_size _ rfl)) rfl ⟨rfl, (((Below.refl _ _).alloc (Nat.le_refl _) _).alloc (by simp) _).trans (b3 _ (by omega))⟩

theorem first_size (k j : Value) : (Try.prog.info? 45).map (·.size) = some (#[k, j] : Array Value).size := by kernel_rfl

theorem firstOf_any (cs : Array Value) (m : MsgM) (w : World) (hm : MsgAt w (.agg cs) m) :
    Calls Try.prog 23 #[.agg cs] w fun e w' => e = .returned (.agg #[byteV m.code, byteV m.fail]) ∧ Below w.heap.size w w' := by
  have ba := (Below.refl (w.heap.size + 1) (w.alloc (.cells cs 30 (0, 0)))).alloc (by simp) (.cells #[.int .u8 0, .int .u8 0] 45 (0, 0))
  have b0 := ((Below.refl w.heap.size w).alloc (Nat.le_refl _) (.cells cs 30 (0, 0))).trans (ba.mono (by omega))
  have hMB := (MB.made w cs hm 30).mono (ba.mono (by simp))
  have e1 := heap_alloc2_new w (.cells cs 30 (0, 0)) (.cells #[.int .u8 0, .int .u8 0] 45 (0, 0))
  have k0 := hMB.c_code
  have k1 := hMB.c_fail
  simp only [byteV] at k0 k1 ⊢
  generalize m.code.toNat = k at *
  generalize m.fail.toNat = j at *
  clear hm hMB ba
  go_enter Try.func23, Try.ntmps23
  go_upto_region 1 with (refine wpList_boxC rfl 30 _ rfl cs rfl ?_)
  generalize (w.alloc (.cells cs 30 (0, 0))).alloc (.cells #[.int .u8 0, .int .u8 0] 45 (0, 0)) = u at *
  go_wp2_with ((with_reducible show wpList _ _ _ (⟨_, .store _ _ _, _, _, _, _⟩ :: _) _ _); refine wpList_store_lies rfl 45 _ _ rfl (w.heap.size + 1) #[.int .u8 (k : Int), .int .u8 (j : Int)] rfl rfl _ _ e1 (first_size _ _) rfl (by simp [Value.oneCell']) ?_)
  intro w3 h3 b3 n3 z3
  go_wp2
  (try simp only [Exit.inBlock, Exit.then])
  exact bodyPost_ret (results_row Try.results23 _ _ (w.heap.size + 1) _ _ _ _ rfl h3 Try.underlying45 rfl (first_size _ _)) rfl ⟨rfl, b0.trans (b3 _ (by omega))⟩

set_option maxRecDepth 20000 in
set_option maxHeartbeats 4000000 in
theorem fusParse_own (a : Option Addr) (len cap : Nat) (xs : List UInt8) (w : World) (hx : Bs w a len cap xs) (hl : len ≤ 100000) :
    Calls Try.prog 8 #[.slice a len cap] w fun e w' =>
      (∃ v, e = .returned (.tuple #[v, .int .i64 (Fus.parse xs).2]) ∧ Told w.heap.size a len cap xs w' v (Fus.parse xs).1) ∧ Below w.heap.size w w' := by
  obtain ⟨R, hR⟩ : ∃ R, R = Fus.parse xs := ⟨_, rfl⟩
  rw [← hR]
  have HR := hide hR
  clear hR
  have e0 := heap_alloc_new w (.cells zeroCells 30 (0, 0))
  have b0 := (Below.refl w.heap.size w).alloc (Nat.le_refl _) (.cells zeroCells 30 (0, 0))
  replace hx := hx.mono b0
  have hle := hx.hle
  cases xs with
  | nil =>
    obtain rfl : len = 0 := hx.hlen.symm
    have hR : Hid (R = (MsgM.zero, 2)) := hide (by rw [HR.out]; rfl)
    clear HR hx
    go_enter Try.func8, Try.ntmps8
    go_upto_region 1 with fail
    generalize w.alloc (.cells zeroCells 30 (0, 0)) = u at *
    go_wp2_with ((with_reducible show wpList _ _ _ (⟨_, .store _ _ _, _, _, _, _⟩ :: _) _ _); refine wpList_store_lies rfl 30 _ _ rfl w.heap.size zeroCells rfl rfl _ _ e0 (msg_size _ rfl) rfl zero_one ?_)
    intro w3 h3 b3 n3 z3
    go_wp2
    (try simp only [Exit.inBlock, Exit.then])
    rw [hR.out]
    exact bodyPost_ret (results_row_tmp Try.results8 _ _ w.heap.size _ _ _ _ rfl h3 Try.underlying30 rfl (msg_size _ rfl) _ rfl) rfl ⟨⟨_, rfl, fun u _ _ _ => MsgAt.zero u⟩, b0.trans (b3 _ (Nat.le_refl _))⟩
  | cons x r =>
    have hlen := hx.hlen
    obtain ⟨b, off, rfl, hbl, hc0⟩ := hx.hcell 0 (by simp)
    obtain ⟨n, hn⟩ : ∃ n : Nat, n = x.toNat := ⟨_, rfl⟩
    have hnb : n < 256 := by rw [hn]; exact byte_lt x
    obtain ⟨k, hk⟩ : ∃ k : Nat, k = n ^^^ 128 := ⟨_, rfl⟩
    have hkb : k < 256 := by rw [hk]; exact Nat.xor_lt_two_pow (n := 8) hnb (by decide)
    have hxr : bits .xor .u8 (n : Int) 128 = (k : Int) := by rw [hk]; exact u8_xor_nat n 128 hnb (by decide)
    have c0 : (w.alloc (.cells zeroCells 30 (0, 0))).cell? ⟨b, off, none⟩ = some (.int .u8 (n : Int)) := by rw [hn]; simpa using hc0
    have hl1 : 1 ≤ len := by rw [← hlen]; simp
    have q1 : ((len : Int) == 0) = false := by simp; omega
    have q1b : (0 : Int) < (len : Int) := by omega
    have HX := hide hx
    have HL := hide hlen
    have HN := hide hn
    have HK := hide hk
    clear hx hlen hc0 hn hk
    go_enter Try.func8, Try.ntmps8
    go_upto_region 1 with fail
    generalize w.alloc (.cells zeroCells 30 (0, 0)) = u at *
    have z0 := lt_of_block e0
    go_wp2_with fail
    refine (public_any k hkb u).mono ?_
    rintro e u1 ⟨rfl, b1⟩
    replace e0 := (b1.block _ z0).trans e0
    replace b0 := below_next b0 b1 (Nat.le_refl _)
    replace HX := hide (HX.out.mono b1)
    have z1 := lt_of_block e0
    clear b1 z0 c0
    cases hp : pub k with
    | false =>
      have hR : Hid (R = (MsgM.zero, 4)) := hide (by rw [HR.out, Fus.parse_cons, if_pos (by rw [← HN.out]; exact Fus.pub_xor hnb (by rw [← HK.out]; exact hp))])
      clear HR hp
      go_wp2_with ((with_reducible show wpList _ _ _ (⟨_, .store _ _ _, _, _, _, _⟩ :: _) _ _); refine wpList_store_lies rfl 30 _ _ rfl w.heap.size zeroCells rfl rfl _ _ e0 (msg_size _ rfl) rfl zero_one ?_)
      intro w3 h3 b3 n3 z3
      go_wp2
      (try simp only [Exit.inBlock, Exit.then])
      rw [hR.out]
      exact bodyPost_ret (results_row_tmp Try.results8 _ _ w.heap.size _ _ _ _ rfl h3 Try.underlying30 rfl (msg_size _ rfl) _ rfl) rfl ⟨⟨_, rfl, fun u _ _ _ => MsgAt.zero u⟩, b0.trans (b3 _ (Nat.le_refl _))⟩
    | true =>
      have hpx := Fus.pub_xor_true hnb (by rw [← HK.out]; exact hp)
      have HP : Hid (¬ (x.toNat < 128 ∨ pub (x.toNat - 128) = false)) := hide (by rw [← HN.out]; exact hpx.2.2)
      have HC : Hid (byteV (x - 128) = .int .u8 (k : Int)) := hide (by rw [Fus.byte_sub (by rw [← HN.out]; omega), ← HN.out, HK.out, hpx.2.1])
      clear hp hpx
      cases r with
      | nil =>
        obtain rfl : len = 1 := by have := HL.out; simpa using this.symm
        have hR : Hid (R = (MsgM.zero, 2)) := hide (by rw [HR.out, Fus.parse_cons, if_neg HP.out]; rfl)
        clear HR HL
        go_wp2_with ((with_reducible show wpList _ _ _ (⟨_, .store _ _ _, _, _, _, _⟩ :: _) _ _); refine wpList_store_lies rfl 30 _ _ rfl w.heap.size zeroCells rfl rfl _ _ e0 (msg_size _ rfl) rfl zero_one ?_)
        intro w3 h3 b3 n3 z3
        go_wp2
        (try simp only [Exit.inBlock, Exit.then])
        rw [hR.out]
        exact bodyPost_ret (results_row_tmp Try.results8 _ _ w.heap.size _ _ _ _ rfl h3 Try.underlying30 rfl (msg_size _ rfl) _ rfl) rfl ⟨⟨_, rfl, fun u _ _ _ => MsgAt.zero u⟩, b0.trans (b3 _ (Nat.le_refl _))⟩
      | cons y r' =>
        have hl2 : 2 ≤ len := by rw [← HL.out]; simp
        obtain ⟨b', off', hb', hbl', hc1⟩ := HX.out.hcell 1 (by simp)
        injection hb' with hb'
        injection hb' with e1 e2 e3
        subst e1 e2
        obtain ⟨j, hj⟩ : ∃ j : Nat, j = y.toNat := ⟨_, rfl⟩
        have hjb : j < 256 := by rw [hj]; exact byte_lt y
        have c1 : u1.cell? ⟨b, off + 1, none⟩ = some (.int .u8 (j : Int)) := by rw [hj]; simpa using hc1
        have q5 : ((len : Int) == 1) = false := by simp; omega
        have q6 : (1 : Int) < (len : Int) := by omega
        have HJ := hide hj
        clear hj hc1
        go_wp2_with fail
        refine (failure_any j hjb u1).mono ?_
        rintro e u2 ⟨rfl, b2⟩
        have c2 := (b2.cell (p := ⟨b, off + 1, none⟩) hbl').trans c1
        replace e0 := (b2.block _ z1).trans e0
        replace b0 := below_next b0 b2 (Nat.le_refl _)
        have z2 := lt_of_block e0
        clear b2 z1 c1
        cases hf : fails j with
        | false =>
          have hR : Hid (R = (MsgM.zero, 6)) := hide (by rw [HR.out, Fus.parse_cons, if_neg HP.out, Fus.second_cons, if_pos (by rw [← HJ.out]; exact hf)])
          clear HR hf
          go_wp2_with ((with_reducible show wpList _ _ _ (⟨_, .store _ _ _, _, _, _, _⟩ :: _) _ _); refine wpList_store_lies rfl 30 _ _ rfl w.heap.size zeroCells rfl rfl _ _ e0 (msg_size _ rfl) rfl zero_one ?_)
          intro w3 h3 b3 n3 z3
          go_wp2
          (try simp only [Exit.inBlock, Exit.then])
          rw [hR.out]
          exact bodyPost_ret (results_row_tmp Try.results8 _ _ w.heap.size _ _ _ _ rfl h3 Try.underlying30 rfl (msg_size _ rfl) _ rfl) rfl ⟨⟨_, rfl, fun u _ _ _ => MsgAt.zero u⟩, b0.trans (b3 _ (Nat.le_refl _))⟩
        | true =>
          have HF : Hid (¬ fails y.toNat = false) := hide (by rw [← HJ.out, hf]; decide)
          clear hf
          by_cases h3 : len = 2
          · subst h3
            have hr : r' = [] := by have := HL.out; simpa using this
            subst hr
            have hR : Hid (R = ((MsgM.of (x - 128)).put_fail y, 0)) := hide (by rw [HR.out, Fus.parse_cons, if_neg HP.out, Fus.second_cons, if_neg HF.out]; rfl)
            have HD : Hid (byteV y = .int .u8 (j : Int)) := hide (by rw [HJ.out])
            clear HR HL
            go_wp2_with fail
            refine (firstMsg_any k j u2).mono ?_
            rintro e u3 ⟨rfl, b3'⟩
            replace e0 := (b3'.block _ z2).trans e0
            replace b0 := below_next b0 b3' (Nat.le_refl _)
            clear b3' z2
            go_wp2_with ((with_reducible show wpList _ _ _ (⟨_, .store _ _ _, _, _, _, _⟩ :: _) _ _); refine wpList_store_lies rfl 30 _ _ rfl w.heap.size (Fus.cells k j) rfl rfl _ _ e0 (msg_size _ rfl) rfl (Fus.cells_one k j) ?_)
            intro w3 h3 b3 n3 z3
            go_wp2
            (try simp only [Exit.inBlock, Exit.then])
            rw [hR.out]
            exact bodyPost_ret (results_row_tmp Try.results8 _ _ w.heap.size _ _ _ _ rfl h3 Try.underlying30 rfl (msg_size _ rfl) _ rfl) rfl ⟨⟨_, rfl, fun u _ _ _ => Fus.at_cells u HC.out HD.out⟩, b0.trans (b3 _ (Nat.le_refl _))⟩
          · have q7 : (2 : Int) < (len : Int) := by omega
            have hR : Hid (R = (MsgM.zero, 3)) := hide (by rw [HR.out, Fus.parse_cons, if_neg HP.out, Fus.second_cons, if_neg HF.out, if_pos (fun e => h3 (by have := HL.out; rw [e] at this; simpa using this.symm))])
            clear HR HL
            go_wp2_with ((with_reducible show wpList _ _ _ (⟨_, .store _ _ _, _, _, _, _⟩ :: _) _ _); refine wpList_store_lies rfl 30 _ _ rfl w.heap.size zeroCells rfl rfl _ _ e0 (msg_size _ rfl) rfl zero_one ?_)
            intro w3 h3 b3 n3 z3
            go_wp2
            (try simp only [Exit.inBlock, Exit.then])
            rw [hR.out]
            exact bodyPost_ret (results_row_tmp Try.results8 _ _ w.heap.size _ _ _ _ rfl h3 Try.underlying30 rfl (msg_size _ rfl) _ rfl) rfl ⟨⟨_, rfl, fun u _ _ _ => MsgAt.zero u⟩, b0.trans (b3 _ (Nat.le_refl _))⟩

theorem fusParse_any (a : Option Addr) (len cap : Nat) (xs : List UInt8) (w : World) (hx : Bs w a len cap xs) (hl : len ≤ 100000) :
    Calls Try.prog 8 #[.slice a len cap] w fun e w' =>
      (∃ v, e = .returned (.tuple #[v, .int .i64 (Fus.parse xs).2]) ∧ MsgAt w' v (Fus.parse xs).1) ∧ Below w.heap.size w w' := by
  refine (fusParse_own a len cap xs w hx hl).mono ?_
  rintro e w1 ⟨⟨v, h1, h2⟩, hb⟩
  exact ⟨⟨v, h1, h2.now hx hb⟩, hb⟩

end Go.Proofs.Ytjacnghndnkcnaa
