/-
  The document's own answers for refusal: Parse, Write.
-/
import Derived.Test.YtjacnghndnkcnaaFusMath
import Derived.Test.YtjacnghndnkcnaaTold
import Derived.Test.YtjacnghndnkcnaaCodeRef
import Derived.Test.YtjacnghndnkcnaaMsgRow
import Derived.Test.YtjacnghndnkcnaaMsgBox
import Derived.Test.YtjacnghndnkcnaaRefSame
import Derived.Test.YtjacnghndnkcnaaStoreStep
import Derived.Deep.CutBlock
import Derived.Deep.DeepCutAuto
namespace Go.Proofs.Ytjacnghndnkcnaa
open Go.RowKit

set_option maxRecDepth 20000 in
set_option maxHeartbeats 4000000 in
theorem fusRefParse_own (a : Option Addr) (len cap : Nat) (xs : List UInt8) (w : World) (hx : Bs w a len cap xs) (hl : len ≤ 100000) :
    Calls Try.prog 9 #[.slice a len cap] w fun e w' =>
      (∃ v, e = .returned (.tuple #[v, .int .i64 (Fus.parse xs).2]) ∧ Told w.heap.size a len cap xs w' v (Fus.parse xs).1) ∧ Below w.heap.size w w' := by
  obtain ⟨R, hR⟩ : ∃ R, R = Fus.parse xs := ⟨_, rfl⟩
  rw [← hR]
  have HR := hide hR
  clear hR
  have e0 := heap_alloc_new w (.cells zeroCells 30 (0, 0))
  have b0 := (Below.refl w.heap.size w).alloc (Nat.le_refl _) (.cells zeroCells 30 (0, 0))
  replace hx := hx.mono b0
  have hle := hx.hle
  cases xs with
  | nil =>
    obtain rfl : len = 0 := hx.hlen.symm
    have hR : Hid (R = (MsgM.zero, 2)) := hide (by rw [HR.out]; rfl)
    clear HR hx
    go_enter Try.func9, Try.ntmps9
    go_upto_region 1 with fail
    generalize w.alloc (.cells zeroCells 30 (0, 0)) = u at *
    go_wp2_with ((with_reducible show wpList _ _ _ (⟨_, .store _ _ _, _, _, _, _⟩ :: _) _ _); refine wpList_store_lies rfl 30 _ _ rfl w.heap.size zeroCells rfl rfl _ _ e0 (msg_size _ rfl) rfl zero_one ?_)
    intro w3 h3 b3 n3 z3
    go_wp2
    (try simp only [Exit.inBlock, Exit.then])
    rw [hR.out]
    exact bodyPost_ret (results_row_tmp Try.results9 _ _ w.heap.size _ _ _ _ rfl h3 Try.underlying30 rfl (msg_size _ rfl) _ rfl) rfl ⟨⟨_, rfl, fun u _ _ _ => MsgAt.zero u⟩, b0.trans (b3 _ (Nat.le_refl _))⟩
  | cons x r =>
    have hlen := hx.hlen
    obtain ⟨b, off, rfl, hbl, hc0⟩ := hx.hcell 0 (by simp)
    obtain ⟨n, hn⟩ : ∃ n : Nat, n = x.toNat := ⟨_, rfl⟩
    have hnb : n < 256 := by rw [hn]; exact byte_lt x
    have c0 : (w.alloc (.cells zeroCells 30 (0, 0))).cell? ⟨b, off, none⟩ = some (.int .u8 (n : Int)) := by rw [hn]; simpa using hc0
    have hl1 : 1 ≤ len := by rw [← hlen]; simp
    have q1 : ¬ (len : Int) < 1 := by omega
    have q1b : (0 : Int) < (len : Int) := by omega
    have HX := hide hx
    have HL := hide hlen
    have HN := hide hn
    clear hx hlen hc0 hn
    go_enter Try.func9, Try.ntmps9
    go_upto_region 1 with fail
    generalize w.alloc (.cells zeroCells 30 (0, 0)) = u at *
    by_cases h128 : n < 128
    · have hR : Hid (R = (MsgM.zero, 4)) := hide (by rw [HR.out, Fus.parse_cons, if_pos (.inl (by rw [← HN.out]; exact h128))])
      clear HR
      have q2 : (n : Int) - 128 < 0 := by omega
      have q3 : IntKind.i64.wrap ((n : Int) - 128) = (n : Int) - 128 := by rw [IntKind.wrap_i64]; omega
      go_wp2_with ((with_reducible show wpList _ _ _ (⟨_, .store _ _ _, _, _, _, _⟩ :: _) _ _); refine wpList_store_lies rfl 30 _ _ rfl w.heap.size zeroCells rfl rfl _ _ e0 (msg_size _ rfl) rfl zero_one ?_)
      intro w3 h3 b3 n3 z3
      go_wp2
      (try simp only [Exit.inBlock, Exit.then])
      rw [hR.out]
      exact bodyPost_ret (results_row_tmp Try.results9 _ _ w.heap.size _ _ _ _ rfl h3 Try.underlying30 rfl (msg_size _ rfl) _ rfl) rfl ⟨⟨_, rfl, fun u _ _ _ => MsgAt.zero u⟩, b0.trans (b3 _ (Nat.le_refl _))⟩
    obtain ⟨k, hk⟩ : ∃ k : Nat, n = k + 128 := ⟨n - 128, by omega⟩
    have hkb : k < 128 := by omega
    have q2 : ¬ ((k : Int) < 0) := by omega
    have q3 : IntKind.i64.wrap ((n : Int) - 128) = (k : Int) := by rw [IntKind.wrap_i64]; omega
    have q4 : IntKind.u8.wrap (k : Int) = (k : Int) := by rw [IntKind.wrap_u8]; omega
    have HK : Hid (x.toNat - 128 = k) := hide (by rw [← HN.out]; omega)
    have H128 : Hid (¬ x.toNat < 128) := hide (by rw [← HN.out]; omega)
    clear hk h128
    go_wp2_with fail
    refine (rpublic_any k u).mono ?_
    rintro e w1 ⟨rfl, rfl⟩
    cases hp : pub k with
    | false =>
      have hR : Hid (R = (MsgM.zero, 4)) := hide (by rw [HR.out, Fus.parse_cons, if_pos (.inr (by rw [HK.out]; exact hp))])
      clear HR hp
      go_wp2_with ((with_reducible show wpList _ _ _ (⟨_, .store _ _ _, _, _, _, _⟩ :: _) _ _); refine wpList_store_lies rfl 30 _ _ rfl w.heap.size zeroCells rfl rfl _ _ e0 (msg_size _ rfl) rfl zero_one ?_)
      intro w3 h3 b3 n3 z3
      go_wp2
      (try simp only [Exit.inBlock, Exit.then])
      rw [hR.out]
      exact bodyPost_ret (results_row_tmp Try.results9 _ _ w.heap.size _ _ _ _ rfl h3 Try.underlying30 rfl (msg_size _ rfl) _ rfl) rfl ⟨⟨_, rfl, fun u _ _ _ => MsgAt.zero u⟩, b0.trans (b3 _ (Nat.le_refl _))⟩
    | true =>
      have HP : Hid (¬ (x.toNat < 128 ∨ pub (x.toNat - 128) = false)) := hide (fun h => h.elim H128.out (by rw [HK.out, hp]; decide))
      clear hp
      cases r with
      | nil =>
        obtain rfl : len = 1 := by have := HL.out; simpa using this.symm
        have hR : Hid (R = (MsgM.zero, 2)) := hide (by rw [HR.out, Fus.parse_cons, if_neg HP.out]; rfl)
        clear HR HL
        go_wp2_with ((with_reducible show wpList _ _ _ (⟨_, .store _ _ _, _, _, _, _⟩ :: _) _ _); refine wpList_store_lies rfl 30 _ _ rfl w.heap.size zeroCells rfl rfl _ _ e0 (msg_size _ rfl) rfl zero_one ?_)
        intro w3 h3 b3 n3 z3
        go_wp2
        (try simp only [Exit.inBlock, Exit.then])
        rw [hR.out]
        exact bodyPost_ret (results_row_tmp Try.results9 _ _ w.heap.size _ _ _ _ rfl h3 Try.underlying30 rfl (msg_size _ rfl) _ rfl) rfl ⟨⟨_, rfl, fun u _ _ _ => MsgAt.zero u⟩, b0.trans (b3 _ (Nat.le_refl _))⟩
      | cons y r' =>
        obtain ⟨b', off', hab, _, hc1⟩ := HX.out.hcell 1 (by simp)
        cases hab
        obtain ⟨j, hj⟩ : ∃ j : Nat, j = y.toNat := ⟨_, rfl⟩
        have hjb : j < 256 := by rw [hj]; exact byte_lt y
        have c1 : w1.cell? ⟨b, off + 1, none⟩ = some (.int .u8 (j : Int)) := by rw [hj]; simpa using hc1
        have hl2 : 2 ≤ len := by have := HL.out; simp at this; omega
        have q5 : ¬ (len : Int) < 2 := by omega
        have q6 : (1 : Int) < (len : Int) := by omega
        have HJ := hide hj
        clear hc1 hj
        go_wp2_with fail
        refine (rfailure_any j w1).mono ?_
        rintro e w2 ⟨rfl, rfl⟩
        cases hf : fails j with
        | false =>
          have hR : Hid (R = (MsgM.zero, 6)) := hide (by rw [HR.out, Fus.parse_cons, if_neg HP.out, Fus.second_cons, if_pos (by rw [← HJ.out]; exact hf)])
          clear HR hf
          go_wp2_with ((with_reducible show wpList _ _ _ (⟨_, .store _ _ _, _, _, _, _⟩ :: _) _ _); refine wpList_store_lies rfl 30 _ _ rfl w.heap.size zeroCells rfl rfl _ _ e0 (msg_size _ rfl) rfl zero_one ?_)
          intro w3 h3 b3 n3 z3
          go_wp2
          (try simp only [Exit.inBlock, Exit.then])
          rw [hR.out]
          exact bodyPost_ret (results_row_tmp Try.results9 _ _ w.heap.size _ _ _ _ rfl h3 Try.underlying30 rfl (msg_size _ rfl) _ rfl) rfl ⟨⟨_, rfl, fun u _ _ _ => MsgAt.zero u⟩, b0.trans (b3 _ (Nat.le_refl _))⟩
        | true =>
          have HF : Hid (¬ fails y.toNat = false) := hide (by rw [← HJ.out, hf]; decide)
          clear hf
          by_cases h3 : len = 2
          · subst h3
            have hr : r' = [] := by have := HL.out; simpa using this
            subst hr
            have hR : Hid (R = ((MsgM.of (x - 128)).put_fail y, 0)) := hide (by rw [HR.out, Fus.parse_cons, if_neg HP.out, Fus.second_cons, if_neg HF.out]; rfl)
            have HC : Hid (byteV (x - 128) = .int .u8 (k : Int)) := hide (by rw [← HK.out]; exact Fus.byte_sub (by have := H128.out; omega))
            have HD : Hid (byteV y = .int .u8 (j : Int)) := hide (by rw [HJ.out])
            clear HR HL
            go_wp2_with ((with_reducible show wpList _ _ _ (⟨_, .store _ _ _, _, _, _, _⟩ :: _) _ _); refine wpList_store_lies rfl 30 _ _ rfl w.heap.size (Fus.cells k j) rfl rfl _ _ e0 (msg_size _ rfl) rfl (Fus.cells_one k j) ?_)
            intro w3 h3 b3 n3 z3
            go_wp2
            (try simp only [Exit.inBlock, Exit.then])
            rw [hR.out]
            exact bodyPost_ret (results_row_tmp Try.results9 _ _ w.heap.size _ _ _ _ rfl h3 Try.underlying30 rfl (msg_size _ rfl) _ rfl) rfl ⟨⟨_, rfl, fun u _ _ _ => Fus.at_cells u HC.out HD.out⟩, b0.trans (b3 _ (Nat.le_refl _))⟩
          · have q7 : (2 : Int) < (len : Int) := by omega
            have hR : Hid (R = (MsgM.zero, 3)) := hide (by rw [HR.out, Fus.parse_cons, if_neg HP.out, Fus.second_cons, if_neg HF.out, if_pos (fun e => h3 (by have := HL.out; rw [e] at this; simpa using this.symm))])
            clear HR HL
            go_wp2_with ((with_reducible show wpList _ _ _ (⟨_, .store _ _ _, _, _, _, _⟩ :: _) _ _); refine wpList_store_lies rfl 30 _ _ rfl w.heap.size zeroCells rfl rfl _ _ e0 (msg_size _ rfl) rfl zero_one ?_)
            intro w3 h3 b3 n3 z3
            go_wp2
            (try simp only [Exit.inBlock, Exit.then])
            rw [hR.out]
            exact bodyPost_ret (results_row_tmp Try.results9 _ _ w.heap.size _ _ _ _ rfl h3 Try.underlying30 rfl (msg_size _ rfl) _ rfl) rfl ⟨⟨_, rfl, fun u _ _ _ => MsgAt.zero u⟩, b0.trans (b3 _ (Nat.le_refl _))⟩

theorem fusRefParse_any (a : Option Addr) (len cap : Nat) (xs : List UInt8) (w : World) (hx : Bs w a len cap xs) (hl : len ≤ 100000) :
    Calls Try.prog 9 #[.slice a len cap] w fun e w' =>
      (∃ v, e = .returned (.tuple #[v, .int .i64 (Fus.parse xs).2]) ∧ MsgAt w' v (Fus.parse xs).1) ∧ Below w.heap.size w w' := by
  refine (fusRefParse_own a len cap xs w hx hl).mono ?_
  rintro e w1 ⟨⟨v, h1, h2⟩, hb⟩
  exact ⟨⟨v, h1, h2.now hx hb⟩, hb⟩

set_option maxRecDepth 20000 in
set_option maxHeartbeats 4000000 in
theorem fusRefWrite_any (v : Value) (m : MsgM) (w : World) (hm : MsgAt w v m) :
    Calls Try.prog 13 #[v] w fun e w' =>
      (∃ a l c, e = .returned (.tuple #[.slice a l c, .int .i64 (Fus.errW (Fus.write m))]) ∧ Bs w' a l c (Fus.outW (Fus.write m))) ∧ Below w.heap.size w w' := by
  obtain ⟨cs, rfl, hsz, hone, _⟩ := hm.agg
  have hMB := MB.made w cs hm 30
  have e1 := heap_alloc_new w (.cells cs 30 (0, 0))
  have b0 := (Below.refl w.heap.size w).alloc (Nat.le_refl _) (.cells cs 30 (0, 0))
  have k0 := hMB.c_code
  have k1 := hMB.c_fail
  have HM := hide (hm.mono b0)
  obtain ⟨R, hR⟩ : ∃ R, R = Fus.write m := ⟨_, rfl⟩
  rw [← hR]
  have HR := hide hR
  obtain ⟨n, hn⟩ : ∃ n : Nat, n = m.code.toNat := ⟨_, rfl⟩
  obtain ⟨j, hj⟩ : ∃ n : Nat, n = m.fail.toNat := ⟨_, rfl⟩
  have hnb : n < 256 := by rw [hn]; exact byte_lt _
  have hjb : j < 256 := by rw [hj]; exact byte_lt _
  rw [show byteV m.code = .int .u8 (n : Int) by rw [hn]] at k0
  rw [show byteV m.fail = .int .u8 (j : Int) by rw [hj]] at k1
  have HN := hide hn
  have HJ := hide hj
  clear hR hm hMB hn hj
  go_enter Try.func13, Try.ntmps13
  go_upto_region 1 with (refine wpList_boxC rfl 30 _ rfl cs rfl ?_)
  generalize w.alloc (.cells cs 30 (0, 0)) = u at *
  have z0 := lt_of_block e1
  generalize hr : w.heap.size = r at *
  by_cases h128 : 128 ≤ n
  · have hR : Hid (R = none) := hide (by rw [HR.out]; unfold Fus.write; rw [if_neg (fun h => absurd h.1 (by rw [← HN.out]; omega))])
    have q : (128 : Int) ≤ (n : Int) := by omega
    clear HR h128
    go_wp2
    go_ret2
    rw [hR.out]
    exact ⟨⟨_, _, _, rfl, Sl.nil _ _ (by unfold maxLen; omega)⟩, by rw [hr]; exact b0⟩
  obtain ⟨k, hk⟩ : ∃ k : Nat, k = n + 128 := ⟨_, rfl⟩
  have hkb : k < 256 := by omega
  have q : ¬ (128 : Int) ≤ (n : Int) := by omega
  have q8 : IntKind.u8.wrap ((n : Int) + 128) = (k : Int) := by rw [IntKind.wrap_u8]; omega
  have HBy : Hid ([UInt8.ofNat k, UInt8.ofNat j] = Fus.bytes m) := hide (by
    unfold Fus.bytes
    rw [show UInt8.ofNat k = m.code + 128 from UInt8.toNat_inj.1 (by rw [UInt8.toNat_add, ← HN.out, hk]; simp), show UInt8.ofNat j = m.fail from UInt8.toNat_inj.1 (by rw [← HJ.out]; simp; omega)])
  have HRs : Hid (R = if (Fus.parse (Fus.bytes m)).2 = 0 ∧ MsgM.same (Fus.parse (Fus.bytes m)).1 m = true then some (Fus.bytes m) else none) := hide (by
    rw [HR.out]
    unfold Fus.write
    have h : m.code.toNat < 128 := by rw [← HN.out]; omega
    simp [h])
  have hl2 := two_own u (k : Int) (j : Int) k j rfl rfl hkb hjb 5
  have bl := (Below.refl u.heap.size u).alloc (Nat.le_refl _) (.cells #[.int .u8 (k : Int), .int .u8 (j : Int)] 5)
  clear HR hk h128
  go_upto_region 4 with fail
  generalize u.alloc (.cells #[.int .u8 (k : Int), .int .u8 (j : Int)] 5) = u2 at *
  rw [HBy.out] at hl2
  have HL := hide hl2.sl
  replace e1 := (bl.block r z0).trans e1
  replace b0 := b0.trans (bl.mono (Nat.le_of_lt z0))
  replace HM := hide (HM.out.mono bl)
  have z1 := lt_of_block e1
  generalize Fus.bytes m = B at *
  clear k0 k1 hl2 bl
  go_wp2_with fail
  refine (fusRefParse_any _ 2 2 B u2 HL.out (by omega)).mono ?_
  rintro e w6 ⟨⟨v6, rfl, hm6⟩, hb6⟩
  obtain ⟨cs6, rfl, hs6, ho6, _⟩ := hm6.agg
  have hz6 := hb6.size
  have HX6 := hide (HL.out.mono hb6)
  have HM6 := hide hm6
  have HM7 := hide (HM.out.mono hb6)
  replace e1 := (hb6.block r z1).trans e1
  have HB := hide (b0.trans (hb6.mono (Nat.le_of_lt z1)))
  have HRp : Hid (∀ p, p = Fus.parse B → R = if p.2 = 0 ∧ MsgM.same p.1 m = true then Option.some B else none) := hide (fun p hp => by rw [hp]; exact HRs.out)
  replace HRp := hide (HRp.out _ rfl)
  clear HM HL HRs hb6 hm6 b0
  generalize Fus.parse B = P at *
  obtain ⟨nn, E⟩ := P
  go_wp2_with ((with_reducible show wpList _ _ _ (⟨_, .store _ _ _, _, _, _, _⟩ :: _) _ _); refine wpList_store_new rfl 30 _ _ rfl cs6 rfl rfl (msg_size cs6 hs6) hs6.symm ho6 ?_)
  intro w7 h7 b7
  replace HX6 := hide (HX6.out.mono b7)
  replace HM6 := hide (HM6.out.mono b7)
  replace HM7 := hide (HM7.out.mono b7)
  replace e1 := (b7.block r (by omega)).trans e1
  replace HB := hide (HB.out.trans (b7.mono (by omega)))
  have hz7 : r ≤ w7.heap.size := Nat.le_of_lt (lt_of_block e1)
  generalize w6.heap.size = g6 at *
  clear b7
  go_wp2_with ((with_reducible show wpList _ _ _ (⟨_, .load _ _, _, _, _, _⟩ :: _) _ _); first | (refine wpList_load_row rfl 30 _ rfl g6 rfl 30 cs6 (0, 0) _ h7 Try.underlying30 rfl (msg_size cs6 hs6) ?_) | (refine wpList_load_row rfl 30 _ rfl r rfl 30 cs (0, 0) _ e1 Try.underlying30 rfl (msg_size cs hsz) ?_))
  refine (refSame_any _ _ nn m w7 HM6.out HM7.out).mono ?_
  rintro e w8 ⟨rfl, b8⟩
  have HX8 := hide (HX6.out.mono b8)
  have HB8 := hide (HB.out.trans (b8.mono hz7))
  generalize MsgM.same nn m = q at *
  by_cases hE : E = 0
  · subst hE
    cases q
    · have hR : R = none := by rw [HRp.out]; simp
      subst hR
      go_wp2
      go_ret2
      exact ⟨⟨_, _, _, rfl, Sl.nil _ _ (by unfold maxLen; omega)⟩, by rw [hr]; exact HB8.out⟩
    · have hR : R = Option.some B := by rw [HRp.out]; simp
      subst hR
      go_wp2
      go_ret2
      exact ⟨⟨_, _, _, rfl, HX8.out⟩, by rw [hr]; exact HB8.out⟩
  · have hR : R = none := by rw [HRp.out]; simp [hE]
    subst hR
    have hE' : (E != 0) = true := by simpa using hE
    clear HRp
    go_wp2
    go_ret2
    exact ⟨⟨_, _, _, rfl, Sl.nil _ _ (by unfold maxLen; omega)⟩, by rw [hr]; exact HB8.out⟩

end Go.Proofs.Ytjacnghndnkcnaa
