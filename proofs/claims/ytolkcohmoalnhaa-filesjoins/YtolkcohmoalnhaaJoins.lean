/-
  Proved: for every input the law FilesJoins answers true, and each argument reads behind the call as it read before.
  Conditions: none (the statement Rows.FilesJoinsSaid as it is given).
-/
import Derived.Test.YtolkcohmoalnhaaRows
import Derived.WalkKit
import Derived.ProofKit
import Derived.OpenShut
import Derived.ShutString
import Derived.ChangeOld
import Derived.Below
import Derived.Test.YtolkcohmoalnhaaFileJoin
import Derived.Test.YtolkcohmoalnhaaSame
import Derived.Test.YtolkcohmoalnhaaFew
import Derived.Test.YtolkcohmoalnhaaRegion
import Derived.Deep.RegionHeld3
namespace Go.Proofs.Ytolkcohmoalnhaa.filesJoins
open Go.ChangeShapes Go.WideShapes Go.ChangeAt Go.RowKit
open Go.ChangeMaps (open_string shut_string)
set_option linter.unusedVariables false

theorem own : ownKnob Try.prog.godebug = none := by kernel_rfl
theorem laidOut : laidOutB Try.prog = true := by kernel_rfl

/-- WHAT THE WALK IS TOLD OF A SLICE OF INTEGERS THAT CAME IN: it is nil; or it leads to a row of 'cap' cells, the numbers 'zs' (the first 'len' are its elements, the rest its spare room), each fitting its kind. -/
def IsRow (k : IntKind) (w : World) (a : Option Addr) (len cap : Nat) (zs : List Int) : Prop :=
  (a = none ∧ len = 0 ∧ cap = 0 ∧ zs = []) ∨
  ∃ x, a = some x ∧ len ≤ cap ∧ cap ≤ maxLen ∧ zs.length = cap ∧ (∀ i, i < zs.length → w.cell? (x.add i) = some (.int k (zs.getD i 0))) ∧ ∀ n ∈ zs, (Lit.int k n).wf = true

/-! ### STEP 1: THE WALK: the Go text returns true, AND WRITES NOTHING THAT WAS THERE: 'Below w.heap.size w w'' (Derived/Below.lean: '.refl', '.alloc', '.drew', '.setCell' at a new block, '.trans'). Open each 'IsRow' by 'rcases' AHEAD of 'go_enter'; part every test ahead of the walk. -/
set_option maxRecDepth 20000 in
set_option maxHeartbeats 2000000 in
theorem walk (a0 : Bool) (a1 : Option Addr) (len1 cap1 : Nat) (z1 : List RecM) (a2 : Option Addr) (len2 cap2 : Nat) (z2 : List RecM) (w : World) (w1 : Rs w a1 len1 cap1 z1) (w2 : Rs w a2 len2 cap2 z2) :
    Calls Try.prog 9 #[.bool a0, .slice a1 len1 cap1, .slice a2 len2 cap2] w fun e w' => e = .returned (.bool true) ∧ Below w.heap.size w w' := by
  have hle1 := w1.hle
  have hle2 := w2.hle
  have hmx1 := w1.hmax
  have hmx2 := w2.hmax
  unfold maxLen at hmx1 hmx2
  have HL1 := hide w1.hlen
  have HL2 := hide w2.hlen
  have HR1 := hide w1
  have HR2 := hide w2
  clear w1 w2
  go_enter Try.func9, Try.ntmps9
  go_wp2_with fail
  refine (awake_any w).mono ?_
  rintro e u1 ⟨rfl, hb1⟩
  go_wp2_with fail
  refine (few_any _ (partsM 0 z1) u1 (r_at 0 (HR1.out.mono hb1))).mono ?_
  rintro e u2 ⟨rfl, b2⟩
  have hb2 := hb1.trans (b2.mono hb1.size)
  clear hb1 b2
  go_wp2_with fail
  refine (few_any _ (partsM 0 z2) u2 (r_at 0 (HR2.out.mono hb2))).mono ?_
  rintro e u3 ⟨rfl, b3⟩
  have hb3 := hb2.trans (b3.mono hb2.size)
  have HF1 := hide (parts_few (c := 0) (l := z1))
  have HF2 := hide (parts_few (c := 0) (l := z2))
  generalize (partsM 0 z1).few = q1 at *
  generalize (partsM 0 z2).few = q2 at *
  clear b3 hb2
  cases q1
  · go_wp2
    go_ret
    exact ⟨rfl, hb3⟩
  cases q2
  · go_wp2
    go_ret
    exact ⟨rfl, hb3⟩
  obtain ⟨hl1, hs1⟩ := HF1.out rfl
  obtain ⟨hl2, hs2⟩ := HF2.out rfl
  have hln1 : len1 ≤ 100 := by rw [← HL1.out]; exact hl1
  have hln2 : len2 ≤ 100 := by rw [← HL2.out]; exact hl2
  have HS1 := hide (parts_small (c := 21) hl1 hs1)
  have HS2 := hide (parts_small (c := 21) hl2 hs2)
  have q0 : ∀ b, Files.errW (some b) = 0 := fun _ => rfl
  have qn : Files.errW none = 1 := rfl
  clear hl1 hl2 hs1 hs2 HF1 HF2
  cases a0
  · go_wp2_with fail
    refine (Files.code_write 0 _ (partsM 21 z1) u3 (r_at 21 (HR1.out.mono hb3)) HS1.out).mono ?_
    rintro e u4 ⟨⟨a4, l4, c4, rfl, hx4⟩, b4⟩
    have hb4 := hb3.trans (b4.mono hb3.size)
    have HX4 := hide hx4
    clear b4 hx4 hb3
    go_wp2_with fail
    refine (Files.code_write 0 _ (partsM 21 z2) u4 (r_at 21 (HR2.out.mono hb4)) HS2.out).mono ?_
    rintro e u5 ⟨⟨a5, l5, c5, rfl, hx5⟩, b5⟩
    have hb5 := hb4.trans (b5.mono hb4.size)
    replace HX4 := hide (HX4.out.mono b5)
    have HX5 := hide hx5
    have HJ := hide (fun x y => @Files.write_join 0 (by decide) z1 z2 x y)
    clear b5 hx5 hb4 HS1 HS2
    generalize Files.write 0 (partsM 21 z1) = R1 at *
    generalize Files.write 0 (partsM 21 z2) = R2 at *
    cases R1 with
    | none =>
      rw [qn]
      go_wp2
      go_ret
      exact ⟨rfl, hb5⟩
    | some x =>
    cases R2 with
    | none =>
      rw [qn, q0]
      go_wp2
      go_ret
      exact ⟨rfl, hb5⟩
    | some y =>
    rw [q0, q0]
    obtain ⟨hz1, hz2, A, B, rfl, rfl, hA9, hB9, hA, hB, hw⟩ := HJ.out x y rfl rfl
    have HW := hide hw
    clear hw HJ
    have hq4 : l4 = A.length + 1 := by rw [← HX4.out.hlen]; simp [Files.outW]
    have hq5 : l5 = B.length + 1 := by rw [← HX5.out.hlen]; simp [Files.outW]
    have hl4 : l4 ≤ A.length + 1 ∧ A.length + 1 ≤ l4 := by omega
    have hl5 : l5 ≤ B.length + 1 ∧ B.length + 1 ≤ l5 := by omega
    clear hq4 hq5
    have hn1 : 0 < len1 := by rw [← HL1.out]; exact List.length_pos_iff.2 hz1
    have hn2 : 0 < len2 := by rw [← HL2.out]; exact List.length_pos_iff.2 hz2
    clear hz1 hz2
    have e4 : ((l4 : Int) == 0) = false := by simp; omega
    have e5 : ((l5 : Int) == 0) = false := by simp; omega
    have d4 : decide ((l4 : Int) = 0) = false := by simp; omega
    have d5 : decide ((l5 : Int) = 0) = false := by simp; omega
    go_upto_region 13 with fail
    obtain ⟨r1, hr1, hp1⟩ := HR1.out.pairs
    obtain ⟨r2, hr2, hp2⟩ := HR2.out.pairs
    have HSA := hide hp1
    have HSB := hide hp2
    have HM1 := hide hr1
    have HM2 := hide hr2
    clear hr1 hr2 hp1 hp2
    go_wp2_with (at_builtin; first | (refine wpList_appR (by rfl) _ _ (by rfl) u5.heap.size (a := some ⟨u5.heap.size, 0, none⟩) (len := 0) (cap := 0) (cs := []) (by rfl) (OwnC.empty 4 _ _ _) (by rfl) (HSA.out _ (hb5.alloc hb5.size _)).2 hn1 (by omega) (by simp) ?_; intro a6 c6 u6 ho6 hb6; rw [Nat.zero_add, List.nil_append] at ho6; rw [Nat.zero_add]; have hs6 : Below u5.heap.size u5 u6 := ((Below.refl _ _).alloc (Nat.le_refl _) _).trans hb6) | go_loud (refine wpList_appR (by rfl) _ _ (by rfl) u5.heap.size (by rfl) ho6 (by rfl) (HSB.out _ (hb5.trans (hs6.mono hb5.size))).2 hn2 (by omega) hs6.size ?_; intro a7 c7 u7 ho7 hb7; have hs7 : Below u5.heap.size u5 u7 := hs6.trans hb7; clear ho6 hb6 hb7 hs6))
    have hb7 := hb5.trans (hs7.mono hb5.size)
    have HRJ := hide (joined_rs ho7 HM1.out HM2.out (HSA.out _ hb7).1 (HSB.out _ hb7).1)
    clear ho7
    refine (filesWrite_any 0 _ (partsM 21 (z1 ++ z2)) u7 (r_at 21 HRJ.out)).mono ?_
    rintro e w9 ⟨⟨a9, l9, c9, rfl, hx9⟩, b9⟩
    have hb9 := hb7.trans (b9.mono hb7.size)
    rw [HW.out] at hx9 ⊢
    have HX9 := hide hx9
    replace HX4 := hide ((HX4.out.mono hs7).mono b9)
    replace HX5 := hide ((HX5.out.mono hs7).mono b9)
    clear hx9 b9 hs7 hb7 hb5 HRJ HW HSA HSB HM1 HM2
    by_cases hn : A.length + B.length ≤ 251
    rotate_left
    · rw [if_neg hn, show errW none = 1 from rfl]
      have g1 : (251 : Int) < (l4 : Int) + (l5 : Int) - 2 := by omega
      go_wp2
      go_ret
      exact ⟨rfl, hb9⟩
    rw [if_pos hn, show ∀ b, errW (some b) = 0 from fun _ => rfl]
    rw [if_pos hn] at HX9
    have g1 : ¬ (251 : Int) < (l4 : Int) + (l5 : Int) - 2 := by omega
    go_upto_region 17 with fail
    clear g1
    obtain ⟨nn, hnn⟩ : ∃ n, n = A.length + B.length := ⟨_, rfl⟩
    rw [show ((l4 : Int) + (l5 : Int) - 2) = (nn : Int) by omega]
    rw [← hnn] at HX9
    replace HX9 : Hid (Bs w9 a9 l9 c9 ([UInt8.ofNat nn] ++ A ++ B)) := HX9
    have hnn2 : nn ≤ 251 := by omega
    have hwu : IntKind.u8.wrap (nn : Int) = (nn : Int) := by rw [IntKind.wrap_u8]; omega
    have hlc4 := HX4.out.hle
    have hlc5 := HX5.out.hle
    obtain ⟨b4, o4, rfl, _, _⟩ := HX4.out.at (by omega)
    obtain ⟨b5, o5, rfl, _, _⟩ := HX5.out.at (by omega)
    have HD4 : Hid (Bs w9 (some ⟨b4, o4 + 1, none⟩) (l4 - 1) (c4 - 1) A) := hide (HX4.out.drop 1 (by omega))
    have HD5 : Hid (Bs w9 (some ⟨b5, o5 + 1, none⟩) (l5 - 1) (c5 - 1) B) := hide (HX5.out.drop 1 (by omega))
    have n4 : ¬ c4 = 1 := by omega
    have n5 : ¬ c5 = 1 := by omega
    have m4 : 1 ≤ l4 := by omega
    have m5 : 1 ≤ l5 := by omega
    clear HX4 HX5 hnn hn
    refine wp_region_noPanic ?_
    refine wp_region_held_drew (S := fun w' => Below w9.heap.size w9 w') (by kernel_rfl) ((Below.refl _ _).drew) (fun hHeld => ?_)
    refine wpAnyH_take (i := 0) (oi := ⟨some 96, .move (.tmp 7), _, _, _, none⟩) (v := ?_) rfl (by kernel_rfl) (by kernel_rfl) (by kernel_rfl) (fun _ _ _ h => h) (Or.inl ⟨by rfl, ?_⟩) hHeld ?_
    rotate_left
    · (intro wq hSw; go_simp; try with_reducible rfl)
    simp only [Act.put, List.setIfInBounds_toArray, List.set_cons_zero, List.set_cons_succ]
    refine wpAnyH_take (i := 1) (oi := ⟨some 97, .move (.tmp 96), _, _, _, none⟩) (v := ?_) rfl (by kernel_rfl) (by kernel_rfl) (by kernel_rfl) (fun _ _ _ h => h) (Or.inl ⟨by rfl, ?_⟩) hHeld ?_
    rotate_left
    · (intro wq hSw; go_simp; try with_reducible rfl)
    simp only [Act.put, List.setIfInBounds_toArray, List.set_cons_zero, List.set_cons_succ]
    refine wpAnyH_take (i := 2) (oi := ⟨some 98, .move (.tmp 16), _, _, _, some (1, true)⟩) (v := ?_) rfl (by kernel_rfl) (by kernel_rfl) (by kernel_rfl) (fun _ _ _ h => h) (Or.inl ⟨by rfl, ?_⟩) hHeld ?_
    rotate_left
    · (intro wq hSw; go_simp; try with_reducible rfl)
    simp only [Act.put, List.setIfInBounds_toArray, List.set_cons_zero, List.set_cons_succ]
    refine wpAnyH_take (i := 3) (oi := ⟨some 99, .binOp .eql 31 (.tmp 98) (.const (Value.int IntKind.i64 0)) 31, _, _, _, some (1, true)⟩) (v := ?_) rfl (by kernel_rfl) (by kernel_rfl) (by kernel_rfl) (fun _ _ _ h => h) (Or.inl ⟨by rfl, ?_⟩) hHeld ?_
    rotate_left
    · (intro wq hSw; go_simp; try with_reducible rfl)
    simp only [Act.put, List.setIfInBounds_toArray, List.set_cons_zero, List.set_cons_succ]
    refine wpAnyH_take (i := 4) (oi := ⟨some 100, .pick (.tmp 97) (.tmp 99) (.const (Value.bool false)), _, _, _, none⟩) (v := ?_) rfl (by kernel_rfl) (by kernel_rfl) (by kernel_rfl) (fun _ _ _ h => h) (Or.inl ⟨by rfl, ?_⟩) hHeld ?_
    rotate_left
    · (intro wq hSw; go_simp; try with_reducible rfl)
    simp only [Act.put, List.setIfInBounds_toArray, List.set_cons_zero, List.set_cons_succ]
    refine wpAnyH_take (i := 5) (oi := ⟨some 101, .move (.tmp 100), _, _, _, none⟩) (v := ?_) rfl (by kernel_rfl) (by kernel_rfl) (by kernel_rfl) (fun _ _ _ h => h) (Or.inl ⟨by rfl, ?_⟩) hHeld ?_
    rotate_left
    · (intro wq hSw; go_simp; try with_reducible rfl)
    simp only [Act.put, List.setIfInBounds_toArray, List.set_cons_zero, List.set_cons_succ]
    refine wpAnyH_take (i := 6) (oi := ⟨some 102, .move (.tmp 15), _, _, _, some (5, true)⟩) (v := ?_) rfl (by kernel_rfl) (by kernel_rfl) (by kernel_rfl) (fun _ _ _ h => h) (Or.inl ⟨by rfl, ?_⟩) hHeld ?_
    rotate_left
    · (intro wq hSw; go_simp; try with_reducible rfl)
    simp only [Act.put, List.setIfInBounds_toArray, List.set_cons_zero, List.set_cons_succ]
    refine wpAnyH_take (i := 7) (oi := ⟨some 103, .move (.tmp 17), _, _, _, some (5, true)⟩) (v := ?_) rfl (by kernel_rfl) (by kernel_rfl) (by kernel_rfl) (fun _ _ _ h => h) (Or.inl ⟨by rfl, ?_⟩) hHeld ?_
    rotate_left
    · (intro wq hSw; go_simp; try with_reducible rfl)
    simp only [Act.put, List.setIfInBounds_toArray, List.set_cons_zero, List.set_cons_succ]
    refine wpAnyH_take (i := 8) (oi := ⟨some 104, .convert 3 5 (.tmp 103), _, _, _, some (5, true)⟩) (v := .int .u8 (nn : Int)) rfl (by kernel_rfl) (by kernel_rfl) (by kernel_rfl) (fun _ _ _ h => h) (Or.inl ⟨by rfl, ?_⟩) hHeld ?_
    · (intro wq hSw; go_simp)
    simp only [Act.put, List.setIfInBounds_toArray, List.set_cons_zero, List.set_cons_succ]
    refine wpAnyH_take (i := 10) (oi := ⟨some 106, .move (.tmp 11), _, _, _, some (5, true)⟩) (v := ?_) rfl (by kernel_rfl) (by kernel_rfl) (by kernel_rfl) (fun _ _ _ h => h) (Or.inl ⟨by rfl, ?_⟩) hHeld ?_
    rotate_left
    · (intro wq hSw; go_simp; try with_reducible rfl)
    simp only [Act.put, List.setIfInBounds_toArray, List.set_cons_zero, List.set_cons_succ]
    refine wpAnyH_take (i := 11) (oi := ⟨some 107, .slice 22 (.tmp 106) (some (.const (Value.int IntKind.i64 1))) none none, _, _, _, some (5, true)⟩) (v := .slice (some ⟨b4, o4 + 1, none⟩) (l4 - 1) (c4 - 1)) rfl (by kernel_rfl) (by kernel_rfl) (by kernel_rfl) (fun _ _ _ h => h) (Or.inl ⟨by rfl, ?_⟩) hHeld ?_
    · (intro wq hSw; go_simp; intro hlt; exfalso; omega)
    simp only [Act.put, List.setIfInBounds_toArray, List.set_cons_zero, List.set_cons_succ]
    refine wpAnyH_take (i := 13) (oi := ⟨some 109, .move (.tmp 13), _, _, _, some (5, true)⟩) (v := ?_) rfl (by kernel_rfl) (by kernel_rfl) (by kernel_rfl) (fun _ _ _ h => h) (Or.inl ⟨by rfl, ?_⟩) hHeld ?_
    rotate_left
    · (intro wq hSw; go_simp; try with_reducible rfl)
    simp only [Act.put, List.setIfInBounds_toArray, List.set_cons_zero, List.set_cons_succ]
    refine wpAnyH_take (i := 14) (oi := ⟨some 110, .slice 22 (.tmp 109) (some (.const (Value.int IntKind.i64 1))) none none, _, _, _, some (5, true)⟩) (v := .slice (some ⟨b5, o5 + 1, none⟩) (l5 - 1) (c5 - 1)) rfl (by kernel_rfl) (by kernel_rfl) (by kernel_rfl) (fun _ _ _ h => h) (Or.inl ⟨by rfl, ?_⟩) hHeld ?_
    · (intro wq hSw; go_simp; intro hlt; exfalso; omega)
    simp only [Act.put, List.setIfInBounds_toArray, List.set_cons_zero, List.set_cons_succ]
    refine wpAnyH_ready (rs := [9]) (by kernel_rfl) (by simp) ?_
    refine AllReadyH.cons (o := ⟨some 105, .buildSlice 22 1 #[(0, .tmp 104)], _, _, _, some (5, true)⟩) rfl (fun K hK => ?_) ?_
    · go_simp
      refine hK.out _ _ ?_ (fun hHeld => ?_)
      · exact hHeld.alloc hHeld.size _
      clear hK K
      try simp only [Act.put, List.setIfInBounds_toArray, List.set_cons_zero, List.set_cons_succ]
      refine wpAnyH_ready (rs := [12]) (by kernel_rfl) (by simp) ?_
      refine AllReadyH.cons (o := ⟨some 108, .call ⟨.builtin .append, #[.tmp 105, .tmp 107], #[22, 22]⟩, _, _, _, some (5, true)⟩) rfl (fun K hK => ?_) ?_
      · refine step_app' (by rfl) _ _ (by rfl) w9.heap.size (by rfl) (one_own w9.drew (nn : Int) nn rfl (by omega) _) (by rfl) (HD4.out.mono hHeld) (by omega) (by simp) ?_
        intro q1 d1 v1 ho1 hk1
        rw [show 1 + (l4 - 1) = l4 by omega] at ho1 ⊢
        have s1 : Below w9.heap.size w9 v1 := hHeld.trans hk1
        refine hK.out _ _ ?_ (fun hHeld => ?_)
        · exact s1
        clear hK K
        try simp only [Act.put, List.setIfInBounds_toArray, List.set_cons_zero, List.set_cons_succ]
        refine wpAnyH_ready (rs := [15]) (by kernel_rfl) (by simp) ?_
        refine AllReadyH.cons (o := ⟨some 111, .call ⟨.builtin .append, #[.tmp 108, .tmp 110], #[22, 22]⟩, _, _, _, some (5, true)⟩) rfl (fun K hK => ?_) ?_
        · refine step_app' (by rfl) _ _ (by rfl) w9.heap.size (by rfl) ho1 (by rfl) (HD5.out.mono s1) (by omega) s1.size ?_
          intro q2 d2 v2 ho2 hk2
          have s2 : Below w9.heap.size w9 v2 := s1.trans hk2
          refine hK.out _ _ ?_ (fun hHeld => ?_)
          · exact s2
          clear hK K
          try simp only [Act.put, List.setIfInBounds_toArray, List.set_cons_zero, List.set_cons_succ]
          refine wpAnyH_ready (rs := [16]) (by kernel_rfl) (by simp) ?_
          refine AllReadyH.cons (o := ⟨some 112, .call ⟨.value (.func 18), #[.tmp 102, .tmp 111], #[22, 22]⟩, _, _, _, some (5, true)⟩) rfl (fun K hK => ?_) ?_
          · go_simp
            refine (same_any _ _ _ _ _ _ _ _ v2 (HX9.out.mono s2) ho2.sl).mono ?_
            rintro e v3 ⟨rfl, rfl⟩
            rw [decide_eq_true (rfl : ([UInt8.ofNat nn] ++ A ++ B) = [UInt8.ofNat nn] ++ A ++ B)]
            refine hK.out _ _ ?_ (fun hHeld => ?_)
            · exact s2
            clear hK K
            try simp only [Act.put, List.setIfInBounds_toArray, List.set_cons_zero, List.set_cons_succ]
            refine wpAnyH_take (i := 17) (oi := ⟨some 113, .pick (.tmp 101) (.tmp 112) (.const (Value.bool false)), _, _, _, none⟩) (v := ?_) rfl (by kernel_rfl) (by kernel_rfl) (by kernel_rfl) (fun _ _ _ h => h) (Or.inl ⟨by rfl, ?_⟩) hHeld ?_
            rotate_left
            · (intro wq hSw; go_simp; try with_reducible rfl)
            simp only [Act.put, List.setIfInBounds_toArray, List.set_cons_zero, List.set_cons_succ]
            refine wpAnyH_take (i := 18) (oi := ⟨some 6, .assign (.tmp 113), _, _, _, none⟩) (v := ?_) rfl (by kernel_rfl) (by kernel_rfl) (by kernel_rfl) (fun _ _ _ h => h) (Or.inl ⟨by rfl, ?_⟩) hHeld ?_
            rotate_left
            · (intro wq hSw; go_simp; try with_reducible rfl)
            simp only [Act.put, List.setIfInBounds_toArray, List.set_cons_zero, List.set_cons_succ]
            refine wpAnyH_done (by kernel_rfl) ?_ _
            refine NoPanic.normal ?_
            go_wp2
            go_ret
            exact ⟨rfl, hb9.trans (s2.mono hb9.size)⟩
          exact AllReadyH.nil
        exact AllReadyH.nil
      exact AllReadyH.nil
    exact AllReadyH.nil
  · go_wp2_with fail
    refine (Files.code_write 1 _ (partsM 21 z1) u3 (r_at 21 (HR1.out.mono hb3)) HS1.out).mono ?_
    rintro e u4 ⟨⟨a4, l4, c4, rfl, hx4⟩, b4⟩
    have hb4 := hb3.trans (b4.mono hb3.size)
    have HX4 := hide hx4
    clear b4 hx4 hb3
    go_wp2_with fail
    refine (Files.code_write 1 _ (partsM 21 z2) u4 (r_at 21 (HR2.out.mono hb4)) HS2.out).mono ?_
    rintro e u5 ⟨⟨a5, l5, c5, rfl, hx5⟩, b5⟩
    have hb5 := hb4.trans (b5.mono hb4.size)
    replace HX4 := hide (HX4.out.mono b5)
    have HX5 := hide hx5
    have HJ := hide (fun x y => @Files.write_join 1 (by decide) z1 z2 x y)
    clear b5 hx5 hb4 HS1 HS2
    generalize Files.write 1 (partsM 21 z1) = R1 at *
    generalize Files.write 1 (partsM 21 z2) = R2 at *
    cases R1 with
    | none =>
      rw [qn]
      go_wp2
      go_ret
      exact ⟨rfl, hb5⟩
    | some x =>
    cases R2 with
    | none =>
      rw [qn, q0]
      go_wp2
      go_ret
      exact ⟨rfl, hb5⟩
    | some y =>
    rw [q0, q0]
    obtain ⟨hz1, hz2, A, B, rfl, rfl, hA9, hB9, hA, hB, hw⟩ := HJ.out x y rfl rfl
    have HW := hide hw
    clear hw HJ
    have hq4 : l4 = A.length + 1 := by rw [← HX4.out.hlen]; simp [Files.outW]
    have hq5 : l5 = B.length + 1 := by rw [← HX5.out.hlen]; simp [Files.outW]
    have hl4 : l4 ≤ A.length + 1 ∧ A.length + 1 ≤ l4 := by omega
    have hl5 : l5 ≤ B.length + 1 ∧ B.length + 1 ≤ l5 := by omega
    clear hq4 hq5
    have hn1 : 0 < len1 := by rw [← HL1.out]; exact List.length_pos_iff.2 hz1
    have hn2 : 0 < len2 := by rw [← HL2.out]; exact List.length_pos_iff.2 hz2
    clear hz1 hz2
    have e4 : ((l4 : Int) == 0) = false := by simp; omega
    have e5 : ((l5 : Int) == 0) = false := by simp; omega
    have d4 : decide ((l4 : Int) = 0) = false := by simp; omega
    have d5 : decide ((l5 : Int) = 0) = false := by simp; omega
    go_upto_region 13 with fail
    obtain ⟨r1, hr1, hp1⟩ := HR1.out.pairs
    obtain ⟨r2, hr2, hp2⟩ := HR2.out.pairs
    have HSA := hide hp1
    have HSB := hide hp2
    have HM1 := hide hr1
    have HM2 := hide hr2
    clear hr1 hr2 hp1 hp2
    go_wp2_with (at_builtin; first | (refine wpList_appR (by rfl) _ _ (by rfl) u5.heap.size (a := some ⟨u5.heap.size, 0, none⟩) (len := 0) (cap := 0) (cs := []) (by rfl) (OwnC.empty 4 _ _ _) (by rfl) (HSA.out _ (hb5.alloc hb5.size _)).2 hn1 (by omega) (by simp) ?_; intro a6 c6 u6 ho6 hb6; rw [Nat.zero_add, List.nil_append] at ho6; rw [Nat.zero_add]; have hs6 : Below u5.heap.size u5 u6 := ((Below.refl _ _).alloc (Nat.le_refl _) _).trans hb6) | go_loud (refine wpList_appR (by rfl) _ _ (by rfl) u5.heap.size (by rfl) ho6 (by rfl) (HSB.out _ (hb5.trans (hs6.mono hb5.size))).2 hn2 (by omega) hs6.size ?_; intro a7 c7 u7 ho7 hb7; have hs7 : Below u5.heap.size u5 u7 := hs6.trans hb7; clear ho6 hb6 hb7 hs6))
    have hb7 := hb5.trans (hs7.mono hb5.size)
    have HRJ := hide (joined_rs ho7 HM1.out HM2.out (HSA.out _ hb7).1 (HSB.out _ hb7).1)
    clear ho7
    refine (filesWrite_any 1 _ (partsM 21 (z1 ++ z2)) u7 (r_at 21 HRJ.out)).mono ?_
    rintro e w9 ⟨⟨a9, l9, c9, rfl, hx9⟩, b9⟩
    have hb9 := hb7.trans (b9.mono hb7.size)
    rw [HW.out] at hx9 ⊢
    have HX9 := hide hx9
    replace HX4 := hide ((HX4.out.mono hs7).mono b9)
    replace HX5 := hide ((HX5.out.mono hs7).mono b9)
    clear hx9 b9 hs7 hb7 hb5 HRJ HW HSA HSB HM1 HM2
    by_cases hn : A.length + B.length ≤ 251
    rotate_left
    · rw [if_neg hn, show errW none = 1 from rfl]
      have g1 : (251 : Int) < (l4 : Int) + (l5 : Int) - 2 := by omega
      go_wp2
      go_ret
      exact ⟨rfl, hb9⟩
    rw [if_pos hn, show ∀ b, errW (some b) = 0 from fun _ => rfl]
    rw [if_pos hn] at HX9
    have g1 : ¬ (251 : Int) < (l4 : Int) + (l5 : Int) - 2 := by omega
    go_upto_region 17 with fail
    clear g1
    obtain ⟨nn, hnn⟩ : ∃ n, n = A.length + B.length := ⟨_, rfl⟩
    rw [show ((l4 : Int) + (l5 : Int) - 2) = (nn : Int) by omega]
    rw [← hnn] at HX9
    replace HX9 : Hid (Bs w9 a9 l9 c9 ([UInt8.ofNat nn] ++ A ++ B)) := HX9
    have hnn2 : nn ≤ 251 := by omega
    have hwu : IntKind.u8.wrap (nn : Int) = (nn : Int) := by rw [IntKind.wrap_u8]; omega
    have hlc4 := HX4.out.hle
    have hlc5 := HX5.out.hle
    obtain ⟨b4, o4, rfl, _, _⟩ := HX4.out.at (by omega)
    obtain ⟨b5, o5, rfl, _, _⟩ := HX5.out.at (by omega)
    have HD4 : Hid (Bs w9 (some ⟨b4, o4 + 1, none⟩) (l4 - 1) (c4 - 1) A) := hide (HX4.out.drop 1 (by omega))
    have HD5 : Hid (Bs w9 (some ⟨b5, o5 + 1, none⟩) (l5 - 1) (c5 - 1) B) := hide (HX5.out.drop 1 (by omega))
    have n4 : ¬ c4 = 1 := by omega
    have n5 : ¬ c5 = 1 := by omega
    have m4 : 1 ≤ l4 := by omega
    have m5 : 1 ≤ l5 := by omega
    clear HX4 HX5 hnn hn
    refine wp_region_noPanic ?_
    refine wp_region_held_drew (S := fun w' => Below w9.heap.size w9 w') (by kernel_rfl) ((Below.refl _ _).drew) (fun hHeld => ?_)
    refine wpAnyH_take (i := 0) (oi := ⟨some 96, .move (.tmp 7), _, _, _, none⟩) (v := ?_) rfl (by kernel_rfl) (by kernel_rfl) (by kernel_rfl) (fun _ _ _ h => h) (Or.inl ⟨by rfl, ?_⟩) hHeld ?_
    rotate_left
    · (intro wq hSw; go_simp; try with_reducible rfl)
    simp only [Act.put, List.setIfInBounds_toArray, List.set_cons_zero, List.set_cons_succ]
    refine wpAnyH_take (i := 1) (oi := ⟨some 97, .move (.tmp 96), _, _, _, none⟩) (v := ?_) rfl (by kernel_rfl) (by kernel_rfl) (by kernel_rfl) (fun _ _ _ h => h) (Or.inl ⟨by rfl, ?_⟩) hHeld ?_
    rotate_left
    · (intro wq hSw; go_simp; try with_reducible rfl)
    simp only [Act.put, List.setIfInBounds_toArray, List.set_cons_zero, List.set_cons_succ]
    refine wpAnyH_take (i := 2) (oi := ⟨some 98, .move (.tmp 16), _, _, _, some (1, true)⟩) (v := ?_) rfl (by kernel_rfl) (by kernel_rfl) (by kernel_rfl) (fun _ _ _ h => h) (Or.inl ⟨by rfl, ?_⟩) hHeld ?_
    rotate_left
    · (intro wq hSw; go_simp; try with_reducible rfl)
    simp only [Act.put, List.setIfInBounds_toArray, List.set_cons_zero, List.set_cons_succ]
    refine wpAnyH_take (i := 3) (oi := ⟨some 99, .binOp .eql 31 (.tmp 98) (.const (Value.int IntKind.i64 0)) 31, _, _, _, some (1, true)⟩) (v := ?_) rfl (by kernel_rfl) (by kernel_rfl) (by kernel_rfl) (fun _ _ _ h => h) (Or.inl ⟨by rfl, ?_⟩) hHeld ?_
    rotate_left
    · (intro wq hSw; go_simp; try with_reducible rfl)
    simp only [Act.put, List.setIfInBounds_toArray, List.set_cons_zero, List.set_cons_succ]
    refine wpAnyH_take (i := 4) (oi := ⟨some 100, .pick (.tmp 97) (.tmp 99) (.const (Value.bool false)), _, _, _, none⟩) (v := ?_) rfl (by kernel_rfl) (by kernel_rfl) (by kernel_rfl) (fun _ _ _ h => h) (Or.inl ⟨by rfl, ?_⟩) hHeld ?_
    rotate_left
    · (intro wq hSw; go_simp; try with_reducible rfl)
    simp only [Act.put, List.setIfInBounds_toArray, List.set_cons_zero, List.set_cons_succ]
    refine wpAnyH_take (i := 5) (oi := ⟨some 101, .move (.tmp 100), _, _, _, none⟩) (v := ?_) rfl (by kernel_rfl) (by kernel_rfl) (by kernel_rfl) (fun _ _ _ h => h) (Or.inl ⟨by rfl, ?_⟩) hHeld ?_
    rotate_left
    · (intro wq hSw; go_simp; try with_reducible rfl)
    simp only [Act.put, List.setIfInBounds_toArray, List.set_cons_zero, List.set_cons_succ]
    refine wpAnyH_take (i := 6) (oi := ⟨some 102, .move (.tmp 15), _, _, _, some (5, true)⟩) (v := ?_) rfl (by kernel_rfl) (by kernel_rfl) (by kernel_rfl) (fun _ _ _ h => h) (Or.inl ⟨by rfl, ?_⟩) hHeld ?_
    rotate_left
    · (intro wq hSw; go_simp; try with_reducible rfl)
    simp only [Act.put, List.setIfInBounds_toArray, List.set_cons_zero, List.set_cons_succ]
    refine wpAnyH_take (i := 7) (oi := ⟨some 103, .move (.tmp 17), _, _, _, some (5, true)⟩) (v := ?_) rfl (by kernel_rfl) (by kernel_rfl) (by kernel_rfl) (fun _ _ _ h => h) (Or.inl ⟨by rfl, ?_⟩) hHeld ?_
    rotate_left
    · (intro wq hSw; go_simp; try with_reducible rfl)
    simp only [Act.put, List.setIfInBounds_toArray, List.set_cons_zero, List.set_cons_succ]
    refine wpAnyH_take (i := 8) (oi := ⟨some 104, .convert 3 5 (.tmp 103), _, _, _, some (5, true)⟩) (v := .int .u8 (nn : Int)) rfl (by kernel_rfl) (by kernel_rfl) (by kernel_rfl) (fun _ _ _ h => h) (Or.inl ⟨by rfl, ?_⟩) hHeld ?_
    · (intro wq hSw; go_simp)
    simp only [Act.put, List.setIfInBounds_toArray, List.set_cons_zero, List.set_cons_succ]
    refine wpAnyH_take (i := 10) (oi := ⟨some 106, .move (.tmp 11), _, _, _, some (5, true)⟩) (v := ?_) rfl (by kernel_rfl) (by kernel_rfl) (by kernel_rfl) (fun _ _ _ h => h) (Or.inl ⟨by rfl, ?_⟩) hHeld ?_
    rotate_left
    · (intro wq hSw; go_simp; try with_reducible rfl)
    simp only [Act.put, List.setIfInBounds_toArray, List.set_cons_zero, List.set_cons_succ]
    refine wpAnyH_take (i := 11) (oi := ⟨some 107, .slice 22 (.tmp 106) (some (.const (Value.int IntKind.i64 1))) none none, _, _, _, some (5, true)⟩) (v := .slice (some ⟨b4, o4 + 1, none⟩) (l4 - 1) (c4 - 1)) rfl (by kernel_rfl) (by kernel_rfl) (by kernel_rfl) (fun _ _ _ h => h) (Or.inl ⟨by rfl, ?_⟩) hHeld ?_
    · (intro wq hSw; go_simp; intro hlt; exfalso; omega)
    simp only [Act.put, List.setIfInBounds_toArray, List.set_cons_zero, List.set_cons_succ]
    refine wpAnyH_take (i := 13) (oi := ⟨some 109, .move (.tmp 13), _, _, _, some (5, true)⟩) (v := ?_) rfl (by kernel_rfl) (by kernel_rfl) (by kernel_rfl) (fun _ _ _ h => h) (Or.inl ⟨by rfl, ?_⟩) hHeld ?_
    rotate_left
    · (intro wq hSw; go_simp; try with_reducible rfl)
    simp only [Act.put, List.setIfInBounds_toArray, List.set_cons_zero, List.set_cons_succ]
    refine wpAnyH_take (i := 14) (oi := ⟨some 110, .slice 22 (.tmp 109) (some (.const (Value.int IntKind.i64 1))) none none, _, _, _, some (5, true)⟩) (v := .slice (some ⟨b5, o5 + 1, none⟩) (l5 - 1) (c5 - 1)) rfl (by kernel_rfl) (by kernel_rfl) (by kernel_rfl) (fun _ _ _ h => h) (Or.inl ⟨by rfl, ?_⟩) hHeld ?_
    · (intro wq hSw; go_simp; intro hlt; exfalso; omega)
    simp only [Act.put, List.setIfInBounds_toArray, List.set_cons_zero, List.set_cons_succ]
    refine wpAnyH_ready (rs := [9]) (by kernel_rfl) (by simp) ?_
    refine AllReadyH.cons (o := ⟨some 105, .buildSlice 22 1 #[(0, .tmp 104)], _, _, _, some (5, true)⟩) rfl (fun K hK => ?_) ?_
    · go_simp
      refine hK.out _ _ ?_ (fun hHeld => ?_)
      · exact hHeld.alloc hHeld.size _
      clear hK K
      try simp only [Act.put, List.setIfInBounds_toArray, List.set_cons_zero, List.set_cons_succ]
      refine wpAnyH_ready (rs := [12]) (by kernel_rfl) (by simp) ?_
      refine AllReadyH.cons (o := ⟨some 108, .call ⟨.builtin .append, #[.tmp 105, .tmp 107], #[22, 22]⟩, _, _, _, some (5, true)⟩) rfl (fun K hK => ?_) ?_
      · refine step_app' (by rfl) _ _ (by rfl) w9.heap.size (by rfl) (one_own w9.drew (nn : Int) nn rfl (by omega) _) (by rfl) (HD4.out.mono hHeld) (by omega) (by simp) ?_
        intro q1 d1 v1 ho1 hk1
        rw [show 1 + (l4 - 1) = l4 by omega] at ho1 ⊢
        have s1 : Below w9.heap.size w9 v1 := hHeld.trans hk1
        refine hK.out _ _ ?_ (fun hHeld => ?_)
        · exact s1
        clear hK K
        try simp only [Act.put, List.setIfInBounds_toArray, List.set_cons_zero, List.set_cons_succ]
        refine wpAnyH_ready (rs := [15]) (by kernel_rfl) (by simp) ?_
        refine AllReadyH.cons (o := ⟨some 111, .call ⟨.builtin .append, #[.tmp 108, .tmp 110], #[22, 22]⟩, _, _, _, some (5, true)⟩) rfl (fun K hK => ?_) ?_
        · refine step_app' (by rfl) _ _ (by rfl) w9.heap.size (by rfl) ho1 (by rfl) (HD5.out.mono s1) (by omega) s1.size ?_
          intro q2 d2 v2 ho2 hk2
          have s2 : Below w9.heap.size w9 v2 := s1.trans hk2
          refine hK.out _ _ ?_ (fun hHeld => ?_)
          · exact s2
          clear hK K
          try simp only [Act.put, List.setIfInBounds_toArray, List.set_cons_zero, List.set_cons_succ]
          refine wpAnyH_ready (rs := [16]) (by kernel_rfl) (by simp) ?_
          refine AllReadyH.cons (o := ⟨some 112, .call ⟨.value (.func 18), #[.tmp 102, .tmp 111], #[22, 22]⟩, _, _, _, some (5, true)⟩) rfl (fun K hK => ?_) ?_
          · go_simp
            refine (same_any _ _ _ _ _ _ _ _ v2 (HX9.out.mono s2) ho2.sl).mono ?_
            rintro e v3 ⟨rfl, rfl⟩
            rw [decide_eq_true (rfl : ([UInt8.ofNat nn] ++ A ++ B) = [UInt8.ofNat nn] ++ A ++ B)]
            refine hK.out _ _ ?_ (fun hHeld => ?_)
            · exact s2
            clear hK K
            try simp only [Act.put, List.setIfInBounds_toArray, List.set_cons_zero, List.set_cons_succ]
            refine wpAnyH_take (i := 17) (oi := ⟨some 113, .pick (.tmp 101) (.tmp 112) (.const (Value.bool false)), _, _, _, none⟩) (v := ?_) rfl (by kernel_rfl) (by kernel_rfl) (by kernel_rfl) (fun _ _ _ h => h) (Or.inl ⟨by rfl, ?_⟩) hHeld ?_
            rotate_left
            · (intro wq hSw; go_simp; try with_reducible rfl)
            simp only [Act.put, List.setIfInBounds_toArray, List.set_cons_zero, List.set_cons_succ]
            refine wpAnyH_take (i := 18) (oi := ⟨some 6, .assign (.tmp 113), _, _, _, none⟩) (v := ?_) rfl (by kernel_rfl) (by kernel_rfl) (by kernel_rfl) (fun _ _ _ h => h) (Or.inl ⟨by rfl, ?_⟩) hHeld ?_
            rotate_left
            · (intro wq hSw; go_simp; try with_reducible rfl)
            simp only [Act.put, List.setIfInBounds_toArray, List.set_cons_zero, List.set_cons_succ]
            refine wpAnyH_done (by kernel_rfl) ?_ _
            refine NoPanic.normal ?_
            go_wp2
            go_ret
            exact ⟨rfl, hb9.trans (s2.mono hb9.size)⟩
          exact AllReadyH.nil
        exact AllReadyH.nil
      exact AllReadyH.nil
    exact AllReadyH.nil

/-! ### THE ROW's STEP: WRITTEN OUT: LEAVE IT -/
set_option maxRecDepth 100000 in
theorem lifted (os : Os) (started : os.Started) (H : Type) (enc : TypeId × Value → H) :
    ReturnsInHanded {} Try.checked os 9 .any (Rows.filesJoinsSpec.pre6 enc Try.prog Try.f9 Rows.filesJoinsRow.domain false) (Rows.filesJoinsSpec.post enc Try.prog Try.f9 false true false false) := by
  refine returnsInHanded_of_change (C := Try.checked) own started (by kernel_rfl) Try.func9
    (ChangeSpec.witness6 (enc := enc) (C := Try.checked) false ⟨#[], #[.bool false, .slice none 0 0, .slice none 0 0], []⟩ 8 (by kernel_rfl) (by kernel_rfl) (by kernel_rfl) (by kernel_rfl)) ?_
  intro W base args ds gs before hval0 hW hcnd _
  have hval : ∀ (j : Nat) t v, Try.f9.params[j]? = some t → args[j]? = some v → Value.okWide Try.prog W .any base t v := hval0
  have hW' := hW
  obtain ⟨p, q, hA0, hV, rfl, hfz, hnd⟩ := hW
  have hA : DataW.TrodAll enc Try.prog W 0 (fun _ => true) true Try.f9.params.toList args.toList ds p := hA0
  rw [Try.params9] at hA hval
  obtain ⟨v0, vs0, d0, ds0, p0, q0, hargs, rfl, rfl, h0, r0⟩ := trodAll_cons hA
  obtain ⟨v1, vs1, d1, ds1, p1, q1, rfl, rfl, rfl, h1, r1⟩ := trodAll_cons r0
  obtain ⟨v2, vs2, d2, ds2, p2, q2, rfl, rfl, rfl, h2, r2⟩ := trodAll_cons r1
  obtain ⟨rfl, rfl, rfl⟩ := trodAll_nil r2
  obtain rfl : args = #[v0, v1, v2] := by cases args; simp_all
  obtain ⟨rfl, rfl⟩ := trodVars_none hV
  obtain ⟨a0, rfl, rfl, rfl⟩ := open_bool Try.underlying4 (hval 0 4 v0 rfl rfl) h0
  obtain ⟨a1, len1, cap1, rfl⟩ := okWide_slice Try.underlying27 (hval 1 27 v1 rfl rfl)
  have k1 := h1
  have lt1 : ∀ x ∈ p1, x.block < W.heap.size := by obtain ⟨m, hm⟩ := k1; exact DataW.trod_lt m _ _ _ hm
  obtain ⟨z1, w1⟩ : ∃ zs, Rs W a1 len1 cap1 zs := by
    obtain ⟨fuel, hf⟩ := h1
    exact Rs.ofTrod hf
  obtain ⟨a2, len2, cap2, rfl⟩ := okWide_slice Try.underlying27 (hval 2 27 v2 rfl rfl)
  have k2 := h2
  have lt2 : ∀ x ∈ p2, x.block < W.heap.size := by obtain ⟨m, hm⟩ := k2; exact DataW.trod_lt m _ _ _ hm
  obtain ⟨z2, w2⟩ : ∃ zs, Rs W a2 len2 cap2 zs := by
    obtain ⟨fuel, hf⟩ := h2
    exact Rs.ofTrod hf
  clear hA0 hval0
  refine (walk a0 a1 len1 cap1 z1 a2 len2 cap2 z2 W w1 w2).mono fun e W' ⟨he, bel⟩ => ?_
  subst he
  exact ⟨_, rfl, _, _, _, [], _, [], hW', trodAll_mk1 (shut_bool Try.underlying4 _), (trodAll_cons_mk (shut_bool Try.underlying4 _) (trodAll_cons_mk (Below.trod laidOut (by kernel_rfl) (of_decide_eq_true (by kernel_rfl)) k1 bel lt1) (trodAll_cons_mk (Below.trod laidOut (by kernel_rfl) (of_decide_eq_true (by kernel_rfl)) k2 bel lt2) trodAll_mk0))), rfl, bel.frame _, fun h => by cases h⟩

theorem over : Rows.filesJoinsRow.holds Try.pinned (OpenSpec.ofChange Rows.filesJoinsSpec) :=
  OpenClaim.holds_of_wide 9 Try.f9 rfl rfl rfl rfl rfl rfl rfl ⟨rfl, rfl, rfl, rfl, rfl⟩ rfl rfl rfl rfl rfl (by kernel_rfl) Try.func9 (by kernel_rfl)
    (of_decide_eq_true (by kernel_rfl)) (by unfold Func.isWrapper; first | (rw [if_pos (by decide +kernel)]; kernel_rfl) | (rw [if_neg (by decide +kernel)]; exact ⟨rfl, rfl⟩))
    (fun os started H enc _ => lifted os started H enc)

/-- ████ THE STATEMENT ████ -/
theorem proved : Rows.FilesJoinsSaid := over
#print axioms proved
end Go.Proofs.Ytolkcohmoalnhaa.filesJoins
