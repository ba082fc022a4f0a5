/-
  Proved: for every input the law DiagTells answers true, and each argument reads behind the call as it read before.
  Conditions: none (the statement Rows.DiagTellsSaid as it is given).
-/
import Derived.Test.YtemomgcapjpaiaaRows
import Derived.WalkKit
import Derived.ProofKit
import Derived.OpenShut
import Derived.ShutString
import Derived.ChangeOld
import Derived.Below
import Derived.Test.YtemomgcapjpaiaaDiagFacts
namespace Go.Proofs.Ytemomgcapjpaiaa.diagTells
open Go.ChangeShapes Go.WideShapes Go.ChangeAt Go.RowKit
open Go.ChangeMaps (open_string shut_string)
set_option linter.unusedVariables false

theorem own : ownKnob Try.prog.godebug = none := by kernel_rfl
theorem laidOut : laidOutB Try.prog = true := by kernel_rfl

/-- WHAT THE WALK IS TOLD OF A SLICE OF INTEGERS THAT CAME IN: it is nil; or it leads to a row of 'cap' cells, the numbers 'zs' (the first 'len' are its elements, the rest its spare room), each fitting its kind. -/
def IsRow (k : IntKind) (w : World) (a : Option Addr) (len cap : Nat) (zs : List Int) : Prop :=
  (a = none ∧ len = 0 ∧ cap = 0 ∧ zs = []) ∨
  ∃ x, a = some x ∧ len ≤ cap ∧ cap ≤ maxLen ∧ zs.length = cap ∧ (∀ i, i < zs.length → w.cell? (x.add i) = some (.int k (zs.getD i 0))) ∧ ∀ n ∈ zs, (Lit.int k n).wf = true

/-! ### STEP 1: THE WALK: the Go text returns true, AND WRITES NOTHING THAT WAS THERE: 'Below w.heap.size w w'' (Derived/Below.lean: '.refl', '.alloc', '.drew', '.setCell' at a new block, '.trans'). Open each 'IsRow' by 'rcases' AHEAD of 'go_enter'; part every test ahead of the walk. -/
set_option maxRecDepth 20000 in
set_option maxHeartbeats 2000000 in
theorem walk (a0 : Int) (a1 : Int) (a2 : Int) (a3 : Option Addr) (len3 cap3 : Nat) (z3 : List Int) (w : World) (w0 : (Lit.int .u16 a0).wf = true) (w1 : (Lit.int .u16 a1).wf = true) (w2 : (Lit.int .u16 a2).wf = true) (w3 : IsRow .u8 w a3 len3 cap3 z3) :
    Calls Try.prog 8 #[.int .u16 a0, .int .u16 a1, .int .u16 a2, .slice a3 len3 cap3] w fun e w' => e = .returned (.bool true) ∧ Below w.heap.size w w' := by
  obtain ⟨s, rfl⟩ := word_arg w0
  obtain ⟨x, rfl⟩ := word_arg w1
  obtain ⟨y, rfl⟩ := word_arg w2
  obtain ⟨xs, hx⟩ := Bs.ofRow w3
  have hm := hx.hle
  have hm2 := hx.hmax
  unfold maxLen at hm2
  have HX := hide hx
  have HL := hide hx.hlen
  have bs := word_lt s
  clear w0 w1 w2 w3 hx
  go_enter Try.func8, Try.ntmps8
  go_wp2_with fail
  refine (awake_any w).mono ?_
  rintro e u1 ⟨rfl, hb1⟩
  replace HX := hide (HX.out.mono hb1)
  by_cases hl : len3 ≤ 400
  rotate_left
  · have hl' : (400 : Int) < (len3 : Int) := by omega
    go_wp2
    go_ret
    exact ⟨rfl, hb1⟩
  have hl' : ¬ (400 : Int) < (len3 : Int) := by omega
  obtain ⟨n, hn⟩ : ∃ n : Nat, n = s.toNat := ⟨_, rfl⟩
  obtain ⟨R1, E1, F1⟩ : ∃ R, Hid (Diag.write 1 (Diag.statM s x) = R) ∧ Hid (R = if n = 0 ∨ n = 65535 then some (Word.putW [s, x]) else none) := ⟨_, hide rfl, hide (by rw [Diag.write_stat]; unfold Diag.isBusy; rw [← hn]; simp)⟩
  obtain ⟨R2, E2, F2⟩ : ∃ R, Hid (Diag.write 1 (Diag.logM s x y xs) = R) ∧ Hid (R = if (n = 0 ∨ n = 65535) ∧ len3 ≤ 64 then some ([UInt8.ofNat (xs.length + 6)] ++ Word.putW [s, x, y] ++ xs) else none) := ⟨_, hide rfl, hide (by rw [Diag.write_log]; unfold Diag.isBusy; rw [← hn, HL.out]; simp)⟩
  obtain ⟨R3, E3, F3⟩ : ∃ R, Hid (Diag.write 1 (Diag.nameM xs) = R) ∧ Hid (R = if 1 ≤ len3 ∧ len3 ≤ 251 then some ([UInt8.ofNat xs.length] ++ xs) else none) := ⟨_, hide rfl, hide (by rw [Diag.write_name, HL.out])⟩
  have M1 : Hid (∀ u, MsgAt u (.agg (Diag.mCells (.int .u8 11) Diag.z16 Diag.z16 (.int .u16 (n : Int)) (wordV x) Diag.z16 Diag.nilS Diag.nilS)) (Diag.statM s x)) := hide (fun u => by rw [hn]; exact Diag.m_at (m := Diag.statM s x) (Sl.nil u none (Nat.zero_le _)) (Sl.nil u none (Nat.zero_le _)) rfl)
  have M2 : Hid (∀ u, Bs u a3 len3 cap3 xs → MsgAt u (.agg (Diag.mCells (.int .u8 12) Diag.z16 Diag.z16 (.int .u16 (n : Int)) (wordV x) (wordV y) Diag.nilS (.slice a3 len3 cap3))) (Diag.logM s x y xs)) := hide (fun u h => by rw [hn]; exact Diag.m_at (m := Diag.logM s x y xs) (Sl.nil u none (Nat.zero_le _)) h rfl)
  have M3 : Hid (∀ u, Bs u a3 len3 cap3 xs → MsgAt u (.agg (Diag.mCells (.int .u8 17) Diag.z16 Diag.z16 Diag.z16 Diag.z16 Diag.z16 Diag.nilS (.slice a3 len3 cap3))) (Diag.nameM xs)) := hide (fun u h => Diag.m_at (m := Diag.nameM xs) (Sl.nil u none (Nat.zero_le _)) h rfl)
  have S1 : Hid (Diag.statM s x).Small := hide (Diag.small_of (Nat.zero_le _) rfl (Nat.zero_le _) rfl rfl)
  have S2 : Hid (Diag.logM s x y xs).Small := hide (Diag.small_of (Nat.zero_le _) rfl (by show xs.length ≤ _; rw [HL.out]; omega) rfl rfl)
  have S3 : Hid (Diag.nameM xs).Small := hide (Diag.small_of (Nat.zero_le _) rfl (by show xs.length ≤ _; rw [HL.out]; omega) rfl rfl)
  rw [← hn] at bs ⊢
  clear hn
  generalize hst : Diag.statM s x = mS at *
  generalize hlg : Diag.logM s x y xs = mL at *
  generalize hnm : Diag.nameM xs = mN at *
  clear hst hlg hnm
  rcases (show n = 0 ∨ n = 65535 ∨ (n ≠ 0 ∧ n ≠ 65535) by omega) with h0 | h0 | ⟨h0, h0'⟩
  · replace F1 : Hid (R1 = some (Word.putW [s, x])) := hide (by rw [F1.out]; exact if_pos (by omega))
    replace F2 : Hid (R2 = if len3 ≤ 64 then some ([UInt8.ofNat (xs.length + 6)] ++ Word.putW [s, x, y] ++ xs) else none) := hide (by
      rw [F2.out]
      by_cases h : len3 ≤ 64
      · rw [if_pos ⟨by omega, h⟩, if_pos h]
      · rw [if_neg (fun g => h g.2), if_neg h])
    subst h0
    go_wp2_with fail
    refine (Diag.code_write 1 _ mS u1 (M1.out _) S1.out).mono ?_
    rintro e u2 ⟨⟨a4, l4, c4, rfl, hx4⟩, b4⟩
    replace hb1 := below_next hb1 b4 (Nat.le_refl _)
    replace HX := hide (HX.out.mono b4)
    rw [E1.out] at hx4 ⊢
    have HX4 := hide hx4
    clear b4 hx4 E1 M1 S1
    go_wp2_with fail
    refine (Diag.code_write 1 _ mL u2 (M2.out _ HX.out) S2.out).mono ?_
    rintro e u3 ⟨⟨a5, l5, c5, rfl, hx5⟩, b5⟩
    replace hb1 := below_next hb1 b5 (Nat.le_refl _)
    replace HX := hide (HX.out.mono b5)
    replace HX4 := hide (HX4.out.mono b5)
    rw [E2.out] at hx5 ⊢
    have HX5 := hide hx5
    clear b5 hx5 E2 M2 S2
    go_wp2_with fail
    refine (Diag.code_write 1 _ mN u3 (M3.out _ HX.out) S3.out).mono ?_
    rintro e u4 ⟨⟨a6, l6, c6, rfl, hx6⟩, b6⟩
    replace hb1 := below_next hb1 b6 (Nat.le_refl _)
    replace HX4 := hide (HX4.out.mono b6)
    replace HX5 := hide (HX5.out.mono b6)
    rw [E3.out] at hx6 ⊢
    have HX6 := hide hx6
    clear b6 hx6 E3 M3 S3 HX
    rcases (show len3 = 0 ∨ (1 ≤ len3 ∧ len3 ≤ 64) ∨ (65 ≤ len3 ∧ len3 ≤ 251) ∨ 252 ≤ len3 by omega) with hk | hk | hk | hk
    · have f1 := F1.out
      have f2 := F2.out.trans (if_pos (show len3 ≤ 64 by omega))
      have f3 := F3.out.trans (if_neg (show ¬ (1 ≤ len3 ∧ len3 ≤ 251) by omega))
      subst f1 f2 f3
      clear F1 F2 F3
      have HL4 := hide HX4.out.hlen
      have HL5 := hide HX5.out.hlen
      have HL6 := hide HX6.out.hlen
      obtain rfl : l4 = 4 := HL4.out.symm
      have h5 : l5 = 7 + len3 := by rw [← HL5.out]; show (([UInt8.ofNat (xs.length + 6)] ++ Word.putW [s, x, y]) ++ xs).length = _; rw [List.length_append, HL.out]; rfl
      subst h5
      rw [show Diag.errW (some (Word.putW [s, x])) = 0 from rfl, show Diag.errW (some ([UInt8.ofNat (xs.length + 6)] ++ Word.putW [s, x, y] ++ xs)) = 0 from rfl, show Diag.errW none = 1 from rfl]
      subst hk
      have hm5 := HX5.out.hle
      have hm6 := HX5.out.hmax
      unfold maxLen at hm6
      obtain ⟨bb, ob, hbb, _, _⟩ := HX5.out.at (by omega)
      subst hbb
      have HS := hide ((HX5.out.drop 1 (by omega)).take 4 (by omega))
      have HSE : Hid ((List.drop 1 (Diag.outW (some ([UInt8.ofNat (xs.length + 6)] ++ Word.putW [s, x, y] ++ xs)))).take 4 = Word.putW [s, x]) := hide rfl
      rw [HSE.out] at HS
      have j1 : ¬ c5 = 1 := by omega
      have j2 : (5 : Int) ≤ (c5 : Int) := by omega
      go_wp2_with fail
      refine (same_any _ _ _ _ _ _ _ _ _ HS.out HX4.out).mono ?_
      rintro e u6 ⟨rfl, rfl⟩
      rw [decide_eq_true (show Word.putW [s, x] = Diag.outW (some (Word.putW [s, x])) from rfl)]
      go_wp2
      go_ret
      exact ⟨by first | rfl | (simp [*]; done), hb1⟩
    · have f1 := F1.out
      have f2 := F2.out.trans (if_pos (show len3 ≤ 64 by omega))
      have f3 := F3.out.trans (if_pos (show 1 ≤ len3 ∧ len3 ≤ 251 by omega))
      subst f1 f2 f3
      clear F1 F2 F3
      have HL4 := hide HX4.out.hlen
      have HL5 := hide HX5.out.hlen
      have HL6 := hide HX6.out.hlen
      obtain rfl : l4 = 4 := HL4.out.symm
      have h5 : l5 = 7 + len3 := by rw [← HL5.out]; show (([UInt8.ofNat (xs.length + 6)] ++ Word.putW [s, x, y]) ++ xs).length = _; rw [List.length_append, HL.out]; rfl
      subst h5
      have h6 : l6 = 1 + len3 := by rw [← HL6.out]; show ([UInt8.ofNat xs.length] ++ xs).length = _; rw [List.length_append, HL.out]; rfl
      subst h6
      rw [show Diag.errW (some (Word.putW [s, x])) = 0 from rfl, show Diag.errW (some ([UInt8.ofNat (xs.length + 6)] ++ Word.putW [s, x, y] ++ xs)) = 0 from rfl, show Diag.errW (some ([UInt8.ofNat xs.length] ++ xs)) = 0 from rfl]
      have g1 : (1 : Int) ≤ (len3 : Int) := by omega
      have g2 : (len3 : Int) ≤ 64 := by omega
      have g3 : (len3 : Int) ≤ 251 := by omega
      have hm5 := HX5.out.hle
      have hm6 := HX5.out.hmax
      unfold maxLen at hm6
      obtain ⟨bb, ob, hbb, _, _⟩ := HX5.out.at (by omega)
      subst hbb
      have HS := hide ((HX5.out.drop 1 (by omega)).take 4 (by omega))
      have HSE : Hid ((List.drop 1 (Diag.outW (some ([UInt8.ofNat (xs.length + 6)] ++ Word.putW [s, x, y] ++ xs)))).take 4 = Word.putW [s, x]) := hide rfl
      rw [HSE.out] at HS
      have j1 : ¬ c5 = 1 := by omega
      have j2 : (5 : Int) ≤ (c5 : Int) := by omega
      have w7 : IntKind.i64.wrap (7 + (len3 : Int)) = 7 + (len3 : Int) := by rw [IntKind.wrap_i64]; omega
      have w1 : IntKind.i64.wrap (1 + (len3 : Int)) = 1 + (len3 : Int) := by rw [IntKind.wrap_i64]; omega
      have j3 : (5 : Int) ≤ 7 + (len3 : Int) := by omega
      go_wp2_with fail
      refine (same_any _ _ _ _ _ _ _ _ _ HS.out HX4.out).mono ?_
      rintro e u6 ⟨rfl, rfl⟩
      rw [decide_eq_true (show Word.putW [s, x] = Diag.outW (some (Word.putW [s, x])) from rfl)]
      go_wp2
      go_ret
      exact ⟨by first | rfl | (simp [*]; done), hb1⟩
    · have f1 := F1.out
      have f2 := F2.out.trans (if_neg (show ¬ len3 ≤ 64 by omega))
      have f3 := F3.out.trans (if_pos (show 1 ≤ len3 ∧ len3 ≤ 251 by omega))
      subst f1 f2 f3
      clear F1 F2 F3
      have HL4 := hide HX4.out.hlen
      have HL5 := hide HX5.out.hlen
      have HL6 := hide HX6.out.hlen
      obtain rfl : l4 = 4 := HL4.out.symm
      have h6 : l6 = 1 + len3 := by rw [← HL6.out]; show ([UInt8.ofNat xs.length] ++ xs).length = _; rw [List.length_append, HL.out]; rfl
      subst h6
      rw [show Diag.errW (some (Word.putW [s, x])) = 0 from rfl, show Diag.errW none = 1 from rfl, show Diag.errW (some ([UInt8.ofNat xs.length] ++ xs)) = 0 from rfl]
      have g1 : (1 : Int) ≤ (len3 : Int) := by omega
      have g2 : ¬ (len3 : Int) ≤ 64 := by omega
      have g3 : (len3 : Int) ≤ 251 := by omega
      have w1 : IntKind.i64.wrap (1 + (len3 : Int)) = 1 + (len3 : Int) := by rw [IntKind.wrap_i64]; omega
      go_wp2
      go_ret
      exact ⟨by first | rfl | (simp [*]; done), hb1⟩
    · have f1 := F1.out
      have f2 := F2.out.trans (if_neg (show ¬ len3 ≤ 64 by omega))
      have f3 := F3.out.trans (if_neg (show ¬ (1 ≤ len3 ∧ len3 ≤ 251) by omega))
      subst f1 f2 f3
      clear F1 F2 F3
      have HL4 := hide HX4.out.hlen
      have HL5 := hide HX5.out.hlen
      have HL6 := hide HX6.out.hlen
      obtain rfl : l4 = 4 := HL4.out.symm
      rw [show Diag.errW (some (Word.putW [s, x])) = 0 from rfl, show Diag.errW none = 1 from rfl]
      have g1 : (1 : Int) ≤ (len3 : Int) := by omega
      have g2 : ¬ (len3 : Int) ≤ 64 := by omega
      have g3 : ¬ (len3 : Int) ≤ 251 := by omega
      go_wp2
      go_ret
      exact ⟨by first | rfl | (simp [*]; done), hb1⟩
  · replace F1 : Hid (R1 = some (Word.putW [s, x])) := hide (by rw [F1.out]; exact if_pos (by omega))
    replace F2 : Hid (R2 = if len3 ≤ 64 then some ([UInt8.ofNat (xs.length + 6)] ++ Word.putW [s, x, y] ++ xs) else none) := hide (by
      rw [F2.out]
      by_cases h : len3 ≤ 64
      · rw [if_pos ⟨by omega, h⟩, if_pos h]
      · rw [if_neg (fun g => h g.2), if_neg h])
    subst h0
    go_wp2_with fail
    refine (Diag.code_write 1 _ mS u1 (M1.out _) S1.out).mono ?_
    rintro e u2 ⟨⟨a4, l4, c4, rfl, hx4⟩, b4⟩
    replace hb1 := below_next hb1 b4 (Nat.le_refl _)
    replace HX := hide (HX.out.mono b4)
    rw [E1.out] at hx4 ⊢
    have HX4 := hide hx4
    clear b4 hx4 E1 M1 S1
    go_wp2_with fail
    refine (Diag.code_write 1 _ mL u2 (M2.out _ HX.out) S2.out).mono ?_
    rintro e u3 ⟨⟨a5, l5, c5, rfl, hx5⟩, b5⟩
    replace hb1 := below_next hb1 b5 (Nat.le_refl _)
    replace HX := hide (HX.out.mono b5)
    replace HX4 := hide (HX4.out.mono b5)
    rw [E2.out] at hx5 ⊢
    have HX5 := hide hx5
    clear b5 hx5 E2 M2 S2
    go_wp2_with fail
    refine (Diag.code_write 1 _ mN u3 (M3.out _ HX.out) S3.out).mono ?_
    rintro e u4 ⟨⟨a6, l6, c6, rfl, hx6⟩, b6⟩
    replace hb1 := below_next hb1 b6 (Nat.le_refl _)
    replace HX4 := hide (HX4.out.mono b6)
    replace HX5 := hide (HX5.out.mono b6)
    rw [E3.out] at hx6 ⊢
    have HX6 := hide hx6
    clear b6 hx6 E3 M3 S3 HX
    rcases (show len3 = 0 ∨ (1 ≤ len3 ∧ len3 ≤ 64) ∨ (65 ≤ len3 ∧ len3 ≤ 251) ∨ 252 ≤ len3 by omega) with hk | hk | hk | hk
    · have f1 := F1.out
      have f2 := F2.out.trans (if_pos (show len3 ≤ 64 by omega))
      have f3 := F3.out.trans (if_neg (show ¬ (1 ≤ len3 ∧ len3 ≤ 251) by omega))
      subst f1 f2 f3
      clear F1 F2 F3
      have HL4 := hide HX4.out.hlen
      have HL5 := hide HX5.out.hlen
      have HL6 := hide HX6.out.hlen
      obtain rfl : l4 = 4 := HL4.out.symm
      have h5 : l5 = 7 + len3 := by rw [← HL5.out]; show (([UInt8.ofNat (xs.length + 6)] ++ Word.putW [s, x, y]) ++ xs).length = _; rw [List.length_append, HL.out]; rfl
      subst h5
      rw [show Diag.errW (some (Word.putW [s, x])) = 0 from rfl, show Diag.errW (some ([UInt8.ofNat (xs.length + 6)] ++ Word.putW [s, x, y] ++ xs)) = 0 from rfl, show Diag.errW none = 1 from rfl]
      subst hk
      have hm5 := HX5.out.hle
      have hm6 := HX5.out.hmax
      unfold maxLen at hm6
      obtain ⟨bb, ob, hbb, _, _⟩ := HX5.out.at (by omega)
      subst hbb
      have HS := hide ((HX5.out.drop 1 (by omega)).take 4 (by omega))
      have HSE : Hid ((List.drop 1 (Diag.outW (some ([UInt8.ofNat (xs.length + 6)] ++ Word.putW [s, x, y] ++ xs)))).take 4 = Word.putW [s, x]) := hide rfl
      rw [HSE.out] at HS
      have j1 : ¬ c5 = 1 := by omega
      have j2 : (5 : Int) ≤ (c5 : Int) := by omega
      go_wp2_with fail
      refine (same_any _ _ _ _ _ _ _ _ _ HS.out HX4.out).mono ?_
      rintro e u6 ⟨rfl, rfl⟩
      rw [decide_eq_true (show Word.putW [s, x] = Diag.outW (some (Word.putW [s, x])) from rfl)]
      go_wp2
      go_ret
      exact ⟨by first | rfl | (simp [*]; done), hb1⟩
    · have f1 := F1.out
      have f2 := F2.out.trans (if_pos (show len3 ≤ 64 by omega))
      have f3 := F3.out.trans (if_pos (show 1 ≤ len3 ∧ len3 ≤ 251 by omega))
      subst f1 f2 f3
      clear F1 F2 F3
      have HL4 := hide HX4.out.hlen
      have HL5 := hide HX5.out.hlen
      have HL6 := hide HX6.out.hlen
      obtain rfl : l4 = 4 := HL4.out.symm
      have h5 : l5 = 7 + len3 := by rw [← HL5.out]; show (([UInt8.ofNat (xs.length + 6)] ++ Word.putW [s, x, y]) ++ xs).length = _; rw [List.length_append, HL.out]; rfl
      subst h5
      have h6 : l6 = 1 + len3 := by rw [← HL6.out]; show ([UInt8.ofNat xs.length] ++ xs).length = _; rw [List.length_append, HL.out]; rfl
      subst h6
      rw [show Diag.errW (some (Word.putW [s, x])) = 0 from rfl, show Diag.errW (some ([UInt8.ofNat (xs.length + 6)] ++ Word.putW [s, x, y] ++ xs)) = 0 from rfl, show Diag.errW (some ([UInt8.ofNat xs.length] ++ xs)) = 0 from rfl]
      have g1 : (1 : Int) ≤ (len3 : Int) := by omega
      have g2 : (len3 : Int) ≤ 64 := by omega
      have g3 : (len3 : Int) ≤ 251 := by omega
      have hm5 := HX5.out.hle
      have hm6 := HX5.out.hmax
      unfold maxLen at hm6
      obtain ⟨bb, ob, hbb, _, _⟩ := HX5.out.at (by omega)
      subst hbb
      have HS := hide ((HX5.out.drop 1 (by omega)).take 4 (by omega))
      have HSE : Hid ((List.drop 1 (Diag.outW (some ([UInt8.ofNat (xs.length + 6)] ++ Word.putW [s, x, y] ++ xs)))).take 4 = Word.putW [s, x]) := hide rfl
      rw [HSE.out] at HS
      have j1 : ¬ c5 = 1 := by omega
      have j2 : (5 : Int) ≤ (c5 : Int) := by omega
      have w7 : IntKind.i64.wrap (7 + (len3 : Int)) = 7 + (len3 : Int) := by rw [IntKind.wrap_i64]; omega
      have w1 : IntKind.i64.wrap (1 + (len3 : Int)) = 1 + (len3 : Int) := by rw [IntKind.wrap_i64]; omega
      have j3 : (5 : Int) ≤ 7 + (len3 : Int) := by omega
      go_wp2_with fail
      refine (same_any _ _ _ _ _ _ _ _ _ HS.out HX4.out).mono ?_
      rintro e u6 ⟨rfl, rfl⟩
      rw [decide_eq_true (show Word.putW [s, x] = Diag.outW (some (Word.putW [s, x])) from rfl)]
      go_wp2
      go_ret
      exact ⟨by first | rfl | (simp [*]; done), hb1⟩
    · have f1 := F1.out
      have f2 := F2.out.trans (if_neg (show ¬ len3 ≤ 64 by omega))
      have f3 := F3.out.trans (if_pos (show 1 ≤ len3 ∧ len3 ≤ 251 by omega))
      subst f1 f2 f3
      clear F1 F2 F3
      have HL4 := hide HX4.out.hlen
      have HL5 := hide HX5.out.hlen
      have HL6 := hide HX6.out.hlen
      obtain rfl : l4 = 4 := HL4.out.symm
      have h6 : l6 = 1 + len3 := by rw [← HL6.out]; show ([UInt8.ofNat xs.length] ++ xs).length = _; rw [List.length_append, HL.out]; rfl
      subst h6
      rw [show Diag.errW (some (Word.putW [s, x])) = 0 from rfl, show Diag.errW none = 1 from rfl, show Diag.errW (some ([UInt8.ofNat xs.length] ++ xs)) = 0 from rfl]
      have g1 : (1 : Int) ≤ (len3 : Int) := by omega
      have g2 : ¬ (len3 : Int) ≤ 64 := by omega
      have g3 : (len3 : Int) ≤ 251 := by omega
      have w1 : IntKind.i64.wrap (1 + (len3 : Int)) = 1 + (len3 : Int) := by rw [IntKind.wrap_i64]; omega
      go_wp2
      go_ret
      exact ⟨by first | rfl | (simp [*]; done), hb1⟩
    · have f1 := F1.out
      have f2 := F2.out.trans (if_neg (show ¬ len3 ≤ 64 by omega))
      have f3 := F3.out.trans (if_neg (show ¬ (1 ≤ len3 ∧ len3 ≤ 251) by omega))
      subst f1 f2 f3
      clear F1 F2 F3
      have HL4 := hide HX4.out.hlen
      have HL5 := hide HX5.out.hlen
      have HL6 := hide HX6.out.hlen
      obtain rfl : l4 = 4 := HL4.out.symm
      rw [show Diag.errW (some (Word.putW [s, x])) = 0 from rfl, show Diag.errW none = 1 from rfl]
      have g1 : (1 : Int) ≤ (len3 : Int) := by omega
      have g2 : ¬ (len3 : Int) ≤ 64 := by omega
      have g3 : ¬ (len3 : Int) ≤ 251 := by omega
      go_wp2
      go_ret
      exact ⟨by first | rfl | (simp [*]; done), hb1⟩
  · replace F1 : Hid (R1 = none) := hide (by rw [F1.out]; exact if_neg (by omega))
    replace F2 : Hid (R2 = none) := hide (by rw [F2.out]; exact if_neg (fun g => by have := g.1; omega))
    have q0 : ((n : Int) == 0) = false := by simp; omega
    have q1 : ((n : Int) == 65535) = false := by simp; omega
    go_wp2_with fail
    refine (Diag.code_write 1 _ mS u1 (M1.out _) S1.out).mono ?_
    rintro e u2 ⟨⟨a4, l4, c4, rfl, hx4⟩, b4⟩
    replace hb1 := below_next hb1 b4 (Nat.le_refl _)
    replace HX := hide (HX.out.mono b4)
    rw [E1.out] at hx4 ⊢
    have HX4 := hide hx4
    clear b4 hx4 E1 M1 S1
    go_wp2_with fail
    refine (Diag.code_write 1 _ mL u2 (M2.out _ HX.out) S2.out).mono ?_
    rintro e u3 ⟨⟨a5, l5, c5, rfl, hx5⟩, b5⟩
    replace hb1 := below_next hb1 b5 (Nat.le_refl _)
    replace HX := hide (HX.out.mono b5)
    replace HX4 := hide (HX4.out.mono b5)
    rw [E2.out] at hx5 ⊢
    have HX5 := hide hx5
    clear b5 hx5 E2 M2 S2
    go_wp2_with fail
    refine (Diag.code_write 1 _ mN u3 (M3.out _ HX.out) S3.out).mono ?_
    rintro e u4 ⟨⟨a6, l6, c6, rfl, hx6⟩, b6⟩
    replace hb1 := below_next hb1 b6 (Nat.le_refl _)
    replace HX4 := hide (HX4.out.mono b6)
    replace HX5 := hide (HX5.out.mono b6)
    rw [E3.out] at hx6 ⊢
    have HX6 := hide hx6
    clear b6 hx6 E3 M3 S3 HX
    rcases (show len3 = 0 ∨ (1 ≤ len3 ∧ len3 ≤ 64) ∨ (65 ≤ len3 ∧ len3 ≤ 251) ∨ 252 ≤ len3 by omega) with hk | hk | hk | hk
    · have f1 := F1.out
      have f2 := F2.out
      have f3 := F3.out.trans (if_neg (show ¬ (1 ≤ len3 ∧ len3 ≤ 251) by omega))
      subst f1 f2 f3
      clear F1 F2 F3
      have HL4 := hide HX4.out.hlen
      have HL5 := hide HX5.out.hlen
      have HL6 := hide HX6.out.hlen
      rw [show Diag.errW none = 1 from rfl]
      subst hk
      go_wp2
      go_ret
      exact ⟨by first | rfl | (simp [*]; done), hb1⟩
    · have f1 := F1.out
      have f2 := F2.out
      have f3 := F3.out.trans (if_pos (show 1 ≤ len3 ∧ len3 ≤ 251 by omega))
      subst f1 f2 f3
      clear F1 F2 F3
      have HL4 := hide HX4.out.hlen
      have HL5 := hide HX5.out.hlen
      have HL6 := hide HX6.out.hlen
      have h6 : l6 = 1 + len3 := by rw [← HL6.out]; show ([UInt8.ofNat xs.length] ++ xs).length = _; rw [List.length_append, HL.out]; rfl
      subst h6
      rw [show Diag.errW none = 1 from rfl, show Diag.errW (some ([UInt8.ofNat xs.length] ++ xs)) = 0 from rfl]
      have g1 : (1 : Int) ≤ (len3 : Int) := by omega
      have g2 : (len3 : Int) ≤ 64 := by omega
      have g3 : (len3 : Int) ≤ 251 := by omega
      have w1 : IntKind.i64.wrap (1 + (len3 : Int)) = 1 + (len3 : Int) := by rw [IntKind.wrap_i64]; omega
      go_wp2
      go_ret
      exact ⟨by first | rfl | (simp [*]; done), hb1⟩
    · have f1 := F1.out
      have f2 := F2.out
      have f3 := F3.out.trans (if_pos (show 1 ≤ len3 ∧ len3 ≤ 251 by omega))
      subst f1 f2 f3
      clear F1 F2 F3
      have HL4 := hide HX4.out.hlen
      have HL5 := hide HX5.out.hlen
      have HL6 := hide HX6.out.hlen
      have h6 : l6 = 1 + len3 := by rw [← HL6.out]; show ([UInt8.ofNat xs.length] ++ xs).length = _; rw [List.length_append, HL.out]; rfl
      subst h6
      rw [show Diag.errW none = 1 from rfl, show Diag.errW (some ([UInt8.ofNat xs.length] ++ xs)) = 0 from rfl]
      have g1 : (1 : Int) ≤ (len3 : Int) := by omega
      have g2 : ¬ (len3 : Int) ≤ 64 := by omega
      have g3 : (len3 : Int) ≤ 251 := by omega
      have w1 : IntKind.i64.wrap (1 + (len3 : Int)) = 1 + (len3 : Int) := by rw [IntKind.wrap_i64]; omega
      go_wp2
      go_ret
      exact ⟨by first | rfl | (simp [*]; done), hb1⟩
    · have f1 := F1.out
      have f2 := F2.out
      have f3 := F3.out.trans (if_neg (show ¬ (1 ≤ len3 ∧ len3 ≤ 251) by omega))
      subst f1 f2 f3
      clear F1 F2 F3
      have HL4 := hide HX4.out.hlen
      have HL5 := hide HX5.out.hlen
      have HL6 := hide HX6.out.hlen
      rw [show Diag.errW none = 1 from rfl]
      have g1 : (1 : Int) ≤ (len3 : Int) := by omega
      have g2 : ¬ (len3 : Int) ≤ 64 := by omega
      have g3 : ¬ (len3 : Int) ≤ 251 := by omega
      go_wp2
      go_ret
      exact ⟨by first | rfl | (simp [*]; done), hb1⟩

/-! ### THE ROW's STEP: WRITTEN OUT: LEAVE IT -/
set_option maxRecDepth 100000 in
theorem lifted (os : Os) (started : os.Started) (H : Type) (enc : TypeId × Value → H) :
    ReturnsInHanded {} Try.checked os 8 .any (Rows.diagTellsSpec.pre6 enc Try.prog Try.f8 Rows.diagTellsRow.domain false) (Rows.diagTellsSpec.post enc Try.prog Try.f8 false true false false) := by
  refine returnsInHanded_of_change (C := Try.checked) own started (by kernel_rfl) Try.func8
    (ChangeSpec.witness6 (enc := enc) (C := Try.checked) false ⟨#[], #[.int .u16 0, .int .u16 0, .int .u16 0, .slice none 0 0], []⟩ 8 (by kernel_rfl) (by kernel_rfl) (by kernel_rfl) (by kernel_rfl)) ?_
  intro W base args ds gs before hval0 hW hcnd _
  have hval : ∀ (j : Nat) t v, Try.f8.params[j]? = some t → args[j]? = some v → Value.okWide Try.prog W .any base t v := hval0
  have hW' := hW
  obtain ⟨p, q, hA0, hV, rfl, hfz, hnd⟩ := hW
  have hA : DataW.TrodAll enc Try.prog W 0 (fun _ => true) true Try.f8.params.toList args.toList ds p := hA0
  rw [Try.params8] at hA hval
  obtain ⟨v0, vs0, d0, ds0, p0, q0, hargs, rfl, rfl, h0, r0⟩ := trodAll_cons hA
  obtain ⟨v1, vs1, d1, ds1, p1, q1, rfl, rfl, rfl, h1, r1⟩ := trodAll_cons r0
  obtain ⟨v2, vs2, d2, ds2, p2, q2, rfl, rfl, rfl, h2, r2⟩ := trodAll_cons r1
  obtain ⟨v3, vs3, d3, ds3, p3, q3, rfl, rfl, rfl, h3, r3⟩ := trodAll_cons r2
  obtain ⟨rfl, rfl, rfl⟩ := trodAll_nil r3
  obtain rfl : args = #[v0, v1, v2, v3] := by cases args; simp_all
  obtain ⟨rfl, rfl⟩ := trodVars_none hV
  obtain ⟨a0, rfl, rfl, rfl, w0⟩ := open_int Try.underlying24 (hval 0 24 v0 rfl rfl) h0
  obtain ⟨a1, rfl, rfl, rfl, w1⟩ := open_int Try.underlying24 (hval 1 24 v1 rfl rfl) h1
  obtain ⟨a2, rfl, rfl, rfl, w2⟩ := open_int Try.underlying24 (hval 2 24 v2 rfl rfl) h2
  obtain ⟨a3, len3, cap3, rfl⟩ := okWide_slice Try.underlying22 (hval 3 22 v3 rfl rfl)
  have k3 := h3
  have lt3 : ∀ x ∈ p3, x.block < W.heap.size := by obtain ⟨m, hm⟩ := k3; exact DataW.trod_lt m _ _ _ hm
  obtain ⟨z3, w3⟩ : ∃ zs, IsRow .u8 W a3 len3 cap3 zs := by
    obtain ⟨fuel, hf⟩ := h3
    rcases open_ints Try.underlying22 Try.underlying5 (by kernel_rfl) hf with ⟨hcs, _⟩ | ⟨x, l, c, zs, hcs, _, hl, hm, hz, _, hcell, hwz⟩
    · simp [Value.cells] at hcs
      obtain ⟨rfl, rfl, rfl⟩ := hcs
      exact ⟨[], .inl ⟨rfl, rfl, rfl, rfl⟩⟩
    · simp [Value.cells] at hcs
      obtain ⟨rfl, rfl, rfl⟩ := hcs
      exact ⟨zs, .inr ⟨_, rfl, hl, hm, by simpa using hz, hcell, hwz⟩⟩
  clear hA0 hval0
  refine (walk a0 a1 a2 a3 len3 cap3 z3 W w0 w1 w2 w3).mono fun e W' ⟨he, bel⟩ => ?_
  subst he
  exact ⟨_, rfl, _, _, _, [], _, [], hW', trodAll_mk1 (shut_bool Try.underlying4 _), (trodAll_cons_mk (shut_int Try.underlying24 w0) (trodAll_cons_mk (shut_int Try.underlying24 w1) (trodAll_cons_mk (shut_int Try.underlying24 w2) (trodAll_cons_mk (Below.trod laidOut (by kernel_rfl) (of_decide_eq_true (by kernel_rfl)) k3 bel lt3) trodAll_mk0)))), rfl, bel.frame _, fun h => by cases h⟩

theorem over : Rows.diagTellsRow.holds Try.pinned (OpenSpec.ofChange Rows.diagTellsSpec) :=
  OpenClaim.holds_of_wide 8 Try.f8 rfl rfl rfl rfl rfl rfl rfl ⟨rfl, rfl, rfl, rfl, rfl⟩ rfl rfl rfl rfl rfl (by kernel_rfl) Try.func8 (by kernel_rfl)
    (of_decide_eq_true (by kernel_rfl)) (by unfold Func.isWrapper; first | (rw [if_pos (by decide +kernel)]; kernel_rfl) | (rw [if_neg (by decide +kernel)]; exact ⟨rfl, rfl⟩))
    (fun os started H enc _ => lifted os started H enc)

/-- ████ THE STATEMENT ████ -/
theorem proved : Rows.DiagTellsSaid := over
#print axioms proved
end Go.Proofs.Ytemomgcapjpaiaa.diagTells
