/-
  Proved: for every input the law CrcTurned answers true, and each argument reads behind the call as it read before.
  Conditions: none (the statement Rows.CrcTurnedSaid as it is given).
-/
import Derived.Test.YthpncdfpjfchdaaRows
import Derived.WalkKit
import Derived.ProofKit
import Derived.OpenShut
import Derived.ShutString
import Derived.ChangeOld
import Derived.Below
import Derived.Test.YthpncdfpjfchdaaAwake
import Derived.Test.YthpncdfpjfchdaaApp
import Derived.BigRegion
namespace Go.Proofs.Ythpncdfpjfchdaa.crcTurned
open Go.ChangeShapes Go.WideShapes Go.ChangeAt Go.RowKit
open Go.ChangeMaps (open_string shut_string)
set_option linter.unusedVariables false

open Crc
def hit (b n : Nat) : Bool := decide (b % 2 ^ n ≠ 0)
theorem bit_and (b n : Nat) (hb : b < 65536) : bits BinOp.and IntKind.u16 ((b : Int) / 2 ^ n) 1 = ((b / 2 ^ n % 2 : Nat) : Int) := by
  have e : ((b : Int) / 2 ^ n) = ((b / 2 ^ n : Nat) : Int) := by simp
  rw [e, show (1 : Int) = ((1 : Nat) : Int) from rfl, u16_and_nat _ 1 (Nat.lt_of_le_of_lt (Nat.div_le_self _ _) hb) (by omega), Nat.and_one_is_mod]
theorem mod_next (b n : Nat) : b % 2 ^ (n + 1) = b % 2 ^ n + 2 ^ n * (b / 2 ^ n % 2) := Nat.mod_pow_succ
theorem hit_zero (b n : Nat) (h : b / 2 ^ n % 2 = 0) : b % 2 ^ (n + 1) = b % 2 ^ n := by rw [mod_next, h]; simp
theorem hit_one (b n : Nat) (h : b / 2 ^ n % 2 = 1) : b % 2 ^ (n + 1) = b % 2 ^ n ^^^ 2 ^ n := by
  rw [mod_next, h, add_xor n _ 1 (Nat.mod_lt _ (Nat.pow_pos (by omega)))]; simp
theorem hit_one_pos (b n : Nat) (h : b / 2 ^ n % 2 = 1) : hit b (n + 1) = true := by
  unfold hit; rw [mod_next, h]
  have : 0 < 2 ^ n := Nat.pow_pos (by omega)
  simp
theorem turn_byte (z : UInt8) (r : Nat) (hr : r < 8) : bits BinOp.xor IntKind.u8 (z.toNat : Int) (2 ^ r % 256) = ((z ^^^ UInt8.ofNat (2 ^ r)).toNat : Int) := by
  have h : 2 ^ r < 256 := Nat.pow_lt_pow_right (by omega) (show r < 8 by omega)
  have e : ((2 : Int) ^ r % 256) = ((2 ^ r : Nat) : Int) := by
    rw [show ((2 : Int) ^ r) = ((2 ^ r : Nat) : Int) by simp]
    generalize 2 ^ r = q at *
    omega
  rw [e, u8_xor_nat _ _ (u8_lt _) h, UInt8.toNat_xor, UInt8.toNat_ofNat', Nat.mod_eq_of_lt h]
theorem val_turn (zs : List UInt8) (z0 : List UInt8) (b n k : Nat) (hJ : (k + n) / 8 < zs.length) (hv : val zs = val z0 ^^^ b % 2 ^ n * 2 ^ k) (h : b / 2 ^ n % 2 = 1) :
    val (zs.set ((k + n) / 8) (zs[(k + n) / 8] ^^^ UInt8.ofNat (2 ^ ((k + n) % 8)))) = val z0 ^^^ b % 2 ^ (n + 1) * 2 ^ k := by
  have hr : 2 ^ ((k + n) % 8) < 256 := Nat.pow_lt_pow_right (by omega) (show (k + n) % 8 < 8 by omega)
  rw [val_set zs _ hJ, hv, hit_one b n h, xor_mul, UInt8.toNat_ofNat', Nat.mod_eq_of_lt hr, ← Nat.pow_add, ← Nat.pow_add, show (k + n) % 8 + 8 * ((k + n) / 8) = n + k by omega, Nat.xor_assoc]
theorem turned_end (zs z0 : List UInt8) (b n k : Nat) (hn : n ≤ 16) (hl : z0.length = zs.length) (h2 : 2 ≤ zs.length) (hk : k ≤ 8 * zs.length) (hv : val zs = val z0 ^^^ b % 2 ^ n * 2 ^ k) (h0 : thenN 65535 z0 = 0) : isB zs = !hit b n := by
  have hm : b % 2 ^ n < 65536 := Nat.lt_of_lt_of_le (Nat.mod_lt _ (Nat.pow_pos (by omega))) (Nat.pow_le_pow_right (by omega) hn)
  have := burst z0 zs hl h0 (b % 2 ^ n) k hm (by omega) hv
  rw [isB_iff zs h2]
  unfold hit
  simp [this]
theorem own : ownKnob Try.prog.godebug = none := by kernel_rfl
theorem laidOut : laidOutB Try.prog = true := by kernel_rfl

/-- WHAT THE WALK IS TOLD OF A SLICE OF INTEGERS THAT CAME IN: it is nil; or it leads to a row of 'cap' cells, the numbers 'zs' (the first 'len' are its elements, the rest its spare room), each fitting its kind. -/
def IsRow (k : IntKind) (w : World) (a : Option Addr) (len cap : Nat) (zs : List Int) : Prop :=
  (a = none ∧ len = 0 ∧ cap = 0 ∧ zs = []) ∨
  ∃ x, a = some x ∧ len ≤ cap ∧ cap ≤ maxLen ∧ zs.length = cap ∧ (∀ i, i < zs.length → w.cell? (x.add i) = some (.int k (zs.getD i 0))) ∧ ∀ n ∈ zs, (Lit.int k n).wf = true

/-! ### STEP 1: THE WALK: the Go text returns true, AND WRITES NOTHING THAT WAS THERE: 'Below w.heap.size w w'' (Derived/Below.lean: '.refl', '.alloc', '.drew', '.setCell' at a new block, '.trans'). Open each 'IsRow' by 'rcases' AHEAD of 'go_enter'; part every test ahead of the walk. -/
set_option maxHeartbeats 2000000 in
theorem walk (a0 : Option Addr) (len0 cap0 : Nat) (z0 : List Int) (a1 : Int) (a2 : Int) (w : World) (w0 : IsRow .u8 w a0 len0 cap0 z0) (w1 : (Lit.int .u16 a1).wf = true) (w2 : (Lit.int .u16 a2).wf = true) :
    Calls Try.prog 5 #[.slice a0 len0 cap0, .int .u16 a1, .int .u16 a2] w fun e w' => e = .returned (.bool true) ∧ Below w.heap.size w w' := by
  obtain ⟨xs, hx⟩ := Bs.ofRow w0
  obtain ⟨at', rfl, hat⟩ : ∃ s : Nat, a1 = s ∧ s < 65536 := nat_u16 w1
  obtain ⟨by', rfl, hby⟩ : ∃ s : Nat, a2 = s ∧ s < 65536 := nat_u16 w2
  have hm := hx.hle
  have hm2 := hx.hmax
  unfold maxLen at hm2
  go_enter Try.func5, Try.ntmps5
  go_wp2_with fail
  refine (awake_any w).mono ?_
  rintro e w1 ⟨rfl, hb1⟩
  by_cases hbig : 300 < len0
  · go_wp2
    go_ret
    exact ⟨rfl, hb1⟩
  have hx1 := hx.mono hb1
  have hl0 : len0 ≤ 300 := by omega
  go_wp2_with (at_builtin; refine app (by rfl) _ _ rfl w1.heap.size rfl (Own.empty _ _ _) rfl (hx1.alloc _) (by omega) (by simp) ?_)
  intro p4 c4 w4 ho4 hb4
  replace hb4 := ((Below.refl w1.heap.size w1).alloc (Nat.le_refl _) _).trans hb4
  have hx4 := hx1.mono hb4
  go_wp2_with fail
  refine (of_any _ _ _ xs _ hx4).mono ?_
  rintro e w5 ⟨rfl, hb5⟩
  go_wp2_with fail
  refine (two_any _ (thenN_lt _ _ (by omega)) _).mono ?_
  rintro e w6 ⟨p6, rfl, hs6, hb6⟩
  have ho6 := (ho4.mono hb5).mono hb6
  have hsz6 : w1.heap.size ≤ w6.heap.size := Nat.le_trans hb4.size (Nat.le_trans hb5.size hb6.size)
  go_wp2_with (at_builtin; refine app (by rfl) _ _ rfl w1.heap.size rfl ho6 rfl hs6 (by omega) hsz6 ?_)
  intro p7 c7 w7 ho7 hb7
  replace hb7 := (hb4.trans ((hb5.mono hb4.size).trans ((hb6.mono (Nat.le_trans hb4.size hb5.size)).trans hb7)))
  clear hb4 hb5 hb6 hs6 ho6 ho4 hx4 hsz6 hx1
  have H0 := hide (own_zero xs)
  clear w0
  clear z0
  generalize xs ++ two (thenN 65535 xs) = z0 at *
  have hle7 := ho7.sl.hle
  have hmx7 := ho7.sl.hmax
  unfold maxLen at hmx7
  obtain ⟨L, hL⟩ : ∃ L, L = len0 + 2 := ⟨_, rfl⟩
  rw [← hL] at ho7 hle7
  rw [← hL]
  have hL2 : 2 ≤ L := by omega
  have hL3 : L ≤ 302 := by omega
  clear hL
  obtain ⟨bb, oo, rfl, hbb, _⟩ := ho7.sl.at (by omega)
  obtain ⟨k, hk, hk8⟩ : ∃ k : Nat, (k : Int) = (at' : Int) % (8 * (L : Int)) ∧ k < 8 * L := ⟨at' % (8 * L), by simp, Nat.mod_lt _ (by omega)⟩
  go_wp2
  rw [← hk]
  clear hk
  go_loopw [10, 11] (fun t i wr => ∃ (n : Nat) (zs : List UInt8), n ≤ 16 ∧ i = .int .i64 n ∧ t = .bool (hit by' n) ∧ Own byteV wr w1.heap.size (some ⟨bb, oo, none⟩) L c7 zs ∧ val zs = val z0 ^^^ (by' % 2 ^ n) * 2 ^ k ∧ Below w1.heap.size w1 wr)
    (fun _ i _ => 16 - (intOf i).toNat)
  case atStart => exact ⟨0, z0, by omega, rfl, by simp [hit, Nat.mod_one], ho7, by simp [Nat.mod_one], hb7⟩
  case round =>
    obtain ⟨n, zs, hn, rfl, rfl, ho, hv, hbr⟩ := hrel
    have HV := hide hv
    clear hv
    by_cases hn16 : n < 16
    · by_cases hkn : k + n < 8 * L
      · have hba := bit_and by' n hby
        by_cases hbit : by' / 2 ^ n % 2 = 1
        · have hb1' : (bits BinOp.and IntKind.u16 ((by' : Int) / 2 ^ n) 1 == 1) = true := by rw [hba, hbit]; rfl
          clear hba
          have hJL : (k + n) / 8 < zs.length := by have := ho.sl.hlen; omega
          obtain ⟨_, _, hh, _, hcell⟩ := ho.sl.hcell ((k + n) / 8) hJL
          cases hh
          obtain ⟨_, _, hh, _, _, _, hfro⟩ := ho.room ((k + n) / 8) (by have := ho.sl.hle; have := ho.sl.hlen; omega)
          cases hh
          have hJ0 : 0 ≤ ((k : Int) + (n : Int)) / 8 := by omega
          have hJ1 : ((k : Int) + (n : Int)) / 8 < (L : Int) := by omega
          have hr0 : 0 ≤ ((k : Int) + (n : Int)) % 8 := by omega
          have hr1 : ((k : Int) + (n : Int)) % 8 < 8 := by omega
          have hc : wr.cell? ⟨bb, oo + (k + n) / 8, none⟩ = some (.int .u8 (zs[(k + n) / 8].toNat : Int)) := hcell
          clear hcell
          have hset := (ho.set ((k + n) / 8) hJL (zs[(k + n) / 8] ^^^ UInt8.ofNat (2 ^ ((k + n) % 8)))).drew
          have htb := turn_byte zs[(k + n) / 8] ((k + n) % 8) (by omega)
          rw [byteV, ← htb] at hset
          have HS := hide hset
          have hBs : w1.heap.size ≤ bb := by
            obtain ⟨_, _, hh, hB, _⟩ := ho.room 0 (by have := ho.sl.hle; have := ho.sl.hlen; omega)
            cases hh; exact hB
          have hbr' := hide (hbr.setCell (p := ⟨bb, oo + (k + n) / 8, none⟩) hBs (.int .u8 (bits BinOp.xor IntKind.u8 (zs[(k + n) / 8].toNat : Int) (2 ^ ((k + n) % 8) % 256)))).drew
          have HN := hide (val_turn zs z0 by' n k hJL HV.out hbit)
          have HP := hide (hit_one_pos by' n hbit)
          clear hset htb hbit
          go_wp2
          go_region
          go_wp2
          go_roundw
          case rel => exact ⟨n + 1, _, by omega, by go_num, by rw [HP.out], HS.out, HN.out, hbr'.out⟩
          case measure => simp [intOf]; omega
        · have hb1' : (bits BinOp.and IntKind.u16 ((by' : Int) / 2 ^ n) 1 == 1) = false := by rw [hba, show by' / 2 ^ n % 2 = 0 by omega]; rfl
          have HZ := hide (hit_zero by' n (by omega))
          have HP := hide (show hit by' (n + 1) = hit by' n by unfold hit; rw [HZ.out])
          clear hba hbit
          go_wp2
          go_roundw
          case rel => exact ⟨n + 1, zs, by omega, by go_num, by rw [HP.out], ho, by rw [HZ.out, HV.out], hbr⟩
          case measure => simp [intOf]; omega
      · have HE := hide (turned_end zs z0 by' n k hn (by have := ho.sl.hlen; have := ho7.sl.hlen; omega) (by have := ho.sl.hlen; omega) (by have := ho.sl.hlen; omega) HV.out H0.out)
        go_wp2_with fail
        refine (is_any _ _ _ _ _ ho.sl).mono ?_
        rintro e wz ⟨rfl, hbz⟩
        rw [HE.out]
        go_wp2
        go_ret
        exact ⟨ret_bool (by simp), below_next (below_next hb1 hbr (Nat.le_refl _)) hbz (Nat.le_refl _)⟩
    · have HE := hide (turned_end zs z0 by' n k hn (by have := ho.sl.hlen; have := ho7.sl.hlen; omega) (by have := ho.sl.hlen; omega) (by have := ho.sl.hlen; omega) HV.out H0.out)
      go_wp2_with fail
      refine (is_any _ _ _ _ _ ho.sl).mono ?_
      rintro e wz ⟨rfl, hbz⟩
      rw [HE.out]
      go_wp2
      go_ret
      exact ⟨ret_bool (by simp), below_next (below_next hb1 hbr (Nat.le_refl _)) hbz (Nat.le_refl _)⟩

/-! ### THE ROW's STEP: WRITTEN OUT: LEAVE IT -/
set_option maxRecDepth 100000 in
theorem lifted (os : Os) (started : os.Started) (H : Type) (enc : TypeId × Value → H) :
    ReturnsInHanded {} Try.checked os 5 .any (Rows.crcTurnedSpec.pre6 enc Try.prog Try.f5 Rows.crcTurnedRow.domain false) (Rows.crcTurnedSpec.post enc Try.prog Try.f5 false true false false) := by
  refine returnsInHanded_of_change (C := Try.checked) own started (by kernel_rfl) Try.func5
    (ChangeSpec.witness6 (enc := enc) (C := Try.checked) false ⟨#[], #[.slice none 0 0, .int .u16 0, .int .u16 0], []⟩ 8 (by kernel_rfl) (by kernel_rfl) (by kernel_rfl) (by kernel_rfl)) ?_
  intro W base args ds gs before hval0 hW hcnd _
  have hval : ∀ (j : Nat) t v, Try.f5.params[j]? = some t → args[j]? = some v → Value.okWide Try.prog W .any base t v := hval0
  have hW' := hW
  obtain ⟨p, q, hA0, hV, rfl, hfz, hnd⟩ := hW
  have hA : DataW.TrodAll enc Try.prog W 0 (fun _ => true) true Try.f5.params.toList args.toList ds p := hA0
  rw [Try.params5] at hA hval
  obtain ⟨v0, vs0, d0, ds0, p0, q0, hargs, rfl, rfl, h0, r0⟩ := trodAll_cons hA
  obtain ⟨v1, vs1, d1, ds1, p1, q1, rfl, rfl, rfl, h1, r1⟩ := trodAll_cons r0
  obtain ⟨v2, vs2, d2, ds2, p2, q2, rfl, rfl, rfl, h2, r2⟩ := trodAll_cons r1
  obtain ⟨rfl, rfl, rfl⟩ := trodAll_nil r2
  obtain rfl : args = #[v0, v1, v2] := by cases args; simp_all
  obtain ⟨rfl, rfl⟩ := trodVars_none hV
  obtain ⟨a0, len0, cap0, rfl⟩ := okWide_slice Try.underlying22 (hval 0 22 v0 rfl rfl)
  have k0 := h0
  have lt0 : ∀ x ∈ p0, x.block < W.heap.size := by obtain ⟨m, hm⟩ := k0; exact DataW.trod_lt m _ _ _ hm
  obtain ⟨z0, w0⟩ : ∃ zs, IsRow .u8 W a0 len0 cap0 zs := by
    obtain ⟨fuel, hf⟩ := h0
    rcases open_ints Try.underlying22 Try.underlying5 (by kernel_rfl) hf with ⟨hcs, _⟩ | ⟨x, l, c, zs, hcs, _, hl, hm, hz, _, hcell, hwz⟩
    · simp [Value.cells] at hcs
      obtain ⟨rfl, rfl, rfl⟩ := hcs
      exact ⟨[], .inl ⟨rfl, rfl, rfl, rfl⟩⟩
    · simp [Value.cells] at hcs
      obtain ⟨rfl, rfl, rfl⟩ := hcs
      exact ⟨zs, .inr ⟨_, rfl, hl, hm, by simpa using hz, hcell, hwz⟩⟩
  obtain ⟨a1, rfl, rfl, rfl, w1⟩ := open_int Try.underlying23 (hval 1 23 v1 rfl rfl) h1
  obtain ⟨a2, rfl, rfl, rfl, w2⟩ := open_int Try.underlying23 (hval 2 23 v2 rfl rfl) h2
  clear hA0 hval0
  refine (walk a0 len0 cap0 z0 a1 a2 W w0 w1 w2).mono fun e W' ⟨he, bel⟩ => ?_
  subst he
  exact ⟨_, rfl, _, _, _, [], _, [], hW', trodAll_mk1 (shut_bool Try.underlying4 _), (trodAll_cons_mk (Below.trod laidOut (by kernel_rfl) (of_decide_eq_true (by kernel_rfl)) k0 bel lt0) (trodAll_cons_mk (shut_int Try.underlying23 w1) (trodAll_cons_mk (shut_int Try.underlying23 w2) trodAll_mk0))), rfl, bel.frame _, fun h => by cases h⟩

theorem over : Rows.crcTurnedRow.holds Try.pinned (OpenSpec.ofChange Rows.crcTurnedSpec) :=
  OpenClaim.holds_of_wide 5 Try.f5 rfl rfl rfl rfl rfl rfl rfl ⟨rfl, rfl, rfl, rfl, rfl⟩ rfl rfl rfl rfl rfl (by kernel_rfl) Try.func5 (by kernel_rfl)
    (of_decide_eq_true (by kernel_rfl)) (by unfold Func.isWrapper; first | (rw [if_pos (by decide +kernel)]; kernel_rfl) | (rw [if_neg (by decide +kernel)]; exact ⟨rfl, rfl⟩))
    (fun os started H enc _ => lifted os started H enc)

/-- ████ THE STATEMENT ████ -/
theorem proved : Rows.CrcTurnedSaid := over
#print axioms proved
end Go.Proofs.Ythpncdfpjfchdaa.crcTurned
