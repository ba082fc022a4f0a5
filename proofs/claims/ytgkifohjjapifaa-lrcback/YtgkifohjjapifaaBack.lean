/-
  Proved: for every input the law LrcBack answers true, and each argument reads behind the call as it read before.
  Conditions: none (the statement Rows.LrcBackSaid as it is given).
-/
import Derived.Test.YtgkifohjjapifaaRows
import Derived.WalkKit
import Derived.ProofKit
import Derived.OpenShut
import Derived.ShutString
import Derived.ChangeOld
import Derived.Below
import Derived.Test.YtgkifohjjapifaaLrcAwake
namespace Go.Proofs.Ytgkifohjjapifaa.lrcBack
open Go.ChangeShapes Go.WideShapes Go.ChangeAt Go.RowKit
open Go.ChangeMaps (open_string shut_string)
set_option linter.unusedVariables false

open Lrc
theorem ends (xs : List UInt8) : isB (xs ++ [UInt8.ofNat (ofN xs)]) = true := by
  unfold isB ofN; rw [tot_append, tot_cons, tot_nil, UInt8.toNat_ofNat']; simp; omega
theorem ofN_lt (xs : List UInt8) : ofN xs < 256 := by unfold ofN; omega
theorem other (zs : List UInt8) (k : Nat) (hk : k < zs.length) (h : isB zs = true) (b : Nat) (hb : b < 256) : isB (zs.set k (UInt8.ofNat ((zs[k].toNat + b) % 256))) = decide (b = 0) := by
  have := tot_set zs k hk (UInt8.ofNat ((zs[k].toNat + b) % 256))
  unfold isB at h ⊢
  simp only [Bool.and_eq_true, decide_eq_true_eq] at h
  rw [UInt8.toNat_ofNat'] at this
  rw [List.length_set, Bool.eq_iff_iff]
  simp only [Bool.and_eq_true, decide_eq_true_eq]
  omega
theorem own : ownKnob Try.prog.godebug = none := by kernel_rfl
theorem laidOut : laidOutB Try.prog = true := by kernel_rfl

/-- WHAT THE WALK IS TOLD OF A SLICE OF INTEGERS THAT CAME IN: it is nil; or it leads to a row of 'cap' cells, the numbers 'zs' (the first 'len' are its elements, the rest its spare room), each fitting its kind. -/
def IsRow (k : IntKind) (w : World) (a : Option Addr) (len cap : Nat) (zs : List Int) : Prop :=
  (a = none ∧ len = 0 ∧ cap = 0 ∧ zs = []) ∨
  ∃ x, a = some x ∧ len ≤ cap ∧ cap ≤ maxLen ∧ zs.length = cap ∧ (∀ i, i < zs.length → w.cell? (x.add i) = some (.int k (zs.getD i 0))) ∧ ∀ n ∈ zs, (Lit.int k n).wf = true

/-! ### STEP 1: THE WALK: the Go text returns true, AND WRITES NOTHING THAT WAS THERE: 'Below w.heap.size w w'' (Derived/Below.lean: '.refl', '.alloc', '.drew', '.setCell' at a new block, '.trans'). Open each 'IsRow' by 'rcases' AHEAD of 'go_enter'; part every test ahead of the walk. -/
set_option maxHeartbeats 2000000 in
theorem walk (a0 : Option Addr) (len0 cap0 : Nat) (z0 : List Int) (a1 : Int) (a2 : Int) (w : World) (w0 : IsRow .u8 w a0 len0 cap0 z0) (w1 : (Lit.int .u16 a1).wf = true) (w2 : (Lit.int .u8 a2).wf = true) :
    Calls Try.prog 4 #[.slice a0 len0 cap0, .int .u16 a1, .int .u8 a2] w fun e w' => e = .returned (.bool true) ∧ Below w.heap.size w w' := by
  obtain ⟨xs, hx⟩ := Bs.ofRow w0
  obtain ⟨at', rfl, hat⟩ : ∃ s : Nat, a1 = s ∧ s < 65536 := nat_u16 w1
  obtain ⟨by', rfl, hby⟩ : ∃ s : Nat, a2 = s ∧ s < 256 := nat_u8 w2
  have hm := hx.hle
  have hm2 := hx.hmax
  unfold maxLen at hm2
  go_enter Try.func4, Try.ntmps4
  go_wp2_with fail
  refine (awake_any w).mono ?_
  rintro e w1 ⟨rfl, hb1⟩
  by_cases hbig : 300 < len0
  · go_wp2
    go_ret
    exact ⟨rfl, hb1⟩
  have hx1 := hx.mono hb1
  have hl0 : len0 ≤ 300 := by omega
  go_wp2_with (at_builtin; refine app (by rfl) _ _ rfl w1.heap.size rfl (Own.empty _ _ _) rfl (hx1.alloc _) (by omega) (by simp) ?_)
  intro p4 c4 w4 ho4 hb4
  replace hb4 := ((Below.refl w1.heap.size w1).alloc (Nat.le_refl _) _).trans hb4
  have hx4 := hx1.mono hb4
  go_wp2_with fail
  refine (of_any _ _ _ xs _ hx4).mono ?_
  rintro e w5 ⟨rfl, hb5⟩
  have ho5 := (ho4.mono hb5).mono ((Below.refl w5.heap.size w5).alloc (Nat.le_refl _) (.cells #[.int .u8 (ofN xs : Int)] 5))
  have hlit := one_own w5 _ (ofN xs) rfl (ofN_lt xs) 5
  have hsz5 : w1.heap.size ≤ (w5.alloc (.cells #[.int .u8 (ofN xs : Int)] 5)).heap.size := by have := hb4.size; have := hb5.size; simp; omega
  go_wp2_with (at_builtin; refine app (by rfl) _ _ rfl w1.heap.size rfl ho5 rfl hlit.sl (by omega) hsz5 ?_)
  intro p7 c7 w7 ho7 hb7
  replace hb7 := ((hb4.trans (hb5.mono hb4.size)).trans ((Below.refl w1.heap.size w5).alloc (Nat.le_trans hb4.size hb5.size) _)).trans hb7
  clear hlit hsz5 ho5 hb5 hb4 ho4 hx4 hx1
  have HE := hide (ends xs)
  clear w0
  clear z0
  generalize xs ++ [UInt8.ofNat (ofN xs)] = zs at *
  go_wp2_with fail
  refine (is_any _ _ _ _ _ ho7.sl).mono ?_
  rintro e w8 ⟨rfl, hb8⟩
  rw [HE.out]
  have ho8 := ho7.mono hb8
  replace hb8 := hb7.trans (hb8.mono hb7.size)
  clear ho7 hb7
  have hle := ho8.sl.hle
  have hmx := ho8.sl.hmax
  unfold maxLen at hmx
  have HL := hide ho8.sl.hlen
  obtain ⟨L, hL⟩ : ∃ L, L = len0 + 1 := ⟨_, rfl⟩
  rw [← hL] at ho8 hle HL ⊢
  have hL1 : 1 ≤ L := by omega
  have hL2 : L ≤ 301 := by omega
  clear hL
  have hkL : at' % L < L := Nat.mod_lt _ (by omega)
  have hkz : at' % L < zs.length := by have := HL.out; omega
  obtain ⟨bb, oo, rfl, hbb, hcell⟩ := ho8.sl.hcell (at' % L) hkz
  obtain ⟨_, _, hh, hB, _, _, hfro⟩ := ho8.room (at' % L) (by omega)
  cases hh
  have hc : w8.cell? ⟨bb, oo + at' % L, none⟩ = some (.int .u8 (zs[at' % L].toNat : Int)) := hcell
  clear hcell
  have hset := ho8.set (at' % L) hkz (UInt8.ofNat ((zs[at' % L].toNat + by') % 256))
  have hbr := hb8.setCell (p := ⟨bb, oo + at' % L, none⟩) hB (byteV (UInt8.ofNat ((zs[at' % L].toNat + by') % 256)))
  have ev : byteV (UInt8.ofNat ((zs[at' % L].toNat + by') % 256)) = .int .u8 (((zs[at' % L].toNat : Int) + (by' : Int)) % 256) := by
    show Value.int .u8 _ = _; rw [UInt8.toNat_ofNat']; congr 1; omega
  rw [ev] at hset hbr
  have HO := hide (other zs (at' % L) hkz HE.out by' hby)
  have HS := hide hset
  have HBR := hide hbr
  clear hset hbr ev
  go_wp2_with fail
  refine (is_any _ _ _ _ _ HS.out.sl).mono ?_
  rintro e w9 ⟨rfl, hb9⟩
  rw [HO.out]
  go_wp2
  go_ret
  exact ⟨ret_bool (by rw [show ((by' : Int) == 0) = decide (by' = 0) from beq_cast by' 0]; simp), below_next (below_next hb1 HBR.out (Nat.le_refl _)) hb9 (Nat.le_refl _)⟩

/-! ### THE ROW's STEP: WRITTEN OUT: LEAVE IT -/
set_option maxRecDepth 100000 in
theorem lifted (os : Os) (started : os.Started) (H : Type) (enc : TypeId × Value → H) :
    ReturnsInHanded {} Try.checked os 4 .any (Rows.lrcBackSpec.pre6 enc Try.prog Try.f4 Rows.lrcBackRow.domain false) (Rows.lrcBackSpec.post enc Try.prog Try.f4 false true false false) := by
  refine returnsInHanded_of_change (C := Try.checked) own started (by kernel_rfl) Try.func4
    (ChangeSpec.witness6 (enc := enc) (C := Try.checked) false ⟨#[], #[.slice none 0 0, .int .u16 0, .int .u8 0], []⟩ 8 (by kernel_rfl) (by kernel_rfl) (by kernel_rfl) (by kernel_rfl)) ?_
  intro W base args ds gs before hval0 hW hcnd _
  have hval : ∀ (j : Nat) t v, Try.f4.params[j]? = some t → args[j]? = some v → Value.okWide Try.prog W .any base t v := hval0
  have hW' := hW
  obtain ⟨p, q, hA0, hV, rfl, hfz, hnd⟩ := hW
  have hA : DataW.TrodAll enc Try.prog W 0 (fun _ => true) true Try.f4.params.toList args.toList ds p := hA0
  rw [Try.params4] at hA hval
  obtain ⟨v0, vs0, d0, ds0, p0, q0, hargs, rfl, rfl, h0, r0⟩ := trodAll_cons hA
  obtain ⟨v1, vs1, d1, ds1, p1, q1, rfl, rfl, rfl, h1, r1⟩ := trodAll_cons r0
  obtain ⟨v2, vs2, d2, ds2, p2, q2, rfl, rfl, rfl, h2, r2⟩ := trodAll_cons r1
  obtain ⟨rfl, rfl, rfl⟩ := trodAll_nil r2
  obtain rfl : args = #[v0, v1, v2] := by cases args; simp_all
  obtain ⟨rfl, rfl⟩ := trodVars_none hV
  obtain ⟨a0, len0, cap0, rfl⟩ := okWide_slice Try.underlying22 (hval 0 22 v0 rfl rfl)
  have k0 := h0
  have lt0 : ∀ x ∈ p0, x.block < W.heap.size := by obtain ⟨m, hm⟩ := k0; exact DataW.trod_lt m _ _ _ hm
  obtain ⟨z0, w0⟩ : ∃ zs, IsRow .u8 W a0 len0 cap0 zs := by
    obtain ⟨fuel, hf⟩ := h0
    rcases open_ints Try.underlying22 Try.underlying5 (by kernel_rfl) hf with ⟨hcs, _⟩ | ⟨x, l, c, zs, hcs, _, hl, hm, hz, _, hcell, hwz⟩
    · simp [Value.cells] at hcs
      obtain ⟨rfl, rfl, rfl⟩ := hcs
      exact ⟨[], .inl ⟨rfl, rfl, rfl, rfl⟩⟩
    · simp [Value.cells] at hcs
      obtain ⟨rfl, rfl, rfl⟩ := hcs
      exact ⟨zs, .inr ⟨_, rfl, hl, hm, by simpa using hz, hcell, hwz⟩⟩
  obtain ⟨a1, rfl, rfl, rfl, w1⟩ := open_int Try.underlying26 (hval 1 26 v1 rfl rfl) h1
  obtain ⟨a2, rfl, rfl, rfl, w2⟩ := open_int Try.underlying5 (hval 2 5 v2 rfl rfl) h2
  clear hA0 hval0
  refine (walk a0 len0 cap0 z0 a1 a2 W w0 w1 w2).mono fun e W' ⟨he, bel⟩ => ?_
  subst he
  exact ⟨_, rfl, _, _, _, [], _, [], hW', trodAll_mk1 (shut_bool Try.underlying4 _), (trodAll_cons_mk (Below.trod laidOut (by kernel_rfl) (of_decide_eq_true (by kernel_rfl)) k0 bel lt0) (trodAll_cons_mk (shut_int Try.underlying26 w1) (trodAll_cons_mk (shut_int Try.underlying5 w2) trodAll_mk0))), rfl, bel.frame _, fun h => by cases h⟩

theorem over : Rows.lrcBackRow.holds Try.pinned (OpenSpec.ofChange Rows.lrcBackSpec) :=
  OpenClaim.holds_of_wide 4 Try.f4 rfl rfl rfl rfl rfl rfl rfl ⟨rfl, rfl, rfl, rfl, rfl⟩ rfl rfl rfl rfl rfl (by kernel_rfl) Try.func4 (by kernel_rfl)
    (of_decide_eq_true (by kernel_rfl)) (by unfold Func.isWrapper; first | (rw [if_pos (by decide +kernel)]; kernel_rfl) | (rw [if_neg (by decide +kernel)]; exact ⟨rfl, rfl⟩))
    (fun os started H enc _ => lifted os started H enc)

/-- ████ THE STATEMENT ████ -/
theorem proved : Rows.LrcBackSaid := over
#print axioms proved
end Go.Proofs.Ytgkifohjjapifaa.lrcBack
