/-
  Proved: for every input the law CrcLike answers true, and each argument reads behind the call as it read before.
  Conditions: none (the statement Rows.CrcLikeSaid as it is given).
-/
import Derived.Test.YthpncdfpjfchdaaRows
import Derived.WalkKit
import Derived.ProofKit
import Derived.OpenShut
import Derived.ShutString
import Derived.ChangeOld
import Derived.Below
import Derived.Test.YthpncdfpjfchdaaAwake
import Derived.Test.YthpncdfpjfchdaaApp
import Derived.BigRegion
namespace Go.Proofs.Ythpncdfpjfchdaa.crcLike
open Go.ChangeShapes Go.WideShapes Go.ChangeAt Go.RowKit
open Go.ChangeMaps (open_string shut_string)
set_option linter.unusedVariables false

open Crc
/-- 'zs' is 'xs' with its first 'k' bytes turned by those of 'cs'. -/
def Half (xs cs zs : List UInt8) (k : Nat) : Prop := zs.length = xs.length ∧ ∀ i, zs.getD i 0 = if i < k then xs.getD i 0 ^^^ cs.getD i 0 else xs.getD i 0
theorem Half.zero (xs cs : List UInt8) : Half xs cs xs 0 := ⟨rfl, fun i => by simp⟩
theorem Half.next {xs cs zs : List UInt8} {k : Nat} (h : Half xs cs zs k) (hk : k < zs.length) (hc : k < cs.length) : Half xs cs (zs.set k (zs[k] ^^^ cs[k])) (k + 1) := by
  refine ⟨by simpa using h.1, fun i => ?_⟩
  have hz := h.2 i
  have hl := h.1
  by_cases hik : i = k
  · subst hik
    have hzk : zs.getD i 0 = zs[i] := by simp [List.getD, hk]
    have hck : cs.getD i 0 = cs[i] := by simp [List.getD, hc]
    have hset : (zs.set i (zs[i] ^^^ cs[i])).getD i 0 = zs[i] ^^^ cs[i] := by simp [List.getD, hk]
    rw [hset, if_pos (by omega), hck]
    rw [hzk, if_neg (by omega)] at hz
    rw [hz]
  · have hset : (zs.set k (zs[k] ^^^ cs[k])).getD i 0 = zs.getD i 0 := by
      simp only [List.getD, List.getElem?_set_ne (show k ≠ i by omega)]
    rw [hset, hz]
    by_cases h1 : i < k
    · rw [if_pos h1, if_pos (by omega)]
    · rw [if_neg h1, if_neg (by omega)]
theorem Half.done {xs cs zs : List UInt8} {k : Nat} (h : Half xs cs zs k) (h1 : xs.length = k) (h2 : cs.length = k) : zs = List.zipWith (· ^^^ ·) xs cs := by
  apply List.ext_getElem
  · have := h.1; simp; omega
  · intro i hi1 hi2
    have hl := h.1
    have hz := h.2 i
    rw [if_pos (by omega)] at hz
    simp only [List.getD, List.getElem?_eq_getElem hi1, List.getElem?_eq_getElem (show i < xs.length by omega), List.getElem?_eq_getElem (show i < cs.length by omega), Option.getD_some] at hz
    rw [hz]; simp
theorem like_eq (xs ys cs zx zy : List UInt8) (n : Nat) (hx : xs.length = n) (hy : ys.length = n) (hc : cs.length = n) (h1 : Half xs cs zx n) (h2 : Half ys cs zy n) :
    thenN 65535 xs ^^^ thenN 65535 zx = thenN 65535 ys ^^^ thenN 65535 zy := by
  have e1 := h1.done hx hc
  have e2 := h2.done hy hc
  rw [thenN_xor _ _ xs zx (by have := h1.1; omega), thenN_xor _ _ ys zy (by have := h2.1; omega), e1, e2, val_xor _ _ (by omega), val_xor _ _ (by omega), hx, hy]
  congr 1
  rw [show val xs ^^^ (val xs ^^^ val cs) = val cs by rw [← Nat.xor_assoc, Nat.xor_self, Nat.zero_xor], show val ys ^^^ (val ys ^^^ val cs) = val cs by rw [← Nat.xor_assoc, Nat.xor_self, Nat.zero_xor]]
theorem xor_byte (x y : UInt8) : bits BinOp.xor IntKind.u8 (x.toNat : Int) (y.toNat : Int) = ((x ^^^ y).toNat : Int) := by
  rw [u8_xor_nat _ _ (u8_lt _) (u8_lt _), UInt8.toNat_xor]
theorem base_of {f : UInt8 → Value} {w : World} {B b off len cap : Nat} {xs : List UInt8} (h : Own f w B (some ⟨b, off, none⟩) len cap xs) (hn : 0 < len) : B ≤ b := by
  obtain ⟨_, _, hh, hB, _⟩ := h.room 0 (by have := h.sl.hle; omega)
  cases hh; exact hB
theorem own : ownKnob Try.prog.godebug = none := by kernel_rfl
theorem laidOut : laidOutB Try.prog = true := by kernel_rfl

/-- WHAT THE WALK IS TOLD OF A SLICE OF INTEGERS THAT CAME IN: it is nil; or it leads to a row of 'cap' cells, the numbers 'zs' (the first 'len' are its elements, the rest its spare room), each fitting its kind. -/
def IsRow (k : IntKind) (w : World) (a : Option Addr) (len cap : Nat) (zs : List Int) : Prop :=
  (a = none ∧ len = 0 ∧ cap = 0 ∧ zs = []) ∨
  ∃ x, a = some x ∧ len ≤ cap ∧ cap ≤ maxLen ∧ zs.length = cap ∧ (∀ i, i < zs.length → w.cell? (x.add i) = some (.int k (zs.getD i 0))) ∧ ∀ n ∈ zs, (Lit.int k n).wf = true

/-! ### STEP 1: THE WALK: the Go text returns true, AND WRITES NOTHING THAT WAS THERE: 'Below w.heap.size w w'' (Derived/Below.lean: '.refl', '.alloc', '.drew', '.setCell' at a new block, '.trans'). Open each 'IsRow' by 'rcases' AHEAD of 'go_enter'; part every test ahead of the walk. -/
set_option maxHeartbeats 2000000 in
theorem walk (a0 : Option Addr) (len0 cap0 : Nat) (z0 : List Int) (a1 : Option Addr) (len1 cap1 : Nat) (z1 : List Int) (a2 : Option Addr) (len2 cap2 : Nat) (z2 : List Int) (w : World) (w0 : IsRow .u8 w a0 len0 cap0 z0) (w1 : IsRow .u8 w a1 len1 cap1 z1) (w2 : IsRow .u8 w a2 len2 cap2 z2) :
    Calls Try.prog 6 #[.slice a0 len0 cap0, .slice a1 len1 cap1, .slice a2 len2 cap2] w fun e w' => e = .returned (.bool true) ∧ Below w.heap.size w w' := by
  obtain ⟨xs, hx⟩ := Bs.ofRow w0
  obtain ⟨ys, hy⟩ := Bs.ofRow w1
  obtain ⟨cs, hc⟩ := Bs.ofRow w2
  have hm1 := hx.hle
  have hm2 := hx.hmax
  have hm3 := hy.hle
  have hm4 := hy.hmax
  have hm5 := hc.hle
  have hm6 := hc.hmax
  unfold maxLen at hm2 hm4 hm6
  obtain ⟨n, hmin, hn0, hn1, hn2⟩ : ∃ n : Nat, (∀ ts t w, (Builtin.min_ ts t #[.int .i64 (len0 : Int), .int .i64 (len1 : Int), .int .i64 (len2 : Int)]).run Try.prog w = .ok (.int .i64 (n : Int)) w) ∧ n ≤ len0 ∧ n ≤ len1 ∧ n ≤ len2 := by
    refine ⟨min (min len0 len1) len2, fun ts t w => ?_, by omega, by omega, by omega⟩
    rw [run_min_int3]
    congr 2
    split <;> split <;> omega
  go_enter Try.func6, Try.ntmps6
  go_wp2_with fail
  refine (awake_any w).mono ?_
  rintro e w1 ⟨rfl, hb1⟩
  by_cases hbig : 300 < n
  · go_wp2
    go_ret
    exact ⟨rfl, hb1⟩
  have hx1 := (hx.take n hn0).mono hb1
  have hy1 := (hy.take n hn1).mono hb1
  have hc1 := (hc.take n hn2).mono hb1
  have hn300 : n ≤ 300 := by omega
  go_wp2_with (at_builtin; refine app (by rfl) _ _ rfl w1.heap.size rfl (Own.empty _ _ _) rfl (hx1.alloc _) (by omega) (by simp) ?_)
  intro p2 c2 w2 ho2 hb2
  replace hb2 := ((Below.refl w1.heap.size w1).alloc (Nat.le_refl _) _).trans hb2
  have hy2 := hy1.mono hb2
  go_wp2_with (at_builtin; refine app (by rfl) _ _ rfl w2.heap.size rfl (Own.empty _ _ _) rfl (hy2.alloc _) (by omega) (by simp) ?_)
  intro p3 c3 w3 ho3 hb3
  replace hb3 := ((Below.refl w2.heap.size w2).alloc (Nat.le_refl _) _).trans hb3
  have hox := ho2.mono hb3
  have hB12 : w1.heap.size ≤ w2.heap.size := hb2.size
  have hb13 : Below w1.heap.size w1 w3 := hb2.trans (hb3.mono hB12)
  have hpx : ∀ b off, p2 = some ⟨b, off, none⟩ → 0 < n → b < w2.heap.size := fun b off hp hn => by
    obtain ⟨b', off', hh, hlt, _⟩ := ho2.sl.at hn
    rw [hp] at hh; cases hh; exact hlt
  clear hb2 hy2 ho2 hmin
  generalize hxa : xs.take n = A at *
  generalize hya : ys.take n = D at *
  generalize hca : cs.take n = C at *
  have hlA := hide hx1.hlen
  have hlD := hide hy1.hlen
  have hlC := hide hc1.hlen
  go_wp2
  go_loopw [11] (fun i wr => ∃ (k : Nat) (zx zy : List UInt8), k ≤ n ∧ i = .int .i64 k ∧ Half A C zx k ∧ Half D C zy k ∧ Own byteV wr w1.heap.size p2 n c2 zx ∧ Own byteV wr w2.heap.size p3 n c3 zy ∧ Below w1.heap.size w1 wr)
    (fun i _ => n - (intOf i).toNat)
  case atStart => exact ⟨0, A, D, by omega, rfl, Half.zero _ _, Half.zero _ _, hox, ho3, hb13⟩
  case round =>
    obtain ⟨k, zx, zy, hk, rfl, hhx, hhy, hoX, hoY, hbr⟩ := hrel
    by_cases hkn : k < n
    · obtain ⟨bx, ox, rfl, hbx, _⟩ := hoX.sl.at (by omega)
      obtain ⟨byb, oy, rfl, hby, _⟩ := hoY.sl.at (by omega)
      have hlx := hoX.sl.hlen
      have hly := hoY.sl.hlen
      have hkC : k < C.length := by have := hlC.out; omega
      obtain ⟨bc, oc, hac, hbc1, hcc⟩ := hc1.hcell k hkC
      subst hac
      have hcc2 : wr.cell? ⟨bc, oc + k, none⟩ = some (.int .u8 (C[k].toNat : Int)) := (hbr.cell (p := ⟨bc, oc + k, none⟩) hbc1).trans hcc
      have hBx := base_of hoX (by omega)
      have hBy := base_of hoY (by omega)
      have hbxl := hpx bx ox rfl (by omega)
      have hkx : k < zx.length := by omega
      have hky : k < zy.length := by omega
      obtain ⟨_, _, hh, _, hcx0⟩ := hoX.sl.hcell k hkx
      cases hh
      have hcx : wr.cell? ⟨bx, ox + k, none⟩ = some (.int .u8 (zx[k].toNat : Int)) := hcx0
      obtain ⟨_, _, hh, _, _, _, hfx⟩ := hoX.room k (by have := hoX.sl.hle; omega)
      cases hh
      have hoX2 := (hoX.set k hkx (zx[k] ^^^ C[k])).drew
      have hoY2 := (hoY.other ⟨bx, ox + k, none⟩ (byteV (zx[k] ^^^ C[k])) (fun b off hh => by cases hh; show byb ≠ bx; omega)).drew
      have hbr2 := (hbr.setCell (p := ⟨bx, ox + k, none⟩) hBx (byteV (zx[k] ^^^ C[k]))).drew
      have hX := hide (hhx.next hkx hkC)
      have hY := hide (hhy.next hky hkC)
      have ex := xor_byte zx[k] C[k]
      simp only [byteV] at hoX2 hoY2 hbr2
      rw [← ex] at hoX2 hoY2 hbr2
      clear hcx0 hcc ex hlx hly
      go_wp2
      go_region
      generalize (wr.setCell ⟨bx, ox + k, none⟩ (.int .u8 (bits BinOp.xor IntKind.u8 (zx[k].toNat : Int) (C[k].toNat : Int)))).drew = W2 at *
      clear hoX hoY hcx hfx hcc2 hox ho3 hbr
      have hcc3 : W2.cell? ⟨bc, oc + k, none⟩ = some (.int .u8 (C[k].toNat : Int)) := (hbr2.cell (p := ⟨bc, oc + k, none⟩) hbc1).trans (by obtain ⟨_, _, hh, _, hq⟩ := hc1.hcell k hkC; cases hh; exact hq)
      obtain ⟨_, _, hh, _, hcy0⟩ := hoY2.sl.hcell k hky
      cases hh
      have hcy : W2.cell? ⟨byb, oy + k, none⟩ = some (.int .u8 (zy[k].toNat : Int)) := hcy0
      obtain ⟨_, _, hh, _, _, _, hfy⟩ := hoY2.room k (by have := hoY2.sl.hle; omega)
      cases hh
      have hoY3 := (hoY2.set k hky (zy[k] ^^^ C[k])).drew
      have hoX3 := (hoX2.other ⟨byb, oy + k, none⟩ (byteV (zy[k] ^^^ C[k])) (fun b off hh => by cases hh; show bx ≠ byb; omega)).drew
      have hbr3 := (hbr2.setCell (p := ⟨byb, oy + k, none⟩) (Nat.le_trans hB12 hBy) (byteV (zy[k] ^^^ C[k]))).drew
      have ey := xor_byte zy[k] C[k]
      simp only [byteV] at hoX3 hoY3 hbr3
      rw [← ey] at hoX3 hoY3 hbr3
      clear hcy0 ey hbr2 hoX2 hoY2
      go_wp2
      go_region
      generalize (W2.setCell ⟨byb, oy + k, none⟩ (.int .u8 (bits BinOp.xor IntKind.u8 (zy[k].toNat : Int) (C[k].toNat : Int)))).drew = W3 at *
      go_wp2
      go_roundw
      case rel => exact ⟨k + 1, _, _, by omega, by go_num, hX.out, hY.out, hoX3, hoY3, hbr3⟩
      case measure => simp [intOf]; omega
    · have hkn' : k = n := by omega
      subst hkn'
      have hE := hide (like_eq A D C zx zy k hlA.out hlD.out hlC.out hhx hhy)
      have hxr := hx1.mono hbr
      have hyr := hy1.mono hbr
      have hs1 := thenN_lt 65535 A (by omega)
      have hs2 := thenN_lt 65535 zx (by omega)
      have hs3 := thenN_lt 65535 D (by omega)
      have hs4 := thenN_lt 65535 zy (by omega)
      have hi0 : (k : Int) ≤ (cap0 : Int) := by omega
      have hi1 : (k : Int) ≤ (cap1 : Int) := by omega
      go_wp2
      go_region_held3 (fun _ => True) (trivial)
        (first
          | (go_at_call_of 11 a0; refine (of_any _ _ _ _ _ hxr.drew).mono ?_; rintro e v1 ⟨rfl, hv1⟩)
          | (go_at_call_of 11 p2; refine (of_any _ _ _ _ _ (hoX.sl.drew.mono hv1)).mono ?_; rintro e v2 ⟨rfl, hv2⟩)
          | (go_at_call_of 11 a1; refine (of_any _ _ _ _ _ ((hyr.drew.mono hv1).mono hv2)).mono ?_; rintro e v3 ⟨rfl, hv3⟩)
          | (go_at_call_of 11 p3; refine (of_any _ _ _ _ _ (((hoY.sl.drew.mono hv1).mono hv2).mono hv3)).mono ?_; rintro e v4 ⟨rfl, hv4⟩))
      go_wp2
      go_ret
      exact ⟨ret_bool (by rw [u16_xor_nat _ _ hs1 hs2, u16_xor_nat _ _ hs3 hs4, hE.out]; simp), below_next (below_next (below_next (below_next (below_next hb1 hbr (Nat.le_refl _)).drew hv1 (Nat.le_refl _)) hv2 (Nat.le_refl _)) hv3 (Nat.le_refl _)) hv4 (Nat.le_refl _)⟩

/-! ### THE ROW's STEP: WRITTEN OUT: LEAVE IT -/
set_option maxRecDepth 100000 in
theorem lifted (os : Os) (started : os.Started) (H : Type) (enc : TypeId × Value → H) :
    ReturnsInHanded {} Try.checked os 6 .any (Rows.crcLikeSpec.pre6 enc Try.prog Try.f6 Rows.crcLikeRow.domain false) (Rows.crcLikeSpec.post enc Try.prog Try.f6 false true false false) := by
  refine returnsInHanded_of_change (C := Try.checked) own started (by kernel_rfl) Try.func6
    (ChangeSpec.witness6 (enc := enc) (C := Try.checked) false ⟨#[], #[.slice none 0 0, .slice none 0 0, .slice none 0 0], []⟩ 8 (by kernel_rfl) (by kernel_rfl) (by kernel_rfl) (by kernel_rfl)) ?_
  intro W base args ds gs before hval0 hW hcnd _
  have hval : ∀ (j : Nat) t v, Try.f6.params[j]? = some t → args[j]? = some v → Value.okWide Try.prog W .any base t v := hval0
  have hW' := hW
  obtain ⟨p, q, hA0, hV, rfl, hfz, hnd⟩ := hW
  have hA : DataW.TrodAll enc Try.prog W 0 (fun _ => true) true Try.f6.params.toList args.toList ds p := hA0
  rw [Try.params6] at hA hval
  obtain ⟨v0, vs0, d0, ds0, p0, q0, hargs, rfl, rfl, h0, r0⟩ := trodAll_cons hA
  obtain ⟨v1, vs1, d1, ds1, p1, q1, rfl, rfl, rfl, h1, r1⟩ := trodAll_cons r0
  obtain ⟨v2, vs2, d2, ds2, p2, q2, rfl, rfl, rfl, h2, r2⟩ := trodAll_cons r1
  obtain ⟨rfl, rfl, rfl⟩ := trodAll_nil r2
  obtain rfl : args = #[v0, v1, v2] := by cases args; simp_all
  obtain ⟨rfl, rfl⟩ := trodVars_none hV
  obtain ⟨a0, len0, cap0, rfl⟩ := okWide_slice Try.underlying22 (hval 0 22 v0 rfl rfl)
  have k0 := h0
  have lt0 : ∀ x ∈ p0, x.block < W.heap.size := by obtain ⟨m, hm⟩ := k0; exact DataW.trod_lt m _ _ _ hm
  obtain ⟨z0, w0⟩ : ∃ zs, IsRow .u8 W a0 len0 cap0 zs := by
    obtain ⟨fuel, hf⟩ := h0
    rcases open_ints Try.underlying22 Try.underlying5 (by kernel_rfl) hf with ⟨hcs, _⟩ | ⟨x, l, c, zs, hcs, _, hl, hm, hz, _, hcell, hwz⟩
    · simp [Value.cells] at hcs
      obtain ⟨rfl, rfl, rfl⟩ := hcs
      exact ⟨[], .inl ⟨rfl, rfl, rfl, rfl⟩⟩
    · simp [Value.cells] at hcs
      obtain ⟨rfl, rfl, rfl⟩ := hcs
      exact ⟨zs, .inr ⟨_, rfl, hl, hm, by simpa using hz, hcell, hwz⟩⟩
  obtain ⟨a1, len1, cap1, rfl⟩ := okWide_slice Try.underlying22 (hval 1 22 v1 rfl rfl)
  have k1 := h1
  have lt1 : ∀ x ∈ p1, x.block < W.heap.size := by obtain ⟨m, hm⟩ := k1; exact DataW.trod_lt m _ _ _ hm
  obtain ⟨z1, w1⟩ : ∃ zs, IsRow .u8 W a1 len1 cap1 zs := by
    obtain ⟨fuel, hf⟩ := h1
    rcases open_ints Try.underlying22 Try.underlying5 (by kernel_rfl) hf with ⟨hcs, _⟩ | ⟨x, l, c, zs, hcs, _, hl, hm, hz, _, hcell, hwz⟩
    · simp [Value.cells] at hcs
      obtain ⟨rfl, rfl, rfl⟩ := hcs
      exact ⟨[], .inl ⟨rfl, rfl, rfl, rfl⟩⟩
    · simp [Value.cells] at hcs
      obtain ⟨rfl, rfl, rfl⟩ := hcs
      exact ⟨zs, .inr ⟨_, rfl, hl, hm, by simpa using hz, hcell, hwz⟩⟩
  obtain ⟨a2, len2, cap2, rfl⟩ := okWide_slice Try.underlying22 (hval 2 22 v2 rfl rfl)
  have k2 := h2
  have lt2 : ∀ x ∈ p2, x.block < W.heap.size := by obtain ⟨m, hm⟩ := k2; exact DataW.trod_lt m _ _ _ hm
  obtain ⟨z2, w2⟩ : ∃ zs, IsRow .u8 W a2 len2 cap2 zs := by
    obtain ⟨fuel, hf⟩ := h2
    rcases open_ints Try.underlying22 Try.underlying5 (by kernel_rfl) hf with ⟨hcs, _⟩ | ⟨x, l, c, zs, hcs, _, hl, hm, hz, _, hcell, hwz⟩
    · simp [Value.cells] at hcs
      obtain ⟨rfl, rfl, rfl⟩ := hcs
      exact ⟨[], .inl ⟨rfl, rfl, rfl, rfl⟩⟩
    · simp [Value.cells] at hcs
      obtain ⟨rfl, rfl, rfl⟩ := hcs
      exact ⟨zs, .inr ⟨_, rfl, hl, hm, by simpa using hz, hcell, hwz⟩⟩
  clear hA0 hval0
  refine (walk a0 len0 cap0 z0 a1 len1 cap1 z1 a2 len2 cap2 z2 W w0 w1 w2).mono fun e W' ⟨he, bel⟩ => ?_
  subst he
  exact ⟨_, rfl, _, _, _, [], _, [], hW', trodAll_mk1 (shut_bool Try.underlying4 _), (trodAll_cons_mk (Below.trod laidOut (by kernel_rfl) (of_decide_eq_true (by kernel_rfl)) k0 bel lt0) (trodAll_cons_mk (Below.trod laidOut (by kernel_rfl) (of_decide_eq_true (by kernel_rfl)) k1 bel lt1) (trodAll_cons_mk (Below.trod laidOut (by kernel_rfl) (of_decide_eq_true (by kernel_rfl)) k2 bel lt2) trodAll_mk0))), rfl, bel.frame _, fun h => by cases h⟩

theorem over : Rows.crcLikeRow.holds Try.pinned (OpenSpec.ofChange Rows.crcLikeSpec) :=
  OpenClaim.holds_of_wide 6 Try.f6 rfl rfl rfl rfl rfl rfl rfl ⟨rfl, rfl, rfl, rfl, rfl⟩ rfl rfl rfl rfl rfl (by kernel_rfl) Try.func6 (by kernel_rfl)
    (of_decide_eq_true (by kernel_rfl)) (by unfold Func.isWrapper; first | (rw [if_pos (by decide +kernel)]; kernel_rfl) | (rw [if_neg (by decide +kernel)]; exact ⟨rfl, rfl⟩))
    (fun os started H enc _ => lifted os started H enc)

/-- ████ THE STATEMENT ████ -/
theorem proved : Rows.CrcLikeSaid := over
#print axioms proved
end Go.Proofs.Ythpncdfpjfchdaa.crcLike
