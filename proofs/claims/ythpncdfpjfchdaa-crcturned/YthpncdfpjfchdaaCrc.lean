/-
  The contracts of package crc: what Then, Of, Two and Is answer, at any bytes.
-/
import Derived.Test.YthpncdfpjfchdaaRows
import Derived.Test.YthpncdfpjfchdaaMath
import Derived.Test.YthpncdfpjfchdaaApp
import Derived.Outline
import Derived.Great.Walk
import Derived.Laws.BytesArg

import Derived.Deep.RegionHeld3
import Derived.Deep.QuietTactic
import Derived.BigQuiet
namespace Go.Proofs.Ythpncdfpjfchdaa
open Go.RowKit
open Crc

theorem Try.info5 : (Try.prog.info? 5).map (fun i => (i.zero, i.size, i.bytes)) = some (some (.int .u8 0), 1, 1) := by kernel_rfl

/-- 'append(dst, src...)' of bytes. -/
theorem app {w : World} {ops : Array Oper} {rest : List Oper} {o : Oper} {act : Act} {Q : Exit → Act → World → Prop} (hw : Region.wanted o (yielded ops act.tmps) = true) (s x : Operand)
    (ho : o.op = .call { callee := .builtin .append, args := #[s, x], argTypes := #[22, 22] }) (B : Nat) {a a2 : Option Addr} {len cap m c2 : Nat} {xs ys : List UInt8}
    (hs : act.eval s = .slice a len cap) (hd : Own byteV w B a len cap xs) (hx : act.eval x = .slice a2 m c2) (hsrc : Bs w a2 m c2 ys) (hsmall : len + m ≤ 1000000) (hB : B ≤ w.heap.size)
    (h : ∀ a' cap' w', Own byteV w' B a' (len + m) cap' (xs ++ ys) → Below B w w' → wpList Try.prog ops Q rest (act.put o.dst (.slice a' (len + m) cap')) w') : wpList Try.prog ops Q (o :: rest) act w := by
  obtain ⟨i0, hi, hz0, hz1, hz2⟩ := info_parts Try.info5
  exact wpList_append hw s x 22 22 ho B 5 i0 (.int .u8 0) Try.underlying22 hi hz0 hz1 rfl a len cap xs hs hd _ m ys hx (hsrc.src (fun _ => rfl) Try.underlying22) (by rw [hz2]; omega) (by unfold maxLen; omega) hB h

def tab : List Int := (List.range 256).map fun i => Int.ofNat (bits8 i)
theorem tab_cell (i : Nat) (h : i < 256) : (tab.map (Value.int .u16)).toArray[i]? = some (.int .u16 (bits8 i : Nat)) := by
  simp [tab, List.getElem?_range h]

theorem step_bits (s x : Nat) (hs : s < 65536) (hx : x < 256) :
    bits BinOp.xor IntKind.u16 ((s : Int) / 256) ((bits8 (bits BinOp.xor IntKind.u8 ((s : Int) % 256) (x : Int)).toNat : Nat) : Int) = ((tabStep s x : Nat) : Int) := by
  have e1 : bits BinOp.xor IntKind.u8 ((s : Int) % 256) (x : Int) = (((s % 256) ^^^ x : Nat) : Int) := by
    rw [show ((s : Int) % 256) = ((s % 256 : Nat) : Int) by omega]; exact u8_xor_nat _ _ (by omega) hx
  have h1 : (s % 256) ^^^ x < 256 := xor_lt 8 (by omega) hx
  rw [e1, Int.toNat_natCast, show ((s : Int) / 256) = ((s / 256 : Nat) : Int) by omega]
  exact u16_xor_nat _ _ (by omega) (iter_lt 8 (s := (s % 256) ^^^ x) (by omega))
theorem step_range (s x : Nat) (hx : x < 256) : 0 ≤ bits BinOp.xor IntKind.u8 ((s : Int) % 256) (x : Int) ∧ bits BinOp.xor IntKind.u8 ((s : Int) % 256) (x : Int) < 256 := by
  have e1 : bits BinOp.xor IntKind.u8 ((s : Int) % 256) (x : Int) = (((s % 256) ^^^ x : Nat) : Int) := by
    rw [show ((s : Int) % 256) = ((s % 256 : Nat) : Int) by omega]; exact u8_xor_nat _ _ (by omega) hx
  have h1 : (s % 256) ^^^ x < 256 := xor_lt 8 (by omega) hx
  rw [e1]; omega

set_option maxHeartbeats 400000 in
set_option maxRecDepth 100000 in
theorem then_any (a : Option Addr) (len cap : Nat) (s : Nat) (hs : s < 65536) (xs : List UInt8) (w : World) (hx : Bs w a len cap xs) :
    Calls Try.prog 9 #[.int .u16 s, .slice a len cap] w fun e w' => e = .returned (.int .u16 (thenN s xs)) ∧ Below w.heap.size w w' := by
  go_enter Try.func9, Try.ntmps9
  iterate 11 go_step
  refine Go.wpList_buildFlatArrTo (P := Try.prog) (by rfl) 34 23 256 _ (by rfl) .u16 tab (some 8) (by rfl) Try.underlying34 (by kernel_rfl) (by kernel_rfl) (by kernel_rfl) ?_
  refine Great.wpList_allocTo (P := Try.prog) (by rfl) (some 5) (by rfl) (.pointer (some ⟨w.heap.size, 0, none⟩)) (.cells (Array.replicate 256 (.int .u16 0)) 34) (by kernel_rfl) ?_
  refine wpList_store_rowTo (P := Try.prog) (by rfl) 34 (.tmp 5) (.tmp 8) (by rfl) (by rfl) w.heap.size (tab.map (Value.int .u16)).toArray (by rfl) (by rfl) 34 (Array.replicate 256 (.int .u16 0)) ?_ (by kernel_rfl) (by kernel_rfl) (by kernel_rfl) ?_
  · exact heap_alloc_new _ _
  generalize hW : ((w.alloc (.cells (Array.replicate 256 (.int .u16 0)) 34)).setRow w.heap.size (tab.map (Value.int .u16)).toArray) = W
  have hb : Below w.heap.size w W := by rw [← hW]; exact below_setRow ((Below.refl _ _).alloc (Nat.le_refl _) _) (Nat.le_refl _) _
  have hg : W.heap[w.heap.size]? = some (.cells (tab.map (Value.int .u16)).toArray 34 (0, 0)) := by rw [← hW]; exact setRow_heap _ _ _ _ _ _ (heap_alloc_new _ _)
  have hx' : Bs W a len cap xs := hx.mono hb
  clear hW hx
  have hcells : ∀ i : Nat, i < 256 → W.cell? ⟨w.heap.size, i, none⟩ = some (.int .u16 (bits8 i : Nat)) := fun i hi => by
    rw [cell_of_row W _ i _ _ _ hg]; exact tab_cell i hi
  clear hg
  iterate 3 go_step
  go_wp2
  go_loop [0, 11, 7] (fun s' i _x => ∃ k : Nat, k ≤ len ∧ i = .int .i64 k ∧ s' = .int .u16 (thenN s (xs.take k))) (fun _ i _ => len - (intOf i).toNat)
  case atStart => exact ⟨0, Nat.zero_le _, rfl, rfl⟩
  case round =>
    obtain ⟨k, hk, rfl, rfl⟩ := hrel
    have hm0 := hx'.hlen
    have hm := hx'.hle
    have hm2 := hx'.hmax
    unfold maxLen at hm2
    have H0 := hide hm0
    by_cases hlt : k < len
    · have hlt' : k < xs.length := by omega
      clear hm0
      obtain ⟨b, off, rfl, hbl, hc⟩ := hx'.hcell k hlt'
      have hr := step_range (thenN s (xs.take k)) xs[k].toNat (u8_lt _)
      have hr1 := hr.1
      have hr2 := hr.2
      have hth := thenN_lt s (xs.take k) hs
      have HS := hide (step_bits (thenN s (xs.take k)) xs[k].toNat hth (u8_lt _))
      have HT := hide (thenN_take_succ s xs k hlt')
      clear hr
      go_wp2
      go_round
      case rel => exact ⟨k + 1, by omega, by go_num, by rw [HS.out, HT.out]⟩
      case measure => simp [intOf]; omega
    · clear hm0
      go_wp2
      go_ret
      exact ⟨by rw [List.take_of_length_le (by rw [H0.out]; omega)]; rfl, hb⟩

set_option maxHeartbeats 400000 in
theorem of_any (a : Option Addr) (len cap : Nat) (xs : List UInt8) (w : World) (hx : Bs w a len cap xs) :
    Calls Try.prog 11 #[.slice a len cap] w fun e w' => e = .returned (.int .u16 (thenN 65535 xs)) ∧ Below w.heap.size w w' := by
  go_enter Try.func11, Try.ntmps11
  go_wp2_with fail
  refine (then_any a len cap 65535 (by omega) xs w hx).mono ?_
  rintro e w' ⟨rfl, hb⟩
  go_wp2
  go_ret
  exact ⟨rfl, hb⟩

set_option maxHeartbeats 400000 in
theorem two_any (s : Nat) (hs : s < 65536) (w : World) :
    Calls Try.prog 13 #[.int .u16 s] w fun e w' => ∃ a, e = .returned (.slice a 2 2) ∧ Bs w' a 2 2 (two s) ∧ Below w.heap.size w w' := by
  have hb : Bs (w.alloc (.cells #[.int .u8 ((s : Int) % 256), .int .u8 ((s : Int) / 256)] 5)) (some ⟨w.heap.size, 0, none⟩) 2 2 (two s) :=
    Sl.fresh w (two s) _ 5 _ 2 rfl (by unfold maxLen; omega) (by simp [two]; omega)
  have H := hide hb
  clear hb
  go_enter Try.func13, Try.ntmps13
  go_wp2
  go_ret
  exact ⟨_, rfl, H.out, (Below.refl _ _).alloc (Nat.le_refl _) _⟩

set_option maxHeartbeats 400000 in
theorem equal_any (a b : Option Addr) (la lb ca cb : Nat) (xs ys : List UInt8) (w : World) (hx : Bs w a la ca xs) (hy : Bs w b lb cb ys) :
    Calls Try.prog 16 #[.slice a la ca, .slice b lb cb] w fun e w' => e = .returned (.bool (xs == ys)) ∧ w' = w := by
  have c1 := hx.conv (P := Try.prog) 22 5 Try.underlying22 Try.underlying5 9 Try.underlying9
  have c2 := hy.conv (P := Try.prog) 22 5 Try.underlying22 Try.underlying5 9 Try.underlying9
  clear hx hy
  go_enter Try.func16, Try.ntmps16
  go_wp2
  go_ret
  exact ⟨ret_bool (by rw [strOf_toList, strOf_toList]), rfl⟩

set_option maxHeartbeats 1000000 in
theorem is_any (a : Option Addr) (len cap : Nat) (xs : List UInt8) (w : World) (hx : Bs w a len cap xs) :
    Calls Try.prog 14 #[.slice a len cap] w fun e w' => e = .returned (.bool (isB xs)) ∧ Below w.heap.size w w' := by
  have hm0 := hide hx.hlen
  have hm := hx.hle
  have hm2 := hx.hmax
  unfold maxLen at hm2
  by_cases hn : 2 ≤ len
  · obtain ⟨b, off, rfl, hlt, _⟩ := hx.at (by omega)
    obtain ⟨m, hm3⟩ : ∃ m, m + 2 = len := ⟨len - 2, by omega⟩
    have ht := hx.take m (by omega)
    have hd := hx.drop m (by omega)
    have hs := thenN_lt 65535 (xs.take m) (by omega)
    have hmi : (m : Int) ≤ (len : Int) := by omega
    have hmc : (m : Int) ≤ (cap : Int) := by omega
    have hlm : len - m = 2 := by omega
    rw [hlm] at hd
    have HB0 : isB xs = (xs.drop m == two (thenN 65535 (xs.take m))) := by
      have : xs.length - 2 = m := by rw [hm0.out]; omega
      unfold isB
      rw [this]
      simp [hm0.out, hn]
    have HB := hide HB0
    have H3 := hide hm3
    clear hm3 HB0
    go_enter Try.func14, Try.ntmps14
    go_wp2
    rw [show ((len : Int) - 2) = (m : Int) by have := H3.out; omega]
    go_region_held3 (fun _ => True) (trivial)
      (first
        | (go_at_call 11; refine (of_any _ _ _ _ _ ht.drew).mono ?_; rintro e w1 ⟨rfl, hb1⟩)
        | (go_at_call 13; refine (two_any _ hs _).mono ?_; rintro e w2 ⟨a2, rfl, hx2, hb2⟩)
        | (go_at_call 16; refine (equal_any _ _ _ _ _ _ _ _ _ ((hd.drew.mono hb1).mono hb2) hx2).mono ?_; rintro e w3 ⟨rfl, rfl⟩))
    go_wp2
    go_ret
    exact ⟨ret_bool HB.out.symm, below_next (below_next (Below.refl _ _).drew hb1 (Nat.le_refl _)) hb2 (Nat.le_refl _)⟩
  · have HB0 : isB xs = false := by unfold isB; simp [hm0.out, hn]
    have HB := hide HB0
    clear HB0
    rcases (show len = 0 ∨ len = 1 by omega) with rfl | rfl
    · go_enter Try.func14, Try.ntmps14
      go_wp2
      go_quiet (fail)
      go_wp2
      go_ret
      exact ⟨ret_bool HB.out.symm, below_draws (Below.refl _ _) _⟩
    · go_enter Try.func14, Try.ntmps14
      go_wp2
      go_quiet (fail)
      go_wp2
      go_ret
      exact ⟨ret_bool HB.out.symm, below_draws (Below.refl _ _) _⟩

end Go.Proofs.Ythpncdfpjfchdaa
