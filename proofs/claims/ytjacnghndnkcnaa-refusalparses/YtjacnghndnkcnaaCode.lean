/-
  Package code: which codes, reasons and sub-functions there are; what answers what.
-/
import Derived.Test.YtjacnghndnkcnaaSets
namespace Go.Proofs.Ytjacnghndnkcnaa
open Go.RowKit Go.Maps

theorem zeroB (w : World) : (zeroValue 4).run Try.prog w = .ok (.bool false) w := by kernel_rfl

theorem mk8 (w : World) (n : Int) : (Instr.makeMap 54 (some (.int .i64 n))).run Try.prog w = .ok (.map (some w.heap.size)) (w.alloc (.map #[] 0)) := by
  unfold Instr.makeMap; simp [underlying, Try.underlying54, go_sem]

abbrev Set8 := SetIn Try.prog 5 4 .u8
abbrev Set16 := SetIn Try.prog 24 4 .u16
def ints8 (xs : List UInt8) : List Int := xs.map fun x => (x.toNat : Int)
def ints16 (xs : List UInt16) : List Int := xs.map fun x => (x.toNat : Int)
theorem ints8_step (xs : List UInt8) (k : Nat) (h : k < xs.length) : ints8 (xs.take (k + 1)) = ints8 (xs.take k) ++ [(xs[k].toNat : Int)] := by
  unfold ints8; rw [List.take_succ_eq_append_getElem h, List.map_append]; rfl
theorem ints16_step (xs : List UInt16) (k : Nat) (h : k < xs.length) : ints16 (xs.take (k + 1)) = ints16 (xs.take k) ++ [(xs[k].toNat : Int)] := by
  unfold ints16; rw [List.take_succ_eq_append_getElem h, List.map_append]; rfl

set_option maxHeartbeats 1000000 in
theorem setOf8_any (a : Option Addr) (len cap : Nat) (xs : List UInt8) (w : World) (hx : Bs w a len cap xs) (hs : len < 1000000) :
    Calls Try.prog 25 #[.slice a len cap] w fun e w' => ∃ b, e = .returned (.map (some b)) ∧ Set8 w' b len (ints8 xs) ∧ Below w.heap.size w w' := by
  have h1 := hx.hlen
  have hle := hx.hle
  have hmx := hx.hmax
  unfold maxLen at hmx
  have HX := hide hx
  have H1 := hide h1
  clear hx h1
  have hmm := mk8
  go_enter Try.func25, Try.ntmps25
  go_wp2
  go_loopw [11] (fun i wr => ∃ k : Nat, k ≤ len ∧ i = .int .i64 k ∧ Set8 wr w.heap.size k (ints8 (xs.take k)) ∧ Below w.heap.size w wr) (fun i _ => len - (intOf i).toNat)
  case atStart => exact ⟨0, Nat.zero_le _, rfl, SetIn.made _ _ _ _ _, (Below.refl _ _).alloc (Nat.le_refl _) _⟩
  case round =>
    obtain ⟨k, hk, rfl, hown, hbr⟩ := hrel
    by_cases hlt : k < len
    · have hk1 : k < xs.length := by have := H1.out; omega
      obtain ⟨b, off, rfl, hbl, hc0⟩ := HX.out.hcell k hk1
      have hc : wr.cell? ⟨b, off + k, none⟩ = some (.int .u8 (xs[k].toNat : Int)) := (hbr.cell (p := ⟨b, off + k, none⟩) hbl).trans hc0
      clear hc0
      have HS := hide (ints8_step xs k hk1)
      have hwf : (Lit.int .u8 (xs[k].toNat : Int)).wf = true := WalkArith.wf_u8 ⟨by omega, by have := byte_lt xs[k]; omega⟩
      generalize xs[k].toNat = m at *
      go_wp2_with (first
        | (at_mapUpdate; refine wpList_setIn _ rfl _ _ _ 54 rfl 5 4 .u8 Try.underlying5 Try.underlying4 Try.underlying54 w.heap.size k _ rfl hown (by unfold maxLen; omega) m rfl rfl hwf ?_; intro w1 hown1 hgrow1)
        | go_in)
      go_roundw
      case rel => exact ⟨k + 1, by omega, by go_num, HS.out.symm ▸ hown1, hbr.grown hgrow1 hbr.size (fun j hj => by cases hj; exact Nat.le_refl _)⟩
      case measure => simp [intOf]; omega
    · have : k = len := by omega
      subst this
      go_wp2
      go_ret
      exact ⟨_, rfl, by rw [List.take_of_length_le (by rw [H1.out]; omega)] at hown; exact hown, hbr⟩


def codes : List UInt8 := [1, 2, 3, 4, 5, 6, 7, 8, 11, 12, 15, 16, 17, 20, 21, 22, 23, 24, 43]
def reasons : List UInt8 := [1, 2, 3, 4, 5, 6, 8, 10, 11]
def subs : List UInt16 := [0, 1, 2, 3, 4, 10, 11, 12, 13, 14, 15, 16, 17, 18, 20]

def pub (c : Nat) : Bool := decide (1 ≤ c ∧ c ≤ 8 ∨ c = 11 ∨ c = 12 ∨ 15 ≤ c ∧ c ≤ 17 ∨ 20 ≤ c ∧ c ≤ 24 ∨ c = 43)
def fails (c : Nat) : Bool := decide (1 ≤ c ∧ c ≤ 6 ∨ c = 8 ∨ c = 10 ∨ c = 11)
def isSub (c : Nat) : Bool := decide (c ≤ 4 ∨ 10 ≤ c ∧ c ≤ 18 ∨ c = 20)
theorem codes_is (c : Nat) : (ints8 codes).contains (c : Int) = pub c := by
  rw [Bool.eq_iff_iff]; unfold ints8 codes pub; simp; omega
theorem reasons_is (c : Nat) : (ints8 reasons).contains (c : Int) = fails c := by
  rw [Bool.eq_iff_iff]; unfold ints8 reasons fails; simp; omega
theorem subs_is (c : Nat) : (ints16 subs).contains (c : Int) = isSub c := by
  rw [Bool.eq_iff_iff]; unfold ints16 subs isSub; simp; omega

theorem public_any (c : Nat) (hc : c < 256) (w : World) :
    Calls Try.prog 18 #[.int .u8 c] w fun e w' => e = .returned (.bool (pub c)) ∧ Below w.heap.size w w' := by
  have hwf : (Lit.int .u8 (c : Int)).wf = true := WalkArith.wf_u8 ⟨by omega, by omega⟩
  have hlit : Bs (w.alloc (.cells #[.int .u8 1, .int .u8 2, .int .u8 3, .int .u8 4, .int .u8 5, .int .u8 6, .int .u8 7, .int .u8 8, .int .u8 11, .int .u8 12, .int .u8 15, .int .u8 16, .int .u8 17, .int .u8 20, .int .u8 21, .int .u8 22, .int .u8 23, .int .u8 24, .int .u8 43] 5)) (some ⟨w.heap.size, 0, none⟩) 19 19 codes :=
    Sl.fresh w codes [.int .u8 1, .int .u8 2, .int .u8 3, .int .u8 4, .int .u8 5, .int .u8 6, .int .u8 7, .int .u8 8, .int .u8 11, .int .u8 12, .int .u8 15, .int .u8 16, .int .u8 17, .int .u8 20, .int .u8 21, .int .u8 22, .int .u8 23, .int .u8 24, .int .u8 43] 5 (0, 0) 19 rfl (by unfold maxLen; omega) rfl
  go_enter Try.func18, Try.ntmps18
  go_wp2_with fail
  refine (setOf8_any _ _ _ codes _ hlit (by omega)).mono ?_
  rintro e w1 ⟨b, rfl, hset, hb1⟩
  replace hb1 := below_next ((Below.refl w.heap.size w).alloc (Nat.le_refl _) _) hb1 (Nat.le_refl _)
  have hr := codes_is c
  clear hlit
  go_wp2_with (first
    | (at_lookup; refine wpList_askIn _ rfl _ _ 54 rfl 5 4 .u8 Try.underlying5 Try.underlying4 Try.underlying54 (zeroB _) b 19 _ rfl hset c rfl hwf _ hr ?_)
    | go_in)
  go_ret
  exact ⟨rfl, hb1⟩

theorem failure_any (c : Nat) (hc : c < 256) (w : World) :
    Calls Try.prog 19 #[.int .u8 c] w fun e w' => e = .returned (.bool (fails c)) ∧ Below w.heap.size w w' := by
  have hwf : (Lit.int .u8 (c : Int)).wf = true := WalkArith.wf_u8 ⟨by omega, by omega⟩
  have hlit : Bs (w.alloc (.cells #[.int .u8 1, .int .u8 2, .int .u8 3, .int .u8 4, .int .u8 5, .int .u8 6, .int .u8 8, .int .u8 10, .int .u8 11] 5)) (some ⟨w.heap.size, 0, none⟩) 9 9 reasons :=
    Sl.fresh w reasons [.int .u8 1, .int .u8 2, .int .u8 3, .int .u8 4, .int .u8 5, .int .u8 6, .int .u8 8, .int .u8 10, .int .u8 11] 5 (0, 0) 9 rfl (by unfold maxLen; omega) rfl
  go_enter Try.func19, Try.ntmps19
  go_wp2_with fail
  refine (setOf8_any _ _ _ reasons _ hlit (by omega)).mono ?_
  rintro e w1 ⟨b, rfl, hset, hb1⟩
  replace hb1 := below_next ((Below.refl w.heap.size w).alloc (Nat.le_refl _) _) hb1 (Nat.le_refl _)
  have hr := reasons_is c
  clear hlit
  go_wp2_with (first
    | (at_lookup; refine wpList_askIn _ rfl _ _ 54 rfl 5 4 .u8 Try.underlying5 Try.underlying4 Try.underlying54 (zeroB _) b 9 _ rfl hset c rfl hwf _ hr ?_)
    | go_in)
  go_ret
  exact ⟨rfl, hb1⟩

def ans (a b : Nat) : Bool := decide (a < 128 ∧ (b = a ∨ b = a + 128))

theorem or_bad (a : Nat) (h : a < 128) : bits .or .u8 (a : Int) 128 = (a : Int) + 128 := by
  show IntKind.u8.wrap (((BitVec.ofInt 8 (a : Int) ||| BitVec.ofInt 8 128).toNat : Nat) : Int) = _
  rw [BitVec.toNat_or, BitVec.toNat_ofInt, BitVec.toNat_ofInt]
  have f1 : ((a : Int) % ((2 ^ 8 : Nat) : Int)).toNat = a := by omega
  have f2 : ((128 : Int) % ((2 ^ 8 : Nat) : Int)).toNat = 128 := by omega
  have f3 : a ||| 128 = a + 128 := (show ∀ a, a < 128 → a ||| 128 = a + 128 by decide +kernel) a h
  rw [f1, f2, f3, IntKind.wrap_u8]
  omega

end Go.Proofs.Ytjacnghndnkcnaa
