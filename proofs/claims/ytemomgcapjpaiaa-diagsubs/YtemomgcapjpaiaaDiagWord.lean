/-
  Package diag: what a word may be: closures that lie in a map.
-/
import Derived.Test.YtemomgcapjpaiaaTabW
import Derived.Test.YtemomgcapjpaiaaCode
import Derived.Test.YtemomgcapjpaiaaCodeRd
import Derived.Test.YtemomgcapjpaiaaDiagPack
import Derived.BigRegion
import Derived.Deep.RegionHeld3
namespace Go.Proofs.Ytemomgcapjpaiaa
open Go.RowKit
open Word Bits Cursor

abbrev clV (F : FuncId) (caps : Array Value) : Value := .func (.func F) #[] caps

set_option maxHeartbeats 1000000 in
theorem index16_any (a : Option Addr) (len cap : Nat) (xs : List UInt16) (x : UInt16) (w : World) (hx : Ws w a len cap xs) :
    Calls Try.prog 90 #[.slice a len cap, wordV x] w fun e w' => (∃ i : Int, e = .returned (.int .i64 i) ∧ decide (0 ≤ i) = decide (x ∈ xs)) ∧ Below w.heap.size w w' := by
  have h1 := hx.hlen
  have hle := hx.hle
  have hmx := hx.hmax
  unfold maxLen at hmx
  have HX := hide hx
  have H1 := hide h1
  clear hx h1
  obtain ⟨n, hn⟩ : ∃ n : Nat, n = x.toNat := ⟨_, rfl⟩
  rw [show wordV x = .int .u16 (n : Int) by rw [hn]]
  have HN := hide hn
  clear hn
  go_enter Try.func90, Try.ntmps90
  go_wp2
  go_loopw [8] (fun i wr => ∃ k : Nat, k ≤ len ∧ i = .int .i64 k ∧ x ∉ xs.take k ∧ Below w.heap.size w wr) (fun i _ => len - (intOf i).toNat)
  case atStart => exact ⟨0, Nat.zero_le _, rfl, by simp, Below.refl _ _⟩
  case round =>
    obtain ⟨k, hk, rfl, heq, hbr⟩ := hrel
    have HQ := hide heq
    clear heq
    by_cases hlt : k < len
    · have hk1 : k < xs.length := by have := H1.out; omega
      obtain ⟨b, off, rfl, hbl, hc0⟩ := HX.out.hcell k hk1
      have hc : wr.cell? ⟨b, off + k, none⟩ = some (.int .u16 (xs[k].toNat : Int)) := (hbr.cell (p := ⟨b, off + k, none⟩) hbl).trans hc0
      clear hc0
      have HT : Hid (n ≠ xs[k].toNat → x ∉ xs.take (k + 1)) := hide fun h => by
        rw [List.take_succ_eq_append_getElem hk1, List.mem_append]
        rintro (h1 | h1)
        · exact HQ.out h1
        · rw [List.mem_singleton] at h1
          exact h (by rw [HN.out, h1])
      have HP : Hid (n = xs[k].toNat → x ∈ xs) := hide fun h => by
        have : x = xs[k] := UInt16.toNat.inj (by rw [← HN.out, h])
        rw [this]
        exact List.getElem_mem hk1
      generalize xs[k].toNat = m at *
      by_cases hmn : n = m
      · subst hmn
        go_wp2
        go_ret
        exact ⟨⟨_, rfl, by simp [HP.out trivial]⟩, hbr⟩
      · have HM := hide hmn
        go_wp2
        go_roundw
        case rel => exact ⟨k + 1, by omega, by go_num, HT.out HM.out, hbr⟩
        case measure => simp [intOf]; omega
    · have : k = len := by omega
      subst this
      go_wp2
      go_ret
      exact ⟨⟨_, rfl, by
        have := HQ.out
        rw [List.take_of_length_le (by rw [H1.out]; omega)] at this
        simp [this]⟩, hbr⟩

theorem contains16_any (a : Option Addr) (len cap : Nat) (xs : List UInt16) (x : UInt16) (w : World) (hx : Ws w a len cap xs) :
    Calls Try.prog 89 #[.slice a len cap, wordV x] w fun e w' => e = .returned (.bool (decide (x ∈ xs))) ∧ Below w.heap.size w w' := by
  go_enter Try.func89, Try.ntmps89
  go_wp2_with fail
  refine (index16_any a len cap xs x w hx).mono ?_
  rintro e w1 ⟨⟨i, rfl, hi⟩, hb⟩
  go_wp2
  go_ret
  first | exact ⟨ret_bool hi, hb⟩ | exact ⟨rfl, hb⟩

theorem and255 (n : Nat) (h : n < 65536) : bits .and .u16 (n : Int) 255 = ((n % 256 : Nat) : Int) := by
  show IntKind.u16.wrap (((BitVec.ofInt 16 (n : Int) &&& BitVec.ofInt 16 255).toNat : Nat) : Int) = _
  rw [BitVec.toNat_and, BitVec.toNat_ofInt, BitVec.toNat_ofInt]
  have f1 : ((n : Int) % ((2 ^ 16 : Nat) : Int)).toNat = n := by omega
  have f2 : ((255 : Int) % ((2 ^ 16 : Nat) : Int)).toNat = 2 ^ 8 - 1 := by omega
  rw [f1, f2, Nat.and_two_pow_sub_one_eq_mod, IntKind.wrap_u16]
  omega

theorem toldWord_any (x : UInt16) (dir : Int) (g : Nat) (w : World) (hg : w.heap[g]? = some (.cells #[.int .i64 dir] 3 (0, 0))) :
    Calls Try.prog 82 #[wordV x, ptrV g] w fun e w' => e = .returned (.bool (decide (x.toNat = 0) || decide (dir = 1))) ∧ w' = w := by
  have k0 : w.cell? ⟨g, 0, none⟩ = some (.int .i64 dir) := cell_of_row w g 0 _ _ _ hg
  clear hg
  obtain ⟨n, hn⟩ : ∃ n : Nat, n = x.toNat := ⟨_, rfl⟩
  rw [show wordV x = .int .u16 (n : Int) by rw [hn], ← hn]
  clear hn
  go_enter Try.func82, Try.ntmps82
  by_cases h0 : n = 0
  · subst h0
    go_wp2
    go_ret
    exact ⟨ret_bool (by simp), rfl⟩
  · have HN := hide h0
    go_wp2
    go_ret
    exact ⟨ret_bool (by rw [Bool.eq_iff_iff]; simp [HN.out]), rfl⟩

theorem lowWord_any (x : UInt16) (w : World) :
    Calls Try.prog 84 #[wordV x] w fun e w' => e = .returned (.bool (decide (x.toNat % 256 = 0))) ∧ w' = w := by
  obtain ⟨n, hn⟩ : ∃ n : Nat, n = x.toNat := ⟨_, rfl⟩
  have hl : n < 65536 := by rw [hn]; exact word_lt x
  rw [show wordV x = .int .u16 (n : Int) by rw [hn], ← hn]
  have hand := and255 n hl
  clear hn
  go_enter Try.func84, Try.ntmps84
  go_wp2
  go_ret
  exact ⟨ret_bool (by rw [Bool.eq_iff_iff]; simp; omega), rfl⟩

/-- A closure that asks whether a word is one of those in a slice that block 'g' holds. -/
theorem amongWord_any (x : UInt16) (g : Nat) (a : Option Addr) (len cap : Nat) (xs : List UInt16) (w : World) (hg : w.heap[g]? = some (.cells #[.slice a len cap] 25 (0, 0))) (hx : Ws w a len cap xs) :
    Calls Try.prog 88 #[wordV x, ptrV g] w fun e w' => e = .returned (.bool (decide (x ∈ xs))) ∧ Below w.heap.size w w' := by
  have k0 : w.cell? ⟨g, 0, none⟩ = some (.slice a len cap) := cell_of_row w g 0 _ _ _ hg
  clear hg
  go_enter Try.func88, Try.ntmps88
  go_wp2_with fail
  refine (contains16_any a len cap xs x w hx).mono ?_
  rintro e w1 ⟨rfl, hb⟩
  go_wp2
  go_ret
  exact ⟨rfl, hb⟩

theorem among_any (a : Option Addr) (len cap : Nat) (w : World) :
    Calls Try.prog 83 #[.slice a len cap] w fun e w' => ∃ g, w.heap.size ≤ g ∧ e = .returned (clV 88 #[ptrV g]) ∧ w'.heap[g]? = some (.cells #[.slice a len cap] 25 (0, 0)) ∧ Below w.heap.size w w' := by
  have hmf : ∀ (fn : Fn) (first cap : Array Value) (w : World), (Instr.makeFunc fn first cap).run Try.prog w = .ok (.func fn first cap) w := fun _ _ _ _ => rfl
  go_enter Try.func83, Try.ntmps83
  go_wp2
  go_ret
  exact ⟨w.heap.size, Nat.le_refl _, rfl, heap_alloc_new _ _, (Below.refl _ _).alloc (Nat.le_refl _) _⟩

/-! the map -/
/-- What a closure says of words, as long as what it has captured stays: all blocks from 'lo' on but 'b'. -/
def Says (lo b : Nat) (wc : World) (v : Value) (p : UInt16 → Bool) : Prop :=
  ∃ F caps, v = clV F caps ∧ (∀ args w, (callFunc F args).run Try.prog w = .ok (.enter F args) w) ∧
    ∀ x w, (∀ g o, lo ≤ g → g ≠ b → wc.heap[g]? = some o → w.heap[g]? = some o) → Calls Try.prog F (#[wordV x] ++ caps) w fun r w' => r = .returned (.bool (p x)) ∧ Below w.heap.size w w'
theorem Says.mono {lo b : Nat} {wc w' : World} {v : Value} {p : UInt16 → Bool} (h : Says lo b wc v p) (hk : ∀ g o, lo ≤ g → g ≠ b → wc.heap[g]? = some o → w'.heap[g]? = some o) : Says lo b w' v p := by
  obtain ⟨F, caps, h1, h2, h3⟩ := h
  exact ⟨F, caps, h1, h2, fun x w hw => h3 x w fun g o a1 a2 a3 => hw g o a1 a2 (hk g o a1 a2 a3)⟩
abbrev toldV (g : Nat) : Value := clV 82 #[ptrV g]
abbrev lowV : Value := clV 84 #[]
abbrev amongV (g : Nat) : Value := clV 88 #[ptrV g]

/-- What holds while the map is made. -/
structure Mk (w : World) (dir : Int) (b : Nat) (l : List (Nat × Value)) (S : List (Value × (UInt16 → Bool))) (wk : World) : Prop where
  tab : TabW wk b l
  below : Below w.heap.size w wk
  dirAt : wk.heap[w.heap.size]? = some (.cells #[.int .i64 dir] 3 (0, 0))
  says : ∀ x ∈ S, Says w.heap.size b wk x.1 x.2
  lt : w.heap.size < b

section
variable {w wk : World} {dir : Int} {b : Nat} {l : List (Nat × Value)} {S : List (Value × (UInt16 → Bool))}
theorem Mk.made (w : World) (dir : Int) : Mk w dir (w.heap.size + 1) [] [] ((w.alloc (.cells #[.int .i64 dir] 3 (0, 0))).alloc (.map #[] 0)) := by
  refine ⟨?_, ((Below.refl _ _).alloc (Nat.le_refl _) _).alloc (by simp) _, ?_, by simp, Nat.lt_succ_self _⟩
  · simpa using TabW.made (w.alloc (.cells #[.int .i64 dir] 3 (0, 0)))
  · exact (Below.heap_alloc _ _ _ (by simp)).trans (heap_alloc_new _ _)
theorem Mk.told (M : Mk w dir b l S wk) : Says w.heap.size b wk (toldV w.heap.size) (fun x => decide (x.toNat = 0) || decide (dir = 1)) :=
  ⟨_, _, rfl, fun _ _ => by kernel_rfl, fun x u hu => by
    refine (toldWord_any x dir w.heap.size u (hu _ _ (Nat.le_refl _) (by have := M.lt; omega) M.dirAt)).mono ?_
    rintro e w1 ⟨rfl, rfl⟩
    exact ⟨rfl, Below.refl _ _⟩⟩
theorem Mk.low (_M : Mk w dir b l S wk) : Says w.heap.size b wk lowV (fun x => decide (x.toNat % 256 = 0)) :=
  ⟨_, _, rfl, fun _ _ => by kernel_rfl, fun x u _ => by
    refine (lowWord_any x u).mono ?_
    rintro e w1 ⟨rfl, rfl⟩
    exact ⟨rfl, Below.refl _ _⟩⟩
theorem Mk.lit (M : Mk w dir b l S wk) (xs : List UInt16) (cs : List Value) (t : TypeId) (n z : Nat) (hcs : cs = xs.map wordV) (hn : xs.length = n) (hm : n ≤ 100) (hz : z = wk.heap.size) {w2 : World} {g : Nat}
    (hg : (wk.alloc (.cells cs.toArray t (0, 0))).heap.size ≤ g) (hc : w2.heap[g]? = some (.cells #[.slice (some ⟨z, 0, none⟩) n n] 25 (0, 0))) (hb : Below (wk.alloc (.cells cs.toArray t (0, 0))).heap.size (wk.alloc (.cells cs.toArray t (0, 0))) w2) :
    Mk w dir b l ((amongV g, fun x => decide (x ∈ xs)) :: S) w2 := by
  subst hz
  have hb0 : Below wk.heap.size wk (wk.alloc (.cells cs.toArray t (0, 0))) := (Below.refl _ _).alloc (Nat.le_refl _) _
  have hb1 : Below wk.heap.size wk w2 := below_next hb0 hb (Nat.le_refl _)
  have hk : ∀ i o, w.heap.size ≤ i → i ≠ b → wk.heap[i]? = some o → w2.heap[i]? = some o := fun i _ _ _ ho => (hb1.block i (lt_of_block ho)).trans ho
  have hs := M.below.size
  have hlt := M.tab.lt
  have hg' : wk.heap.size + 1 ≤ g := by simpa using hg
  have hlit := (hb.block _ (lt_of_block (heap_alloc_new wk (.cells cs.toArray t (0, 0))))).trans (heap_alloc_new wk (.cells cs.toArray t (0, 0)))
  refine ⟨M.tab.mono hb1, M.below.trans (hb1.mono hs), (hb1.block _ (lt_of_block M.dirAt)).trans M.dirAt, fun x hx => ?_, M.lt⟩
  rcases List.mem_cons.1 hx with rfl | hx
  · refine ⟨_, _, rfl, fun _ _ => by kernel_rfl, fun x u hu => ?_⟩
    exact amongWord_any x g _ n n xs u (hu g _ (by omega) (by omega) hc) (Sl.block (hu _ _ hs (by omega) hlit) hn (Nat.le_refl _) (by unfold maxLen; omega) (fun i hi => by subst hcs; simp [hi]))
  · exact (M.says x hx).mono hk
theorem Mk.put (M : Mk w dir b l S wk) {w' : World} {l' : List (Nat × Value)} (T : TabW w' b l') (n : ∀ c, c ≠ b → w'.heap[c]? = wk.heap[c]?) (c : ∀ B, B ≤ b → Below B wk w') : Mk w dir b l' S w' :=
  ⟨T, M.below.trans (c _ (Nat.le_of_lt M.lt)), (n _ (Nat.ne_of_lt M.lt)).trans M.dirAt, fun x hx => (M.says x hx).mono fun g _ _ h2 h3 => (n g h2).trans h3, M.lt⟩
end

/-- The counters' words. -/
def toldL (v : Value) : Nat → List (Nat × Value)
  | 0 => []
  | k + 1 => toldL v k ++ [(11 + k, v)]
theorem tabAt_app : ∀ (l r : List (Nat × Value)) (x : Nat), tabAt (l ++ r) x = (tabAt l x).or (tabAt r x)
  | [], r, x => by simp [tabAt]
  | (k, v) :: l, r, x => by
    simp only [List.cons_append, tabAt]
    split
    · rfl
    · exact tabAt_app l r x
theorem toldL_at (v : Value) (x : Nat) : ∀ k, tabAt (toldL v k) x = if 11 ≤ x ∧ x < 11 + k then some v else none
  | 0 => by simp [toldL, tabAt]
  | k + 1 => by
    rw [toldL, tabAt_app, toldL_at v x k]
    by_cases h1 : 11 ≤ x ∧ x < 11 + k
    · rw [if_pos h1, if_pos (by omega)]; rfl
    · rw [if_neg h1]
      by_cases h2 : x = 11 + k
      · subst h2
        rw [if_pos (by omega)]; simp [tabAt]
      · rw [if_neg (by omega)]; simp [tabAt, h2]
def wordL (v1 v2 v3 v4 v10 v20 : Value) (k : Nat) : List (Nat × Value) := [(1, v1), (2, v2), (3, v3), (4, v4), (10, v10), (20, v20)] ++ toldL v2 k
theorem wordL_at (v1 v2 v3 v4 v10 v20 : Value) (k x : Nat) : tabAt (wordL v1 v2 v3 v4 v10 v20 k) x = if x = 1 then some v1 else if x = 2 then some v2 else if x = 3 then some v3 else if x = 4 then some v4 else if x = 10 then some v10 else if x = 20 then some v20 else if 11 ≤ x ∧ x < 11 + k then some v2 else none := by
  unfold wordL
  rw [tabAt_app, toldL_at]
  simp only [tabAt]
  repeat' split
  all_goals first | rfl | omega
namespace Diag
/-- Of which sub-functions a word is asked. -/
def asks (s : Nat) : Bool := sub_is s && decide (s ≠ 0)
end Diag

theorem mem0 (x : UInt16) : decide (x ∈ [(0 : UInt16)]) = decide (x.toNat = 0) := by
  rw [Bool.eq_iff_iff]
  simp [← UInt16.toNat_inj]
theorem mem1 (x : UInt16) : decide (x ∈ [(0 : UInt16), 65280]) = decide (x.toNat = 0 ∨ x.toNat = 65280) := by
  rw [Bool.eq_iff_iff]
  simp [← UInt16.toNat_inj]
theorem may_one (dir : Int) (v : Nat) : Diag.may dir 1 v = decide (v = 0 ∨ v = 65280) := by unfold Diag.may; rw [if_pos rfl]
theorem may_three (dir : Int) (v : Nat) : Diag.may dir 3 v = decide (v % 256 = 0) := by unfold Diag.may; rw [if_neg (by omega), if_pos rfl]
theorem may_told (dir : Int) (s v : Nat) (h : s = 2 ∨ 11 ≤ s ∧ s ≤ 18) : Diag.may dir s v = (decide (v = 0) || decide (dir = 1)) := by
  unfold Diag.may
  rw [if_neg (by omega), if_neg (by omega)]
  by_cases hd : dir = 1
  · rw [if_pos ⟨hd, h⟩]; simp [hd]
  · rw [if_neg (fun h => hd h.1)]; simp [hd]
theorem may_nil (dir : Int) (s v : Nat) (h : s = 4 ∨ s = 10 ∨ s = 20) : Diag.may dir s v = decide (v = 0) := by
  unfold Diag.may
  rw [if_neg (by omega), if_neg (by omega), if_neg (by omega)]
theorem Mk.words {w wk : World} {dir : Int} {b g1 g5 g7 g9 : Nat} (M : Mk w dir b (wordL (amongV g1) (toldV w.heap.size) lowV (amongV g5) (amongV g7) (amongV g9) 8) [(amongV g9, fun x => decide (x ∈ [0])), (amongV g7, fun x => decide (x ∈ [0])), (amongV g5, fun x => decide (x ∈ [0])), (amongV g1, fun x => decide (x ∈ [0, 65280]))] wk) (s : Nat) :
    (Diag.asks s = true → ∃ v, tabAt (wordL (amongV g1) (toldV w.heap.size) lowV (amongV g5) (amongV g7) (amongV g9) 8) s = some v ∧ ∃ p, Says w.heap.size b wk v p ∧ ∀ x, p x = Diag.may dir s x.toNat) ∧
      (Diag.asks s = false → tabAt (wordL (amongV g1) (toldV w.heap.size) lowV (amongV g5) (amongV g7) (amongV g9) 8) s = none) := by
  rw [wordL_at]
  unfold Diag.asks Diag.sub_is
  refine ⟨fun hs => ?_, fun hs => ?_⟩
  · simp at hs
    by_cases h1 : s = 1
    · subst h1; exact ⟨_, rfl, _, M.says (amongV g1, fun x => decide (x ∈ [0, 65280])) (by simp), fun x => by rw [may_one]; exact mem1 x⟩
    by_cases h2 : s = 2
    · subst h2; exact ⟨_, rfl, _, M.told, fun x => (may_told _ _ _ (by omega)).symm⟩
    by_cases h3 : s = 3
    · subst h3; exact ⟨_, rfl, _, M.low, fun x => (may_three _ _).symm⟩
    by_cases h4 : s = 4
    · subst h4; exact ⟨_, rfl, _, M.says (amongV g5, fun x => decide (x ∈ [0])) (by simp), fun x => by rw [may_nil _ _ _ (by omega)]; exact mem0 x⟩
    by_cases h10 : s = 10
    · subst h10; exact ⟨_, rfl, _, M.says (amongV g7, fun x => decide (x ∈ [0])) (by simp), fun x => by rw [may_nil _ _ _ (by omega)]; exact mem0 x⟩
    by_cases h20 : s = 20
    · subst h20; exact ⟨_, rfl, _, M.says (amongV g9, fun x => decide (x ∈ [0])) (by simp), fun x => by rw [may_nil _ _ _ (by omega)]; exact mem0 x⟩
    rw [if_neg h1, if_neg h2, if_neg h3, if_neg h4, if_neg h10, if_neg h20, if_pos (by omega)]
    exact ⟨_, rfl, _, M.told, fun x => (may_told _ _ _ (by omega)).symm⟩
  · simp at hs
    rw [if_neg (by omega), if_neg (by omega), if_neg (by omega), if_neg (by omega), if_neg (by omega), if_neg (by omega), if_neg (by omega)]

set_option maxRecDepth 20000 in
set_option maxHeartbeats 2000000 in
theorem wordsOf_any (dir : Int) (w : World) :
    Calls Try.prog 65 #[.int .i64 dir] w fun e w' => ∃ b, e = .returned (.map (some b)) ∧ Below w.heap.size w w' ∧ w.heap.size < b ∧ ∃ l, TabW w' b l ∧
      ∀ s : Nat, (Diag.asks s = true → ∃ v, tabAt l s = some v ∧ ∃ p, Says w.heap.size b w' v p ∧ ∀ x, p x = Diag.may dir s x.toNat) ∧ (Diag.asks s = false → tabAt l s = none) := by
  have hmf : ∀ (fn : Fn) (first cap : Array Value) (w : World), (Instr.makeFunc fn first cap).run Try.prog w = .ok (.func fn first cap) w := fun _ _ _ _ => rfl
  have hmm : ∀ w : World, (Instr.makeMap 94 none).run Try.prog w = .ok (.map (some w.heap.size)) (w.alloc (.map #[] 0)) := fun w => run_makeMap _ w
  have M0 := hide (Mk.made w dir)
  go_enter Try.func65, Try.ntmps65
  go_wp2_with fail
  refine (among_any _ _ _ _).mono ?_
  rintro e w1 ⟨g1, hg1, rfl, hc1, hb1⟩
  have M1 := hide (M0.out.lit [0, 65280] _ _ _ _ (by rfl) (by rfl) (by omega) (by simp) hg1 hc1 hb1)
  clear M0 hg1 hc1 hb1 hmf hmm
  go_wp2_with (refine wpList_putW rfl _ _ _ 94 (.inl rfl) 24 45 Try.underlying94 Try.underlying24 _ _ rfl M1.out.tab 1 rfl rfl _ rfl ?_)
  intro v2 T2 n2 c2
  have M2 := hide (M1.out.put T2 n2 c2)
  clear M1 T2 n2 c2
  go_wp2_with (refine wpList_putW rfl _ _ _ 94 (.inl rfl) 24 45 Try.underlying94 Try.underlying24 _ _ rfl M2.out.tab 2 rfl rfl _ rfl ?_)
  intro v3 T3 n3 c3
  have M3 := hide (M2.out.put T3 n3 c3)
  clear M2 T3 n3 c3
  go_wp2_with (refine wpList_putW rfl _ _ _ 94 (.inl rfl) 24 45 Try.underlying94 Try.underlying24 _ _ rfl M3.out.tab 3 rfl rfl _ rfl ?_)
  intro v4 T4 n4 c4
  have M4 := hide (M3.out.put T4 n4 c4)
  clear M3 T4 n4 c4
  go_wp2_with fail
  refine (among_any _ _ _ _).mono ?_
  rintro e u5 ⟨g5, hg5, rfl, hc5, hb5⟩
  have M5 := hide (M4.out.lit [0] _ _ _ _ (by rfl) (by rfl) (by omega) (by simp) hg5 hc5 hb5)
  clear M4 hg5 hc5 hb5
  go_wp2_with (refine wpList_putW rfl _ _ _ 94 (.inl rfl) 24 45 Try.underlying94 Try.underlying24 _ _ rfl M5.out.tab 4 rfl rfl _ rfl ?_)
  intro v6 T6 n6 c6
  have M6 := hide (M5.out.put T6 n6 c6)
  clear M5 T6 n6 c6
  go_wp2_with fail
  refine (among_any _ _ _ _).mono ?_
  rintro e u7 ⟨g7, hg7, rfl, hc7, hb7⟩
  have M7 := hide (M6.out.lit [0] _ _ _ _ (by rfl) (by rfl) (by omega) (by simp) hg7 hc7 hb7)
  clear M6 hg7 hc7 hb7
  go_wp2_with (refine wpList_putW rfl _ _ _ 94 (.inl rfl) 24 45 Try.underlying94 Try.underlying24 _ _ rfl M7.out.tab 10 rfl rfl _ rfl ?_)
  intro v8 T8 n8 c8
  have M8 := hide (M7.out.put T8 n8 c8)
  clear M7 T8 n8 c8
  go_wp2_with fail
  refine (among_any _ _ _ _).mono ?_
  rintro e u9 ⟨g9, hg9, rfl, hc9, hb9⟩
  have M9 := hide (M8.out.lit [0] _ _ _ _ (by rfl) (by rfl) (by omega) (by simp) hg9 hc9 hb9)
  clear M8 hg9 hc9 hb9
  go_wp2_with (refine wpList_putW rfl _ _ _ 94 (.inl rfl) 24 45 Try.underlying94 Try.underlying24 _ _ rfl M9.out.tab 20 rfl rfl _ rfl ?_)
  intro v10 T10 n10 c10
  have M10 := hide (M9.out.put T10 n10 c10)
  clear M9 T10 n10 c10
  have HS := hide M10.out.told
  have ML := hide M10.out.low
  clear HS ML
  replace M10 : Hid (Mk w dir (w.heap.size + 1) (wordL (amongV g1) (toldV w.heap.size) lowV (amongV g5) (amongV g7) (amongV g9) 0) [(amongV g9, fun x => decide (x ∈ [0])), (amongV g7, fun x => decide (x ∈ [0])), (amongV g5, fun x => decide (x ∈ [0])), (amongV g1, fun x => decide (x ∈ [0, 65280]))] v10) := M10
  generalize hb : w.heap.size + 1 = b at *
  go_wp2
  go_loopw [5] (fun i wr => ∃ k : Nat, k ≤ 8 ∧ i = .int .u16 ((11 + k : Nat) : Int) ∧ Mk w dir b (wordL (amongV g1) (toldV w.heap.size) lowV (amongV g5) (amongV g7) (amongV g9) k) [(amongV g9, fun x => decide (x ∈ [0])), (amongV g7, fun x => decide (x ∈ [0])), (amongV g5, fun x => decide (x ∈ [0])), (amongV g1, fun x => decide (x ∈ [0, 65280]))] wr) (fun i _ => 100 - (intOf i).toNat)
  case atStart => exact ⟨0, Nat.zero_le _, rfl, M10.out⟩
  case round =>
    clear M10
    obtain ⟨k, hk, rfl, hm⟩ := hrel
    have HM := hide hm
    clear hm
    have hfree := wordL_at (amongV g1) (toldV w.heap.size) lowV (amongV g5) (amongV g7) (amongV g9) k (11 + k)
    obtain ⟨y, hy⟩ : ∃ y, y = 11 + k := ⟨_, rfl⟩
    have HF : Hid (k < 8 → tabAt (wordL (amongV g1) (toldV w.heap.size) lowV (amongV g5) (amongV g7) (amongV g9) k) y = none) := hide (fun h => by
      rw [hy, hfree, if_neg (by omega), if_neg (by omega), if_neg (by omega), if_neg (by omega), if_neg (by omega), if_neg (by omega), if_neg (by omega)])
    clear hfree
    rw [← hy]
    by_cases hlt : k < 8
    · have hyl : y < 19 := by omega
      have HY := hide hy
      clear hy
      go_wp2_with (refine wpList_putW rfl _ _ _ 94 (.inr rfl) 24 45 Try.underlying94 Try.underlying24 _ _ rfl HM.out.tab y rfl (HF.out hlt) _ rfl ?_)
      intro wn T n c
      have M := hide (HM.out.put T n c)
      clear HM T n c
      go_wp2
      go_roundw
      case rel => exact ⟨k + 1, by omega, by have := HY.out; go_num, by
        have := M.out
        rw [HY.out] at this
        exact this⟩
      case measure => have := HY.out; simp [intOf]; omega
    · have hyl : ¬ ((y : Int) ≤ 18) := by omega
      have : k = 8 := by omega
      subst this
      clear hy HF
      go_wp2
      go_ret
      exact ⟨b, rfl, HM.out.below, HM.out.lt, _, HM.out.tab, HM.out.words⟩

end Go.Proofs.Ytemomgcapjpaiaa
