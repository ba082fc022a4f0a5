/-
  Package mei: the sets of bytes that may be, and the contracts of the closures that read forms.
-/
import Derived.Test.YtaokbaddleplfaaCodeRd
import Derived.Test.YtaokbaddleplfaaObjCode
import Derived.Test.YtaokbaddleplfaaTabWalk
import Derived.Test.YtaokbaddleplfaaMeiPack
import Derived.Deep.CutBlock
import Derived.Deep.DeepCutAuto
import Derived.Deep.LoopGhost
namespace Go.Proofs.Ytaokbaddleplfaa
open Go.RowKit
open Word Bits Cursor

abbrev CR := CRd 30

/-- A set of bytes: a map of bools. -/
def boolTab (l : List Nat) : List (Nat × Value) := l.map fun k => (k, .bool true)
theorem tabAt_bool (l : List Nat) (x : Nat) : (tabAt (boolTab l) x).getD (.bool false) = .bool (decide (x ∈ l)) := by
  induction l with
  | nil => rfl
  | cons k r ih =>
    show (if x = k then some (Value.bool true) else tabAt (boolTab r) x).getD (.bool false) = _
    by_cases h : x = k
    · subst h; simp
    · rw [if_neg h, ih]; simp [h]
theorem zeroB (w : World) : (zeroValue 4).run Try.prog w = .ok (.bool false) w := by kernel_rfl
/-- 'm[x]' of a set. -/
theorem run_has {w : World} {b : Nat} {l : List Nat} (h : Tab w b (boolTab l)) (x : Nat) :
    (Instr.lookup 88 (.map (some b)) (.int .u8 (x : Int)) false).run Try.prog w = .ok (.bool (decide (x ∈ l))) w := by
  obtain ⟨n, hn⟩ := tab_find (boolTab l) 0 0 x
  unfold Instr.lookup
  simp only [Sem.run_bind, run_underlying Try.underlying88, Result.andThen_ok, MapKept.run_getObj_map h, Sem.run_pure]
  have hck : ∀ em, (Instr.checkKey em 10000 5 (.int .u8 (x : Int))).run Try.prog w = .ok () w := fun em => by
    unfold Instr.checkKey
    simp [run_underlying Try.underlying5]
  rw [hck]
  simp only [Result.andThen_ok]
  rw [MapKept.run_findKey (k := .int .u8 (x : Int)) Try.underlying5 (by simpa using hn)]
  have ht := tabAt_bool l x
  cases hv : tabAt (boolTab l) x with
  | none =>
    rw [hv] at ht
    simpa using ht
  | some v =>
    rw [hv] at ht
    simp
    simpa using ht

set_option maxRecDepth 20000 in
theorem kinds_any (w : World) : Calls Try.prog 57 #[] w fun e w' => (∃ b, e = .returned (.map (some b)) ∧ Tab w' b (boolTab [1, 2, 3, 4]) ∧ w.heap.size ≤ b) ∧ Below w.heap.size w w' := by
  have hmm : ∀ w : World, (Instr.makeMap 88 none).run Try.prog w = .ok (.map (some w.heap.size)) (w.alloc (.map #[] 0)) := fun w => run_makeMap _ w
  have T0 := Tab.made w
  have B0 : Below w.heap.size w (w.alloc (.map #[] 0)) := (Below.refl _ _).alloc (Nat.le_refl _) _
  go_enter Try.func57, Try.ntmps57
  go_wp2_with (refine wpList_insertT rfl _ _ _ 88 rfl 5 4 Try.underlying88 Try.underlying5 w.heap.size _ rfl T0 1 rfl rfl _ rfl ?_)
  intro v1 T1 _ c1
  have B1 := B0.trans (c1 _ (Nat.le_refl _))
  clear c1 T0 B0
  go_wp2_with (refine wpList_insertT rfl _ _ _ 88 rfl 5 4 Try.underlying88 Try.underlying5 w.heap.size _ rfl T1 2 rfl rfl _ rfl ?_)
  intro v2 T2 _ c2
  have B2 := B1.trans (c2 _ (Nat.le_refl _))
  clear c2 T1 B1
  go_wp2_with (refine wpList_insertT rfl _ _ _ 88 rfl 5 4 Try.underlying88 Try.underlying5 w.heap.size _ rfl T2 3 rfl rfl _ rfl ?_)
  intro v3 T3 _ c3
  have B3 := B2.trans (c3 _ (Nat.le_refl _))
  clear c3 T2 B2
  go_wp2_with (refine wpList_insertT rfl _ _ _ 88 rfl 5 4 Try.underlying88 Try.underlying5 w.heap.size _ rfl T3 4 rfl rfl _ rfl ?_)
  intro v4 T4 _ c4
  have B4 := B3.trans (c4 _ (Nat.le_refl _))
  clear c4 T3 B3
  go_wp2
  go_ret
  exact ⟨⟨_, rfl, T4, Nat.le_refl _⟩, B4⟩

set_option maxRecDepth 20000 in
theorem levels_any (w : World) : Calls Try.prog 60 #[] w fun e w' => (∃ b, e = .returned (.map (some b)) ∧ Tab w' b (boolTab [1, 2, 3, 129, 130, 131]) ∧ w.heap.size ≤ b) ∧ Below w.heap.size w w' := by
  have hmm : ∀ w : World, (Instr.makeMap 88 none).run Try.prog w = .ok (.map (some w.heap.size)) (w.alloc (.map #[] 0)) := fun w => run_makeMap _ w
  have T0 := Tab.made w
  have B0 : Below w.heap.size w (w.alloc (.map #[] 0)) := (Below.refl _ _).alloc (Nat.le_refl _) _
  go_enter Try.func60, Try.ntmps60
  go_wp2_with (refine wpList_insertT rfl _ _ _ 88 rfl 5 4 Try.underlying88 Try.underlying5 w.heap.size _ rfl T0 1 rfl rfl _ rfl ?_)
  intro v1 T1 _ c1
  have B1 := B0.trans (c1 _ (Nat.le_refl _))
  clear c1 T0 B0
  go_wp2_with (refine wpList_insertT rfl _ _ _ 88 rfl 5 4 Try.underlying88 Try.underlying5 w.heap.size _ rfl T1 2 rfl rfl _ rfl ?_)
  intro v2 T2 _ c2
  have B2 := B1.trans (c2 _ (Nat.le_refl _))
  clear c2 T1 B1
  go_wp2_with (refine wpList_insertT rfl _ _ _ 88 rfl 5 4 Try.underlying88 Try.underlying5 w.heap.size _ rfl T2 3 rfl rfl _ rfl ?_)
  intro v3 T3 _ c3
  have B3 := B2.trans (c3 _ (Nat.le_refl _))
  clear c3 T2 B2
  go_wp2_with (refine wpList_insertT rfl _ _ _ 88 rfl 5 4 Try.underlying88 Try.underlying5 w.heap.size _ rfl T3 129 rfl rfl _ rfl ?_)
  intro v4 T4 _ c4
  have B4 := B3.trans (c4 _ (Nat.le_refl _))
  clear c4 T3 B3
  go_wp2_with (refine wpList_insertT rfl _ _ _ 88 rfl 5 4 Try.underlying88 Try.underlying5 w.heap.size _ rfl T4 130 rfl rfl _ rfl ?_)
  intro v5 T5 _ c5
  have B5 := B4.trans (c5 _ (Nat.le_refl _))
  clear c5 T4 B4
  go_wp2_with (refine wpList_insertT rfl _ _ _ 88 rfl 5 4 Try.underlying88 Try.underlying5 w.heap.size _ rfl T5 131 rfl rfl _ rfl ?_)
  intro v6 T6 _ c6
  have B6 := B5.trans (c6 _ (Nat.le_refl _))
  clear c6 T5 B5
  go_wp2
  go_ret
  exact ⟨⟨_, rfl, T6, Nat.le_refl _⟩, B6⟩

set_option maxRecDepth 20000 in
theorem mores_any (w : World) : Calls Try.prog 61 #[] w fun e w' => (∃ b, e = .returned (.map (some b)) ∧ Tab w' b (boolTab [0, 255]) ∧ w.heap.size ≤ b) ∧ Below w.heap.size w w' := by
  have hmm : ∀ w : World, (Instr.makeMap 88 none).run Try.prog w = .ok (.map (some w.heap.size)) (w.alloc (.map #[] 0)) := fun w => run_makeMap _ w
  have T0 := Tab.made w
  have B0 : Below w.heap.size w (w.alloc (.map #[] 0)) := (Below.refl _ _).alloc (Nat.le_refl _) _
  go_enter Try.func61, Try.ntmps61
  go_wp2_with (refine wpList_insertT rfl _ _ _ 88 rfl 5 4 Try.underlying88 Try.underlying5 w.heap.size _ rfl T0 0 rfl rfl _ rfl ?_)
  intro v1 T1 _ c1
  have B1 := B0.trans (c1 _ (Nat.le_refl _))
  clear c1 T0 B0
  go_wp2_with (refine wpList_insertT rfl _ _ _ 88 rfl 5 4 Try.underlying88 Try.underlying5 w.heap.size _ rfl T1 255 rfl rfl _ rfl ?_)
  intro v2 T2 _ c2
  have B2 := B1.trans (c2 _ (Nat.le_refl _))
  clear c2 T1 B1
  go_wp2
  go_ret
  exact ⟨⟨_, rfl, T2, Nat.le_refl _⟩, B2⟩

theorem Mei.need_xs (c : St) (ok : Bool) (e : Int) : (c.need ok e).xs = c.xs := by unfold St.need; split <;> rfl
theorem mem_kind (x : UInt8) : decide (x.toNat ∈ [1, 2, 3, 4]) = Mei.okKind x := by
  unfold Mei.okKind
  rw [Bool.eq_iff_iff]
  simp
  omega
theorem mem_level (x : UInt8) : decide (x.toNat ∈ [1, 2, 3, 129, 130, 131]) = Mei.okLevel x := by
  have := byte_lt x
  unfold Mei.okLevel
  rw [Bool.eq_iff_iff]
  simp
  omega
theorem mem_more (x : UInt8) : decide (x.toNat ∈ [0, 255]) = Mei.okMore x := by
  unfold Mei.okMore
  rw [Bool.eq_iff_iff]
  simp

section
variable {w0 wb : World} {hi gm gc : Nat} {m : MsgM} {c : St} {w : World}

set_option maxRecDepth 20000 in
theorem readOneOf_any (h : CR w0 wb hi gm gc m c w) {b : Nat} {l : List Nat} (hT : Tab w b (boolTab l)) (hn : b ≠ gc) {ok : Bool} (ho : decide (c.byte.toNat ∈ l) = ok) :
    Calls Try.prog 56 #[ptrV gc, .map (some b)] w fun r w' => r = .returned (byteV c.byte) ∧ CR w0 wb hi gm gc m (c.afterB.need ok 6) w' := by
  have H := hide h
  have HT := hide hT
  clear h hT
  obtain ⟨n, hn0⟩ : ∃ n : Nat, n = c.byte.toNat := ⟨_, rfl⟩
  have HK : Hid (byteV c.byte = .int .u8 (n : Int)) := hide (by rw [hn0])
  rw [← hn0] at ho
  have HO := hide ho
  clear hn0 ho
  go_enter Try.func56, Try.ntmps56
  go_wp2_with fail
  refine (byte_any gc c w H.out.cur).mono ?_
  rintro r w1 ⟨rfl, h1, h2⟩
  have H1 := hide (H.out.step h1 h2)
  have hlk := run_has (((h2.block b HT.out.lt hn).trans HT.out : Tab w1 b (boolTab l))) n
  rw [HO.out] at hlk
  rw [byteV_byte, HK.out]
  clear H h1 h2 HT
  go_wp2_with fail
  refine (cr_need H1.out ok 6).mono ?_
  rintro r w2 ⟨rfl, h2, _⟩
  have H2 := hide h2
  clear h2 H1 hlk
  go_wp2
  go_ret
  exact ⟨HK.out.symm ▸ rfl, H2.out⟩

theorem CRd.put_objects {t : TypeId} (h : CRd t w0 wb hi gm gc m c w) {a' : Option Addr} {l' c1 : Nat} {xs : List ObjM} (hx : ∀ u, Off 0 hi w u → Obs u a' l' c1 xs) : CRd t w0 wb hi gm gc (m.put_objects xs) c (w.setCell ⟨gm, 21, none⟩ (.slice a' l' c1)) := by
  obtain ⟨a1, l1, c2, hk, _⟩ := h.mb.c_objects
  exact h.put _ _ hk (fun _ e => by cases e) fun u _ hu hm => hm.set_objects (hx u hu)

set_option maxRecDepth 20000 in
set_option maxHeartbeats 2000000 in
theorem otherRead_any (h : CR w0 wb hi gm gc m c w) :
    Calls Try.prog 52 #[ptrV gc, ptrV gm] w fun r w' => r = .returned (.tuple #[]) ∧ CR w0 wb hi gm gc (m.put_data (Mei.rOther c).1) (Mei.rOther c).2 w' := by
  have H := hide h
  clear h
  obtain ⟨kk, hkk⟩ : ∃ n : Nat, n = c.xs.length := ⟨_, rfl⟩
  obtain ⟨ok, hok⟩ : ∃ b : Bool, b = decide (kk ≤ 251) := ⟨_, rfl⟩
  obtain ⟨R, hR⟩ : ∃ R, R = (m.put_data (Mei.rOther c).1, (Mei.rOther c).2) := ⟨_, rfl⟩
  have e1 : m.put_data (Mei.rOther c).1 = R.1 := by rw [hR]
  have e2 : (Mei.rOther c).2 = R.2 := by rw [hR]
  rw [e1, e2]
  have HE : Hid (R = (m.put_data ((c.need ok 5).got (kk : Int) 1), (c.need ok 5).next (kk : Int) 1)) := hide (by rw [hR, hok, hkk]; rfl)
  have hxs : (c.need ok 5).xs = c.xs ∨ True := .inr trivial
  have r1 : decide ((kk : Int) ≤ 251) = ok := by rw [hok, Bool.eq_iff_iff]; simp; omega
  have HKK := hide hkk
  clear e1 e2 hR hkk hok hxs
  go_enter Try.func52, Try.ntmps52
  go_wp2_with fail
  refine (cr_left H.out).mono ?_
  rintro r w1 ⟨rfl, rfl⟩
  rw [← HKK.out]
  go_wp2_with fail
  refine (cr_need H.out ok 5).mono ?_
  rintro r w2 ⟨rfl, h2, _⟩
  have H2 := hide h2
  clear h2
  go_wp2_with fail
  refine (cr_left H2.out).mono ?_
  rintro r w3 ⟨rfl, rfl⟩
  have hl : (c.need ok 5).xs.length = kk := by rw [HKK.out, Mei.need_xs]
  rw [hl]
  go_wp2_with fail
  refine (cr_bytes H2.out _).mono ?_
  rintro r w4 ⟨⟨a3, c3, rfl, hx3⟩, h3⟩
  have f3 := h3.mb.fr 14
  obtain ⟨a4, l4, c4, k3, _⟩ := h3.mb.c_data
  have H3 := hide (h3.put_data hx3)
  clear h3 H2 hx3 hl H
  go_wp2
  go_end0
  rw [HE.out]
  exact ⟨rfl, H3.out⟩

set_option maxRecDepth 20000 in
set_option maxHeartbeats 2000000 in
theorem askRead_any {s1 : St} (h : CR w0 wb hi gm gc m s1 w) :
    Calls Try.prog 55 #[ptrV gc, ptrV gm] w fun r w' => r = .returned (.tuple #[]) ∧ CR w0 wb hi gm gc (Mei.putAsk m (Mei.rAsk s1).1) (Mei.rAsk s1).2 w' := by
  have H1 := hide h
  clear h
  obtain ⟨n1, hn1⟩ : ∃ n : Nat, n = s1.byte.toNat := ⟨_, rfl⟩
  have hb1 : n1 < 256 := by rw [hn1]; exact byte_lt _
  have HK1 : Hid (byteV s1.byte = .int .u8 (n1 : Int)) := hide (by rw [hn1])
  obtain ⟨s2, hs2⟩ : ∃ s, s = s1.afterB.need (Mei.okKind s1.byte) 6 := ⟨_, rfl⟩
  have HS2 := hide hs2
  obtain ⟨n2, hn2⟩ : ∃ n : Nat, n = s2.byte.toNat := ⟨_, rfl⟩
  have hb2 : n2 < 256 := by rw [hn2]; exact byte_lt _
  have HK2 : Hid (byteV s2.byte = .int .u8 (n2 : Int)) := hide (by rw [hn2])
  obtain ⟨R, hR⟩ : ∃ R, R = (Mei.putAsk m (Mei.rAsk s1).1, (Mei.rAsk s1).2) := ⟨_, rfl⟩
  have e1 : Mei.putAsk m (Mei.rAsk s1).1 = R.1 := by rw [hR]
  have e2 : (Mei.rAsk s1).2 = R.2 := by rw [hR]
  rw [e1, e2]
  have HE : Hid (R = ((m.put_kind s1.byte).put_next s2.byte, s2.afterB)) := hide (by rw [hR, hs2]; rfl)
  clear e1 e2 hR hs2 hn1 hn2
  go_enter Try.func55, Try.ntmps55
  go_wp2_with fail
  refine (kinds_any _).mono ?_
  rintro r q1 ⟨⟨b1, rfl, ht, hb⟩, hbl⟩
  have hs : w.heap.size ≤ b1 := hb
  have h := H1.out.mono hbl
  have HT1 := hide ht
  have hne : b1 ≠ gc := by have := H1.out.cur.lt; omega
  have G1 := hide h
  clear h ht hb hbl hs H1
  go_wp2_with fail
  refine (readOneOf_any G1.out HT1.out hne (mem_kind _)).mono ?_
  rintro r v1 ⟨rfl, h⟩
  rw [← HS2.out] at h
  have f1 := h.mb.fr 17
  have k1 := h.mb.c_kind
  replace h := h.put_kind s1.byte
  rw [HK1.out] at h ⊢
  have H2 := hide h
  clear h G1 HT1 hne
  go_upto_region 1 with fail
  generalize v1.setCell ⟨gm, 17, none⟩ (.int .u8 (n1 : Int)) = u2 at *
  clear f1 k1
  go_wp2_with fail
  refine (cr_byte H2.out).mono ?_
  rintro r v2 ⟨rfl, h⟩
  have f2 := h.mb.fr 20
  have k2 := h.mb.c_next
  replace h := h.put_next s2.byte
  rw [HK2.out] at h ⊢
  have G2 := hide h
  clear h H2
  go_wp2
  go_end0
  rw [HE.out]
  exact ⟨rfl, G2.out⟩

theorem But.aside {g s : Nat} {a b c : World} (h : But g a b) (k : But s b c) (hs : a.heap.size ≤ s) : But g a c :=
  ⟨k.os.trans h.os, k.tape.trans h.tape, k.output.trans h.output, Nat.le_trans h.size k.size, fun i hi hn => (k.block i (Nat.lt_of_lt_of_le hi h.size) (by omega)).trans (h.block i hi hn)⟩
/-- What a cursor told lies behind all that a round has written since. -/
theorem own_told {B S : Nat} {a1 : Option Addr} {r5 r7 u : World} {a : Option Addr} {len cap : Nat} {xs : List UInt8} {B4 : Nat} (hx : Own byteV r5 B4 a len cap xs) (hS : S < B4) (hBS : B ≤ S) (h57 : ∀ k, S < k → k < r5.heap.size → r7.heap[k]? = r5.heap[k]?) (hz : r5.heap.size ≤ r7.heap.size)
    (ha : ∀ x, a1 = some x → x.block < S) (hu : KeepC B a1 r7 u) : Bs u a len cap xs :=
  hx.off (lo := 0) (hi := S + 1) hS ⟨Nat.le_trans hz hu.size, fun k hk hn => (hu.block k (by omega) (by omega) (fun off e => by have := ha _ e; simp only at this; omega)).trans (h57 k (by omega) hk)⟩
theorem obj_size (cs : Array Value) (h : cs.size = 2) : (Try.prog.info? 43).map (·.size) = some cs.size := by rw [h]; kernel_rfl

set_option maxRecDepth 20000 in
set_option maxHeartbeats 4000000 in
theorem readObjects_any (h : CR w0 wb hi gm gc m c w) (n : Nat) (hn : n < 256) :
    Calls Try.prog 62 #[ptrV gc, .int .u8 (n : Int)] w fun r w' =>
      (∃ a1 l1 c1, r = .returned (.slice a1 l1 c1) ∧ ∀ v, Off 0 hi w' v → Obs v a1 l1 c1 (Mei.rObjs n c).1) ∧ CR w0 wb hi gm gc m (Mei.rObjs n c).2 w' := by
  obtain ⟨cs, _, hcm, hO⟩ := h.things
  have HO := hide hO
  have HCM := hide hcm
  clear hO hcm h
  obtain ⟨T, hT⟩ : ∃ T, T = Mei.rObjs n c := ⟨_, rfl⟩
  rw [← hT]
  have HT := hide hT
  clear hT
  go_enter Try.func62, Try.ntmps62
  go_wp2_with fail
  go_loopg [5, 8] n (fun k l i wr => ∃ (j : Nat) (pre : List ObjM) (d : St) (a1 : Option Addr) (l1 c1 : Nat), j + k = n ∧ l = .slice a1 l1 c1 ∧ i = .int .u8 (j : Int) ∧ l1 = j ∧ (pre ++ (Mei.rObjs k d).1 = T.1 ∧ (Mei.rObjs k d).2 = T.2) ∧ OCd 30 w0 wb w hi gm gc cs pre d a1 l1 c1 wr)
  case atStart => exact ⟨0, [], c, none, 0, 0, by omega, rfl, rfl, rfl, ⟨by rw [HT.out]; rfl, by rw [HT.out]⟩, HO.out⟩
  case round =>
  obtain ⟨j, pre, d, a1, l1, c1, hj, rfl, rfl, rfl, hT, hO⟩ := hrel
  have HO1 := hide hO
  have HTT := hide hT
  clear hO hT HO
  by_cases hg : gk = 0
  · subst hg
    have hlt : ¬ (l1 : Int) < (n : Int) := by omega
    have hp : pre = T.1 ∧ d = T.2 := ⟨by have := HTT.out.1; simpa [Mei.rObjs] using this, HTT.out.2⟩
    obtain ⟨hp1, hp2⟩ := hp
    rw [hp1, hp2] at HO1
    clear HTT hp1 hp2 HT
    go_wp2
    go_ret
    exact ⟨⟨a1, l1, c1, rfl, fun v hv => HO1.out.own.off HO1.out.hu hv trivial⟩, HO1.out.rd (fun v hv _ => HCM.out v hv)⟩
  obtain ⟨k, rfl⟩ : ∃ k, gk = k + 1 := ⟨gk - 1, by omega⟩
  have hlt : (l1 : Int) < (n : Int) := by omega
  have htt : (pre ++ [(Mei.rObj d).1]) ++ (Mei.rObjs k (Mei.rObj d).2).1 = T.1 ∧ (Mei.rObjs k (Mei.rObj d).2).2 = T.2 := ⟨by rw [List.append_assoc]; exact HTT.out.1, HTT.out.2⟩
  obtain ⟨y, hy⟩ : ∃ y, y = (Mei.rObj d).1 := ⟨_, rfl⟩
  obtain ⟨d', hd'⟩ : ∃ s, s = (Mei.rObj d).2 := ⟨_, rfl⟩
  rw [← hy, ← hd'] at htt
  have HTN := hide htt
  clear htt HTT
  obtain ⟨ni, hni⟩ : ∃ n : Nat, n = d.byte.toNat := ⟨_, rfl⟩
  obtain ⟨nj, hnj⟩ : ∃ n : Nat, n = d.afterB.byte.toNat := ⟨_, rfl⟩
  have hbj : nj < 256 := by rw [hnj]; exact byte_lt _
  have HKI : Hid (byteV d.byte = .int .u8 (ni : Int)) := hide (by rw [hni])
  have HKJ : Hid (byteV d.afterB.byte = .int .u8 (nj : Int)) := hide (by rw [hnj])
  have HYV : Hid (y.value = d.afterB.afterB.got (nj : Int) 1) := hide (by rw [hy, hnj]; rfl)
  have HYI : Hid (byteV y.id = .int .u8 (ni : Int)) := hide (by rw [hy, hni]; rfl)
  have HD' : Hid (d' = d.afterB.afterB.next (nj : Int) 1) := hide (by rw [hd', hnj]; rfl)
  have hwj : IntKind.i64.wrap (nj : Int) = (nj : Int) := by rw [IntKind.wrap_i64]; omega
  clear hy hd' hni hnj
  obtain ⟨S, hS⟩ : ∃ S, S = wr.heap.size := ⟨_, rfl⟩
  have hat : ∀ x, a1 = some x → x.block < S := by rw [hS]; exact HO1.out.hat
  have hBS : w.heap.size ≤ S := by rw [hS]; exact HO1.out.off.size
  have hgS : gc < S := by rw [hS]; exact HO1.out.cur.lt
  have g1 := heap_alloc_new wr (.cells #[.int .u8 0, .slice none 0 0] 43 (0, 0))
  have u1 := But.of (g := gc) ((Below.refl wr.heap.size wr).alloc (Nat.le_refl _) (.cells #[.int .u8 0, .slice none 0 0] 43 (0, 0)))
  have q1 := HO1.out.cur.mono ((Below.refl wr.heap.size wr).alloc (Nat.le_refl _) (.cells #[.int .u8 0, .slice none 0 0] 43 (0, 0)))
  go_wp2_with fail
  generalize wr.alloc (.cells #[.int .u8 0, .slice none 0 0] 43 (0, 0)) = r1 at *
  rw [← hS] at g1 ⊢
  have HS := hide hS
  clear hS
  refine (byte_any gc d r1 q1).mono ?_
  rintro e r2 ⟨rfl, q2, u⟩
  rw [byteV_byte, HKI.out]
  have g2 := (u.block S (lt_of_block g1) (by omega)).trans g1
  have u2 := u1.trans u
  have k2 : r2.cell? ⟨S, 0, none⟩ = some (.int .u8 0) := cell_of_row r2 S 0 _ _ _ g2
  have f2 := fr_block g2 0
  have q3 := q2.asideB (j := 0) (show gc ≠ S by omega) (cell_of_row r2 S 1 _ _ _ g2) (fun _ e => by cases e) (.int .u8 (ni : Int))
  have g3 := set_block (i := 0) g2 (.int .u8 (ni : Int))
  have u3 := u2.aside (But.setCell S 0 r2 (.int .u8 (ni : Int))) (Nat.le_of_eq HS.out.symm)
  have Q3 := hide (show Cur (r2.setCell ⟨S, 0, none⟩ (.int .u8 (ni : Int))) gc d.afterB ∧ (r2.setCell ⟨S, 0, none⟩ (.int .u8 (ni : Int))).heap[S]? = some (.cells #[.int .u8 (ni : Int), .slice none 0 0] 43 (0, 0)) ∧ But gc wr (r2.setCell ⟨S, 0, none⟩ (.int .u8 (ni : Int))) from ⟨q3, g3, u3⟩)
  clear q1 q2 q3 g1 g2 g3 u u1 u2 u3
  go_upto_region 6 with fail
  generalize r2.setCell ⟨S, 0, none⟩ (.int .u8 (ni : Int)) = r3 at *
  obtain ⟨q3, g3, u3⟩ := Q3.out
  clear Q3 k2 f2
  go_wp2_with fail
  refine (byte_any gc d.afterB r3 q3).mono ?_
  rintro e r4 ⟨rfl, q4, u⟩
  rw [byteV_byte, HKJ.out]
  have g4 := (u.block S (lt_of_block g3) (by omega)).trans g3
  have u4 := u3.trans u
  clear q3 g3 u3 u
  go_wp2_with fail
  refine (cbytes_own gc d.afterB.afterB nj r4 q4).mono ?_
  rintro e r5 ⟨⟨aw, cw, rfl, hx⟩, q5, u⟩
  rw [← HYV.out] at hx ⊢
  rw [← HD'.out] at q5
  have hl4 : S < r4.heap.size := lt_of_block g4
  have g5 := (u.block S hl4 (by omega)).trans g4
  have u5 := u4.trans u
  have HX := hide hx
  obtain ⟨L, hL⟩ : ∃ n : Nat, n = y.value.length := ⟨_, rfl⟩
  rw [← hL] at HX ⊢
  have k5 : r5.cell? ⟨S, 1, none⟩ = some (.slice none 0 0) := cell_of_row r5 S 1 _ _ _ g5
  have f5 := fr_block g5 1
  have q6 := q5.asideB (j := 1) (show gc ≠ S by omega) (cell_of_row r5 S 1 _ _ _ g5) (fun _ e => by cases e) (.slice aw L cw)
  have g6 := set_block (i := 1) g5 (.slice aw L cw)
  have u6 := u5.aside (But.setCell S 1 r5 (.slice aw L cw)) (Nat.le_of_eq HS.out.symm)
  have b6 : ∀ k, S < k → k < r5.heap.size → (r5.setCell ⟨S, 1, none⟩ (.slice aw L cw)).heap[k]? = r5.heap[k]? := fun k h1 h2 => (But.setCell S 1 r5 (.slice aw L cw)).block k h2 (by omega)
  have z6 : r5.heap.size ≤ (r5.setCell ⟨S, 1, none⟩ (.slice aw L cw)).heap.size := (But.setCell S 1 r5 (.slice aw L cw)).size
  have Q6 := hide (show Cur (r5.setCell ⟨S, 1, none⟩ (.slice aw L cw)) gc d' ∧ (r5.setCell ⟨S, 1, none⟩ (.slice aw L cw)).heap[S]? = some (.cells #[.int .u8 (ni : Int), .slice aw L cw] 43 (0, 0)) ∧ But gc wr (r5.setCell ⟨S, 1, none⟩ (.slice aw L cw)) ∧ (∀ k, S < k → k < r5.heap.size → (r5.setCell ⟨S, 1, none⟩ (.slice aw L cw)).heap[k]? = r5.heap[k]?) ∧ r5.heap.size ≤ (r5.setCell ⟨S, 1, none⟩ (.slice aw L cw)).heap.size from ⟨q6, g6, u6, b6, z6⟩)
  clear q4 q5 q6 g4 g5 g6 u u4 u5 u6 hx hL b6 z6
  go_upto_region 7 with fail
  generalize r5.setCell ⟨S, 1, none⟩ (.slice aw L cw) = r6 at *
  obtain ⟨q6, g6, u6, b6, z6⟩ := Q6.out
  clear Q6 k5 f5
  have bn := (Below.refl r6.heap.size r6).alloc (Nat.le_refl _) (.cells #[.int .u8 (ni : Int), .slice aw L cw] 43 (0, 0))
  have HO7 := hide (HO1.out.step (q6.mono bn) (u6.trans (But.of bn)))
  have hsrc : Src Try.prog 2 28 (.slice (some ⟨r6.heap.size, 0, none⟩) 1 1) 1 (objCells y (.slice aw L cw)) (r6.alloc (.cells #[.int .u8 (ni : Int), .slice aw L cw] 43 (0, 0))) := by
    have := obj_src r6 y aw L cw 43
    rw [show partO y (.slice aw L cw) = #[.int .u8 (ni : Int), .slice aw L cw] by rw [← HYI.out]] at this
    exact this
  have HSRC := hide hsrc
  have hsm : l1 + 1 ≤ 1000 := by omega
  have hb7 : w.heap.size ≤ (r6.alloc (.cells #[.int .u8 (ni : Int), .slice aw L cw] 43 (0, 0))).heap.size := HO7.out.off.size
  have HB7 := hide hb7
  have HW : Hid (∀ u, KeepC w.heap.size a1 (r6.alloc (.cells #[.int .u8 (ni : Int), .slice aw L cw] 43 (0, 0))) u → Bs u aw L cw y.value) := hide (fun u hu => own_told HX.out hl4 hBS (fun k h1 h2 => (bn.block k (by omega)).trans (b6 k h1 h2)) (Nat.le_trans z6 bn.size) hat hu)
  clear hsrc hb7 bn q6 u6 b6 z6 HX HO1
  go_wp2_with (first | ((with_reducible (show wpList _ _ _ ({ dst := _, op := Op.load _ _, type := _, pos := _, after := _, guard := _ } :: _) _ _)); refine wpList_load_row rfl 43 _ rfl S rfl 43 _ (0, 0) _ g6 Try.underlying43 rfl (obj_size _ rfl) ?_) | (at_builtin; refine wpList_appO (by rfl) _ _ (by rfl) HO7.out.own (by rfl) HB7.out y aw L cw (fun u hu _ => HW.out u hu) (by rfl) HSRC.out hsm ?_))
  intro a8 c8 r8 ho8 hb8 hk8
  have h8 := HO7.out.low hb8 hk8 ho8
  have HO8 := hide h8
  clear h8 ho8 hb8 hk8 HO7 HSRC HB7 HW
  go_wp2
  go_roundg k
  case measure => omega
  case rel => exact ⟨l1 + 1, _, _, a8, _, c8, by omega, rfl, by go_num, rfl, HTN.out, HO8.out⟩

set_option maxRecDepth 20000 in
set_option maxHeartbeats 4000000 in
theorem toldRead_any {s1 : St} (h : CR w0 wb hi gm gc m s1 w) :
    Calls Try.prog 59 #[ptrV gc, ptrV gm] w fun r w' => r = .returned (.tuple #[]) ∧ CR w0 wb hi gm gc (Mei.putTold m (Mei.rTold s1).1) (Mei.rTold s1).2 w' := by
  have H1 := hide h
  clear h
  obtain ⟨n1, hn1⟩ : ∃ n : Nat, n = s1.byte.toNat := ⟨_, rfl⟩
  have hb1 : n1 < 256 := by rw [hn1]; exact byte_lt _
  have HK1 : Hid (byteV s1.byte = .int .u8 (n1 : Int)) := hide (by rw [hn1])
  obtain ⟨s2, hs2⟩ : ∃ s, s = s1.afterB.need (Mei.okKind s1.byte) 6 := ⟨_, rfl⟩
  have HS2 := hide hs2
  obtain ⟨n2, hn2⟩ : ∃ n : Nat, n = s2.byte.toNat := ⟨_, rfl⟩
  have hb2 : n2 < 256 := by rw [hn2]; exact byte_lt _
  have HK2 : Hid (byteV s2.byte = .int .u8 (n2 : Int)) := hide (by rw [hn2])
  obtain ⟨s3, hs3⟩ : ∃ s, s = s2.afterB.need (Mei.okLevel s2.byte) 6 := ⟨_, rfl⟩
  have HS3 := hide hs3
  obtain ⟨n3, hn3⟩ : ∃ n : Nat, n = s3.byte.toNat := ⟨_, rfl⟩
  have hb3 : n3 < 256 := by rw [hn3]; exact byte_lt _
  have HK3 : Hid (byteV s3.byte = .int .u8 (n3 : Int)) := hide (by rw [hn3])
  obtain ⟨s4, hs4⟩ : ∃ s, s = s3.afterB.need (Mei.okMore s3.byte) 6 := ⟨_, rfl⟩
  have HS4 := hide hs4
  obtain ⟨n4, hn4⟩ : ∃ n : Nat, n = s4.byte.toNat := ⟨_, rfl⟩
  have hb4 : n4 < 256 := by rw [hn4]; exact byte_lt _
  have HK4 : Hid (byteV s4.byte = .int .u8 (n4 : Int)) := hide (by rw [hn4])
  obtain ⟨s5, hs5⟩ : ∃ s, s = s4.afterB.need (Mei.okNext s3.byte s4.byte) 6 := ⟨_, rfl⟩
  have HS5 : Hid (s5 = s4.afterB.need (decide (n3 ≠ 0) || decide (n4 = 0)) 6) := hide (by
    rw [hs5]
    by_cases h0 : s4.e = 0
    · have h1 : Mei.okMore s3.byte = true := (St.need_zero (by rw [← hs4]; exact h0) (by omega)).2.1
      unfold Mei.okMore at h1
      unfold Mei.okNext
      rw [← hn3] at h1 ⊢
      rw [← hn4]
      have h2 : n3 = 0 ∨ n3 = 255 := by simpa using h1
      rcases h2 with rfl | rfl <;> simp
    · have h1 : s4.afterB.e ≠ 0 := by rw [St.afterB_bad _ h0]; exact h0
      rw [St.need_bad _ _ _ h1, St.need_bad _ _ _ h1])
  obtain ⟨n5, hn5⟩ : ∃ n : Nat, n = s5.byte.toNat := ⟨_, rfl⟩
  have hb5 : n5 < 256 := by rw [hn5]; exact byte_lt _
  have HK5 : Hid (byteV s5.byte = .int .u8 (n5 : Int)) := hide (by rw [hn5])
  obtain ⟨o5, ho5⟩ : ∃ b : Bool, b = Mei.okCount s1.byte s5.byte := ⟨_, rfl⟩
  have HO5 : Hid (o5 = (decide (n5 = 1) || decide (n1 ≠ 4))) := hide (by rw [ho5]; unfold Mei.okCount; rw [← hn1, ← hn5])
  obtain ⟨s6, hs6⟩ : ∃ s, s = s5.afterB.need o5 5 := ⟨_, rfl⟩
  have HS6 := hide hs6
  obtain ⟨T, hT⟩ : ∃ T, T = Mei.rObjs n5 s6 := ⟨_, rfl⟩
  obtain ⟨R, hR⟩ : ∃ R, R = (Mei.putTold m (Mei.rTold s1).1, (Mei.rTold s1).2) := ⟨_, rfl⟩
  have e1 : Mei.putTold m (Mei.rTold s1).1 = R.1 := by rw [hR]
  have e2 : (Mei.rTold s1).2 = R.2 := by rw [hR]
  rw [e1, e2]
  have HE : Hid (R = (((((m.put_kind s1.byte).put_level s2.byte).put_more s3.byte).put_next s4.byte).put_objects T.1, T.2)) := hide (by rw [hR, hT, hn5, hs6, ho5, hs5, hs4, hs3, hs2]; rfl)
  have HT := hide hT
  clear e1 e2 hR hT hn1 hn2 hn3 hn4 hn5 hs2 hs3 hs4 hs5 hs6 ho5
  go_enter Try.func59, Try.ntmps59
  go_wp2_with fail
  refine (kinds_any _).mono ?_
  rintro r q1 ⟨⟨b1, rfl, ht, hb⟩, hbl⟩
  have hs : w.heap.size ≤ b1 := hb
  have h := H1.out.mono hbl
  have HT1 := hide ht
  have hne : b1 ≠ gc := by have := H1.out.cur.lt; omega
  have G1 := hide h
  clear h ht hb hbl hs H1
  go_wp2_with fail
  refine (readOneOf_any G1.out HT1.out hne (mem_kind _)).mono ?_
  rintro r v1 ⟨rfl, h⟩
  rw [← HS2.out] at h
  have f1 := h.mb.fr 17
  have k1 := h.mb.c_kind
  replace h := h.put_kind s1.byte
  rw [HK1.out] at h ⊢
  have H2 := hide h
  clear h G1 HT1 hne
  go_upto_region 1 with fail
  generalize v1.setCell ⟨gm, 17, none⟩ (.int .u8 (n1 : Int)) = u2 at *
  clear f1 k1
  go_wp2_with fail
  refine (levels_any _).mono ?_
  rintro r q2 ⟨⟨b2, rfl, ht, hb⟩, hbl⟩
  have hs : u2.heap.size ≤ b2 := hb
  have h := H2.out.mono hbl
  have HT2 := hide ht
  have hne : b2 ≠ gc := by have := H2.out.cur.lt; omega
  have G2 := hide h
  clear h ht hb hbl hs H2
  go_wp2_with fail
  refine (readOneOf_any G2.out HT2.out hne (mem_level _)).mono ?_
  rintro r v2 ⟨rfl, h⟩
  rw [← HS3.out] at h
  have f2 := h.mb.fr 18
  have k2 := h.mb.c_level
  replace h := h.put_level s2.byte
  rw [HK2.out] at h ⊢
  have H3 := hide h
  clear h G2 HT2 hne
  go_upto_region 2 with fail
  generalize v2.setCell ⟨gm, 18, none⟩ (.int .u8 (n2 : Int)) = u3 at *
  clear f2 k2
  go_wp2_with fail
  refine (mores_any _).mono ?_
  rintro r q3 ⟨⟨b3, rfl, ht, hb⟩, hbl⟩
  have hs : u3.heap.size ≤ b3 := hb
  have h := H3.out.mono hbl
  have HT3 := hide ht
  have hne : b3 ≠ gc := by have := H3.out.cur.lt; omega
  have G3 := hide h
  clear h ht hb hbl hs H3
  go_wp2_with fail
  refine (readOneOf_any G3.out HT3.out hne (mem_more _)).mono ?_
  rintro r v3 ⟨rfl, h⟩
  rw [← HS4.out] at h
  have f3 := h.mb.fr 19
  have k3 := h.mb.c_more
  replace h := h.put_more s3.byte
  rw [HK3.out] at h ⊢
  have H4 := hide h
  clear h G3 HT3 hne
  go_upto_region 3 with fail
  generalize v3.setCell ⟨gm, 19, none⟩ (.int .u8 (n3 : Int)) = u4 at *
  clear f3 k3
  go_wp2_with fail
  refine (cr_byte H4.out).mono ?_
  rintro r v4 ⟨rfl, h⟩
  have f4 := h.mb.fr 20
  have k4 := h.mb.c_next
  replace h := h.put_next s4.byte
  rw [HK4.out] at h ⊢
  have G4 := hide h
  clear h H4
  go_upto_region 4 with fail
  generalize v4.setCell ⟨gm, 20, none⟩ (.int .u8 (n4 : Int)) = u5 at *
  clear f4 k4
  have kc4 : u5.cell? ⟨gm, 20, none⟩ = some (.int .u8 (n4 : Int)) := by
    rw [G4.out.mb.c_next]
    show some (byteV s4.byte) = _
    rw [HK4.out]
  have kc3 : u5.cell? ⟨gm, 19, none⟩ = some (.int .u8 (n3 : Int)) := by
    rw [G4.out.mb.c_more]
    show some (byteV s3.byte) = _
    rw [HK3.out]
  go_cut [] (fun wx => CR w0 wb hi gm gc ((((m.put_kind s1.byte).put_level s2.byte).put_more s3.byte).put_next s4.byte) s5 wx)
  case first =>
    by_cases hq : n3 = 0
    · skip
      have g1 : ((n3 : Int) != 0) = false := by simp; omega
      have g2 : ((n4 : Int) == 0) = decide (n4 = 0) := by rw [Bool.eq_iff_iff]; simp
      have HQ := hide hq
      clear hq
      go_wp2_with fail
      refine (cr_need G4.out (decide (n4 = 0)) 6).mono ?_
      rintro e v ⟨rfl, h, _⟩
      go_wp2
      go_meet
      case rel => exact (by rw [HS5.out, HQ.out]; exact h)
    · skip
      have g1 : ((n3 : Int) != 0) = true := by simp; omega
      go_wp2_with fail
      refine (cr_need G4.out true 6).mono ?_
      rintro e v ⟨rfl, h, _⟩
      go_wp2
      go_meet
      case rel => exact (by rw [HS5.out, show decide (n3 ≠ 0) = true by simpa using hq]; exact h)
  case rest =>
  have h := hcut
  have H5 := hide h
  clear h hcut G4 kc4 kc3
  go_wp2_with fail
  refine (cr_byte H5.out).mono ?_
  rintro r v5 ⟨rfl, h⟩
  rw [HK5.out]
  have G5 := hide h
  clear h H5
  go_upto_region 6 with fail
  have kc1 : v5.cell? ⟨gm, 17, none⟩ = some (.int .u8 (n1 : Int)) := by
    rw [G5.out.mb.c_kind]
    show some (byteV s1.byte) = _
    rw [HK1.out]
  go_cut [4] (fun i wx => i = .int .u8 (n5 : Int) ∧ CR w0 wb hi gm gc ((((m.put_kind s1.byte).put_level s2.byte).put_more s3.byte).put_next s4.byte) s6 wx)
  case first =>
    by_cases hq : n1 = 4
    · skip
      have g1 : ((n1 : Int) != 4) = false := by simp; omega
      have r1 : ((n5 : Int) == 1) = o5 := by rw [HO5.out]; by_cases hz : n5 = 1 <;> simp [hq, hz] <;> omega
      have HQ := hide hq
      clear hq
      go_wp2_with fail
      refine (cr_need G5.out o5 5).mono ?_
      rintro e v ⟨rfl, h, _⟩
      go_wp2
      go_meet
      case rel => exact ⟨rfl, by rw [HS6.out]; exact h⟩
    · skip
      have g1 : ((n1 : Int) != 4) = true := by simp; omega
      obtain rfl : o5 = true := by rw [HO5.out]; simp [hq]
      go_wp2_with fail
      refine (cr_need G5.out true 5).mono ?_
      rintro e v ⟨rfl, h, _⟩
      go_wp2
      go_meet
      case rel => exact ⟨rfl, by rw [HS6.out]; exact h⟩
  case rest =>
  obtain ⟨rfl, h⟩ := hcut
  have H6 := hide h
  clear h G5 kc1
  go_wp2_with fail
  refine (readObjects_any H6.out n5 hb5).mono ?_
  rintro r v7 ⟨⟨a7, l7, c7, rfl, hx⟩, h⟩
  rw [← HT.out] at hx h
  have f7 := h.mb.fr 21
  obtain ⟨q1, q2, q3, k7, _⟩ := h.mb.c_objects
  have H7 := hide (h.put_objects hx)
  clear h hx H6
  go_wp2
  go_end0
  rw [HE.out]
  exact ⟨rfl, H7.out⟩

end

end Go.Proofs.Ytaokbaddleplfaa
