/-
  Package files: the contracts of the closures that write, of a block in bytes, and of what may fit.
-/
import Derived.Test.YtolkcohmoalnhaaFileParse
import Derived.Test.YtolkcohmoalnhaaWordPut
import Derived.Test.YtolkcohmoalnhaaJoinA
namespace Go.Proofs.Ytolkcohmoalnhaa
open Go.RowKit
open Word Bits Cursor

namespace Files
/-- A part in bytes, as the program writes it. -/
def encC : Frm → RecM → List UInt8
  | 0, x => [6] ++ putW [x.file, x.record, x.count]
  | 1, x => [UInt8.ofNat (2 * x.words.length + 1), 6] ++ putW x.words
  | 2, x => [6] ++ putW [x.file, x.record, x.count] ++ putW x.words
def Frm.bytesC (f : Frm) (m : MsgM) : List UInt8 := [UInt8.ofNat (encMany (encC f) m.recs).length] ++ encMany (encC f) m.recs
theorem encC_len (f : Frm) (x : RecM) : (encC f x).length ≤ 7 + 2 * x.words.length := by
  rcases Frm.three f with rfl | rfl | rfl <;> simp [encC, putW_length] <;> omega
def fitR : Nat → List RecM → Bool
  | _, [] => true
  | room, x :: l => if room ≤ x.words.length then false else fitR (room - (1 + x.words.length)) l
def fit (l : List RecM) : Bool := fitR 125 l
theorem enc_low (f : Frm) (x : RecM) : 2 + 2 * x.words.length ≤ (enc f x).length := by
  rcases Frm.three f with rfl | rfl | rfl <;> simp [enc, putW_length] <;> omega
theorem fitR_false (f : Frm) : ∀ (l : List RecM) (room : Nat), fitR room l = false → 2 * room + 2 ≤ (encMany (enc f) l).length
  | [], _, h => by cases h
  | x :: l, room, h => by
    have hx := enc_low f x
    rw [encMany, List.length_append]
    unfold fitR at h
    split at h
    · omega
    · have := fitR_false f l _ h
      omega
theorem fitR_true : ∀ (l : List RecM) (room : Nat), fitR room l = true → (∀ x ∈ l, x.words.length ≤ room) ∧ ∀ f, (encMany (encC f) l).length ≤ 7 * room
  | [], _, _ => ⟨fun _ h => (by cases h), fun _ => Nat.zero_le _⟩
  | x :: l, room, h => by
    unfold fitR at h
    split at h
    · cases h
    · obtain ⟨h1, h2⟩ := fitR_true l _ h
      refine ⟨fun y hy => ?_, fun f => ?_⟩
      · rcases List.mem_cons.1 hy with rfl | hy
        · omega
        · have := h1 y hy; omega
      · rw [encMany, List.length_append]
        have := encC_len f x
        have := h2 f
        omega
theorem fitR_true_of {l : List RecM} (h : fit l = true) (f : Frm) : (∀ x ∈ l, x.words.length ≤ 125) ∧ (encMany (encC f) l).length ≤ 875 := ⟨(fitR_true l 125 h).1, (fitR_true l 125 h).2 f⟩
theorem encC_same (f : Frm) (l : List RecM) (h : f = 0 → ∀ x ∈ l, x.words = []) : encMany (encC f) l = encMany (enc f) l := by
  induction l with
  | nil => rfl
  | cons x l ih =>
    rw [encMany, encMany, ih (fun e y hy => h e y (List.mem_cons_of_mem _ hy))]
    congr 1
    rcases Frm.three f with rfl | rfl | rfl
    · show [6] ++ putW _ = [6] ++ putW _ ++ putW x.words
      rw [h rfl x List.mem_cons_self]
      rw [show putW ([] : List UInt16) = [] from rfl, List.append_nil]
    · rfl
    · rfl
theorem okMany_zero : ∀ (l : List RecM) (sum : Nat), okMany step (valid 0) sum l → ∀ x ∈ l, x.words = []
  | [], _, _, _, h => by cases h
  | x :: l, sum, h, y, hy => by
    rcases List.mem_cons.1 hy with rfl | hy
    · exact h.1.2.2.2.1
    · exact okMany_zero l _ h.2 y hy
theorem write_none {dir : Int} {m : MsgM} (h : formOf dir m.code = none) : write dir m = none := by
  show pack.write dir m = none
  unfold Pack.write
  rw [show pack.formOf dir m.code = none from h]
theorem write_valid {dir : Int} {m : MsgM} {b : List UInt8} {f : Frm} (hf : formOf dir m.code = some f) (h : write dir m = some b) : f.valid m.code m := by
  obtain ⟨g, hg, hv, _⟩ := Pack.write_back (X := pack) h
  rw [show pack.formOf dir m.code = formOf dir m.code from rfl, hf] at hg
  injection hg with hg
  subst hg
  exact hv
theorem valid_words (c : UInt8) (m : MsgM) (h : Frm.valid c 0 m) : ∀ x ∈ m.recs, x.words = [] := by
  obtain ⟨x, rfl, _, h2, _⟩ := h
  exact okMany_zero x.2 0 h2
theorem write_long {dir : Int} {m : MsgM} (h : fit m.recs = false) : write dir m = none := by
  cases hw : write dir m with
  | none => rfl
  | some b =>
    obtain ⟨f, _, hv, _⟩ := Pack.write_back (X := pack) hw
    have h1 := valid_bytes _ f m hv
    have h2 := fitR_false f m.recs 125 h
    omega
theorem write_some {dir : Int} {m : MsgM} {f : Frm} (h : formOf dir m.code = some f) : write dir m = if (parse dir m.code (f.bytesC m)).2 = 0 ∧ MsgM.same (parse dir m.code (f.bytesC m)).1 m = true then some (f.bytesC m) else none := by
  by_cases hw : f = 0 → ∀ x ∈ m.recs, x.words = []
  · have hb : f.bytesC m = f.bytes m := by
      unfold Frm.bytesC Frm.bytes
      rw [encC_same f m.recs hw]
    rw [hb]
    show pack.write dir m = _
    unfold Pack.write
    rw [show pack.formOf dir m.code = some f from h]
    rfl
  · have hn : write dir m = none := by
      cases hx : write dir m with
      | none => rfl
      | some b =>
        refine absurd (fun e => ?_) hw
        have hv := write_valid h hx
        rw [e] at hv
        exact valid_words _ _ hv
    rw [hn, if_neg]
    rintro ⟨h1, h2⟩
    refine hw fun e => ?_
    obtain ⟨g, hg, hv, _⟩ := Pack.parse_back (X := pack) h1
    rw [show pack.formOf dir m.code = formOf dir m.code from rfl, h] at hg
    injection hg with hg
    subst hg
    have hv' : Frm.valid m.code f (parse dir m.code (f.bytesC m)).1 := hv
    rw [(MsgM.same_iff _ _).1 h2, e] at hv'
    exact valid_words _ _ hv'
end Files

theorem litW (w : World) (xs : List UInt16) (n : Nat) (h : xs.length = n) (hn : n ≤ 1000) (cs : List Value) (t : TypeId) (hc : cs = xs.map wordV) : Own wordV (w.alloc (.cells cs.toArray t)) w.heap.size (some ⟨w.heap.size, 0, none⟩) n n xs :=
  Own.fresh w xs cs t n h (by unfold maxLen; omega) hc
theorem litB (w : World) (xs : List UInt8) (n : Nat) (h : xs.length = n) (hn : n ≤ 1000) (cs : List Value) (t : TypeId) (hc : cs = xs.map byteV) : Own byteV (w.alloc (.cells cs.toArray t)) w.heap.size (some ⟨w.heap.size, 0, none⟩) n n xs :=
  Own.fresh w xs cs t n h (by unfold maxLen; omega) hc

set_option maxRecDepth 20000 in
set_option maxHeartbeats 2000000 in
theorem placeWrite_any (x : RecM) (aw : Option Addr) (lw cw : Nat) (w : World) :
    Calls Try.prog 60 #[.agg (partC x (.slice aw lw cw))] w fun e w' => (∃ a' c', e = .returned (.slice a' 7 c') ∧ Own byteV w' w.heap.size a' 7 c' ([6] ++ putW [x.file, x.record, x.count])) ∧ Below w.heap.size w w' := by
  obtain ⟨PW, hPW⟩ : ∃ l, l = putW [x.file, x.record, x.count] := ⟨_, rfl⟩
  rw [← hPW]
  have HPW := hide hPW
  clear hPW
  have e0 := heap_alloc_new w (.cells (partC x (.slice aw lw cw)) 43 (0, 0))
  have b0 := (Below.refl w.heap.size w).alloc (Nat.le_refl _) (.cells (partC x (.slice aw lw cw)) 43 (0, 0))
  go_enter Try.func60, Try.ntmps60
  go_upto_region 1 with fail
  have z0 := lt_of_block e0
  generalize w.alloc (.cells (partC x (.slice aw lw cw)) 43 (0, 0)) = u at *
  have q0 : ∀ o, (u.alloc o).cell? ⟨w.heap.size, 0, none⟩ = some (wordV x.file) := fun o => cell_of_row _ _ 0 _ _ _ ((Below.heap_alloc _ _ _ z0).trans e0)
  have q1 : ∀ o, (u.alloc o).cell? ⟨w.heap.size, 1, none⟩ = some (wordV x.record) := fun o => cell_of_row _ _ 1 _ _ _ ((Below.heap_alloc _ _ _ z0).trans e0)
  have q2 : ∀ o, (u.alloc o).cell? ⟨w.heap.size, 2, none⟩ = some (wordV x.count) := fun o => cell_of_row _ _ 2 _ _ _ ((Below.heap_alloc _ _ _ z0).trans e0)
  have o1 : Own byteV (u.alloc (.cells #[.int .u8 6] 5 (0, 0))) u.heap.size (some ⟨u.heap.size, 0, none⟩) 1 1 [6] := one_own u 6 6 rfl (by omega) 5
  have O1 := hide o1
  have b1 := (Below.refl u.heap.size u).alloc (Nat.le_refl _) (.cells #[.int .u8 6] 5 (0, 0))
  have z1 := b1.size
  have hzv : (u.alloc (.cells #[.int .u8 6] 5 (0, 0))).heap.size = u.heap.size + 1 := by simp
  clear o1
  go_wp2_with fail
  generalize u.alloc (.cells #[.int .u8 6] 5 (0, 0)) = v at *
  have ol : Own wordV (v.alloc (.cells #[wordV x.file, wordV x.record, wordV x.count] 24 (0, 0))) v.heap.size (some ⟨v.heap.size, 0, none⟩) 3 3 [x.file, x.record, x.count] := litW v [x.file, x.record, x.count] 3 rfl (by omega) [wordV x.file, wordV x.record, wordV x.count] 24 rfl
  have ol : Own wordV (v.alloc (.cells #[wordV x.file, wordV x.record, wordV x.count] 24 (0, 0))) v.heap.size (some ⟨u.heap.size + 1, 0, none⟩) 3 3 [x.file, x.record, x.count] := by rw [← hzv]; exact ol
  have hbv := (Below.refl v.heap.size v).alloc (Nat.le_refl _) (.cells #[wordV x.file, wordV x.record, wordV x.count] 24 (0, 0))
  generalize v.alloc (.cells #[wordV x.file, wordV x.record, wordV x.count] 24 (0, 0)) = v2 at *
  generalize hFL : [x.file, x.record, x.count] = FL at *
  clear hFL
  refine (put_any _ 3 3 FL v2 ol.sl (by omega)).mono ?_
  rintro r w1 ⟨⟨a1, c1, rfl, hx1⟩, hb1⟩
  rw [← HPW.out] at hx1
  have hb2 : Below v.heap.size v w1 := hbv.trans (hb1.mono hbv.size)
  have ho2 := O1.out.mono hb2
  have z2 := hb2.size
  clear q0 q1 q2
  go_wp2_with (at_builtin; refine app (by rfl) _ _ rfl u.heap.size rfl ho2 rfl hx1.sl (by omega) (by omega) ?_)
  intro a3 c3 w3 ho3 hb3
  have hle : w.heap.size ≤ u.heap.size := b0.size
  have ho4 : Own byteV w3 w.heap.size a3 7 c3 (6 :: PW) := ho3.base (B' := w.heap.size) hle
  have h0 : Below w.heap.size w v := b0.trans (b1.mono hle)
  have h1 : Below w.heap.size w w1 := h0.trans (hb2.mono h0.size)
  have h2 : Below w.heap.size w w3 := h1.trans (hb3.mono hle)
  have HO4 := hide ho4
  have H2 := hide h2
  clear ho4 h0 h1 h2 ho3 hb3 hb2 hb1 hbv ho2 hx1 O1 b1 b0 e0
  go_wp2
  go_ret
  exact ⟨⟨a3, c3, rfl, HO4.out⟩, H2.out⟩

set_option maxRecDepth 20000 in
set_option maxHeartbeats 2000000 in
theorem toldWrite_any (x : RecM) (aw : Option Addr) (lw cw : Nat) (w : World) (hw : Ws w aw lw cw x.words) (hl : lw ≤ 1000) :
    Calls Try.prog 66 #[.agg (partC x (.slice aw lw cw))] w fun e w' => (∃ a' c', e = .returned (.slice a' (2 + 2 * lw) c') ∧ Own byteV w' w.heap.size a' (2 + 2 * lw) c' ([UInt8.ofNat (2 * lw + 1), 6] ++ putW x.words)) ∧ Below w.heap.size w w' := by
  have e0 := heap_alloc_new w (.cells (partC x (.slice aw lw cw)) 43 (0, 0))
  have b0 := (Below.refl w.heap.size w).alloc (Nat.le_refl _) (.cells (partC x (.slice aw lw cw)) 43 (0, 0))
  have HW := hide (hw.mono b0)
  clear hw
  have hw2 : IntKind.i64.wrap (2 * (lw : Int) + 1) = 2 * (lw : Int) + 1 := by rw [IntKind.wrap_i64]; omega
  go_enter Try.func66, Try.ntmps66
  go_upto_region 1 with fail
  have z0 := lt_of_block e0
  generalize w.alloc (.cells (partC x (.slice aw lw cw)) 43 (0, 0)) = u at *
  have q3 : u.cell? ⟨w.heap.size, 3, none⟩ = some (.slice aw lw cw) := cell_of_row _ _ 3 _ _ _ e0
  go_wp2_with fail
  refine (put_any _ _ _ _ _ HW.out (by omega)).mono ?_
  rintro r w1 ⟨⟨a1, c1, rfl, hx1⟩, hb1⟩
  obtain ⟨kk, hkk⟩ : ∃ k : Nat, k = 2 * lw + 1 := ⟨_, rfl⟩
  obtain ⟨nn, hnn⟩ : ∃ k : Nat, k = kk % 256 := ⟨_, rfl⟩
  have hn6 : nn < 256 := by omega
  have HU : Hid (UInt8.ofNat (2 * lw + 1) = UInt8.ofNat nn) := hide (by
    rw [← UInt8.toNat_inj, UInt8.toNat_ofNat', UInt8.toNat_ofNat']
    omega)
  have hcv : ((2 * (lw : Int) + 1) % 256) = (nn : Int) := by omega
  have z1 := hb1.size
  have HO := hide (two_own w1 (nn : Int) 6 nn 6 rfl rfl hn6 (by omega) 5)
  have HX := hide hx1
  obtain ⟨PW, hPW⟩ : ∃ l, l = putW x.words := ⟨_, rfl⟩
  rw [← hPW] at HX
  have HPW := hide hPW
  have hbl := (Below.refl w1.heap.size w1).alloc (Nat.le_refl _) (.cells #[.int .u8 (nn : Int), .int .u8 6] 5 (0, 0))
  have hzl := hbl.size
  clear q3 hx1 hkk hnn hPW
  go_wp2_with (at_builtin; refine app (by rfl) _ _ rfl w1.heap.size rfl HO.out rfl (HX.out.sl.mono hbl) (by omega) hzl ?_)
  intro a3 c3 w3 ho3 hb3
  go_wp2
  go_ret
  have hbw := b0.trans (hb1.mono b0.size)
  refine ⟨⟨a3, c3, rfl, ?_⟩, hbw.trans ((hbl.mono hbw.size).trans (hb3.mono hbw.size))⟩
  show Own byteV w3 w.heap.size a3 (2 + 2 * lw) c3 ([UInt8.ofNat (2 * lw + 1), 6] ++ putW x.words)
  rw [← HPW.out, HU.out]
  exact ho3.base hbw.size

set_option maxRecDepth 20000 in
set_option maxHeartbeats 2000000 in
theorem writtenWrite_any (x : RecM) (aw : Option Addr) (lw cw : Nat) (w : World) (hw : Ws w aw lw cw x.words) (hl : lw ≤ 1000) :
    Calls Try.prog 71 #[.agg (partC x (.slice aw lw cw))] w fun e w' => (∃ a' c', e = .returned (.slice a' (7 + 2 * lw) c') ∧ Own byteV w' w.heap.size a' (7 + 2 * lw) c' ([6] ++ putW [x.file, x.record, x.count] ++ putW x.words)) ∧ Below w.heap.size w w' := by
  obtain ⟨PL, hPL⟩ : ∃ l, l = [6] ++ putW [x.file, x.record, x.count] := ⟨_, rfl⟩
  obtain ⟨PW, hPW⟩ : ∃ l, l = putW x.words := ⟨_, rfl⟩
  rw [← hPL, ← hPW]
  have e0 := heap_alloc_new w (.cells (partC x (.slice aw lw cw)) 43 (0, 0))
  have b0 := (Below.refl w.heap.size w).alloc (Nat.le_refl _) (.cells (partC x (.slice aw lw cw)) 43 (0, 0))
  have HWu := hide (hw.mono b0)
  have HC1 := hide (placeWrite_any x aw lw cw)
  rw [← hPL] at HC1
  have HPW := hide hPW
  clear hw hPL hPW
  go_enter Try.func71, Try.ntmps71
  go_upto_region 1 with fail
  have z0 := lt_of_block e0
  generalize w.alloc (.cells (partC x (.slice aw lw cw)) 43 (0, 0)) = u at *
  have HQ3 : Hid (u.cell? ⟨w.heap.size, 3, none⟩ = some (.slice aw lw cw)) := hide (cell_of_row _ _ 3 _ _ _ e0)
  have HE0 := hide e0
  clear e0
  refine wp_region_noPanic ?_
  refine wp_region_held_drew (S := fun w' => Below u.heap.size u w') (by kernel_rfl) ((Below.refl u.heap.size u).drew) (fun hHeld => ?_)
  refine wpAnyH_take (i := 0) (oi := ⟨some 3, .load 43 (.tmp 1), _, _, _, none⟩) (v := .agg (partC x (.slice aw lw cw))) rfl (by kernel_rfl) (by kernel_rfl) (by kernel_rfl) (fun _ _ _ h => h) (Or.inl ⟨by rfl, ?_⟩) hHeld ?_
  · (intro wq hSw; exact load_take 43 _ rfl w.heap.size rfl _ (run_loadVar_row _ _ _ _ _ _ _ ((hSw.block _ z0).trans HE0.out) Try.underlying43 rfl (rec_size x aw lw cw)))
  simp only [Act.put, List.setIfInBounds_toArray, List.set_cons_zero, List.set_cons_succ]
  refine wpAnyH_take (i := 2) (oi := ⟨some 5, .fieldAddr 43 (.tmp 1) 3, _, _, _, none⟩) (v := ?_) rfl (by kernel_rfl) (by kernel_rfl) (by kernel_rfl) (fun _ _ _ h => h) (Or.inl ⟨by rfl, ?_⟩) hHeld ?_
  rotate_left
  · (intro wq hSw; go_simp; try with_reducible rfl)
  simp only [Act.put, List.setIfInBounds_toArray, List.set_cons_zero, List.set_cons_succ]
  refine wpAnyH_take (i := 3) (oi := ⟨some 6, .load 25 (.tmp 5), _, _, _, none⟩) (v := ?_) rfl (by kernel_rfl) (by kernel_rfl) (by kernel_rfl) (fun _ _ _ h => h) (Or.inl ⟨by rfl, ?_⟩) hHeld ?_
  rotate_left
  · (intro wq hSw; have hcv := (hSw.cell (p := ⟨w.heap.size, 3, none⟩) z0).trans HQ3.out; go_simp; try with_reducible rfl)
  simp only [Act.put, List.setIfInBounds_toArray, List.set_cons_zero, List.set_cons_succ]
  refine wpAnyH_ready (rs := [1]) (by kernel_rfl) (by simp) ?_
  refine AllReadyH.cons (o := ⟨some 4, .call ⟨.value (.func 60), #[.tmp 3], #[43]⟩, _, _, _, none⟩) rfl (fun K hK => ?_) ?_
  · go_simp
    refine (HC1.out _).mono ?_
    rintro r w1 ⟨⟨a1, c1, rfl, hx1⟩, hb1⟩
    have s1 : Below u.heap.size u w1 := below_next hHeld hb1 (Nat.le_refl _)
    have hB1 := hHeld.size
    refine hK.out _ _ ?_ (fun hHeld => ?_)
    · exact s1
    clear hK K
    try simp only [Act.put, List.setIfInBounds_toArray, List.set_cons_zero, List.set_cons_succ]
    refine wpAnyH_ready (rs := [4]) (by kernel_rfl) (by simp) ?_
    refine AllReadyH.cons (o := ⟨some 7, .call ⟨.value (.func 67), #[.tmp 6], #[25]⟩, _, _, _, none⟩) rfl (fun K hK => ?_) ?_
    · go_simp
      refine (put_any _ _ _ _ _ (HWu.out.mono hHeld) (by omega)).mono ?_
      rintro r w2 ⟨⟨a2, c2, rfl, hx2⟩, hb2⟩
      rw [← HPW.out] at hx2
      have s2 : Below u.heap.size u w2 := below_next hHeld hb2 (Nat.le_refl _)
      refine hK.out _ _ ?_ (fun hHeld => ?_)
      · exact s2
      clear hK K
      try simp only [Act.put, List.setIfInBounds_toArray, List.set_cons_zero, List.set_cons_succ]
      refine wpAnyH_ready (rs := [5]) (by kernel_rfl) (by simp) ?_
      refine AllReadyH.cons (o := ⟨some 8, .call ⟨.builtin .append, #[.tmp 4, .tmp 7], #[22, 22]⟩, _, _, _, none⟩) rfl (fun K hK => ?_) ?_
      · refine step_app (by rfl) _ _ (by rfl) u.heap.size (by rfl) ((hx1.base hB1).mono hb2) (by rfl) hx2.sl (by omega) s2.size ?_
        intro a3 c3 w3 ho3 hb3
        have s3 : Below u.heap.size u w3 := s2.trans hb3
        refine hK.out _ _ ?_ (fun hHeld => ?_)
        · exact s3
        clear hK K
        try simp only [Act.put, List.setIfInBounds_toArray, List.set_cons_zero, List.set_cons_succ]
        refine wpAnyH_take (i := 6) (oi := ⟨some 2, .assign (.tmp 8), _, _, _, none⟩) (v := ?_) rfl (by kernel_rfl) (by kernel_rfl) (by kernel_rfl) (fun _ _ _ h => h) (Or.inl ⟨by rfl, ?_⟩) hHeld ?_
        rotate_left
        · (intro wq hSw; go_simp; try with_reducible rfl)
        simp only [Act.put, List.setIfInBounds_toArray, List.set_cons_zero, List.set_cons_succ]
        refine wpAnyH_done (by kernel_rfl) ?_ _
        refine NoPanic.normal ?_
        go_wp2
        go_ret
        exact ⟨⟨a3, c3, rfl, ho3.base (B' := w.heap.size) b0.size⟩, b0.trans (s3.mono b0.size)⟩
      exact AllReadyH.nil
    exact AllReadyH.nil
  exact AllReadyH.nil

/-- What a closure that writes answers. -/
theorem wr_any (f : Files.Frm) (x : RecM) (aw : Option Addr) (lw cw : Nat) (w : World) (hw : Ws w aw lw cw x.words) (hl : lw ≤ 1000) :
    Calls Try.prog f.wr #[.agg (partC x (.slice aw lw cw))] w fun e w' => (∃ a' n c', e = .returned (.slice a' n c') ∧ n ≤ 7 + 2 * lw ∧ Own byteV w' w.heap.size a' n c' (Files.encC f x)) ∧ Below w.heap.size w w' := by
  rcases Files.Frm.three f with rfl | rfl | rfl
  · refine (placeWrite_any x aw lw cw w).mono ?_
    rintro e w1 ⟨⟨a1, c1, rfl, h1⟩, hb⟩
    exact ⟨⟨a1, 7, c1, rfl, by omega, h1⟩, hb⟩
  · refine (toldWrite_any x aw lw cw w hw hl).mono ?_
    rintro e w1 ⟨⟨a1, c1, rfl, h1⟩, hb⟩
    refine ⟨⟨a1, _, c1, rfl, by omega, ?_⟩, hb⟩
    show Own _ _ _ _ _ _ ([UInt8.ofNat (2 * x.words.length + 1), 6] ++ putW x.words)
    rw [hw.hlen]; exact h1
  · refine (writtenWrite_any x aw lw cw w hw hl).mono ?_
    rintro e w1 ⟨⟨a1, c1, rfl, h1⟩, hb⟩
    exact ⟨⟨a1, _, c1, rfl, Nat.le_refl _, h1⟩, hb⟩

theorem fitR_drop (l : List RecM) (k : Nat) (h : k < l.length) (room : Nat) : Files.fitR room (l.drop k) = if room ≤ l[k].words.length then false else Files.fitR (room - (1 + l[k].words.length)) (l.drop (k + 1)) := by
  rw [List.drop_eq_getElem_cons h]
  rfl

set_option maxRecDepth 20000 in
set_option maxHeartbeats 2000000 in
theorem mayFit_any (a : Option Addr) (len cap : Nat) (l : List RecM) (w : World) (hx : Rs w a len cap l) :
    Calls Try.prog 29 #[.slice a len cap] w fun e w' => e = .returned (.bool (Files.fit l)) ∧ Below w.heap.size w w' := by
  have HR := hide hx
  have hle := hx.hle
  have hmx := hx.hmax
  have HLN := hide hx.hlen
  unfold maxLen at hmx
  clear hx
  obtain ⟨R, hR⟩ : ∃ R, R = Files.fit l := ⟨_, rfl⟩
  rw [← hR]
  have HRR := hide hR
  clear hR
  go_enter Try.func29, Try.ntmps29
  go_wp2
  go_loopw [8, 3] (fun i room wr => ∃ k rm : Nat, k ≤ len ∧ i = .int .i64 (k : Int) ∧ room = .int .i64 (rm : Int) ∧ rm ≤ 125 ∧ Files.fitR rm (l.drop k) = R ∧ Below w.heap.size w wr) (fun i _ _ => len - (intOf i).toNat)
  case atStart => exact ⟨0, 125, Nat.zero_le _, rfl, rfl, Nat.le_refl _, by rw [HRR.out]; rfl, Below.refl _ _⟩
  case round =>
    obtain ⟨k, rm, hk, rfl, rfl, hrm, hf, hbr⟩ := hrel
    have HF := hide hf
    clear hf
    by_cases hlt : k < len
    · have hk1 : k < l.length := by rw [HLN.out]; exact hlt
      obtain ⟨b, off, aw, lw, cw, rfl, hbl, hc0, hc1, hc2, hc3, hw1⟩ := (HR.out.mono hbr).hcell k hk1
      have HL : Hid (l[k].words.length = lw) := hide hw1.hlen
      have hwm := hw1.hmax
      have hwl := hw1.hle
      unfold maxLen at hwm
      replace HF := hide (fitR_drop l k hk1 rm ▸ HF.out)
      rw [HL.out] at HF
      generalize l[k].file = xf at *
      generalize l[k].record = xr at *
      generalize l[k].count = xc at *
      clear hw1 hbl HL
      by_cases hbig : rm ≤ lw
      · have hR : R = false := by rw [← HF.out, if_pos hbig]
        have hbig' : (rm : Int) ≤ (lw : Int) := by omega
        clear HF
        go_wp2
        go_ret
        exact ⟨ret_bool hR.symm, hbr.trans ((Below.refl _ _).alloc hbr.size _)⟩
      · replace HF : Hid (Files.fitR (rm - (1 + lw)) (l.drop (k + 1)) = R) := hide (by have := HF.out; rw [if_neg hbig] at this; exact this)
        have hbig' : ¬ (rm : Int) ≤ (lw : Int) := by omega
        go_wp2
        go_roundw
        case rel => exact ⟨k + 1, rm - (1 + lw), by omega, by go_num, by go_num, by omega, HF.out, hbr.trans ((Below.refl _ _).alloc hbr.size _)⟩
        case measure => simp [intOf]; omega
    · have hR : R = true := by
        rw [← HF.out, List.drop_eq_nil_of_le (by rw [HLN.out]; omega)]
        rfl
      clear HF
      go_wp2
      go_ret
      exact ⟨ret_bool hR.symm, hbr⟩

theorem encMany_take (f : Files.Frm) (l : List RecM) (k : Nat) (h : k < l.length) : encMany (Files.encC f) (l.take (k + 1)) = encMany (Files.encC f) (l.take k) ++ Files.encC f l[k] := by
  rw [List.take_succ_eq_append_getElem h, encMany_append]
  show _ ++ (Files.encC f l[k] ++ []) = _
  rw [List.append_nil]
theorem encMany_take_le (f : Files.Frm) (l : List RecM) (k : Nat) : (encMany (Files.encC f) (l.take k)).length ≤ (encMany (Files.encC f) l).length := by
  have : encMany (Files.encC f) l = encMany (Files.encC f) (l.take k) ++ encMany (Files.encC f) (l.drop k) := by rw [← encMany_append, List.take_append_drop]
  rw [this, List.length_append]; omega

set_option maxRecDepth 20000 in
set_option maxHeartbeats 4000000 in
theorem writeBlock_any (f : Files.Frm) (a : Option Addr) (len cap : Nat) (l : List RecM) (w : World) (hx : Rs w a len cap l) (hfit : Files.fit l = true) :
    Calls Try.prog 30 #[.slice a len cap, .agg (formC f)] w fun e w' => (∃ a' n c', e = .returned (.slice a' n c') ∧ n ≤ 100000 ∧ Bs w' a' n c' ([UInt8.ofNat (encMany (Files.encC f) l).length] ++ encMany (Files.encC f) l)) ∧ Below w.heap.size w w' := by
  have HR := hide hx
  have hle := hx.hle
  have hmx := hx.hmax
  have HLN := hide hx.hlen
  unfold maxLen at hmx
  clear hx
  obtain ⟨hf1, hf2⟩ := Files.fitR_true_of hfit f
  have HF1 := hide hf1
  have hlen2 := hf2
  have HTK := hide (fun k => Nat.le_trans (encMany_take_le f l k) hf2)
  clear hf1 hf2 hfit
  obtain ⟨FC, hFC⟩ : ∃ FC, FC = formC f := ⟨_, rfl⟩
  have hFC2 : FC[2]? = some (clV f.wr #[]) := by rw [hFC]; rfl
  have hFCs : FC.size = 3 := by rw [hFC]; rfl
  have hFCo : FC.all (·.oneCell') = true := by rw [hFC]; exact form_one _ _ _
  rw [← hFC]
  clear hFC
  have e0 := heap_alloc_new w (.cells FC 52 (0, 0))
  have b0 := (Below.refl w.heap.size w).alloc (Nat.le_refl _) (.cells FC 52 (0, 0))
  have HRu := hide (HR.out.mono b0)
  go_enter Try.func30, Try.ntmps30
  go_upto_region 1 with (refine wpList_boxC rfl 52 _ rfl FC rfl ?_)
  have z0 := lt_of_block e0
  generalize w.alloc (.cells FC 52 (0, 0)) = u at *
  have hcw := wr_enter f
  have HWR := hide (wr_any f)
  generalize f.wr = FW at *
  clear HR hFCo hFCs
  go_wp2
  go_loopw [10, 5] (fun i s wr => ∃ (k : Nat) (a' : Option Addr) (n c' : Nat), k ≤ len ∧ i = .int .i64 (k : Int) ∧ s = .slice a' n c' ∧ Own byteV wr u.heap.size a' n c' (encMany (Files.encC f) (l.take k)) ∧ Below u.heap.size u wr) (fun i _ _ => len - (intOf i).toNat)
  case atStart => exact ⟨0, none, 0, 0, Nat.zero_le _, rfl, rfl, Own.empty _ _ _, Below.refl _ _⟩
  case round =>
    obtain ⟨k, a1, n1, c1, hk, rfl, rfl, ho, hbr⟩ := hrel
    have hn1 : n1 ≤ 875 := by rw [← ho.sl.hlen]; exact HTK.out k
    have HO := hide ho
    clear ho
    by_cases hlt : k < len
    · have hk1 : k < l.length := by rw [HLN.out]; exact hlt
      obtain ⟨b, off, aw, lw, cw, rfl, hbl, hc0, hc1, hc2, hc3, hw1⟩ := (HRu.out.mono hbr).hcell k hk1
      have hlw : lw ≤ 125 := by rw [← hw1.hlen]; exact HF1.out _ (List.getElem_mem hk1)
      have HX := hide (encMany_take f l k hk1)
      generalize l[k] = x at *
      have k2 : ∀ o, (wr.alloc o).cell? ⟨w.heap.size, 2, none⟩ = some (clV FW #[]) := fun o => (cell_of_row _ _ 2 _ _ _ ((Below.heap_alloc _ _ _ (Nat.lt_of_lt_of_le z0 hbr.size)).trans ((hbr.block _ z0).trans e0))).trans hFC2
      have ba := (Below.refl wr.heap.size wr).alloc (Nat.le_refl _) (.cells (partC x (.slice aw lw cw)) 43 (0, 0))
      have HW1 := hide (hw1.mono ba)
      have hzu := hbr.size
      have hba : Below u.heap.size u (wr.alloc (.cells (partC x (.slice aw lw cw)) 43 (0, 0))) := hbr.trans (ba.mono hzu)
      have HOA := hide (HO.out.mono ba)
      clear hw1 hbl
      go_wp2_with fail
      generalize wr.alloc (.cells (partC x (.slice aw lw cw)) 43 (0, 0)) = wv at *
      refine (HWR.out x aw lw cw wv HW1.out (by omega)).mono ?_
      rintro r w2 ⟨⟨a2, n2, c2, rfl, hn2, hx2⟩, hb2⟩
      have hz2 : u.heap.size ≤ w2.heap.size := Nat.le_trans hba.size hb2.size
      have HO2 := hide (HOA.out.mono hb2)
      have HX2 := hide hx2.sl
      have HB2 := hide (hba.trans (hb2.mono hba.size))
      clear k2 hx2 hb2 hba ba
      go_wp2_with (at_builtin; refine app (by rfl) _ _ rfl u.heap.size rfl HO2.out rfl HX2.out (by omega) hz2 ?_)
      intro a3 c3 w3 ho3 hb3
      go_wp2
      go_roundw
      case rel => exact ⟨k + 1, a3, n1 + n2, c3, by omega, by go_num, rfl, by rw [HX.out]; exact ho3, HB2.out.trans hb3⟩
      case measure => simp [intOf]; omega
    · have hT : Hid (encMany (Files.encC f) (l.take k) = encMany (Files.encC f) l) := hide (by rw [List.take_of_length_le (by rw [HLN.out]; omega)])
      rw [hT.out] at HO
      obtain ⟨L, hL⟩ : ∃ L, L = encMany (Files.encC f) l := ⟨_, rfl⟩
      rw [← hL] at HO
      have HLL := hide hL
      have hn : n1 = L.length := HO.out.sl.hlen.symm
      obtain ⟨nn, hnn⟩ : ∃ q : Nat, q = n1 % 256 := ⟨_, rfl⟩
      have HU : Hid (UInt8.ofNat L.length = UInt8.ofNat nn) := hide (by
        rw [← UInt8.toNat_inj, UInt8.toNat_ofNat', UInt8.toNat_ofNat', ← hn]
        omega)
      have hcv : ((n1 : Int) % 256) = (nn : Int) := by omega
      have hn6 : nn < 256 := by omega
      have HB := hide hbr
      have hzu := hbr.size
      have HO1 := hide (one_own wr (nn : Int) nn rfl hn6 5)
      have hbl := (Below.refl wr.heap.size wr).alloc (Nat.le_refl _) (.cells #[.int .u8 (nn : Int)] 5 (0, 0))
      have HOW := hide (HO.out.sl.mono hbl)
      have hzl := hbl.size
      clear hL hn hT hnn
      go_wp2_with (at_builtin; refine app (by rfl) _ _ rfl wr.heap.size rfl HO1.out rfl HOW.out (by omega) hzl ?_)
      intro a3 c3 w3 ho3 hb3
      go_wp2
      go_ret
      refine ⟨⟨a3, _, c3, rfl, by omega, ?_⟩, ?_⟩
      · show Bs w3 a3 (1 + n1) c3 ([UInt8.ofNat (encMany (Files.encC f) l).length] ++ encMany (Files.encC f) l)
        rw [← HLL.out, HU.out]
        exact ho3.sl
      · have h1 := b0.trans (HB.out.mono b0.size)
        exact h1.trans ((hbl.mono h1.size).trans (hb3.mono h1.size))

end Go.Proofs.Ytolkcohmoalnhaa
