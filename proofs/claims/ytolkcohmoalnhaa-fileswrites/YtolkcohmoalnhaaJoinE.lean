/-
  Texts that many others stand on, joined: FilePut, FileAwake, FileFacts.
-/
import Derived.Test.YtolkcohmoalnhaaFileParse
import Derived.Test.YtolkcohmoalnhaaFileWrite
import Derived.Test.YtolkcohmoalnhaaCodeSame
import Derived.Deep.CutBlock
import Derived.Deep.DeepCutAuto
import Derived.Lib.SlBytesConst
import Derived.Test.YtolkcohmoalnhaaSmall

namespace Go.Proofs.Ytolkcohmoalnhaa
open Go.RowKit
open Word Bits Cursor

set_option maxRecDepth 20000 in
set_option maxHeartbeats 4000000 in
theorem filesWrite_any (dir : Int) (v : Value) (m : MsgM) (w : World) (hm : MsgAt w v m) :
    Calls Try.prog 16 #[.int .i64 dir, v] w fun e w' =>
      (∃ a l c, e = .returned (.tuple #[.slice a l c, .int .i64 (errW (Files.write dir m))]) ∧ Bs w' a l c (outW (Files.write dir m))) ∧ Below w.heap.size w w' := by
  obtain ⟨cs, rfl, hsz, hone, hc0⟩ := hm.agg
  have hMB := MB.made w cs hm 30
  have e1 := heap_alloc_new w (.cells cs 30 (0, 0))
  have b0 := (Below.refl w.heap.size w).alloc (Nat.le_refl _) (.cells cs 30 (0, 0))
  have HM := hide (hm.mono b0)
  have HC0 := hide hc0
  have k0 := hMB.c_code
  clear hm hc0 hMB
  obtain ⟨R, hR⟩ : ∃ R, R = Files.write dir m := ⟨_, rfl⟩
  rw [← hR]
  have HR := hide hR
  clear hR
  go_enter Try.func16, Try.ntmps16
  go_upto_region 1 with (refine wpList_boxC rfl 30 _ rfl cs rfl ?_)
  generalize w.alloc (.cells cs 30 (0, 0)) = u at *
  have z0 := lt_of_block e1
  generalize hr : w.heap.size = r at *
  go_wp2_with fail
  refine (formOf_any dir m.code u).mono ?_
  rintro e w1 ⟨⟨fs, rfl, hs, ho, hv⟩, hb⟩
  have HV := hide hv
  replace e1 := (hb.block r z0).trans e1
  replace HM := hide (HM.out.mono hb)
  have z1 := lt_of_block e1
  replace b0 := b0.trans (hb.mono (Nat.le_of_lt z0))
  clear hb hv k0 z0
  generalize hE : Files.errF dir m.code = E at *
  have HE := hide hE
  clear hE
  go_upto_region 2 with ((with_reducible (show wpList _ _ _ ({ dst := _, op := Op.store _ _ _, type := _, pos := _, after := _, guard := _ } :: _) _ _)); refine wpList_store_new rfl 52 _ _ rfl _ rfl rfl (formC_size _ hs) hs.symm ho ?_; intro w2 h2 b2)
  replace HM := hide (HM.out.mono b2)
  replace e1 := (b2.block r z1).trans e1
  replace b0 := b0.trans (b2.mono (Nat.le_of_lt z1))
  have z2 := lt_of_block e1
  have k0 : w2.cell? ⟨r, 0, none⟩ = some (byteV m.code) := (cell_of_row w2 r 0 _ _ _ e1).trans HC0.out
  obtain ⟨ar, lr, cr, kr, hrs⟩ := (show MB 30 w2 r m from ⟨cs, e1, HM.out⟩).c_recs
  have HRS := hide hrs
  clear hrs
  cases hfo : Files.formOf dir m.code with
  | none =>
    have hne := Files.err_none hfo
    rw [HE.out] at hne
    have hq : (E != 0) = true := by simpa using hne
    have hR : Hid (R = none) := hide (by rw [HR.out, Files.write_none hfo])
    clear HR HV HE hne hfo h2 b2 HM HRS hs ho
    go_wp2
    go_ret2
    rw [hR.out]
    exact ⟨⟨_, _, _, rfl, Sl.nil _ _ (by unfold maxLen; omega)⟩, by rw [hr]; exact b0⟩
  | some f =>
    have hE0 : E = 0 := by rw [← HE.out]; exact Files.err_some hfo
    subst hE0
    have hfs := HV.out f hfo
    clear HV HE ho
    have hf2 : w2.heap[w1.heap.size]? = some (.cells (formC f) 52 (0, 0)) := by rw [← hfs]; exact h2
    obtain ⟨FC, hFC⟩ : ∃ FC, FC = formC f := ⟨_, rfl⟩
    have hFCs : FC.size = 3 := by rw [hFC]; rfl
    rw [← hFC] at hf2
    have HWB := hide (fun (w : World) (hx : Rs w ar lr cr m.recs) (h : Files.fit m.recs = true) => writeBlock_any f ar lr cr m.recs w hx h)
    rw [← hFC] at HWB
    have HLg := hide (Files.write_long (dir := dir) (m := m))
    have HRs : Hid (R = if (Files.parse dir m.code (f.bytesC m)).2 = 0 ∧ MsgM.same (Files.parse dir m.code (f.bytesC m)).1 m = true then Option.some (f.bytesC m) else none) := hide (by rw [HR.out, Files.write_some hfo])
    have HBY : Hid (f.bytesC m = [UInt8.ofNat (encMany (Files.encC f) m.recs).length] ++ encMany (Files.encC f) m.recs) := hide rfl
    rw [← HBY.out] at HWB
    generalize f.bytesC m = B at *
    clear hFC hfs hfo h2 b2 hs HBY
    go_wp2_with fail
    refine (mayFit_any ar lr cr m.recs w2 HRS.out).mono ?_
    rintro e w3 ⟨rfl, hb3⟩
    have HFT := hide (fun (h : Files.fit m.recs = false) => (show R = none by rw [HR.out]; exact HLg.out h))
    clear HLg HR
    generalize Files.fit m.recs = q at *
    cases q
    · have hR : Hid (R = none) := hide (HFT.out rfl)
      have HB3 := hide (b0.trans (hb3.mono (Nat.le_of_lt z2)))
      clear HFT HRs HWB HM HRS
      go_wp2
      go_ret2
      rw [hR.out]
      exact ⟨⟨_, _, _, rfl, Sl.nil _ _ (by unfold maxLen; omega)⟩, by rw [hr]; exact HB3.out⟩
    replace HM := hide (HM.out.mono hb3)
    replace HRS := hide (HRS.out.mono hb3)
    have kr3 : w3.cell? ⟨r, 15, none⟩ = some (.slice ar lr cr) := (hb3.cell (p := ⟨r, 15, none⟩) z2).trans kr
    have hf3 := (hb3.block _ (lt_of_block hf2)).trans hf2
    replace e1 := (hb3.block r z2).trans e1
    replace b0 := b0.trans (hb3.mono (Nat.le_of_lt z2))
    have z3 := lt_of_block e1
    clear HFT hb3 z2 k0 kr hf2
    go_upto_region 4 with fail
    go_wp2_with ((with_reducible (show wpList _ _ _ ({ dst := _, op := Op.load _ _, type := _, pos := _, after := _, guard := _ } :: _) _ _)); refine wpList_load_row rfl 52 _ rfl w1.heap.size rfl 52 FC (0, 0) _ hf3 Try.underlying52 rfl (formC_size FC hFCs) ?_)
    refine (HWB.out w3 HRS.out (by trivial)).mono ?_
    rintro e w5 ⟨⟨a5, l5, c5, rfl, hl5, hx5⟩, hb5⟩
    replace HM := hide (HM.out.mono hb5)
    replace e1 := (hb5.block r z3).trans e1
    have hz : r < w5.heap.size := lt_of_block e1
    have hc5 : w5.cell? ⟨r, 0, none⟩ = some (byteV m.code) := (cell_of_row w5 r 0 _ _ _ e1).trans HC0.out
    have HB := hide (b0.trans (hb5.mono (Nat.le_of_lt z3)))
    clear HWB HRS hb5 b0 kr3 hf3 z3
    have HX := hide hx5
    clear hx5
    go_wp2_with fail
    refine (filesParse_any dir m.code a5 l5 c5 B w5 HX.out hl5).mono ?_
    rintro e w6 ⟨⟨v6, rfl, hm6⟩, hb6⟩
    obtain ⟨cs6, rfl, hs6, ho6, _⟩ := hm6.agg
    have hz6 := hb6.size
    have HX6 := hide (HX.out.mono hb6)
    have HM6 := hide hm6
    have HM7 := hide (HM.out.mono hb6)
    replace e1 := (hb6.block r hz).trans e1
    replace HB := hide (HB.out.trans (hb6.mono (Nat.le_of_lt hz)))
    have HRp : Hid (∀ p, p = Files.parse dir m.code B → R = if p.2 = 0 ∧ MsgM.same p.1 m = true then Option.some B else none) := hide (fun p hp => by rw [hp]; exact HRs.out)
    replace HRp := hide (HRp.out _ rfl)
    clear HRs HM HX hc5 hb6 hm6
    generalize Files.parse dir m.code B = P at *
    obtain ⟨n, E⟩ := P
    go_wp2_with ((with_reducible (show wpList _ _ _ ({ dst := _, op := Op.store _ _ _, type := _, pos := _, after := _, guard := _ } :: _) _ _)); refine wpList_store_new rfl 30 _ _ rfl cs6 rfl rfl (msg_size cs6 hs6) hs6.symm ho6 ?_)
    intro w7 h7 b7
    replace HX6 := hide (HX6.out.mono b7)
    replace HM6 := hide (HM6.out.mono b7)
    replace HM7 := hide (HM7.out.mono b7)
    replace e1 := (b7.block r (by omega)).trans e1
    replace HB := hide (HB.out.trans (b7.mono (by omega)))
    have hz7 : r ≤ w7.heap.size := Nat.le_of_lt (lt_of_block e1)
    generalize w6.heap.size = g6 at *
    clear b7
    by_cases hE : E = 0
    · subst hE
      have HRq : Hid (R = if MsgM.same n m = true then Option.some B else none) := hide (by rw [HRp.out]; simp)
      clear HRp
      go_wp2_with ((with_reducible (show wpList _ _ _ ({ dst := _, op := Op.load _ _, type := _, pos := _, after := _, guard := _ } :: _) _ _)); first | (refine wpList_load_rowG (by rfl) 30 _ rfl g6 rfl cs6 (load_whole h7 hs6) ?_) | (refine wpList_load_rowG (by rfl) 30 _ rfl r rfl cs (load_whole e1 hsz) ?_))
      refine (codeSame_any _ _ n m w7 HM6.out HM7.out).mono ?_
      rintro e w8 ⟨rfl, b8⟩
      have HX8 := hide (HX6.out.mono b8)
      have HB8 := hide (HB.out.trans (b8.mono hz7))
      generalize MsgM.same n m = q at *
      cases q
      · have hR : R = none := HRq.out
        subst hR
        go_wp2
        go_ret2
        exact ⟨⟨_, _, _, rfl, Sl.nil _ _ (by unfold maxLen; omega)⟩, by rw [hr]; exact HB8.out⟩
      · have hR : R = Option.some B := HRq.out
        subst hR
        go_wp2
        go_ret2
        exact ⟨⟨_, _, _, rfl, HX8.out⟩, by rw [hr]; exact HB8.out⟩
    · have hR : R = none := by rw [HRp.out, if_neg (fun h => hE h.1)]
      subst hR
      have hE' : (E != 0) = true := by simpa using hE
      clear HRp
      go_wp2
      go_ret2
      exact ⟨⟨_, _, _, rfl, Sl.nil _ _ (by unfold maxLen; omega)⟩, by rw [hr]; exact HB.out⟩

end Go.Proofs.Ytolkcohmoalnhaa

namespace Go.Proofs.Ytolkcohmoalnhaa
open Go.RowKit
open Word Bits Cursor

/-- A message's cells, of which the parts alone are told. -/
abbrev rCells (c rs : Value) : Array Value := #[c, .int .u8 0, .int .u16 0, .int .u16 0, .int .u16 0, .int .u16 0, .int .u16 0, .int .u16 0, .int .u16 0, .int .u16 0, .int .u16 0, .int .u16 0, .slice none 0 0, .slice none 0 0, .slice none 0 0, rs, .int .u8 0, .int .u8 0, .int .u8 0, .int .u8 0, .int .u8 0, .slice none 0 0]
def partsM (c : UInt8) (l : List RecM) : MsgM := (MsgM.of c).put_recs l
theorem r_at {w : World} (c : UInt8) {l : List RecM} {a : Option Addr} {len cap : Nat} (h : Rs w a len cap l) : MsgAt w (.agg (rCells (byteV c) (.slice a len cap))) (partsM c l) :=
  ⟨none, 0, 0, none, 0, 0, none, 0, 0, a, len, cap, none, 0, 0, rfl, Sl.nil _ _ (Nat.zero_le _), Sl.nil _ _ (Nat.zero_le _), Sl.nil _ _ (Nat.zero_le _), h, Obs.nil _ _ (Nat.zero_le _)⟩
theorem one_rs {w : World} {g : Nat} {x : RecM} {aw : Option Addr} {lw cw : Nat} {t : TypeId} (h : w.heap[g]? = some (.cells (partC x (.slice aw lw cw)) t (0, 0))) (hw : Ws w aw lw cw x.words) : Rs w (some ⟨g, 0, none⟩) 1 1 [x] :=
  ⟨rfl, Nat.le_refl _, by unfold maxLen; omega, fun i hi => by
    have h0 : i = 0 := by simp at hi; omega
    subst h0
    exact ⟨g, 0, aw, lw, cw, rfl, lt_of_block h, cell_of_row w g _ _ _ _ h, cell_of_row w g _ _ _ _ h, cell_of_row w g _ _ _ _ h, cell_of_row w g _ _ _ _ h, hw⟩⟩
theorem parts_small {c : UInt8} {l : List RecM} (h : l.length ≤ 100) (hw : ∀ r ∈ l, r.words.length ≤ 300) : (partsM c l).Small := ⟨Nat.zero_le _, Nat.zero_le _, Nat.zero_le _, h, Nat.zero_le _, hw, fun o ho => by cases ho⟩

theorem ex11a : (Files.parse 0 20 [7, 6, 0, 4, 0, 1, 0, 2]).2 = 0 := by decide +kernel
theorem ex11b : (Files.parse 0 20 [7, 6, 0, 4, 0, 1, 0, 2]).1.recs = [⟨4, 1, 2, []⟩] := by kernel_rfl
def two11 : MsgM := partsM 20 [⟨0, 0, 0, [7]⟩]
theorem ex11c : Files.write 1 two11 = some [4, 3, 6, 0, 7] := by decide +kernel

set_option maxRecDepth 20000 in
set_option maxHeartbeats 2000000 in
theorem awake_any (w : World) : Calls Try.prog 11 #[] w fun e w' => e = .returned (.bool true) ∧ Below w.heap.size w w' := by
  have hst := strOf_toList
  go_enter Try.func11, Try.ntmps11
  go_wp2_with fail
  refine (filesParse_any 0 20 _ _ _ [7, 6, 0, 4, 0, 1, 0, 2] _ (Sl.fresh w _ _ 5 _ 8 rfl (by unfold maxLen; omega) (by rfl)) (by decide)).mono ?_
  rintro e w1 ⟨⟨v1, rfl, hm1⟩, hb1⟩
  replace hb1 := below_next ((Below.refl w.heap.size w).alloc (Nat.le_refl _) _) hb1 (Nat.le_refl _)
  rw [ex11a]
  have x2 := ex11b
  generalize (Files.parse 0 20 [7, 6, 0, 4, 0, 1, 0, 2]).1 = m1 at *
  obtain ⟨cs1, rfl, hs1, ho1, _⟩ := hm1.agg
  have HM1 := hide hm1
  clear hm1
  go_wp2_with ((with_reducible (show wpList _ _ _ ({ dst := _, op := Op.store _ _ _, type := _, pos := _, after := _, guard := _ } :: _) _ _)); refine wpList_store_new rfl 30 _ _ rfl cs1 rfl rfl (msg_size cs1 hs1) hs1.symm ho1 ?_)
  intro w2 h2 b2
  have hmb2 : MB 30 w2 w1.heap.size m1 := ⟨cs1, h2, HM1.out.mono b2⟩
  replace hb1 := below_next hb1 b2 (Nat.le_refl _)
  clear h2 b2 HM1
  have hg1 := hmb2.lt
  generalize w1.heap.size = g1 at *
  obtain ⟨ar, lr, cr, kr, hrs⟩ := hmb2.c_recs
  rw [x2] at hrs
  have hlr : lr = 1 := hrs.hlen.symm
  subst hlr
  obtain ⟨b, off, aw, lw, cw, rfl, hbl, hc0, hc1, hc2, hc3, _⟩ := hrs.hcell 0 (by simp)
  clear hmb2 hrs
  have k0 : w2.cell? ⟨b, off, none⟩ = some (.int .u16 4) := (show _ = some (wordV 4) by simpa using hc0)
  have k1 : w2.cell? ⟨b, off + 1, none⟩ = some (.int .u16 1) := (show _ = some (wordV 1) by simpa using hc1)
  have k2 : w2.cell? ⟨b, off + 2, none⟩ = some (.int .u16 2) := (show _ = some (wordV 2) by simpa using hc2)
  clear hc0 hc1 hc2 hc3
  go_wp2_with fail
  have e7 := heap_alloc_new w2 (.cells #[.int .u16 7] 24 (0, 0))
  have w7 : Ws (w2.alloc (.cells #[.int .u16 7] 24 (0, 0))) (some ⟨w2.heap.size, 0, none⟩) 1 1 [7] := litW w2 [7] 1 rfl (by omega) [wordV 7] 24 rfl |>.sl
  have b7 := (Below.refl w2.heap.size w2).alloc (Nat.le_refl _) (.cells #[.int .u16 7] 24 (0, 0))
  have z7 : (w2.alloc (.cells #[.int .u16 7] 24 (0, 0))).heap.size = w2.heap.size + 1 := by simp
  generalize w2.alloc (.cells #[.int .u16 7] 24 (0, 0)) = w3 at *
  have b8 := (Below.refl w3.heap.size w3).alloc (Nat.le_refl _) (.cells #[.int .u16 0, .int .u16 0, .int .u16 0, .slice (some ⟨w2.heap.size, 0, none⟩) 1 1] 43 (0, 0))
  have e8 := heap_alloc_new w3 (.cells #[.int .u16 0, .int .u16 0, .int .u16 0, .slice (some ⟨w2.heap.size, 0, none⟩) 1 1] 43 (0, 0))
  rw [z7] at e8
  have w8 := w7.mono b8
  generalize w3.alloc (.cells #[.int .u16 0, .int .u16 0, .int .u16 0, .slice (some ⟨w2.heap.size, 0, none⟩) 1 1] 43 (0, 0)) = w4 at *
  have b24 : Below w2.heap.size w2 w4 := b7.trans (b8.mono b7.size)
  refine (filesWrite_any 1 _ two11 w4 (r_at 20 (one_rs (x := ⟨0, 0, 0, [7]⟩) e8 w8))).mono ?_
  rintro e w5 ⟨⟨a5, l5, c5, rfl, hx5⟩, hb5⟩
  rw [ex11c] at hx5 ⊢
  have b25 : Below w2.heap.size w2 w5 := b24.trans (hb5.mono b24.size)
  replace hb1 := hb1.trans (b25.mono hb1.size)
  replace kr := (b25.cell (p := ⟨g1, 15, none⟩) hg1).trans kr
  replace k0 := (b25.cell (p := ⟨b, off, none⟩) hbl).trans k0
  replace k1 := (b25.cell (p := ⟨b, off + 1, none⟩) hbl).trans k1
  replace k2 := (b25.cell (p := ⟨b, off + 2, none⟩) hbl).trans k2
  have hcv := Bs.conv (P := Try.prog) hx5 22 5 Try.underlying22 Try.underlying5 9 Try.underlying9
  have q0 : errW (some [4, 3, 6, 0, 7]) = 0 := rfl
  have q1 : outW (some [4, 3, 6, 0, 7]) = [4, 3, 6, 0, 7] := rfl
  rw [q1] at hcv
  rw [q0]
  clear hx5 hb5 e8 w8 w7 e7 b7 b8 b24 b25 q1 x2
  go_wp2
  go_ret
  exact ⟨rfl, hb1⟩

end Go.Proofs.Ytolkcohmoalnhaa

namespace Go.Proofs.Ytolkcohmoalnhaa
open Go.RowKit
open Word Bits Cursor

namespace Files
def outW (r : Option (List UInt8)) : List UInt8 := r.getD []
def errW (r : Option (List UInt8)) : Int := if r.isSome then 0 else 1
theorem code_parse (dir : Int) (c : UInt8) (a : Option Addr) (len cap : Nat) (xs : List UInt8) (w : World) (hx : Bs w a len cap xs) (hlen : len ≤ 100000) :
    Calls Try.prog 12 #[.int .i64 dir, byteV c, .slice a len cap] w fun e w' =>
      (∃ v, e = .returned (.tuple #[v, .int .i64 (parse dir c xs).2]) ∧ MsgAt w' v (parse dir c xs).1) ∧ Below w.heap.size w w' := filesParse_any dir c a len cap xs w hx hlen
theorem code_write (dir : Int) (v : Value) (m : MsgM) (w : World) (hm : MsgAt w v m) (_hs : m.Small) :
    Calls Try.prog 16 #[.int .i64 dir, v] w fun e w' =>
      (∃ a l c, e = .returned (.tuple #[.slice a l c, .int .i64 (errW (write dir m))]) ∧ Bs w' a l c (outW (write dir m))) ∧ Below w.heap.size w w' := filesWrite_any dir v m w hm

theorem there {dir : Int} {c : UInt8} {b : List UInt8} (h : (parse dir c b).2 = 0) : write dir (parse dir c b).1 = Option.some b ∧ (parse dir c b).1.code = c := Pack.there (X := pack) h
theorem back {dir : Int} {m : MsgM} {b : List UInt8} (h : write dir m = Option.some b) : parse dir m.code b = (m, 0) := Pack.back (X := pack) h
theorem pos {dir : Int} {m : MsgM} {b : List UInt8} (h : write dir m = Option.some b) : 0 < b.length := Pack.first (X := pack) h
theorem cut {dir : Int} {m : MsgM} {b : List UInt8} (h : write dir m = Option.some b) (k : Nat) (hk : k < b.length) : (parse dir m.code (b.take k)).2 = 2 := Pack.cut (X := pack) h k hk
theorem more {dir : Int} {m : MsgM} {b : List UInt8} (h : write dir m = Option.some b) (x : UInt8) : (parse dir m.code (b ++ [x])).2 = 3 := Pack.more (X := pack) h x
theorem parse_zero {dir : Int} {c : UInt8} {b : List UInt8} (h : (parse dir c b).2 ≠ 0) : (parse dir c b).1 = MsgM.zero := Pack.parse_zero (X := pack) h
theorem parse_small (dir : Int) (c : UInt8) (b : List UInt8) : (parse dir c b).1.Small := Pack.parse_small (X := pack) dir c b
theorem write_len {dir : Int} {m : MsgM} {b : List UInt8} (h : write dir m = Option.some b) : b.length ≤ 90000 := Pack.write_len (X := pack) h

theorem write_form {dir : Int} {f : Frm} {m : MsgM} (h : formOf dir m.code = some f) {p : Prop} [Decidable p] (hp : f.valid m.code m ↔ p) : write dir m = if p then some (f.bytes m) else none :=
  Pack.write_one (X := pack) h hp
theorem first {dir : Int} {m : MsgM} {b : List UInt8} (h : write dir m = some b) : ∃ x, b = x :: b.tail ∧ x.toNat = b.length - 1 := by
  obtain ⟨f, _, hv, rfl⟩ := Pack.write_back (X := pack) h
  have hb := valid_bytes _ f m hv
  refine ⟨UInt8.ofNat (encMany (enc f) m.recs).length, rfl, ?_⟩
  show (UInt8.ofNat (encMany (enc f) m.recs).length).toNat = ([UInt8.ofNat (encMany (enc f) m.recs).length] ++ encMany (enc f) m.recs).length - 1
  rw [UInt8.toNat_ofNat', List.length_append]
  simp only [List.length_cons, List.length_nil]
  omega
end Files

end Go.Proofs.Ytolkcohmoalnhaa
