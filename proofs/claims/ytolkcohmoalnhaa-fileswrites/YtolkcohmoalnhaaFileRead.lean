/-
  Package files: the contracts of the closures that read one part.
-/
import Derived.Test.YtolkcohmoalnhaaCodeRd
import Derived.Test.YtolkcohmoalnhaaFilePack
import Derived.Test.YtolkcohmoalnhaaMsgRow
import Derived.Test.YtolkcohmoalnhaaJoinB
import Derived.BigRegion
import Derived.Deep.RegionHeld3
import Derived.Deep.CutBlock
import Derived.Deep.DeepCutAuto
namespace Go.Proofs.Ytolkcohmoalnhaa
open Go.RowKit
open Word Bits Cursor

theorem results_row {P : Program} {fn : Func} {p : Tmp} {ty : TypeId} (h : fn.results = #[.cell p ty]) (tmps : Array Value) (w : World) (g : Nat) (t : TypeId) (cs : Array Value) (fr : Nat × Nat) (d : TypeDesc)
    (hp : tmps.getD p undef = .pointer (some ⟨g, 0, none⟩)) (hg : w.heap[g]? = some (.cells cs t fr))
    (hu : P.underlying ty = some d) (hd : (match d with | .struct _ | .array _ _ => true | _ => false) = true) (hi : (P.info? ty).map (·.size) = some cs.size) :
    (results fn tmps).run P w = .ok (.agg cs) w := results_cell_row h tmps w g t cs fr d hp hg hu hd hi

theorem word_any' (g : Nat) (c : St) (w : World) (h : Cur w g c) :
    Calls Try.prog 76 #[ptrV g] w fun r w' => r = .returned (wordV c.word) ∧ Cur w' g c.afterW ∧ But g w w' := by
  refine (word_any g c w h).mono ?_
  rintro r w1 ⟨rfl, h1, h2⟩
  exact ⟨by rw [wordV_word], h1, h2⟩
theorem byte_any' (g : Nat) (c : St) (w : World) (h : Cur w g c) :
    Calls Try.prog 21 #[ptrV g] w fun r w' => r = .returned (byteV c.byte) ∧ Cur w' g c.afterB ∧ But g w w' := by
  refine (byte_any g c w h).mono ?_
  rintro r w1 ⟨rfl, h1, h2⟩
  exact ⟨by rw [byteV_byte], h1, h2⟩

/-- A part's cells, its words in 'v'. -/
abbrev partC (x : RecM) (v : Value) : Array Value := #[wordV x.file, wordV x.record, wordV x.count, v]
abbrev zRec : Array Value := #[.int .u16 0, .int .u16 0, .int .u16 0, .slice none 0 0]
theorem zRec_part : zRec = partC ⟨0, 0, 0, []⟩ (.slice none 0 0) := rfl
theorem rec_size (x : RecM) (a : Option Addr) (l c : Nat) : (Try.prog.info? 43).map (·.size) = some (partC x (.slice a l c)).size := by kernel_rfl
theorem rec_one (x : RecM) (a : Option Addr) (l c : Nat) : (partC x (.slice a l c)).all (·.oneCell') = true := by simp [Value.oneCell']

/-- All blocks are as they were, but two. -/
structure Two (g h : Nat) (w w' : World) : Prop where
  os : w'.os = w.os
  tape : w'.tape = w.tape
  output : w'.output = w.output
  size : w.heap.size ≤ w'.heap.size
  block : ∀ i, i < w.heap.size → i ≠ g → i ≠ h → w'.heap[i]? = w.heap[i]?
theorem Two.of {g h : Nat} {w w' : World} (k : But g w w') : Two g h w w' := ⟨k.os, k.tape, k.output, k.size, fun i h1 h2 _ => k.block i h1 h2⟩

/-- A part that is read in block 'gp', made since 'w0', by the cursor in 'gc'. -/
structure PRd (w0 : World) (gr gp gc : Nat) (x : RecM) (c : St) (w : World) : Prop where
  lc : gc < w0.heap.size
  lp : w0.heap.size ≤ gp
  lr : w0.heap.size ≤ gr
  ne : gr ≠ gp
  but : But gc w0 w
  box : w.heap[gp]? = some (.cells (partC x (.slice none 0 0)) 43 (0, 0))
  res : w.heap[gr]? = some (.cells zRec 43 (0, 0))
  cur : Cur w gc c

section
variable {w0 w w' : World} {gr gp gc : Nat} {x : RecM} {c c' : St}
theorem But.aside {g p i : Nat} {a b : World} (h : But g a b) (hp : a.heap.size ≤ p) (v : Value) : But g a (b.setCell ⟨p, i, none⟩ v) :=
  ⟨h.os, h.tape, h.output, by have := h.size; simpa using this, fun k hk hn => (Below.heap_setCell _ _ _ _ (show k ≠ p by omega)).trans (h.block k hk hn)⟩
theorem But.past {g p : Nat} {a b c : World} (h : But g a b) (k : But p b c) (hp : a.heap.size ≤ p) : But g a c :=
  ⟨k.os.trans h.os, k.tape.trans h.tape, k.output.trans h.output, Nat.le_trans h.size k.size, fun i hi hn => (k.block i (Nat.lt_of_lt_of_le hi h.size) (by omega)).trans (h.block i hi hn)⟩
theorem But.lies {g : Nat} {a b : World} (hb : ∀ B, B ≤ g → Below B a b) (hn : ∀ k, k ≠ g → b.heap[k]? = a.heap[k]?) (hz : b.heap.size = a.heap.size) : But g a b :=
  ⟨(hb 0 (Nat.zero_le _)).os, (hb 0 (Nat.zero_le _)).tape, (hb 0 (Nat.zero_le _)).output, Nat.le_of_eq hz.symm, fun k _ h => hn k h⟩
theorem rec_no {g : Nat} {x : RecM} {v : Value} (hv : ∀ y, v ≠ byteV y) (h : w.heap[g]? = some (.cells (partC x v) 43 (0, 0))) (i : Nat) (y : UInt8) : w.cell? ⟨g, i, none⟩ ≠ some (byteV y) := by
  rw [cell_of_row w g i _ _ _ h]
  match i with
  | 0 => simp
  | 1 => simp
  | 2 => simp
  | 3 => intro e; injection e with e; exact hv y e
  | n + 4 => simp
theorem Cur.beside {g p : Nat} {x : RecM} {v : Value} (h : Cur w g c) (hn : g ≠ p) (hv : ∀ y, v ≠ byteV y) (hr : w.heap[p]? = some (.cells (partC x v) 43 (0, 0))) (hb : But p w w') : Cur w' g c := by
  obtain ⟨a, len, cap, hg, hx, hl⟩ := h
  exact ⟨a, len, cap, (hb.block g (cur_lt hg) hn).trans hg, hx.but hb (rec_no hv hr), hl⟩
theorem PRd.step (h : PRd w0 gr gp gc x c w) (hc : Cur w' gc c') (hb : But gc w w') : PRd w0 gr gp gc x c' w' :=
  ⟨h.lc, h.lp, h.lr, h.ne, h.but.trans hb, (hb.block gp (lt_of_block h.box) (by have := h.lc; have := h.lp; omega)).trans h.box, (hb.block gr (lt_of_block h.res) (by have := h.lc; have := h.lr; omega)).trans h.res, hc⟩
theorem PRd.c0 (h : PRd w0 gr gp gc x c w) : w.cell? ⟨gp, 0, none⟩ = some (wordV x.file) := cell_of_row w gp 0 _ _ _ h.box
theorem PRd.c1 (h : PRd w0 gr gp gc x c w) : w.cell? ⟨gp, 1, none⟩ = some (wordV x.record) := cell_of_row w gp 1 _ _ _ h.box
theorem PRd.c2 (h : PRd w0 gr gp gc x c w) : w.cell? ⟨gp, 2, none⟩ = some (wordV x.count) := cell_of_row w gp 2 _ _ _ h.box
theorem PRd.c3 (h : PRd w0 gr gp gc x c w) : w.cell? ⟨gp, 3, none⟩ = some (.slice none 0 0) := cell_of_row w gp 3 _ _ _ h.box
theorem PRd.fr (h : PRd w0 gr gp gc x c w) (i : Nat) : w.frozen? ⟨gp, i, none⟩ = false := fr_block h.box i
theorem PRd.put0 (h : PRd w0 gr gp gc x c w) (v : UInt16) : PRd w0 gr gp gc ⟨v, x.record, x.count, x.words⟩ c (w.setCell ⟨gp, 0, none⟩ (wordV v)) :=
  ⟨h.lc, h.lp, h.lr, h.ne, h.but.aside h.lp _, set_block h.box _, (Below.heap_setCell _ _ _ _ h.ne).trans h.res, h.cur.aside (by have := h.lc; have := h.lp; show gc ≠ gp; omega) h.c0 (fun _ e => by cases e) _⟩
theorem PRd.put1 (h : PRd w0 gr gp gc x c w) (v : UInt16) : PRd w0 gr gp gc ⟨x.file, v, x.count, x.words⟩ c (w.setCell ⟨gp, 1, none⟩ (wordV v)) :=
  ⟨h.lc, h.lp, h.lr, h.ne, h.but.aside h.lp _, set_block h.box _, (Below.heap_setCell _ _ _ _ h.ne).trans h.res, h.cur.aside (by have := h.lc; have := h.lp; show gc ≠ gp; omega) h.c1 (fun _ e => by cases e) _⟩
theorem PRd.put2 (h : PRd w0 gr gp gc x c w) (v : UInt16) : PRd w0 gr gp gc ⟨x.file, x.record, v, x.words⟩ c (w.setCell ⟨gp, 2, none⟩ (wordV v)) :=
  ⟨h.lc, h.lp, h.lr, h.ne, h.but.aside h.lp _, set_block h.box _, (Below.heap_setCell _ _ _ _ h.ne).trans h.res, h.cur.aside (by have := h.lc; have := h.lp; show gc ≠ gp; omega) h.c2 (fun _ e => by cases e) _⟩
theorem pr_word (h : PRd w0 gr gp gc x c w) : Calls Try.prog 76 #[ptrV gc] w fun r w' => r = .returned (wordV c.word) ∧ PRd w0 gr gp gc x c.afterW w' := by
  refine (word_any' gc c w h.cur).mono ?_
  rintro r w1 ⟨rfl, h1, h2⟩
  exact ⟨rfl, h.step h1 h2⟩
theorem pr_need (h : PRd w0 gr gp gc x c w) (ok : Bool) (e : Int) : Calls Try.prog 22 #[ptrV gc, .bool ok, .int .i64 e] w fun r w' => r = .returned (.tuple #[]) ∧ PRd w0 gr gp gc x (c.need ok e) w' := by
  refine (need_any gc c ok e w h.cur).mono ?_
  rintro r w1 ⟨rfl, h1, h2⟩
  exact ⟨rfl, h.step h1 h2⟩

theorem refMark_any (g : Nat) (c : St) (w : World) (h : Cur w g c) :
    Calls Try.prog 64 #[ptrV g] w fun r w' => r = .returned (.tuple #[]) ∧ Cur w' g (c.afterB.need (decide (c.byte.toNat = 6)) 9) ∧ But g w w' := by
  have H := hide h
  clear h
  obtain ⟨kk, hkk⟩ : ∃ n : Nat, n = c.byte.toNat := ⟨_, rfl⟩
  have HK : Hid ((byteV c.byte : Value) = .int .u8 (kk : Int)) := hide (by rw [hkk])
  obtain ⟨ok, hok⟩ : ∃ b : Bool, b = decide (kk = 6) := ⟨_, rfl⟩
  rw [← hkk, ← hok]
  have he : ((kk : Int) == 6) = ok := by rw [hok, Bool.eq_iff_iff]; simp; omega
  clear hkk hok
  go_enter Try.func64, Try.ntmps64
  go_wp2_with fail
  refine (byte_any' g c w H.out).mono ?_
  rintro r w1 ⟨rfl, h1, b1⟩
  have H1 := hide h1
  clear h1 H
  rw [HK.out]
  clear HK
  go_wp2_with fail
  refine (need_any g c.afterB ok 9 w1 H1.out).mono ?_
  rintro r w2 ⟨rfl, h2, b2⟩
  go_wp2
  go_end0
  exact ⟨rfl, h2, b1.trans b2⟩

set_option maxRecDepth 20000 in
set_option maxHeartbeats 2000000 in
theorem place_any (g : Nat) (c : St) (w : World) (h : Cur w g c) :
    Calls Try.prog 59 #[ptrV g] w fun r w' => r = .returned (.agg (partC (Files.headRec (Files.rHead c).1 []) (.slice none 0 0))) ∧ Cur w' g (Files.rHead c).2 ∧ But g w w' := by
  have H := hide h
  clear h
  obtain ⟨R, hR⟩ : ∃ R, R = Files.rHead c := ⟨_, rfl⟩
  rw [← hR]
  obtain ⟨s1, h1⟩ : ∃ s, s = c.afterB.need (decide (c.byte.toNat = 6)) 9 := ⟨_, rfl⟩
  obtain ⟨s2, h2⟩ : ∃ s, s = s1.afterW.need (decide (0 < s1.word.toNat)) 6 := ⟨_, rfl⟩
  obtain ⟨s3, h3⟩ : ∃ s, s = s2.afterW.need (decide (s2.word.toNat ≤ 9999)) 7 := ⟨_, rfl⟩
  have HR : Hid (R = ((((c.byte, s1.word), s2.word), s3.word), s3.afterW.need (decide (0 < s3.word.toNat)) 5)) := hide (by rw [hR, h3, h2, h1]; rfl)
  have H1 := hide h1
  have H2 := hide h2
  have H3 := hide h3
  clear h1 h2 h3 hR
  have e0 := heap_alloc_new w (.cells zRec 43 (0, 0))
  have e1 := heap_alloc2_new w (.cells zRec 43 (0, 0)) (.cells zRec 43 (0, 0))
  have b0 : Below w.heap.size w ((w.alloc (.cells zRec 43 (0, 0))).alloc (.cells zRec 43 (0, 0))) := ((Below.refl _ _).alloc (Nat.le_refl _) _).alloc (by simp) _
  have e0' : ((w.alloc (.cells zRec 43 (0, 0))).alloc (.cells zRec 43 (0, 0))).heap[w.heap.size]? = some (.cells zRec 43 (0, 0)) := (Below.heap_alloc _ _ _ (by simp)).trans e0
  obtain ⟨n1, k1⟩ : ∃ n : Nat, n = s1.word.toNat := ⟨_, rfl⟩
  obtain ⟨n2, k2⟩ : ∃ n : Nat, n = s2.word.toNat := ⟨_, rfl⟩
  obtain ⟨n3, k3⟩ : ∃ n : Nat, n = s3.word.toNat := ⟨_, rfl⟩
  have K1 : Hid ((wordV s1.word : Value) = .int .u16 (n1 : Int)) := hide (by rw [k1])
  have K2 : Hid ((wordV s2.word : Value) = .int .u16 (n2 : Int)) := hide (by rw [k2])
  have K3 : Hid ((wordV s3.word : Value) = .int .u16 (n3 : Int)) := hide (by rw [k3])
  obtain ⟨o1, q1⟩ : ∃ b : Bool, b = decide (0 < n1) := ⟨_, rfl⟩
  obtain ⟨o2, q2⟩ : ∃ b : Bool, b = decide (n2 ≤ 9999) := ⟨_, rfl⟩
  obtain ⟨o3, q3⟩ : ∃ b : Bool, b = decide (0 < n3) := ⟨_, rfl⟩
  rw [← k1, ← q1] at H2
  rw [← k2, ← q2] at H3
  rw [← k3, ← q3] at HR
  have r1 : ((n1 : Int) != 0) = o1 := by rw [q1, Bool.eq_iff_iff]; simp; omega
  have r2 : decide ((n2 : Int) ≤ 9999) = o2 := by rw [q2, Bool.eq_iff_iff]; simp; omega
  have r3 : ((n3 : Int) != 0) = o3 := by rw [q3, Bool.eq_iff_iff]; simp; omega
  clear q1 q2 q3 k1 k2 k3
  go_enter Try.func59, Try.ntmps59
  go_wp2_with fail
  have z0 := H.out.lt
  have hp : PRd w w.heap.size (w.heap.size + 1) g ⟨0, 0, 0, []⟩ c ((w.alloc (.cells zRec 43 (0, 0))).alloc (.cells zRec 43 (0, 0))) :=
    ⟨z0, by omega, Nat.le_refl _, by omega, But.of b0, e1, e0', H.out.mono b0⟩
  generalize (w.alloc (.cells zRec 43 (0, 0))).alloc (.cells zRec 43 (0, 0)) = u at *
  have HP := hide hp
  clear hp e1 b0 e0 e0'
  refine (refMark_any g c u HP.out.cur).mono ?_
  rintro r w1 ⟨rfl, c1, b1⟩
  replace HP := hide (HP.out.step c1 b1)
  clear c1 b1 H
  rw [← H1.out] at HP
  go_wp2_with fail
  refine (pr_word HP.out).mono ?_
  rintro r w2 ⟨rfl, hq⟩
  have f1 := hq.fr 0
  have k1 := hq.c0
  have hp := hq.put0 s1.word
  rw [K1.out] at hp ⊢
  replace HP := hide hp
  clear hp hq
  go_upto_region 4 with fail
  generalize w2.setCell ⟨w.heap.size + 1, 0, none⟩ (.int .u16 (n1 : Int)) = w3 at *
  clear f1
  have k1 := HP.out.c0
  rw [K1.out] at k1
  go_wp2_with fail
  refine (pr_need HP.out o1 6).mono ?_
  rintro r w4 ⟨rfl, hq⟩
  rw [← H2.out] at hq
  replace HP := hide hq
  clear hq k1
  go_wp2_with fail
  refine (pr_word HP.out).mono ?_
  rintro r w5 ⟨rfl, hq⟩
  have f1 := hq.fr 1
  have k1 := hq.c1
  have hp := hq.put1 s2.word
  rw [K2.out] at hp ⊢
  replace HP := hide hp
  clear hp hq
  go_upto_region 6 with fail
  generalize w5.setCell ⟨w.heap.size + 1, 1, none⟩ (.int .u16 (n2 : Int)) = w6 at *
  clear f1
  have k1 := HP.out.c1
  rw [K2.out] at k1
  go_wp2_with fail
  refine (pr_need HP.out o2 7).mono ?_
  rintro r w7 ⟨rfl, hq⟩
  rw [← H3.out] at hq
  replace HP := hide hq
  clear hq k1
  go_wp2_with fail
  refine (pr_word HP.out).mono ?_
  rintro r w8 ⟨rfl, hq⟩
  have f1 := hq.fr 2
  have k1 := hq.c2
  have hp := hq.put2 s3.word
  rw [K3.out] at hp ⊢
  replace HP := hide hp
  clear hp hq
  go_upto_region 8 with fail
  generalize w8.setCell ⟨w.heap.size + 1, 2, none⟩ (.int .u16 (n3 : Int)) = w9 at *
  clear f1
  have k1 := HP.out.c2
  rw [K3.out] at k1
  go_wp2_with fail
  refine (pr_need HP.out o3 5).mono ?_
  rintro r w10 ⟨rfl, hq⟩
  have hb := hq.box
  have hr := hq.res
  replace HP := hide hq
  clear hq k1
  obtain ⟨cs, hcs⟩ : ∃ cs, cs = partC ⟨s1.word, s2.word, s3.word, []⟩ (.slice none 0 0) := ⟨_, rfl⟩
  rw [← hcs] at hb
  have hsz : (Try.prog.info? 43).map (·.size) = some cs.size := by rw [hcs]; exact rec_size _ _ _ _
  have HOLD : Hid ((4 : Nat) = cs.size) := hide (by rw [hcs]; rfl)
  have hone : cs.all (·.oneCell') = true := by rw [hcs]; exact rec_one _ _ _ _
  have HCS := hide hcs
  clear hcs
  go_wp2_with (first | ((with_reducible (show wpList _ _ _ ({ dst := _, op := Op.load _ _, type := _, pos := _, after := _, guard := _ } :: _) _ _)); refine wpList_load_row rfl 43 _ rfl (w.heap.size + 1) rfl 43 cs (0, 0) _ hb Try.underlying43 rfl hsz ?_) | ((with_reducible (show wpList _ _ _ ({ dst := _, op := Op.store _ _ _, type := _, pos := _, after := _, guard := _ } :: _) _ _)); refine wpList_store_lies rfl 43 _ _ rfl w.heap.size cs rfl rfl _ _ hr hsz HOLD.out hone ?_))
  intro w11 h11 b11 n11 z11
  go_wp2
  (try simp only [Exit.inBlock, Exit.then])
  refine bodyPost_ret (results_row Try.results59 _ _ w.heap.size _ _ _ _ rfl h11 Try.underlying43 rfl hsz) rfl ⟨?_, ?_, ?_⟩
  · rw [HCS.out, HR.out]; rfl
  · rw [HR.out]
    exact HP.out.cur.beside (x := ⟨0, 0, 0, []⟩) (v := .slice none 0 0) (by omega) (fun _ e => by cases e) hr (But.lies b11 n11 z11)
  · exact HP.out.but.past (But.lies b11 n11 z11) (Nat.le_refl _)

/-- What a closure that reads has captured: the cursor's place, and the sum of what may be answered. -/
structure Capt (f : Files.Frm) (w : World) (caps : Array Value) (cB aB g sum : Nat) : Prop where
  list : caps = if f = 0 then #[ptrV cB, ptrV aB] else #[ptrV cB]
  cur : w.heap[cB]? = some (.cells #[ptrV g] 55 (0, 0))
  sum : f = 0 → w.heap[aB]? = some (.cells #[.int .i64 (sum : Int)] 3 (0, 0))
  n1 : cB ≠ g
  n2 : f = 0 → aB ≠ g
  n3 : cB ≠ aB

namespace Files
/-- The function that reads a part. -/
def Frm.rd : Frm → FuncId
  | 0 => 58
  | 1 => 63
  | 2 => 70
/-- A part with its words, read by the program: what is left is not asked ahead. -/
def rBothC (s : St) : RecM × St := (headRec (rHead s).1 (takeW ((rHead s).2.got ((rHead s).1.2.toNat : Int) 2)), (rHead s).2.next ((rHead s).1.2.toNat : Int) 2)
def partC : Frm → Nat → St → RecM × St
  | 0, sum, s => rAsk sum s
  | 1, _, s => rTold s
  | 2, _, s => rBothC s
end Files

/-- What such a closure does. -/
def Reads (f : Files.Frm) (caps : Array Value) (cB aB g sum : Nat) (w : World) (x : RecM × St) : Prop :=
  Calls Try.prog f.rd caps w fun r w' => (∃ aw lw cw, r = .returned (.agg (partC x.1 (.slice aw lw cw))) ∧ Own wordV w' w.heap.size aw lw cw x.1.words) ∧ Cur w' g x.2 ∧ Two g aB w w' ∧ Capt f w' caps cB aB g (sum + Files.step x.1)

set_option maxRecDepth 20000 in
set_option maxHeartbeats 2000000 in
theorem written_reads (caps : Array Value) (cB aB g sum : Nat) (c : St) (w : World) (h : Cur w g c) (hc : Capt 2 w caps cB aB g sum) : Reads 2 caps cB aB g sum w (Files.rBothC c) := by
  have H := hide h
  have hcb := hc.cur
  have n1 := hc.n1
  have HC := hide hc
  obtain rfl : caps = #[ptrV cB] := hc.list
  clear h hc
  obtain ⟨R, hR⟩ : ∃ R, R = Files.rHead c := ⟨_, rfl⟩
  have HP := hide (place_any g c)
  rw [← hR] at HP
  have HR : Hid (Files.rBothC c = (Files.headRec R.1 (takeW (R.2.got (R.1.2.toNat : Int) 2)), R.2.next (R.1.2.toNat : Int) 2)) := hide (by rw [hR]; rfl)
  rw [HR.out]
  clear HR hR
  obtain ⟨n, hn⟩ : ∃ n : Nat, n = R.1.2.toNat := ⟨_, rfl⟩
  have hn6 : n < 65536 := by rw [hn]; exact word_lt _
  rw [← hn]
  have HN : Hid ((wordV R.1.2 : Value) = .int .u16 (n : Int)) := hide (by rw [hn])
  have hwk : IntKind.i64.wrap (n : Int) = (n : Int) := by rw [IntKind.wrap_i64]; omega
  have k0 : w.cell? ⟨cB, 0, none⟩ = some (ptrV g) := cell_of_row w cB 0 _ _ _ hcb
  have e0 := heap_alloc_new w (.cells zRec 43 (0, 0))
  have b0 := (Below.refl w.heap.size w).alloc (Nat.le_refl _) (.cells zRec 43 (0, 0))
  have lcb := lt_of_block hcb
  have z0 := H.out.lt
  clear hn
  show Calls Try.prog 70 _ _ _
  go_enter Try.func70, Try.ntmps70
  go_wp2_with fail
  have c0 := H.out.mono b0
  have hcb1 := (b0.block _ lcb).trans hcb
  generalize w.alloc (.cells zRec 43 (0, 0)) = u at *
  clear k0
  refine (HP.out u c0).mono ?_
  rintro r w1 ⟨rfl, c1, b1⟩
  obtain ⟨X, hX⟩ : ∃ X, X = Files.headRec R.1 [] := ⟨_, rfl⟩
  have hXc : X.count = R.1.2 := by rw [hX]; rfl
  have hXw : ∀ l, (⟨X.file, X.record, X.count, l⟩ : RecM) = Files.headRec R.1 l := fun l => by rw [hX]; rfl
  rw [← hX]
  obtain ⟨cs, hcs⟩ : ∃ cs, cs = partC X (.slice none 0 0) := ⟨_, rfl⟩
  have hsz : (Try.prog.info? 43).map (·.size) = some cs.size := by rw [hcs]; exact rec_size _ _ _ _
  have HOLD : Hid ((4 : Nat) = cs.size) := hide (by rw [hcs]; rfl)
  have hone : cs.all (·.oneCell') = true := by rw [hcs]; exact rec_one _ _ _ _
  rw [← hcs]
  have HCS := hide hcs
  have hres := (b1.block _ (lt_of_block e0) (by omega)).trans e0
  have hcb2 := (b1.block _ (lt_of_block hcb1) n1).trans hcb1
  have lw1 : w.heap.size < w1.heap.size := lt_of_block hres
  have lc1 : cB < w1.heap.size := lt_of_block hcb2
  have bw := (But.of (g := g) b0).trans b1
  clear hcs hX e0 hcb1 b1 b0 c0 H hcb HP
  go_upto_region 2 with ((with_reducible (show wpList _ _ _ ({ dst := _, op := Op.store _ _ _, type := _, pos := _, after := _, guard := _ } :: _) _ _)); refine wpList_store_new rfl 43 _ _ rfl cs rfl rfl hsz HOLD.out hone ?_; intro w2 h2 b2)
  have hp : PRd w w.heap.size w1.heap.size g X R.2 w2 := by
    rw [HCS.out] at h2
    exact ⟨z0, Nat.le_of_lt lw1, Nat.le_refl _, by omega, bw.trans (But.of b2), h2, (b2.block _ lw1).trans hres, c1.mono b2⟩
  have hcb3 := (b2.block _ lc1).trans hcb2
  have lw2 : w1.heap.size < w2.heap.size := lt_of_block h2
  have k0 : w2.cell? ⟨cB, 0, none⟩ = some (ptrV g) := cell_of_row w2 cB 0 _ _ _ hcb3
  have k1 := hp.c2
  rw [hXc, HN.out] at k1
  have HP := hide hp
  clear hp hcb2 h2 b2 hres bw c1 hsz HOLD hone HCS
  go_wp2_with fail
  refine (cwords_any g R.2 n w2 HP.out.cur).mono ?_
  rintro r w3 ⟨⟨a3, cap3, rfl, ho3⟩, c3, b3⟩
  have hq := HP.out.step c3 b3
  have k3 := hq.c3
  have f3 := hq.fr 3
  have hcb4 := (b3.block _ (lt_of_block hcb3) n1).trans hcb3
  have lw3 := b3.size
  have HO := hide ho3
  generalize hL : takeW (R.2.got (n : Int) 2) = L at *
  have HQ := hide hq
  have HLL := hide hL
  clear k0 k1 HP hcb3 hq ho3 c3 b3 hL
  go_upto_region 3 with fail
  have h4 : (w3.setCell ⟨w1.heap.size, 3, none⟩ (.slice a3 L.length cap3)).heap[w1.heap.size]? = some (.cells (partC X (.slice a3 L.length cap3)) 43 (0, 0)) := set_block HQ.out.box _
  have r4 : (w3.setCell ⟨w1.heap.size, 3, none⟩ (.slice a3 L.length cap3)).heap[w.heap.size]? = some (.cells zRec 43 (0, 0)) := (Below.heap_setCell _ _ _ _ (by show w.heap.size ≠ w1.heap.size; omega)).trans HQ.out.res
  have c4 : Cur (w3.setCell ⟨w1.heap.size, 3, none⟩ (.slice a3 L.length cap3)) g (R.2.next (n : Int) 2) := HQ.out.cur.aside (by show g ≠ w1.heap.size; omega) k3 (fun _ e => by cases e) _
  have b4 : But g w (w3.setCell ⟨w1.heap.size, 3, none⟩ (.slice a3 L.length cap3)) := HQ.out.but.aside (by omega) _
  have o4 : Own wordV (w3.setCell ⟨w1.heap.size, 3, none⟩ (.slice a3 L.length cap3)) w2.heap.size a3 L.length cap3 L := HO.out.from (From.setCell (by omega) _ _ _)
  have hcb5 : (w3.setCell ⟨w1.heap.size, 3, none⟩ (.slice a3 L.length cap3)).heap[cB]? = some (.cells #[ptrV g] 55 (0, 0)) := (Below.heap_setCell _ _ _ _ (by show cB ≠ w1.heap.size; omega)).trans hcb4
  generalize w3.setCell ⟨w1.heap.size, 3, none⟩ (.slice a3 L.length cap3) = w4 at *
  have C4 := hide c4
  have O4 := hide o4
  obtain ⟨cs, hcs⟩ : ∃ cs, cs = partC X (.slice a3 L.length cap3) := ⟨_, rfl⟩
  rw [← hcs] at h4
  have hsz : (Try.prog.info? 43).map (·.size) = some cs.size := by rw [hcs]; exact rec_size _ _ _ _
  have HOLD : Hid ((4 : Nat) = cs.size) := hide (by rw [hcs]; rfl)
  have hone : cs.all (·.oneCell') = true := by rw [hcs]; exact rec_one _ _ _ _
  have HCS := hide hcs
  clear hcs k3 f3 HQ c4 o4 hcb4
  go_wp2_with (first | ((with_reducible (show wpList _ _ _ ({ dst := _, op := Op.load _ _, type := _, pos := _, after := _, guard := _ } :: _) _ _)); refine wpList_load_row rfl 43 _ rfl w1.heap.size rfl 43 cs (0, 0) _ h4 Try.underlying43 rfl hsz ?_) | ((with_reducible (show wpList _ _ _ ({ dst := _, op := Op.store _ _ _, type := _, pos := _, after := _, guard := _ } :: _) _ _)); refine wpList_store_lies rfl 43 _ _ rfl w.heap.size cs rfl rfl _ _ r4 hsz HOLD.out hone ?_))
  intro w5 h5 b5 n5 z5
  go_wp2
  (try simp only [Exit.inBlock, Exit.then])
  have bl := But.lies b5 n5 z5
  refine bodyPost_ret (results_row Try.results70 _ _ w.heap.size _ _ _ _ rfl h5 Try.underlying43 rfl hsz) rfl ⟨⟨a3, L.length, cap3, ?_, ?_⟩, ?_, ?_, ?_⟩
  · rw [HCS.out, ← hXw, HLL.out]
  · have o5 := O4.out.from (w' := w5) ⟨bl.size, fun k hn hk => bl.block k hk (by omega)⟩
    show Own wordV w5 w.heap.size a3 L.length cap3 (takeW (R.2.got (n : Int) 2))
    rw [HLL.out]
    exact o5.base (B' := w.heap.size) (by omega)
  · exact C4.out.beside (x := ⟨0, 0, 0, []⟩) (v := .slice none 0 0) (by omega) (fun _ e => by cases e) r4 bl
  · exact Two.of (b4.past bl (Nat.le_refl _))
  · exact ⟨HC.out.list, (bl.block _ (lt_of_block hcb5) (by omega)).trans hcb5, fun e => absurd e (by decide), HC.out.n1, HC.out.n2, HC.out.n3⟩
theorem Two.trans {g h : Nat} {a b c : World} (k : Two g h a b) (l : Two g h b c) : Two g h a c :=
  ⟨l.os.trans k.os, l.tape.trans k.tape, l.output.trans k.output, Nat.le_trans k.size l.size, fun i h1 h2 h3 => (l.block i (Nat.lt_of_lt_of_le h1 k.size) h2 h3).trans (k.block i h1 h2 h3)⟩
theorem Two.past {g h p : Nat} {a b c : World} (k : Two g h a b) (l : But p b c) (hp : a.heap.size ≤ p) : Two g h a c :=
  ⟨l.os.trans k.os, l.tape.trans k.tape, l.output.trans k.output, Nat.le_trans k.size l.size, fun i h1 h2 h3 => (l.block i (Nat.lt_of_lt_of_le h1 k.size) (by omega)).trans (k.block i h1 h2 h3)⟩
theorem Two.right {g h : Nat} {w w' : World} (k : But h w w') : Two g h w w' := ⟨k.os, k.tape, k.output, k.size, fun i h1 _ h3 => k.block i h1 h3⟩

set_option maxRecDepth 20000 in
set_option maxHeartbeats 2000000 in
theorem asked_reads (caps : Array Value) (cB aB g sum : Nat) (hsum : sum ≤ 1000000) (c : St) (w : World) (h : Cur w g c) (hc : Capt 0 w caps cB aB g sum) : Reads 0 caps cB aB g sum w (Files.rAsk sum c) := by
  have H := hide h
  have hcb := hc.cur
  have hab := hc.sum rfl
  have n1 := hc.n1
  have n2 := hc.n2 rfl
  have n3 := hc.n3
  have HC := hide hc
  obtain rfl : caps = #[ptrV cB, ptrV aB] := hc.list
  clear h hc
  obtain ⟨R, hR⟩ : ∃ R, R = Files.rHead c := ⟨_, rfl⟩
  have HP := hide (place_any g c)
  rw [← hR] at HP
  have HR : Hid (Files.rAsk sum c = (Files.headRec R.1 [], R.2.need (decide (sum + (2 + 2 * R.1.2.toNat) ≤ 245)) 5)) := hide (by rw [hR]; rfl)
  rw [HR.out]
  clear HR hR
  obtain ⟨n, hn⟩ : ∃ n : Nat, n = R.1.2.toNat := ⟨_, rfl⟩
  have hn6 : n < 65536 := by rw [hn]; exact word_lt _
  rw [← hn]
  have HN : Hid ((wordV R.1.2 : Value) = .int .u16 (n : Int)) := hide (by rw [hn])
  have hstep : Files.step (Files.headRec R.1 []) = 2 + 2 * n := by rw [hn]; rfl
  unfold Reads
  rw [hstep]
  obtain ⟨t, ht⟩ : ∃ t : Nat, t = sum + (2 + 2 * n) := ⟨_, rfl⟩
  rw [← ht]
  obtain ⟨ok, hok⟩ : ∃ b : Bool, b = decide (t ≤ 245) := ⟨_, rfl⟩
  rw [← hok]
  have hwk : IntKind.i64.wrap (n : Int) = (n : Int) := by rw [IntKind.wrap_i64]; omega
  have hw2 : IntKind.i64.wrap (2 * (n : Int)) = 2 * (n : Int) := by rw [IntKind.wrap_i64]; omega
  have hw3 : IntKind.i64.wrap (2 + 2 * (n : Int)) = 2 + 2 * (n : Int) := by rw [IntKind.wrap_i64]; omega
  have hw4 : IntKind.i64.wrap ((sum : Int) + (2 + 2 * (n : Int))) = (t : Int) := by rw [IntKind.wrap_i64]; omega
  have hq : decide ((t : Int) ≤ 245) = ok := by rw [hok, Bool.eq_iff_iff]; simp; omega
  have k0 : w.cell? ⟨cB, 0, none⟩ = some (ptrV g) := cell_of_row w cB 0 _ _ _ hcb
  have e0 := heap_alloc_new w (.cells zRec 43 (0, 0))
  have b0 := (Below.refl w.heap.size w).alloc (Nat.le_refl _) (.cells zRec 43 (0, 0))
  have lcb := lt_of_block hcb
  have lab := lt_of_block hab
  have z0 := H.out.lt
  clear hn hok hstep ht
  show Calls Try.prog 58 _ _ _
  go_enter Try.func58, Try.ntmps58
  go_wp2_with fail
  have c0 := H.out.mono b0
  have hcb1 := (b0.block _ lcb).trans hcb
  have hab1 := (b0.block _ lab).trans hab
  generalize w.alloc (.cells zRec 43 (0, 0)) = u at *
  clear k0
  refine (HP.out u c0).mono ?_
  rintro r w1 ⟨rfl, c1, b1⟩
  obtain ⟨X, hX⟩ : ∃ X, X = Files.headRec R.1 [] := ⟨_, rfl⟩
  have hXc : X.count = R.1.2 := by rw [hX]; rfl
  have HX := hide hX
  rw [← hX]
  obtain ⟨cs, hcs⟩ : ∃ cs, cs = partC X (.slice none 0 0) := ⟨_, rfl⟩
  have hsz : (Try.prog.info? 43).map (·.size) = some cs.size := by rw [hcs]; exact rec_size _ _ _ _
  have HOLD : Hid ((4 : Nat) = cs.size) := hide (by rw [hcs]; rfl)
  have hone : cs.all (·.oneCell') = true := by rw [hcs]; exact rec_one _ _ _ _
  rw [← hcs]
  have HCS := hide hcs
  have hres := (b1.block _ (lt_of_block e0) (by omega)).trans e0
  have hcb2 := (b1.block _ (lt_of_block hcb1) n1).trans hcb1
  have hab2 := (b1.block _ (lt_of_block hab1) n2).trans hab1
  have lw1 : w.heap.size < w1.heap.size := lt_of_block hres
  have lc1 : cB < w1.heap.size := lt_of_block hcb2
  have la1 : aB < w1.heap.size := lt_of_block hab2
  have bw := (But.of (g := g) b0).trans b1
  clear hcs hX e0 hcb1 hab1 b1 b0 c0 H hcb hab HP
  go_upto_region 2 with ((with_reducible (show wpList _ _ _ ({ dst := _, op := Op.store _ _ _, type := _, pos := _, after := _, guard := _ } :: _) _ _)); refine wpList_store_new rfl 43 _ _ rfl cs rfl rfl hsz HOLD.out hone ?_; intro w2 h2 b2)
  have hp : PRd w w.heap.size w1.heap.size g X R.2 w2 := by
    rw [HCS.out] at h2
    exact ⟨z0, Nat.le_of_lt lw1, Nat.le_refl _, by omega, bw.trans (But.of b2), h2, (b2.block _ lw1).trans hres, c1.mono b2⟩
  have hcb3 := (b2.block _ lc1).trans hcb2
  have hab3 := (b2.block _ la1).trans hab2
  have lw2 : w1.heap.size < w2.heap.size := lt_of_block h2
  have k0 : w2.cell? ⟨aB, 0, none⟩ = some (.int .i64 (sum : Int)) := cell_of_row w2 aB 0 _ _ _ hab3
  have f0 : w2.frozen? ⟨aB, 0, none⟩ = false := fr_block hab3 0
  have k1 := hp.c2
  rw [hXc, HN.out] at k1
  have HP := hide hp
  clear hp hcb2 hab2 b2 hres bw c1
  go_upto_region 3 with fail
  have hz3 : (w2.setCell ⟨aB, 0, none⟩ (.int .i64 (t : Int))).heap.size = w2.heap.size := by simp
  have b3 : But aB w2 (w2.setCell ⟨aB, 0, none⟩ (.int .i64 (t : Int))) := But.setCell aB 0 _ _
  have c3 : Cur (w2.setCell ⟨aB, 0, none⟩ (.int .i64 (t : Int))) g R.2 := HP.out.cur.aside (by show g ≠ aB; omega) k0 (fun _ e => by cases e) _
  have hab4 : (w2.setCell ⟨aB, 0, none⟩ (.int .i64 (t : Int))).heap[aB]? = some (.cells #[.int .i64 (t : Int)] 3 (0, 0)) := set_block hab3 _
  generalize w2.setCell ⟨aB, 0, none⟩ (.int .i64 (t : Int)) = w3 at *
  have t3 : Two g aB w w3 := (Two.of HP.out.but).trans (Two.right b3)
  have h3 := (b3.block _ lw2 (by omega)).trans h2
  have r3 := (b3.block _ (lt_of_block HP.out.res) (by omega)).trans HP.out.res
  have hcb4 := (b3.block _ (lt_of_block hcb3) n3).trans hcb3
  have k4 : w3.cell? ⟨cB, 0, none⟩ = some (ptrV g) := cell_of_row w3 cB 0 _ _ _ hcb4
  have k5 : w3.cell? ⟨aB, 0, none⟩ = some (.int .i64 (t : Int)) := cell_of_row w3 aB 0 _ _ _ hab4
  have C3 := hide c3
  clear k0 f0 k1 HP h2 hcb3 hab3 b3 c3
  go_wp2_with fail
  refine (need_any g _ ok 5 w3 C3.out).mono ?_
  rintro r w4 ⟨rfl, c4, b4⟩
  have t4 := t3.trans (Two.of b4)
  have h4 := (b4.block _ (lt_of_block h3) (by omega)).trans h3
  have r4 := (b4.block _ (lt_of_block r3) (by omega)).trans r3
  have hcb5 := (b4.block _ (lt_of_block hcb4) n1).trans hcb4
  have hab5 := (b4.block _ (lt_of_block hab4) n2).trans hab4
  have C4 := hide c4
  clear k4 k5 h3 r3 hcb4 hab4 b4 c4 C3 t3
  go_wp2_with (first | ((with_reducible (show wpList _ _ _ ({ dst := _, op := Op.load _ _, type := _, pos := _, after := _, guard := _ } :: _) _ _)); refine wpList_load_row rfl 43 _ rfl w1.heap.size rfl 43 cs (0, 0) _ h4 Try.underlying43 rfl hsz ?_) | ((with_reducible (show wpList _ _ _ ({ dst := _, op := Op.store _ _ _, type := _, pos := _, after := _, guard := _ } :: _) _ _)); refine wpList_store_lies rfl 43 _ _ rfl w.heap.size cs rfl rfl _ _ r4 hsz HOLD.out hone ?_))
  intro w5 h5 b5 n5 z5
  go_wp2
  (try simp only [Exit.inBlock, Exit.then])
  have bl := But.lies b5 n5 z5
  refine bodyPost_ret (results_row Try.results58 _ _ w.heap.size _ _ _ _ rfl h5 Try.underlying43 rfl hsz) rfl ⟨⟨none, 0, 0, ?_, ?_⟩, ?_, ?_, ?_⟩
  · rw [HCS.out, HX.out]
  · exact Own.empty _ _ _
  · exact C4.out.beside (x := ⟨0, 0, 0, []⟩) (v := .slice none 0 0) (by omega) (fun _ e => by cases e) r4 bl
  · exact t4.past bl (Nat.le_refl _)
  · exact ⟨HC.out.list, (bl.block _ (lt_of_block hcb5) (by omega)).trans hcb5, fun _ => (bl.block _ (lt_of_block hab5) (by omega)).trans hab5, n1, fun _ => n2, n3⟩

set_option maxRecDepth 20000 in
set_option maxHeartbeats 4000000 in
theorem told_reads (caps : Array Value) (cB aB g sum : Nat) (c : St) (w : World) (h : Cur w g c) (hc : Capt 1 w caps cB aB g sum) : Reads 1 caps cB aB g sum w (Files.rTold c) := by
  have H := hide h
  have hcb := hc.cur
  have n1 := hc.n1
  have HC := hide hc
  obtain rfl : caps = #[ptrV cB] := hc.list
  clear h hc
  obtain ⟨T, hT⟩ : ∃ s, s = c.afterB.need (Files.toldOk c.byte.toNat c.afterB.xs.length) 5 := ⟨_, rfl⟩
  obtain ⟨U, hU⟩ : ∃ s, s = T.afterB.need (decide (T.byte.toNat = 6)) 9 := ⟨_, rfl⟩
  obtain ⟨kk, hkk⟩ : ∃ n : Nat, n = c.byte.toNat := ⟨_, rfl⟩
  have bk : kk < 256 := by rw [hkk]; exact byte_lt _
  have HR : Hid (Files.rTold c = (⟨0, 0, 0, takeW (U.got (((kk - 1) / 2 : Nat) : Int) 2)⟩, U.next (((kk - 1) / 2 : Nat) : Int) 2)) := hide (by rw [hU, hT, hkk]; rfl)
  rw [HR.out]
  have hwm : IntKind.i64.wrap ((kk : Int) - 1) = (kk : Int) - 1 := by rw [IntKind.wrap_i64]; omega
  have hwq : Int.tdiv ((kk : Int) - 1) 2 = (((kk - 1) / 2 : Nat) : Int) := by
    rcases Nat.eq_zero_or_pos kk with h | h
    · subst h; rfl
    · rw [Int.tdiv_eq_ediv_of_nonneg (by omega)]; omega
  obtain ⟨nn, hnn⟩ : ∃ n : Nat, n = (kk - 1) / 2 := ⟨_, rfl⟩
  unfold Reads
  rw [← hnn] at hwq ⊢
  have hwn : IntKind.i64.wrap (nn : Int) = (nn : Int) := by rw [IntKind.wrap_i64]; omega
  clear hnn
  have HT : Hid (T = c.afterB.need (Files.toldOk kk c.afterB.xs.length) 5) := hide (by rw [hT, hkk])
  have HU := hide hU
  have HK : Hid ((byteV c.byte : Value) = .int .u8 (kk : Int)) := hide (by rw [hkk])
  have hwk : IntKind.i64.wrap (kk : Int) = (kk : Int) := by rw [IntKind.wrap_i64]; omega
  have k0 : w.cell? ⟨cB, 0, none⟩ = some (ptrV g) := cell_of_row w cB 0 _ _ _ hcb
  have e0 := heap_alloc_new w (.cells zRec 43 (0, 0))
  have b0 := (Below.refl w.heap.size w).alloc (Nat.le_refl _) (.cells zRec 43 (0, 0))
  have lcb := lt_of_block hcb
  have z0 := H.out.lt
  clear hT hU HR hkk
  show Calls Try.prog 63 _ _ _
  go_enter Try.func63, Try.ntmps63
  go_wp2_with fail
  have c0 := H.out.mono b0
  have hcb1 := (b0.block _ lcb).trans hcb
  generalize w.alloc (.cells zRec 43 (0, 0)) = u at *
  clear k0
  refine (byte_any' g c u c0).mono ?_
  rintro r w1 ⟨rfl, c1, b1⟩
  have hres := (b1.block _ (lt_of_block e0) (by omega)).trans e0
  have hcb2 := (b1.block _ (lt_of_block hcb1) n1).trans hcb1
  have bw := (But.of (g := g) b0).trans b1
  have k1 : w1.cell? ⟨cB, 0, none⟩ = some (ptrV g) := cell_of_row w1 cB 0 _ _ _ hcb2
  have C1 := hide c1
  rw [HK.out]
  clear e0 hcb1 b1 b0 c0 c1 H hcb HK
  go_upto_region 2 with fail
  obtain ⟨ll, hll⟩ : ∃ n : Nat, n = c.afterB.xs.length := ⟨_, rfl⟩
  have C1d : Cur w1.drew g c.afterB := C1.out.mono (Below.refl _ _).drew
  have HL := hide (left_any g c.afterB w1.drew C1d)
  rw [← hll] at HL HT
  obtain ⟨ok, hok⟩ : ∃ b : Bool, b = Files.toldOk kk ll := ⟨_, rfl⟩
  rw [← hok] at HT
  have HN : Hid (∀ b, b = ok → Calls Try.prog 22 #[ptrV g, .bool b, .int .i64 5] w1.drew (fun r w' => r = .returned (.tuple #[]) ∧ Cur w' g T ∧ But g w1.drew w')) := hide (fun b hb => by
    rw [hb, HT.out]
    exact need_any g c.afterB ok 5 w1.drew C1d)
  have hmod : Int.tmod (kk : Int) 2 = ((kk % 2 : Nat) : Int) := by rw [Int.tmod_eq_emod_of_nonneg (by omega)]; omega
  have b1d : But g w1 w1.drew := But.of (Below.refl _ _).drew
  obtain ⟨mm, hmm⟩ : ∃ n : Nat, n = kk % 2 := ⟨_, rfl⟩
  obtain ⟨o1, q1⟩ : ∃ b : Bool, b = decide (mm = 1) := ⟨_, rfl⟩
  obtain ⟨o2, q2⟩ : ∃ b : Bool, b = decide (3 ≤ kk) := ⟨_, rfl⟩
  obtain ⟨o3, q3⟩ : ∃ b : Bool, b = decide (kk ≤ ll) := ⟨_, rfl⟩
  have HOK : Hid (ok = (o1 && o2 && o3)) := hide (by rw [hok, q1, q2, q3, hmm]; rfl)
  have Q3 := hide q3
  have hm2 : mm < 2 := by omega
  rw [← hmm] at hmod
  have r1 : ((mm : Int) == 1) = o1 := by rw [q1, Bool.eq_iff_iff]; simp; omega
  have r2 : decide ((3 : Int) ≤ (kk : Int)) = o2 := by rw [q2, Bool.eq_iff_iff]; simp; omega
  have r3 : decide ((kk : Int) ≤ (ll : Int)) = o3 := by rw [q3, Bool.eq_iff_iff]; simp
  clear hll HT hok q1 q2 q3 hmm C1d
  refine wp_region_noPanic ?_
  refine wp_region_held_drew (S := fun w' => But g w1 w') (by kernel_rfl) (b1d) (fun hHeld => ?_)
  refine wpAnyH_take (i := 0) (oi := ⟨some 6, .load 55 (.tmp 0), _, _, _, none⟩) (v := ?_) rfl (by kernel_rfl) (by kernel_rfl) (by kernel_rfl) (fun _ _ _ h => h) (Or.inl ⟨by rfl, ?_⟩) hHeld ?_
  rotate_left
  · (intro wq hSw; have hcv : wq.cell? ⟨cB, 0, none⟩ = some (ptrV g) := cell_of_row _ cB 0 _ _ _ ((hSw.block _ (lt_of_block hcb2) n1).trans hcb2); go_simp; try with_reducible rfl)
  simp only [Act.put, List.setIfInBounds_toArray, List.set_cons_zero, List.set_cons_succ]
  refine wpAnyH_take (i := 1) (oi := ⟨some 7, .move (.tmp 2), _, _, _, none⟩) (v := ?_) rfl (by kernel_rfl) (by kernel_rfl) (by kernel_rfl) (fun _ _ _ h => h) (Or.inl ⟨by rfl, ?_⟩) hHeld ?_
  rotate_left
  · (intro wq hSw; go_simp; try with_reducible rfl)
  simp only [Act.put, List.setIfInBounds_toArray, List.set_cons_zero, List.set_cons_succ]
  refine wpAnyH_take (i := 2) (oi := ⟨some 8, .binOp .rem 3 (.tmp 7) (.const (Value.int IntKind.i64 2)) 3, _, _, _, none⟩) (v := ?_) rfl (by kernel_rfl) (by kernel_rfl) (by kernel_rfl) (fun _ _ _ h => h) (Or.inl ⟨by rfl, ?_⟩) hHeld ?_
  rotate_left
  · (intro wq hSw; go_simp; try with_reducible rfl)
  simp only [Act.put, List.setIfInBounds_toArray, List.set_cons_zero, List.set_cons_succ]
  refine wpAnyH_take (i := 3) (oi := ⟨some 9, .binOp .eql 3 (.tmp 8) (.const (Value.int IntKind.i64 1)) 3, _, _, _, none⟩) (v := ?_) rfl (by kernel_rfl) (by kernel_rfl) (by kernel_rfl) (fun _ _ _ h => h) (Or.inl ⟨by rfl, ?_⟩) hHeld ?_
  rotate_left
  · (intro wq hSw; go_simp; try with_reducible rfl)
  simp only [Act.put, List.setIfInBounds_toArray, List.set_cons_zero, List.set_cons_succ]
  refine wpAnyH_take (i := 4) (oi := ⟨some 10, .move (.tmp 9), _, _, _, none⟩) (v := ?_) rfl (by kernel_rfl) (by kernel_rfl) (by kernel_rfl) (fun _ _ _ h => h) (Or.inl ⟨by rfl, ?_⟩) hHeld ?_
  rotate_left
  · (intro wq hSw; go_simp; try with_reducible rfl)
  simp only [Act.put, List.setIfInBounds_toArray, List.set_cons_zero, List.set_cons_succ]
  cases o1 with
  | false =>
    refine wpAnyH_take (i := 5) (oi := ⟨some 11, .move (.tmp 2), _, _, _, some (4, true)⟩) (v := undef) rfl (by kernel_rfl) (by kernel_rfl) (by kernel_rfl) (fun _ _ _ h => h) (Or.inr ⟨by rfl, rfl⟩) hHeld ?_
    simp only [Act.put, List.setIfInBounds_toArray, List.set_cons_zero, List.set_cons_succ]
    refine wpAnyH_take (i := 6) (oi := ⟨some 12, .binOp .geq 3 (.tmp 11) (.const (Value.int IntKind.i64 3)) 3, _, _, _, some (4, true)⟩) (v := undef) rfl (by kernel_rfl) (by kernel_rfl) (by kernel_rfl) (fun _ _ _ h => h) (Or.inr ⟨by rfl, rfl⟩) hHeld ?_
    simp only [Act.put, List.setIfInBounds_toArray, List.set_cons_zero, List.set_cons_succ]
    refine wpAnyH_take (i := 7) (oi := ⟨some 13, .pick (.tmp 10) (.tmp 12) (.const (Value.bool false)), _, _, _, none⟩) (v := ?_) rfl (by kernel_rfl) (by kernel_rfl) (by kernel_rfl) (fun _ _ _ h => h) (Or.inl ⟨by rfl, ?_⟩) hHeld ?_
    rotate_left
    · (intro wq hSw; go_simp; try with_reducible rfl)
    simp only [Act.put, List.setIfInBounds_toArray, List.set_cons_zero, List.set_cons_succ]
    refine wpAnyH_take (i := 8) (oi := ⟨some 14, .move (.tmp 13), _, _, _, none⟩) (v := ?_) rfl (by kernel_rfl) (by kernel_rfl) (by kernel_rfl) (fun _ _ _ h => h) (Or.inl ⟨by rfl, ?_⟩) hHeld ?_
    rotate_left
    · (intro wq hSw; go_simp; try with_reducible rfl)
    simp only [Act.put, List.setIfInBounds_toArray, List.set_cons_zero, List.set_cons_succ]
    refine wpAnyH_take (i := 9) (oi := ⟨some 15, .move (.tmp 2), _, _, _, some (8, true)⟩) (v := undef) rfl (by kernel_rfl) (by kernel_rfl) (by kernel_rfl) (fun _ _ _ h => h) (Or.inr ⟨by rfl, rfl⟩) hHeld ?_
    simp only [Act.put, List.setIfInBounds_toArray, List.set_cons_zero, List.set_cons_succ]
    refine wpAnyH_take (i := 10) (oi := ⟨some 16, .load 55 (.tmp 0), _, _, _, some (8, true)⟩) (v := undef) rfl (by kernel_rfl) (by kernel_rfl) (by kernel_rfl) (fun _ _ _ h => h) (Or.inr ⟨by rfl, rfl⟩) hHeld ?_
    simp only [Act.put, List.setIfInBounds_toArray, List.set_cons_zero, List.set_cons_succ]
    refine wpAnyH_ready (rs := [11]) (by kernel_rfl) (by simp) ?_
    refine AllReadyH.cons (o := ⟨some 17, .call ⟨.value (.func 40), #[.tmp 16], #[55]⟩, _, _, _, some (8, true)⟩) rfl (fun K hK => ?_) ?_
    · go_simp
      refine hK.out _ _ ?_ (fun hHeld => ?_)
      · exact hHeld
      clear hK K
      try simp only [Act.put, List.setIfInBounds_toArray, List.set_cons_zero, List.set_cons_succ]
      refine wpAnyH_take (i := 12) (oi := ⟨some 18, .binOp .leq 3 (.tmp 15) (.tmp 17) 3, _, _, _, some (8, true)⟩) (v := undef) rfl (by kernel_rfl) (by kernel_rfl) (by kernel_rfl) (fun _ _ _ h => h) (Or.inr ⟨by rfl, rfl⟩) hHeld ?_
      simp only [Act.put, List.setIfInBounds_toArray, List.set_cons_zero, List.set_cons_succ]
      refine wpAnyH_take (i := 13) (oi := ⟨some 19, .pick (.tmp 14) (.tmp 18) (.const (Value.bool false)), _, _, _, none⟩) (v := ?_) rfl (by kernel_rfl) (by kernel_rfl) (by kernel_rfl) (fun _ _ _ h => h) (Or.inl ⟨by rfl, ?_⟩) hHeld ?_
      rotate_left
      · (intro wq hSw; go_simp; try with_reducible rfl)
      simp only [Act.put, List.setIfInBounds_toArray, List.set_cons_zero, List.set_cons_succ]
      refine wpAnyH_ready (rs := [14]) (by kernel_rfl) (by simp) ?_
      refine AllReadyH.cons (o := ⟨some 20, .call ⟨.value (.func 22), #[.tmp 6, .tmp 19, .const (Value.int IntKind.i64 5)], #[55, 4, 31]⟩, _, _, _, none⟩) rfl (fun K hK => ?_) ?_
      · go_simp
        refine (HN.out _ (by rw [HOK.out]; first | rfl | (simp [Q3.out]; done))).mono ?_
        rintro r w3 ⟨rfl, c3, b3⟩
        have s3 := hHeld.trans b3
        refine hK.out _ _ ?_ (fun hHeld => ?_)
        · exact s3
        clear hK K
        try simp only [Act.put, List.setIfInBounds_toArray, List.set_cons_zero, List.set_cons_succ]
        refine wpAnyH_done (by kernel_rfl) ?_ _
        refine NoPanic.normal ?_
        have C3 := hide c3
        have hcb3 := (s3.block _ (lt_of_block hcb2) n1).trans hcb2
        have hres3 := (s3.block _ (lt_of_block hres) (by omega)).trans hres
        have k3 : w3.cell? ⟨cB, 0, none⟩ = some (ptrV g) := cell_of_row w3 cB 0 _ _ _ hcb3
        have bw3 := bw.trans s3
        clear c3 s3 b3 hHeld hres hcb2 bw k1 b1d HL HN HOK Q3 r1 r2 r3
        go_wp2_with fail
        refine (refMark_any g T w3 C3.out).mono ?_
        rintro r w4 ⟨rfl, c4, b4⟩
        rw [← HU.out] at c4
        have C4 := hide c4
        have hcb4 := (b4.block _ (lt_of_block hcb3) n1).trans hcb3
        have hres4 := (b4.block _ (lt_of_block hres3) (by omega)).trans hres3
        have k4 : w4.cell? ⟨cB, 0, none⟩ = some (ptrV g) := cell_of_row w4 cB 0 _ _ _ hcb4
        have bw4 := bw3.trans b4
        clear c4 b4 C3 hcb3 hres3 k3 bw3
        go_wp2_with fail
        refine (cwords_any g U (nn : Int) w4 C4.out).mono ?_
        rintro r w5 ⟨⟨a5, cap5, rfl, ho5⟩, c5, b5⟩
        have C5 := hide c5
        have O5 := hide ho5
        have hcb5 := (b5.block _ (lt_of_block hcb4) n1).trans hcb4
        have hres5 := (b5.block _ (lt_of_block hres4) (by omega)).trans hres4
        have bw5 := bw4.trans b5
        have lw4 : w.heap.size < w4.heap.size := lt_of_block hres4
        have lw5 := b5.size
        clear c5 b5 C4 hcb4 hres4 k4 ho5 bw4
        generalize hL : takeW (U.got (nn : Int) 2) = L at *
        have HLL := hide hL
        clear hL
        obtain ⟨cs, hcs⟩ : ∃ cs, cs = partC ⟨0, 0, 0, L⟩ (.slice a5 L.length cap5) := ⟨_, rfl⟩
        have hsz : (Try.prog.info? 43).map (·.size) = some cs.size := by rw [hcs]; exact rec_size _ _ _ _
        have HOLD : Hid ((4 : Nat) = cs.size) := hide (by rw [hcs]; rfl)
        have hone : cs.all (·.oneCell') = true := by rw [hcs]; exact rec_one _ _ _ _
        have HCS := hide hcs
        clear hcs
        go_wp2_with ((with_reducible (show wpList _ _ _ ({ dst := _, op := Op.store _ _ _, type := _, pos := _, after := _, guard := _ } :: _) _ _)); refine wpList_store_lies rfl 43 _ _ rfl w.heap.size cs rfl (by rw [HCS.out]; rfl) _ _ hres5 hsz HOLD.out hone ?_)
        intro w6 h6 b6 n6 z6
        go_wp2
        (try simp only [Exit.inBlock, Exit.then])
        have bl := But.lies b6 n6 z6
        refine bodyPost_ret (results_row Try.results63 _ _ w.heap.size _ _ _ _ rfl h6 Try.underlying43 rfl hsz) rfl ⟨⟨a5, L.length, cap5, ?_, ?_⟩, ?_, ?_, ?_⟩
        · rw [HCS.out, HLL.out]
        · show Own wordV w6 w.heap.size a5 L.length cap5 (takeW (U.got (nn : Int) 2))
          rw [HLL.out]
          have o6 := O5.out.from (w' := w6) ⟨bl.size, fun k hn hk => bl.block k hk (by omega)⟩
          exact o6.base (B' := w.heap.size) (by omega)
        · exact C5.out.beside (x := ⟨0, 0, 0, []⟩) (v := .slice none 0 0) (by omega) (fun _ e => by cases e) hres5 bl
        · exact Two.of (bw5.past bl (Nat.le_refl _))
        · exact ⟨HC.out.list, (bl.block _ (lt_of_block hcb5) (by omega)).trans hcb5, fun e => absurd e (by decide), HC.out.n1, HC.out.n2, HC.out.n3⟩
      exact AllReadyH.nil
    exact AllReadyH.nil
  | true =>
    refine wpAnyH_take (i := 5) (oi := ⟨some 11, .move (.tmp 2), _, _, _, some (4, true)⟩) (v := ?_) rfl (by kernel_rfl) (by kernel_rfl) (by kernel_rfl) (fun _ _ _ h => h) (Or.inl ⟨by rfl, ?_⟩) hHeld ?_
    rotate_left
    · (intro wq hSw; go_simp; try with_reducible rfl)
    simp only [Act.put, List.setIfInBounds_toArray, List.set_cons_zero, List.set_cons_succ]
    refine wpAnyH_take (i := 6) (oi := ⟨some 12, .binOp .geq 3 (.tmp 11) (.const (Value.int IntKind.i64 3)) 3, _, _, _, some (4, true)⟩) (v := ?_) rfl (by kernel_rfl) (by kernel_rfl) (by kernel_rfl) (fun _ _ _ h => h) (Or.inl ⟨by rfl, ?_⟩) hHeld ?_
    rotate_left
    · (intro wq hSw; go_simp; try with_reducible rfl)
    simp only [Act.put, List.setIfInBounds_toArray, List.set_cons_zero, List.set_cons_succ]
    refine wpAnyH_take (i := 7) (oi := ⟨some 13, .pick (.tmp 10) (.tmp 12) (.const (Value.bool false)), _, _, _, none⟩) (v := ?_) rfl (by kernel_rfl) (by kernel_rfl) (by kernel_rfl) (fun _ _ _ h => h) (Or.inl ⟨by rfl, ?_⟩) hHeld ?_
    rotate_left
    · (intro wq hSw; go_simp; try with_reducible rfl)
    simp only [Act.put, List.setIfInBounds_toArray, List.set_cons_zero, List.set_cons_succ]
    refine wpAnyH_take (i := 8) (oi := ⟨some 14, .move (.tmp 13), _, _, _, none⟩) (v := ?_) rfl (by kernel_rfl) (by kernel_rfl) (by kernel_rfl) (fun _ _ _ h => h) (Or.inl ⟨by rfl, ?_⟩) hHeld ?_
    rotate_left
    · (intro wq hSw; go_simp; try with_reducible rfl)
    simp only [Act.put, List.setIfInBounds_toArray, List.set_cons_zero, List.set_cons_succ]
    cases o2 with
    | false =>
      refine wpAnyH_take (i := 9) (oi := ⟨some 15, .move (.tmp 2), _, _, _, some (8, true)⟩) (v := undef) rfl (by kernel_rfl) (by kernel_rfl) (by kernel_rfl) (fun _ _ _ h => h) (Or.inr ⟨by rfl, rfl⟩) hHeld ?_
      simp only [Act.put, List.setIfInBounds_toArray, List.set_cons_zero, List.set_cons_succ]
      refine wpAnyH_take (i := 10) (oi := ⟨some 16, .load 55 (.tmp 0), _, _, _, some (8, true)⟩) (v := undef) rfl (by kernel_rfl) (by kernel_rfl) (by kernel_rfl) (fun _ _ _ h => h) (Or.inr ⟨by rfl, rfl⟩) hHeld ?_
      simp only [Act.put, List.setIfInBounds_toArray, List.set_cons_zero, List.set_cons_succ]
      refine wpAnyH_ready (rs := [11]) (by kernel_rfl) (by simp) ?_
      refine AllReadyH.cons (o := ⟨some 17, .call ⟨.value (.func 40), #[.tmp 16], #[55]⟩, _, _, _, some (8, true)⟩) rfl (fun K hK => ?_) ?_
      · go_simp
        refine hK.out _ _ ?_ (fun hHeld => ?_)
        · exact hHeld
        clear hK K
        try simp only [Act.put, List.setIfInBounds_toArray, List.set_cons_zero, List.set_cons_succ]
        refine wpAnyH_take (i := 12) (oi := ⟨some 18, .binOp .leq 3 (.tmp 15) (.tmp 17) 3, _, _, _, some (8, true)⟩) (v := undef) rfl (by kernel_rfl) (by kernel_rfl) (by kernel_rfl) (fun _ _ _ h => h) (Or.inr ⟨by rfl, rfl⟩) hHeld ?_
        simp only [Act.put, List.setIfInBounds_toArray, List.set_cons_zero, List.set_cons_succ]
        refine wpAnyH_take (i := 13) (oi := ⟨some 19, .pick (.tmp 14) (.tmp 18) (.const (Value.bool false)), _, _, _, none⟩) (v := ?_) rfl (by kernel_rfl) (by kernel_rfl) (by kernel_rfl) (fun _ _ _ h => h) (Or.inl ⟨by rfl, ?_⟩) hHeld ?_
        rotate_left
        · (intro wq hSw; go_simp; try with_reducible rfl)
        simp only [Act.put, List.setIfInBounds_toArray, List.set_cons_zero, List.set_cons_succ]
        refine wpAnyH_ready (rs := [14]) (by kernel_rfl) (by simp) ?_
        refine AllReadyH.cons (o := ⟨some 20, .call ⟨.value (.func 22), #[.tmp 6, .tmp 19, .const (Value.int IntKind.i64 5)], #[55, 4, 31]⟩, _, _, _, none⟩) rfl (fun K hK => ?_) ?_
        · go_simp
          refine (HN.out _ (by rw [HOK.out]; first | rfl | (simp [Q3.out]; done))).mono ?_
          rintro r w3 ⟨rfl, c3, b3⟩
          have s3 := hHeld.trans b3
          refine hK.out _ _ ?_ (fun hHeld => ?_)
          · exact s3
          clear hK K
          try simp only [Act.put, List.setIfInBounds_toArray, List.set_cons_zero, List.set_cons_succ]
          refine wpAnyH_done (by kernel_rfl) ?_ _
          refine NoPanic.normal ?_
          have C3 := hide c3
          have hcb3 := (s3.block _ (lt_of_block hcb2) n1).trans hcb2
          have hres3 := (s3.block _ (lt_of_block hres) (by omega)).trans hres
          have k3 : w3.cell? ⟨cB, 0, none⟩ = some (ptrV g) := cell_of_row w3 cB 0 _ _ _ hcb3
          have bw3 := bw.trans s3
          clear c3 s3 b3 hHeld hres hcb2 bw k1 b1d HL HN HOK Q3 r1 r2 r3
          go_wp2_with fail
          refine (refMark_any g T w3 C3.out).mono ?_
          rintro r w4 ⟨rfl, c4, b4⟩
          rw [← HU.out] at c4
          have C4 := hide c4
          have hcb4 := (b4.block _ (lt_of_block hcb3) n1).trans hcb3
          have hres4 := (b4.block _ (lt_of_block hres3) (by omega)).trans hres3
          have k4 : w4.cell? ⟨cB, 0, none⟩ = some (ptrV g) := cell_of_row w4 cB 0 _ _ _ hcb4
          have bw4 := bw3.trans b4
          clear c4 b4 C3 hcb3 hres3 k3 bw3
          go_wp2_with fail
          refine (cwords_any g U (nn : Int) w4 C4.out).mono ?_
          rintro r w5 ⟨⟨a5, cap5, rfl, ho5⟩, c5, b5⟩
          have C5 := hide c5
          have O5 := hide ho5
          have hcb5 := (b5.block _ (lt_of_block hcb4) n1).trans hcb4
          have hres5 := (b5.block _ (lt_of_block hres4) (by omega)).trans hres4
          have bw5 := bw4.trans b5
          have lw4 : w.heap.size < w4.heap.size := lt_of_block hres4
          have lw5 := b5.size
          clear c5 b5 C4 hcb4 hres4 k4 ho5 bw4
          generalize hL : takeW (U.got (nn : Int) 2) = L at *
          have HLL := hide hL
          clear hL
          obtain ⟨cs, hcs⟩ : ∃ cs, cs = partC ⟨0, 0, 0, L⟩ (.slice a5 L.length cap5) := ⟨_, rfl⟩
          have hsz : (Try.prog.info? 43).map (·.size) = some cs.size := by rw [hcs]; exact rec_size _ _ _ _
          have HOLD : Hid ((4 : Nat) = cs.size) := hide (by rw [hcs]; rfl)
          have hone : cs.all (·.oneCell') = true := by rw [hcs]; exact rec_one _ _ _ _
          have HCS := hide hcs
          clear hcs
          go_wp2_with ((with_reducible (show wpList _ _ _ ({ dst := _, op := Op.store _ _ _, type := _, pos := _, after := _, guard := _ } :: _) _ _)); refine wpList_store_lies rfl 43 _ _ rfl w.heap.size cs rfl (by rw [HCS.out]; rfl) _ _ hres5 hsz HOLD.out hone ?_)
          intro w6 h6 b6 n6 z6
          go_wp2
          (try simp only [Exit.inBlock, Exit.then])
          have bl := But.lies b6 n6 z6
          refine bodyPost_ret (results_row Try.results63 _ _ w.heap.size _ _ _ _ rfl h6 Try.underlying43 rfl hsz) rfl ⟨⟨a5, L.length, cap5, ?_, ?_⟩, ?_, ?_, ?_⟩
          · rw [HCS.out, HLL.out]
          · show Own wordV w6 w.heap.size a5 L.length cap5 (takeW (U.got (nn : Int) 2))
            rw [HLL.out]
            have o6 := O5.out.from (w' := w6) ⟨bl.size, fun k hn hk => bl.block k hk (by omega)⟩
            exact o6.base (B' := w.heap.size) (by omega)
          · exact C5.out.beside (x := ⟨0, 0, 0, []⟩) (v := .slice none 0 0) (by omega) (fun _ e => by cases e) hres5 bl
          · exact Two.of (bw5.past bl (Nat.le_refl _))
          · exact ⟨HC.out.list, (bl.block _ (lt_of_block hcb5) (by omega)).trans hcb5, fun e => absurd e (by decide), HC.out.n1, HC.out.n2, HC.out.n3⟩
        exact AllReadyH.nil
      exact AllReadyH.nil
    | true =>
      refine wpAnyH_take (i := 9) (oi := ⟨some 15, .move (.tmp 2), _, _, _, some (8, true)⟩) (v := ?_) rfl (by kernel_rfl) (by kernel_rfl) (by kernel_rfl) (fun _ _ _ h => h) (Or.inl ⟨by rfl, ?_⟩) hHeld ?_
      rotate_left
      · (intro wq hSw; go_simp; try with_reducible rfl)
      simp only [Act.put, List.setIfInBounds_toArray, List.set_cons_zero, List.set_cons_succ]
      refine wpAnyH_take (i := 10) (oi := ⟨some 16, .load 55 (.tmp 0), _, _, _, some (8, true)⟩) (v := ?_) rfl (by kernel_rfl) (by kernel_rfl) (by kernel_rfl) (fun _ _ _ h => h) (Or.inl ⟨by rfl, ?_⟩) hHeld ?_
      rotate_left
      · (intro wq hSw; have hcv : wq.cell? ⟨cB, 0, none⟩ = some (ptrV g) := cell_of_row _ cB 0 _ _ _ ((hSw.block _ (lt_of_block hcb2) n1).trans hcb2); go_simp; try with_reducible rfl)
      simp only [Act.put, List.setIfInBounds_toArray, List.set_cons_zero, List.set_cons_succ]
      refine wpAnyH_ready (rs := [11]) (by kernel_rfl) (by simp) ?_
      refine AllReadyH.cons (o := ⟨some 17, .call ⟨.value (.func 40), #[.tmp 16], #[55]⟩, _, _, _, some (8, true)⟩) rfl (fun K hK => ?_) ?_
      · go_simp
        refine HL.out.mono ?_
        rintro r w2 ⟨rfl, rfl⟩
        refine hK.out _ _ ?_ (fun hHeld => ?_)
        · exact hHeld
        clear hK K
        try simp only [Act.put, List.setIfInBounds_toArray, List.set_cons_zero, List.set_cons_succ]
        refine wpAnyH_take (i := 12) (oi := ⟨some 18, .binOp .leq 3 (.tmp 15) (.tmp 17) 3, _, _, _, some (8, true)⟩) (v := ?_) rfl (by kernel_rfl) (by kernel_rfl) (by kernel_rfl) (fun _ _ _ h => h) (Or.inl ⟨by rfl, ?_⟩) hHeld ?_
        rotate_left
        · (intro wq hSw; go_simp; try with_reducible rfl)
        simp only [Act.put, List.setIfInBounds_toArray, List.set_cons_zero, List.set_cons_succ]
        refine wpAnyH_take (i := 13) (oi := ⟨some 19, .pick (.tmp 14) (.tmp 18) (.const (Value.bool false)), _, _, _, none⟩) (v := ?_) rfl (by kernel_rfl) (by kernel_rfl) (by kernel_rfl) (fun _ _ _ h => h) (Or.inl ⟨by rfl, ?_⟩) hHeld ?_
        rotate_left
        · (intro wq hSw; go_simp; try with_reducible rfl)
        simp only [Act.put, List.setIfInBounds_toArray, List.set_cons_zero, List.set_cons_succ]
        refine wpAnyH_ready (rs := [14]) (by kernel_rfl) (by simp) ?_
        refine AllReadyH.cons (o := ⟨some 20, .call ⟨.value (.func 22), #[.tmp 6, .tmp 19, .const (Value.int IntKind.i64 5)], #[55, 4, 31]⟩, _, _, _, none⟩) rfl (fun K hK => ?_) ?_
        · go_simp
          refine (HN.out _ (by rw [HOK.out]; first | rfl | (simp [Q3.out]; done))).mono ?_
          rintro r w3 ⟨rfl, c3, b3⟩
          have s3 := hHeld.trans b3
          refine hK.out _ _ ?_ (fun hHeld => ?_)
          · exact s3
          clear hK K
          try simp only [Act.put, List.setIfInBounds_toArray, List.set_cons_zero, List.set_cons_succ]
          refine wpAnyH_done (by kernel_rfl) ?_ _
          refine NoPanic.normal ?_
          have C3 := hide c3
          have hcb3 := (s3.block _ (lt_of_block hcb2) n1).trans hcb2
          have hres3 := (s3.block _ (lt_of_block hres) (by omega)).trans hres
          have k3 : w3.cell? ⟨cB, 0, none⟩ = some (ptrV g) := cell_of_row w3 cB 0 _ _ _ hcb3
          have bw3 := bw.trans s3
          clear c3 s3 b3 hHeld hres hcb2 bw k1 b1d HL HN HOK Q3 r1 r2 r3
          go_wp2_with fail
          refine (refMark_any g T w3 C3.out).mono ?_
          rintro r w4 ⟨rfl, c4, b4⟩
          rw [← HU.out] at c4
          have C4 := hide c4
          have hcb4 := (b4.block _ (lt_of_block hcb3) n1).trans hcb3
          have hres4 := (b4.block _ (lt_of_block hres3) (by omega)).trans hres3
          have k4 : w4.cell? ⟨cB, 0, none⟩ = some (ptrV g) := cell_of_row w4 cB 0 _ _ _ hcb4
          have bw4 := bw3.trans b4
          clear c4 b4 C3 hcb3 hres3 k3 bw3
          go_wp2_with fail
          refine (cwords_any g U (nn : Int) w4 C4.out).mono ?_
          rintro r w5 ⟨⟨a5, cap5, rfl, ho5⟩, c5, b5⟩
          have C5 := hide c5
          have O5 := hide ho5
          have hcb5 := (b5.block _ (lt_of_block hcb4) n1).trans hcb4
          have hres5 := (b5.block _ (lt_of_block hres4) (by omega)).trans hres4
          have bw5 := bw4.trans b5
          have lw4 : w.heap.size < w4.heap.size := lt_of_block hres4
          have lw5 := b5.size
          clear c5 b5 C4 hcb4 hres4 k4 ho5 bw4
          generalize hL : takeW (U.got (nn : Int) 2) = L at *
          have HLL := hide hL
          clear hL
          obtain ⟨cs, hcs⟩ : ∃ cs, cs = partC ⟨0, 0, 0, L⟩ (.slice a5 L.length cap5) := ⟨_, rfl⟩
          have hsz : (Try.prog.info? 43).map (·.size) = some cs.size := by rw [hcs]; exact rec_size _ _ _ _
          have HOLD : Hid ((4 : Nat) = cs.size) := hide (by rw [hcs]; rfl)
          have hone : cs.all (·.oneCell') = true := by rw [hcs]; exact rec_one _ _ _ _
          have HCS := hide hcs
          clear hcs
          go_wp2_with ((with_reducible (show wpList _ _ _ ({ dst := _, op := Op.store _ _ _, type := _, pos := _, after := _, guard := _ } :: _) _ _)); refine wpList_store_lies rfl 43 _ _ rfl w.heap.size cs rfl (by rw [HCS.out]; rfl) _ _ hres5 hsz HOLD.out hone ?_)
          intro w6 h6 b6 n6 z6
          go_wp2
          (try simp only [Exit.inBlock, Exit.then])
          have bl := But.lies b6 n6 z6
          refine bodyPost_ret (results_row Try.results63 _ _ w.heap.size _ _ _ _ rfl h6 Try.underlying43 rfl hsz) rfl ⟨⟨a5, L.length, cap5, ?_, ?_⟩, ?_, ?_, ?_⟩
          · rw [HCS.out, HLL.out]
          · show Own wordV w6 w.heap.size a5 L.length cap5 (takeW (U.got (nn : Int) 2))
            rw [HLL.out]
            have o6 := O5.out.from (w' := w6) ⟨bl.size, fun k hn hk => bl.block k hk (by omega)⟩
            exact o6.base (B' := w.heap.size) (by omega)
          · exact C5.out.beside (x := ⟨0, 0, 0, []⟩) (v := .slice none 0 0) (by omega) (fun _ e => by cases e) hres5 bl
          · exact Two.of (bw5.past bl (Nat.le_refl _))
          · exact ⟨HC.out.list, (bl.block _ (lt_of_block hcb5) (by omega)).trans hcb5, fun e => absurd e (by decide), HC.out.n1, HC.out.n2, HC.out.n3⟩
        exact AllReadyH.nil
      exact AllReadyH.nil

theorem reads_any (f : Files.Frm) (caps : Array Value) (cB aB g sum : Nat) (hsum : f = 0 → sum ≤ 1000000) (c : St) (w : World) (h : Cur w g c) (hc : Capt f w caps cB aB g sum) : Reads f caps cB aB g sum w (Files.partC f sum c) := by
  rcases Files.Frm.three f with rfl | rfl | rfl
  · exact asked_reads caps cB aB g sum (hsum rfl) c w h hc
  · exact told_reads caps cB aB g sum c w h hc
  · exact written_reads caps cB aB g sum c w h hc
end

end Go.Proofs.Ytolkcohmoalnhaa
