/-
  Texts that many others stand on, joined: RefPut, AppBut, FileRefBytes.
-/
import Derived.Test.YtolkcohmoalnhaaJoinA
import Derived.BigRegion
import Derived.Test.YtolkcohmoalnhaaCursor
import Derived.Test.YtolkcohmoalnhaaFileRef
import Derived.Test.YtolkcohmoalnhaaJoinE

namespace Go.Proofs.Ytolkcohmoalnhaa
open Go.RowKit
open Word

set_option maxHeartbeats 1000000 in
theorem refPut_any (a : Option Addr) (len cap : Nat) (xs : List UInt16) (w : World) (hx : Ws w a len cap xs) (hlen : len ≤ 100000) :
    Calls Try.prog 54 #[.slice a len cap] w fun e w' => (∃ a' c', e = .returned (.slice a' (2 * len) c') ∧ Own byteV w' w.heap.size a' (2 * len) c' (putW xs)) ∧ Below w.heap.size w w' := by
  have hml := hide hx.hlen
  have HX := hide hx
  have hle := hx.hle
  have hmx := hx.hmax
  unfold maxLen at hmx
  clear hx
  go_enter Try.func54, Try.ntmps54
  go_wp2
  generalize hB : w.heap.size = B at *
  have ho1 : Own byteV w B none 0 0 [] := Own.empty _ _ _
  go_loopw [4, 3] (fun i s wr => ∃ (k : Nat) (a' : Option Addr) (c' : Nat), k ≤ len ∧ i = .int .i64 k ∧ s = .slice a' (2 * k) c' ∧ Own byteV wr B a' (2 * k) c' (putW (xs.take k)) ∧ Below B w wr) (fun i _ _ => len - (intOf i).toNat)
  case atStart => exact ⟨0, _, _, Nat.zero_le _, rfl, rfl, ho1, Below.refl _ _⟩
  case round =>
    clear ho1
    obtain ⟨k, a', c', hk, rfl, rfl, ho, hbr⟩ := hrel
    by_cases hlt : k < len
    · have hlt' : k < xs.length := by have := hml.out; omega
      obtain ⟨b, off, rfl, hbl, hc0⟩ := HX.out.hcell k hlt'
      have hbB : b < B := by rw [← hB]; exact hbl
      have hc : wr.cell? ⟨b, off + k, none⟩ = some (.int .u16 (xs[k].toNat : Int)) := (hbr.cell (p := ⟨b, off + k, none⟩) hbB).trans hc0
      clear hc0
      have HT := hide (putW_take xs k hlt')
      unfold hiB loB at HT
      have hn := word_lt xs[k]
      generalize xs[k].toNat = n at *
      have hszr : B ≤ wr.heap.size := hB ▸ hbr.size
      have T1 : IntKind.u8.wrap (IntKind.u16.wrap ((n : Int) / 256)) = ((n / 256 : Nat) : Int) := by rw [IntKind.wrap_u8, IntKind.wrap_u16]; omega
      have T2 : IntKind.u8.wrap ((n : Int).tmod 256) = ((n % 256 : Nat) : Int) := by rw [IntKind.wrap_u8, Int.tmod_eq_emod_of_nonneg (by omega)]; omega
      have hal := ((Below.refl wr.heap.size wr).alloc (Nat.le_refl _) (.cells #[.int .u8 ((n / 256 : Nat) : Int), .int .u8 ((n % 256 : Nat) : Int)] 5)).drew
      have hoA := ho.mono hal
      have hlit := (two_own wr _ _ (n / 256) (n % 256) rfl rfl (by omega) (by omega) 5).sl.drew
      have hbA := hbr.trans (hal.mono hszr)
      have hszA := hB ▸ hbA.size
      have ne1 := World.new_ne wr _ hc
      have l0 : (0 : Int) ≤ (k : Int) := by omega
      have l1 : (k : Int) < (len : Int) := by omega
      go_wp2
      go_region_held3 (fun w' => w'.cell? ⟨b, off + k, none⟩ = some (.int .u16 (n : Int)))
        (first
          | go_keep
          | (rw [hb3.cell (p := ⟨b, off + k, none⟩) hbB]; assumption))
        ((refine step_app (by rfl) _ _ (by rfl) B (by rfl) hoA (by rfl) hlit (by omega) hszA ?_; intro a3 c3 w3 ho3 hb3))
      go_wp2
      go_roundw
      case rel => exact ⟨k + 1, a3, c3, by omega, by go_num, by rw [show 2 * (k + 1) = 2 * k + 2 by omega], by rw [show 2 * (k + 1) = 2 * k + 2 by omega, HT.out]; exact ho3, hbA.trans hb3⟩
      case measure => simp [intOf]; omega
    · obtain rfl : k = len := by omega
      rw [List.take_of_length_le (by rw [hml.out]; omega)] at ho
      go_wp2
      go_ret
      exact ⟨⟨_, _, rfl, by first | exact ho | (rw [hB]; exact ho)⟩, by first | exact hbr | (rw [hB]; exact hbr)⟩

end Go.Proofs.Ytolkcohmoalnhaa

namespace Go.Proofs.Ytolkcohmoalnhaa
open Go.RowKit

theorem but_setCells (b : Nat) : ∀ (vs : List Value) (o : Nat) (w : World), But b w (w.setCells b o vs)
  | [], _, w => But.refl _ w
  | v :: vs, o, w => (But.setCell b o w v).trans (but_setCells b vs (o + 1) _)

section
variable {P : Program} {α : Type} {f : α → Value}

/-- 'append', and which blocks it leaves as they were. -/
theorem run_append_but (w : World) (B : Nat) (t tx ty e : TypeId) (i : TypeInfo) (z : Value) (ht : P.underlying t = some (.slice e)) (hi : P.info? e = some i) (hz : i.zero = some z) (hsz : i.size = 1) (hzs : z.cells.size = 1)
    (a : Option Addr) (len cap : Nat) (xs : List α) (hd : Own f w B a len cap xs) (x : Value) (m : Nat) (ys : List α) (hs : Src P 1 tx x m (ys.map f) w)
    (hbytes : (len + m) * i.bytes ≤ 140737488355328) (h63 : len + m ≤ maxLen) (hB : B ≤ w.heap.size) (g : Nat) (hg : ∀ b off, a = some ⟨b, off, none⟩ → b = g) :
    ∃ a' cap' w', (Builtin.append_ #[t, tx] ty #[.slice a len cap, x]).run P w = .ok (.slice a' (len + m) cap') w' ∧ Own f w' B a' (len + m) cap' (xs ++ ys) ∧ Below B w w' ∧ But g w w' := by
  have hl := hd.sl.hlen
  have hle := hd.sl.hle
  have hmx := hd.sl.hmax
  have hyl : ys.length = m := by have := hs.newsLen; simpa using this
  have h63' : len + m ≤ 9223372036854775807 := by simp only [maxLen] at h63; omega
  by_cases hroom : len + m ≤ cap
  · by_cases hm : m = 0
    · subst hm
      have hy : ys = [] := List.eq_nil_of_length_eq_zero hyl
      subst hy
      refine ⟨a, cap, w, ?_, by simpa using hd, Below.refl _ _, But.refl _ _⟩
      have hc := hs.cells
      simp only [List.map_nil] at hc
      rcases hs.kind with ⟨e', hk⟩ | hk <;> cases a <;> simp [Builtin.append_, run_underlying ht, run_underlying hk, sizeOf, typeInfo, hi, hsz, hs.len, hle, hc, storeCells]
    · obtain ⟨b, off, rfl, hb, hlt, _⟩ := hd.room 0 (by omega)
      have hrm : ∀ j, j < cap → (w.cell? ⟨b, off + j, none⟩).isSome = true ∧ w.frozen? ⟨b, off + j, none⟩ = false := fun j hj => by
        obtain ⟨b', off', hh, _, _, h1, h2⟩ := hd.room j hj
        cases hh
        exact ⟨h1, h2⟩
      have hcl : ∀ j (h : j < xs.length), w.cell? ⟨b, off + j, none⟩ = some (f xs[j]) := fun j hj => by
        obtain ⟨b', off', hh, _, h1⟩ := hd.sl.hcell j hj
        cases hh
        exact h1
      have hnl : (ys.map f).length = m := by simpa using hyl
      refine ⟨some ⟨b, off, none⟩, cap, w.setCells b (off + len) (ys.map f), ?_, ?_, below_setCells b hb _ _ (Below.refl _ _), by rw [← hg b off rfl]; exact but_setCells b _ _ _⟩
      · have := run_append_room_src (P := P) w t tx ty e i ht hi b off len cap x m (ys.map f) (by rw [hsz]; exact hs) hroom
          (fun j hj => by rw [hsz, Nat.mul_one, Nat.add_assoc]; exact (hrm (len + j) (by omega)).1) (fun j hj => by rw [hsz, Nat.mul_one, Nat.add_assoc]; exact (hrm (len + j) (by omega)).2)
        rw [hsz, Nat.mul_one] at this
        exact this
      · have hbl := below_setCells (B := b) b (Nat.le_refl _) (ys.map f) (off + len) (Below.refl b w)
        have hin := World.cell?_setCells_in b (ys.map f) (off + len) w (fun j hj => by rw [Nat.add_assoc]; exact (hrm (len + j) (by omega)).1)
        have hout := fun j (hj : j < len) => World.cell?_setCells_out b (ys.map f) (off + len) w ⟨b, off + j, none⟩ (fun _ _ => .inl (by show off + j < off + len; omega))
        refine ⟨Sl.of (by simp [hl, hyl]) hroom hmx (Nat.lt_of_lt_of_le hlt hbl.size) fun j hj => ?_, fun j hj => ⟨b, off, rfl, hb, Nat.lt_of_lt_of_le hlt hbl.size, ?_, ?_⟩⟩
        · by_cases hjl : j < len
          · rw [hout j hjl, hcl j (by omega), List.getElem_append_left (by omega)]
          · have hj2 : j - len < (ys.map f).length := by simp at hj ⊢; omega
            have := hin (j - len) hj2
            rw [show off + len + (j - len) = off + j by omega] at this
            rw [this, List.getElem_append_right (by omega), List.getElem_map]
            congr 2
            simp [hl]
        · by_cases hjl : j < len
          · rw [hout j hjl]; exact (hrm j hj).1
          · by_cases hj2 : j - len < (ys.map f).length
            · have := hin (j - len) hj2
              rw [show off + len + (j - len) = off + j by omega] at this
              rw [this]; rfl
            · rw [World.cell?_setCells_out b (ys.map f) (off + len) w ⟨b, off + j, none⟩ (fun _ _ => .inr (by show off + len + _ ≤ off + j; omega))]
              exact (hrm j hj).1
        · rw [World.frozen?_setCells]; exact (hrm j hj).2
  · have hgc := grownCap_ge w (len + m) cap e
    have hgm := grownCap_le_maxLen w (len + m) cap e h63
    have hrun := run_append_grow_src (P := P) w t tx ty e i z ht hi hz a len cap (xs.map f) (by rw [hsz]; exact hd.sl.drew.first) x m (ys.map f) (by rw [hsz]; exact hs) (by omega) (by omega) (growslice_fits (by omega) hbytes)
    refine ⟨_, _, _, hrun, ?_, ((Below.refl _ _).drew).alloc hB _, But.of (((Below.refl _ _).drew).alloc (Nat.le_refl _) _)⟩
    refine Own.block hB (heap_alloc_new w.drew _) (by simp [hl, hyl]) hgc hgm (by simp [size_zeroCells, hzs, hl, hyl]; omega) fun j hj => ?_
    have hj' : j < xs.length + ys.length := by simpa using hj
    rw [Array.getElem?_append_left (by simpa using hj')]
    simp only [← List.map_append, List.getElem?_toArray, List.getElem?_map]
    rw [List.getElem?_eq_getElem hj]; rfl


end

/-- 'append(dst, src...)' of bytes. -/
theorem app_but {w : World} {ops : Array Oper} {rest : List Oper} {o : Oper} {act : Act} {Q : Exit → Act → World → Prop} (hw : o.guard = none) (s x : Operand)
    (ho : o.op = .call { callee := .builtin .append, args := #[s, x], argTypes := #[22, 22] }) (B : Nat) {a a2 : Option Addr} {len cap m c2 : Nat} {xs ys : List UInt8}
    (hs : act.eval s = .slice a len cap) (hd : Own byteV w B a len cap xs) (hx : act.eval x = .slice a2 m c2) (hsrc : Bs w a2 m c2 ys) (hsmall : len + m ≤ 1000000) (hB : B ≤ w.heap.size) (g : Nat) (hg : ∀ b off, a = some ⟨b, off, none⟩ → b = g)
    (h : ∀ a' cap' w', Own byteV w' B a' (len + m) cap' (xs ++ ys) → Below B w w' → But g w w' → wpList Try.prog ops Q rest (act.put o.dst (.slice a' (len + m) cap')) w') : wpList Try.prog ops Q (o :: rest) act w := by
  obtain ⟨i0, hi, hz0, hz1, hz2⟩ := info_parts Try.infoB
  obtain ⟨a', cap', w', hr, h2, h3, h4⟩ := run_append_but (P := Try.prog) w B 22 22 o.type 5 i0 (.int .u8 0) Try.underlying22 hi hz0 hz1 rfl a len cap xs hd _ m ys (hsrc.src (fun _ => rfl) Try.underlying22) (by rw [hz2]; omega) (by unfold maxLen; omega) hB g hg
  refine wpList_plain hw fun K' hK' => ?_
  unfold Oper.wp execOp
  simp only [ho, resolve, invoke, builtin, Sem.run_bind, Sem.run_pure, Result.andThen_ok, List.map_toArray, List.map_cons, List.map_nil, hs, hx, hr]
  exact hK' _ _ (h a' cap' w' h2 h3 h4)

/-- Bytes that lie in another block. -/
theorem Sl.aside {α : Type} {f : α → Value} {w w' : World} {a : Option Addr} {len cap : Nat} {xs : List α} (h : Sl f w a len cap xs) {g : Nat} (hb : But g w w') (hn : ∀ b off, a = some ⟨b, off, none⟩ → b ≠ g) : Sl f w' a len cap xs :=
  ⟨h.hlen, h.hle, h.hmax, fun i hi => by
    obtain ⟨b, off, ha, hlt, hc⟩ := h.hcell i hi
    exact ⟨b, off, ha, Nat.lt_of_lt_of_le hlt hb.size, (hb.cell (p := ⟨b, off + i, none⟩) hlt (hn b off ha)).trans hc⟩⟩

end Go.Proofs.Ytolkcohmoalnhaa

namespace Go.Proofs.Ytolkcohmoalnhaa
open Go.RowKit
open Word Bits Cursor

namespace Files
def refG (dir : Int) (c : UInt8) : Frm := if c = 20 ∧ dir = 1 then 1 else 2
def refBytes (dir : Int) (m : MsgM) : List UInt8 := [UInt8.ofNat (encMany (enc (refG dir m.code)) m.recs).length] ++ encMany (enc (refG dir m.code)) m.recs
theorem enc_take (f : Frm) (l : List RecM) (k : Nat) (h : k < l.length) : encMany (enc f) (l.take (k + 1)) = encMany (enc f) (l.take k) ++ enc f l[k] := by
  rw [List.take_succ_eq_append_getElem h, encMany_append]
  simp [encMany]
theorem enc_long (f : Frm) (x : RecM) : (enc f x).length ≤ 7 + 2 * x.words.length := by
  rcases Frm.three f with rfl | rfl | rfl <;> simp [enc, putW_length] <;> omega
theorem enc_take_le (f : Frm) : ∀ (l : List RecM) (k : Nat), (∀ r ∈ l, r.words.length ≤ 300) → (encMany (enc f) (l.take k)).length ≤ 607 * l.length
  | [], k, _ => by simp [encMany]
  | x :: l, 0, _ => by simp [encMany]
  | x :: l, k + 1, h => by
    have h1 := enc_take_le f l k fun r hr => h r (List.mem_cons_of_mem _ hr)
    have h2 := h x List.mem_cons_self
    have h3 := enc_long f x
    rw [List.take_succ_cons, encMany, List.length_append, List.length_cons]
    omega
end Files
/-- A row of bytes does not lie in a part's block. -/
theorem rec_apart {w : World} {b off g : Nat} {y : UInt8} {x : RecM} {a : Option Addr} {l c : Nat} {t : TypeId} (h : w.heap[g]? = some (.cells (partC x (.slice a l c)) t (0, 0))) (hc : w.cell? ⟨b, off, none⟩ = some (byteV y)) : b ≠ g := by
  rintro rfl
  rw [cell_of_row w b off _ _ _ h] at hc
  match off, hc with
  | 0, hc => simp at hc
  | 1, hc => simp at hc
  | 2, hc => simp at hc
  | 3, hc => simp at hc
  | n + 4, hc => simp at hc
theorem row_apart {w : World} {B : Nat} {a : Option Addr} {n c : Nat} {xs : List UInt8} {g : Nat} {x : RecM} {a' : Option Addr} {l c' : Nat} {t : TypeId} (h : w.heap[g]? = some (.cells (partC x (.slice a' l c')) t (0, 0))) (ho : Own byteV w B a n c xs) (hn : 0 < n) :
    ∃ q, (∀ b off, a = some ⟨b, off, none⟩ → b = q) ∧ q ≠ g ∧ q < w.heap.size := by
  obtain ⟨b, off, ha, hlt, hc⟩ := ho.sl.at hn
  have hl := ho.sl.hlen
  refine ⟨b, fun b' off' e => ?_, rec_apart h (hc 0 (by omega)), hlt⟩
  rw [ha] at e
  injection e with e
  injection e with e1
  exact e1.symm

set_option maxRecDepth 20000 in
set_option maxHeartbeats 4000000 in
theorem rbytes_told (v : Value) (m : MsgM) (hc : m.code = 20) (w : World) (hm : MsgAt w v m) (hs : m.Small) :
    Calls Try.prog 32 #[.int .i64 1, v] w fun e w' => (∃ a n c, e = .returned (.slice a n c) ∧ n ≤ 100000 ∧ Bs w' a n c ([UInt8.ofNat (encMany (Files.enc 1) m.recs).length] ++ encMany (Files.enc 1) m.recs)) ∧ Below w.heap.size w w' := by
  obtain ⟨cs, rfl, hsz, hone, hc0⟩ := hm.agg
  have HM := MB.made w cs hm 30
  have b0 := (Below.refl w.heap.size w).alloc (Nat.le_refl _) (.cells cs 30 (0, 0))
  obtain ⟨ar, lr, cr, kr, hr⟩ := HM.c_recs
  have k0 := HM.c_code
  rw [show byteV m.code = .int .u8 (20 : Int) by rw [hc]; rfl] at k0
  clear hc
  have HR := hide hr
  have hlr : lr ≤ 100 := by rw [← hr.hlen]; exact hs.recs
  have HLN := hide hr.hlen
  have HWD := hide hs.part
  have HTK := hide (fun k => Nat.le_trans (Files.enc_take_le 1 m.recs k hs.part) (Nat.mul_le_mul_left 607 hs.recs))
  have z0 := HM.lt
  obtain ⟨l, hl⟩ : ∃ l, l = m.recs := ⟨_, rfl⟩
  rw [← hl] at HR HLN HWD HTK ⊢
  clear hl HM hm hs hr hc0
  go_enter Try.func32, Try.ntmps32
  go_upto_region 1 with (refine wpList_boxC rfl 30 _ rfl cs rfl ?_)
  generalize w.alloc (.cells cs 30 (0, 0)) = u at *
  go_wp2
  go_loopw [6, 5] (fun i s wr => ∃ (k : Nat) (a' : Option Addr) (n c' : Nat), k ≤ lr ∧ i = .int .i64 (k : Int) ∧ s = .slice a' n c' ∧ Own byteV wr u.heap.size a' n c' (encMany (Files.enc 1) (l.take k)) ∧ Below u.heap.size u wr ∧ ∀ y, a' = some y → y.block < wr.heap.size) (fun i _ _ => lr - (intOf i).toNat)
  case atStart => exact ⟨0, none, 0, 0, Nat.zero_le _, rfl, rfl, Own.empty _ _ _, Below.refl _ _, fun y e => by cases e⟩
  case round =>
    obtain ⟨k, a1, n1, c1, hk, rfl, rfl, ho, hbr, hax⟩ := hrel
    have hn1 : n1 ≤ 60700 := by rw [← ho.sl.hlen]; exact HTK.out k
    have HO := hide ho
    have kr1 := (hbr.cell (p := ⟨w.heap.size, 15, none⟩) z0).trans kr
    have hzu := hbr.size
    clear ho
    by_cases hlt : k < lr
    · have hk1 : k < l.length := by rw [HLN.out]; exact hlt
      obtain ⟨b, off, aw, lw, cw, rfl, hbl, hc0, hc1, hc2, hc3, hw1⟩ := HR.out.hcell k hk1
      have hlw : lw ≤ 300 := by rw [← hw1.hlen]; exact HWD.out _ (List.getElem_mem hk1)
      have HX := hide (Files.enc_take 1 l k hk1)
      generalize l[k] = x at *
      have HW := hide hw1
      have HLW := hide hw1.hlen
      replace hc0 := (hbr.cell (p := ⟨b, off + k * 4, none⟩) hbl).trans hc0
      replace hc1 := (hbr.cell (p := ⟨b, off + k * 4 + 1, none⟩) hbl).trans hc1
      replace hc2 := (hbr.cell (p := ⟨b, off + k * 4 + 2, none⟩) hbl).trans hc2
      replace hc3 := (hbr.cell (p := ⟨b, off + k * 4 + 3, none⟩) hbl).trans hc3
      have e7 := heap_alloc_new wr (.cells #[.int .u16 (x.file.toNat : Int), .int .u16 (x.record.toNat : Int), .int .u16 (x.count.toNat : Int), .slice aw lw cw] 43 (0, 0))
      have ba := (Below.refl wr.heap.size wr).alloc (Nat.le_refl _) (.cells #[.int .u16 (x.file.toNat : Int), .int .u16 (x.record.toNat : Int), .int .u16 (x.count.toNat : Int), .slice aw lw cw] 43 (0, 0))
      have hba : Below u.heap.size u (wr.alloc (.cells #[.int .u16 (x.file.toNat : Int), .int .u16 (x.record.toNat : Int), .int .u16 (x.count.toNat : Int), .slice aw lw cw] 43 (0, 0))) := hbr.trans (ba.mono hzu)
      have HOA := hide (HO.out.mono ba)
      obtain ⟨g, hg, hgx⟩ : ∃ g, (∀ b off, a1 = some ⟨b, off, none⟩ → b = g) ∧ g ≠ wr.heap.size := by
        cases a1 with
        | none => exact ⟨wr.heap.size + 1, fun _ _ e => (by cases e), by omega⟩
        | some y => exact ⟨y.block, fun b' off' e => (by cases e; rfl), Nat.ne_of_lt (hax y rfl)⟩
      clear hw1 hbl hax ba
      go_upto_region 6 with fail
      generalize wr.alloc (.cells #[.int .u16 (x.file.toNat : Int), .int .u16 (x.record.toNat : Int), .int .u16 (x.count.toNat : Int), .slice aw lw cw] 43 (0, 0)) = wv at *
      have hzx := lt_of_block e7
      clear HO kr1
      generalize wr.heap.size = xg at *
      have k01 := (hba.cell (p := ⟨w.heap.size, 0, none⟩) z0).trans k0
      have k73 := cell_of_row _ _ 3 _ _ _ e7
      have HE : Hid (Files.enc 1 x = UInt8.ofNat ((2 * lw + 1) % 256) :: 6 :: putW x.words) := hide (by
        show UInt8.ofNat (2 * x.words.length + 1) :: 6 :: putW x.words = _
        rw [HLW.out]
        congr 1
        apply UInt8.toNat_inj.1
        simp)
      go_upto_region 7 with fail
      go_wp2_with (at_builtin; refine app_but (by rfl) _ _ rfl u.heap.size rfl (HOA.out.mono ((Below.refl _ _).alloc (Nat.le_refl _) _)) rfl (two_own wv _ _ ((2 * lw + 1) % 256) 6 (by first | rfl | omega | (simp; omega)) rfl (by omega) (by omega) _).sl (by omega) (Nat.le_trans hba.size (by simp)) g hg ?_)
      intro a3 c3 w3 ho3 hb3 hu3
      have b3 : Below u.heap.size u w3 := (hba.alloc hba.size _).trans hb3
      have e73 := (hu3.block xg (by simp; omega) (Ne.symm hgx)).trans ((Below.heap_alloc _ _ _ hzx).trans e7)
      clear hb3 hu3 hba HOA hg k01
      have HW3 := hide (HW.out.mono b3)
      have HO3 := hide ho3
      have k73 := cell_of_row _ _ 3 _ _ _ e73
      clear ho3 e73
      go_wp2_with fail
      refine (refPut_any _ _ _ _ _ HW3.out (by omega)).mono ?_
      rintro r w4 ⟨⟨a4, c4, rfl, hx4⟩, hb4⟩
      have HO4 := hide (HO3.out.mono hb4)
      have HX4 := hide hx4.sl
      have b4 := b3.trans (hb4.mono b3.size)
      clear HO3 HW3 k73 hx4 hb4
      go_wp2_with (at_builtin; refine app (by rfl) _ _ rfl u.heap.size rfl HO4.out rfl HX4.out (by omega) b4.size ?_)
      intro a5 c5 w5 ho5 hb5
      have HB5 := hide (b4.trans hb5)
      have HA5 : Hid (∀ y, a5 = some y → y.block < w5.heap.size) := hide (fun y e => by
        obtain ⟨q, o, ha, hq, _⟩ := ho5.sl.at (by omega)
        rw [ha] at e
        injection e with e
        rw [← e]
        exact hq)
      have HO5 := hide ho5
      clear HO4 HX4 ho5 hb5 b4 b3
      go_wp2
      go_roundw
      case rel => exact ⟨k + 1, a5, _, c5, by omega, by go_num, rfl, by rw [HX.out, HE.out]; exact HO5.out, HB5.out, HA5.out⟩
      case measure => simp [intOf]; omega
    · have hT : Hid (encMany (Files.enc 1) (l.take k) = encMany (Files.enc 1) l) := hide (by rw [List.take_of_length_le (by rw [HLN.out]; omega)])
      rw [hT.out] at HO
      obtain ⟨L, hL⟩ : ∃ L, L = encMany (Files.enc 1) l := ⟨_, rfl⟩
      rw [← hL] at HO
      have HLL := hide hL
      have hn : n1 = L.length := HO.out.sl.hlen.symm
      obtain ⟨nn, hnn⟩ : ∃ q : Nat, q = n1 % 256 := ⟨_, rfl⟩
      have HU : Hid (UInt8.ofNat L.length = UInt8.ofNat nn) := hide (by
        rw [← UInt8.toNat_inj, UInt8.toNat_ofNat', UInt8.toNat_ofNat', ← hn]
        omega)
      have hcv : ((n1 : Int) % 256) = (nn : Int) := by omega
      have hn6 : nn < 256 := by omega
      have HB := hide hbr
      have HO1 := hide (one_own wr (nn : Int) nn rfl hn6 5)
      have hbl := (Below.refl wr.heap.size wr).alloc (Nat.le_refl _) (.cells #[.int .u8 (nn : Int)] 5 (0, 0))
      have HOW := hide (HO.out.sl.mono hbl)
      have hzl := hbl.size
      clear hL hn hT hnn
      go_wp2_with (at_builtin; refine app (by rfl) _ _ rfl wr.heap.size rfl HO1.out rfl HOW.out (by omega) hzl ?_)
      intro a3 c3 w3 ho3 hb3
      go_wp2
      go_ret
      refine ⟨⟨a3, _, c3, rfl, by omega, ?_⟩, ?_⟩
      · show Bs w3 a3 (1 + n1) c3 ([UInt8.ofNat (encMany (Files.enc 1) l).length] ++ encMany (Files.enc 1) l)
        rw [← HLL.out, HU.out]
        exact ho3.sl
      · have h1 := b0.trans (HB.out.mono b0.size)
        exact h1.trans ((hbl.mono h1.size).trans (hb3.mono h1.size))

set_option maxRecDepth 20000 in
set_option maxHeartbeats 4000000 in
theorem rbytes_ask (dir : Int) (v : Value) (m : MsgM) (hc : m.code = 20) (hd : ¬ dir = 1) (w : World) (hm : MsgAt w v m) (hs : m.Small) :
    Calls Try.prog 32 #[.int .i64 dir, v] w fun e w' => (∃ a n c, e = .returned (.slice a n c) ∧ n ≤ 100000 ∧ Bs w' a n c ([UInt8.ofNat (encMany (Files.enc 2) m.recs).length] ++ encMany (Files.enc 2) m.recs)) ∧ Below w.heap.size w w' := by
  obtain ⟨cs, rfl, hsz, hone, hc0⟩ := hm.agg
  have HM := MB.made w cs hm 30
  have b0 := (Below.refl w.heap.size w).alloc (Nat.le_refl _) (.cells cs 30 (0, 0))
  obtain ⟨ar, lr, cr, kr, hr⟩ := HM.c_recs
  have k0 := HM.c_code
  rw [show byteV m.code = .int .u8 (20 : Int) by rw [hc]; rfl] at k0
  have g1 : (dir == 1) = false := by simpa using hd
  have g2 : decide (dir = 1) = false := by simpa using hd
  clear hc hd
  have HR := hide hr
  have hlr : lr ≤ 100 := by rw [← hr.hlen]; exact hs.recs
  have HLN := hide hr.hlen
  have HWD := hide hs.part
  have HTK := hide (fun k => Nat.le_trans (Files.enc_take_le 2 m.recs k hs.part) (Nat.mul_le_mul_left 607 hs.recs))
  have z0 := HM.lt
  obtain ⟨l, hl⟩ : ∃ l, l = m.recs := ⟨_, rfl⟩
  rw [← hl] at HR HLN HWD HTK ⊢
  clear hl HM hm hs hr hc0
  go_enter Try.func32, Try.ntmps32
  go_upto_region 1 with (refine wpList_boxC rfl 30 _ rfl cs rfl ?_)
  generalize w.alloc (.cells cs 30 (0, 0)) = u at *
  go_wp2
  go_loopw [6, 5] (fun i s wr => ∃ (k : Nat) (a' : Option Addr) (n c' : Nat), k ≤ lr ∧ i = .int .i64 (k : Int) ∧ s = .slice a' n c' ∧ Own byteV wr u.heap.size a' n c' (encMany (Files.enc 2) (l.take k)) ∧ Below u.heap.size u wr ∧ ∀ y, a' = some y → y.block < wr.heap.size) (fun i _ _ => lr - (intOf i).toNat)
  case atStart => exact ⟨0, none, 0, 0, Nat.zero_le _, rfl, rfl, Own.empty _ _ _, Below.refl _ _, fun y e => by cases e⟩
  case round =>
    obtain ⟨k, a1, n1, c1, hk, rfl, rfl, ho, hbr, hax⟩ := hrel
    have hn1 : n1 ≤ 60700 := by rw [← ho.sl.hlen]; exact HTK.out k
    have HO := hide ho
    have kr1 := (hbr.cell (p := ⟨w.heap.size, 15, none⟩) z0).trans kr
    have hzu := hbr.size
    clear ho
    by_cases hlt : k < lr
    · have hk1 : k < l.length := by rw [HLN.out]; exact hlt
      obtain ⟨b, off, aw, lw, cw, rfl, hbl, hc0, hc1, hc2, hc3, hw1⟩ := HR.out.hcell k hk1
      have hlw : lw ≤ 300 := by rw [← hw1.hlen]; exact HWD.out _ (List.getElem_mem hk1)
      have HX := hide (Files.enc_take 2 l k hk1)
      generalize l[k] = x at *
      have HW := hide hw1
      have HLW := hide hw1.hlen
      replace hc0 := (hbr.cell (p := ⟨b, off + k * 4, none⟩) hbl).trans hc0
      replace hc1 := (hbr.cell (p := ⟨b, off + k * 4 + 1, none⟩) hbl).trans hc1
      replace hc2 := (hbr.cell (p := ⟨b, off + k * 4 + 2, none⟩) hbl).trans hc2
      replace hc3 := (hbr.cell (p := ⟨b, off + k * 4 + 3, none⟩) hbl).trans hc3
      have e7 := heap_alloc_new wr (.cells #[.int .u16 (x.file.toNat : Int), .int .u16 (x.record.toNat : Int), .int .u16 (x.count.toNat : Int), .slice aw lw cw] 43 (0, 0))
      have ba := (Below.refl wr.heap.size wr).alloc (Nat.le_refl _) (.cells #[.int .u16 (x.file.toNat : Int), .int .u16 (x.record.toNat : Int), .int .u16 (x.count.toNat : Int), .slice aw lw cw] 43 (0, 0))
      have hba : Below u.heap.size u (wr.alloc (.cells #[.int .u16 (x.file.toNat : Int), .int .u16 (x.record.toNat : Int), .int .u16 (x.count.toNat : Int), .slice aw lw cw] 43 (0, 0))) := hbr.trans (ba.mono hzu)
      have HOA := hide (HO.out.mono ba)
      obtain ⟨g, hg, hgx⟩ : ∃ g, (∀ b off, a1 = some ⟨b, off, none⟩ → b = g) ∧ g ≠ wr.heap.size := by
        cases a1 with
        | none => exact ⟨wr.heap.size + 1, fun _ _ e => (by cases e), by omega⟩
        | some y => exact ⟨y.block, fun b' off' e => (by cases e; rfl), Nat.ne_of_lt (hax y rfl)⟩
      clear hw1 hbl hax ba
      go_upto_region 6 with fail
      generalize wr.alloc (.cells #[.int .u16 (x.file.toNat : Int), .int .u16 (x.record.toNat : Int), .int .u16 (x.count.toNat : Int), .slice aw lw cw] 43 (0, 0)) = wv at *
      have hzx := lt_of_block e7
      clear HO kr1
      generalize wr.heap.size = xg at *
      have k01 := (hba.cell (p := ⟨w.heap.size, 0, none⟩) z0).trans k0
      have k73 := cell_of_row _ _ 3 _ _ _ e7
      have HE : Hid (Files.enc 2 x = 6 :: (putW [x.file, x.record, x.count] ++ putW x.words)) := hide rfl
      go_upto_region 8 with fail
      go_wp2_with (at_builtin; refine app_but (by rfl) _ _ rfl u.heap.size rfl (HOA.out.mono ((Below.refl _ _).alloc (Nat.le_refl _) _)) rfl (one_own wv 6 6 rfl (by omega) _).sl (by omega) (Nat.le_trans hba.size (by simp)) g hg ?_)
      intro a0 c0 w1 ho1 hb1 hu1
      have b1 : Below u.heap.size u w1 := (hba.alloc hba.size _).trans hb1
      have e71 := (hu1.block xg (by simp; omega) (Ne.symm hgx)).trans ((Below.heap_alloc _ _ _ hzx).trans e7)
      obtain ⟨g2, hg2, hgx2, hgz2⟩ := row_apart e71 ho1 (by omega)
      have k70 := cell_of_row _ _ 0 _ _ _ e71
      have k71 := cell_of_row _ _ 1 _ _ _ e71
      have k72 := cell_of_row _ _ 2 _ _ _ e71
      have HO1 := hide ho1
      clear hb1 hu1 hba HOA hg k01 k73 ho1 hzx
      go_wp2_with fail
      have hlit : Ws (w1.alloc (.cells #[.int .u16 (x.file.toNat : Int), .int .u16 (x.record.toNat : Int), .int .u16 (x.count.toNat : Int)] 24 (0, 0))) (some ⟨w1.heap.size, 0, none⟩) 3 3 [x.file, x.record, x.count] := Sl.fresh w1 [x.file, x.record, x.count] [.int .u16 (x.file.toNat : Int), .int .u16 (x.record.toNat : Int), .int .u16 (x.count.toNat : Int)] _ _ 3 rfl (by unfold maxLen; omega) rfl
      have bl := (Below.refl w1.heap.size w1).alloc (Nat.le_refl _) (.cells #[.int .u16 (x.file.toNat : Int), .int .u16 (x.record.toNat : Int), .int .u16 (x.count.toNat : Int)] 24 (0, 0))
      refine (refPut_any _ _ _ _ _ hlit (by omega)).mono ?_
      rintro r w2 ⟨⟨a2, c2, rfl, hx2⟩, hb2⟩
      have hb12 : Below w1.heap.size w1 w2 := bl.trans (hb2.mono bl.size)
      have HO2 := hide (HO1.out.mono hb12)
      have e72 := (hb12.block xg (lt_of_block e71)).trans e71
      have b2 := b1.trans (hb12.mono b1.size)
      have HX2 := hide hx2.sl
      clear HO1 hlit bl hb2 hx2 hb12 k70 k71 k72 e71 b1
      go_wp2_with (at_builtin; refine app_but (by rfl) _ _ rfl u.heap.size rfl HO2.out rfl HX2.out (by omega) b2.size g2 hg2 ?_)
      intro a3 c3 w3 ho3 hb3 hu3
      have b3 := b2.trans hb3
      have e73 := (hu3.block xg (lt_of_block e72) (Ne.symm hgx2)).trans e72
      clear hb3 hu3 b2 HO2 HX2 hg2
      have HW3 := hide (HW.out.mono b3)
      have HO3 := hide ho3
      have k73 := cell_of_row _ _ 3 _ _ _ e73
      clear ho3 e73
      go_wp2_with fail
      refine (refPut_any _ _ _ _ _ HW3.out (by omega)).mono ?_
      rintro r w4 ⟨⟨a4, c4, rfl, hx4⟩, hb4⟩
      have HO4 := hide (HO3.out.mono hb4)
      have HX4 := hide hx4.sl
      have b4 := b3.trans (hb4.mono b3.size)
      clear HO3 HW3 k73 hx4 hb4
      go_wp2_with (at_builtin; refine app (by rfl) _ _ rfl u.heap.size rfl HO4.out rfl HX4.out (by omega) b4.size ?_)
      intro a5 c5 w5 ho5 hb5
      have HB5 := hide (b4.trans hb5)
      have HA5 : Hid (∀ y, a5 = some y → y.block < w5.heap.size) := hide (fun y e => by
        obtain ⟨q, o, ha, hq, _⟩ := ho5.sl.at (by omega)
        rw [ha] at e
        injection e with e
        rw [← e]
        exact hq)
      have HO5 := hide ho5
      clear HO4 HX4 ho5 hb5 b4 b3
      go_wp2
      go_roundw
      case rel => exact ⟨k + 1, a5, _, c5, by omega, by go_num, rfl, by rw [HX.out, HE.out]; exact HO5.out, HB5.out, HA5.out⟩
      case measure => simp [intOf]; omega
    · have hT : Hid (encMany (Files.enc 2) (l.take k) = encMany (Files.enc 2) l) := hide (by rw [List.take_of_length_le (by rw [HLN.out]; omega)])
      rw [hT.out] at HO
      obtain ⟨L, hL⟩ : ∃ L, L = encMany (Files.enc 2) l := ⟨_, rfl⟩
      rw [← hL] at HO
      have HLL := hide hL
      have hn : n1 = L.length := HO.out.sl.hlen.symm
      obtain ⟨nn, hnn⟩ : ∃ q : Nat, q = n1 % 256 := ⟨_, rfl⟩
      have HU : Hid (UInt8.ofNat L.length = UInt8.ofNat nn) := hide (by
        rw [← UInt8.toNat_inj, UInt8.toNat_ofNat', UInt8.toNat_ofNat', ← hn]
        omega)
      have hcv : ((n1 : Int) % 256) = (nn : Int) := by omega
      have hn6 : nn < 256 := by omega
      have HB := hide hbr
      have HO1 := hide (one_own wr (nn : Int) nn rfl hn6 5)
      have hbl := (Below.refl wr.heap.size wr).alloc (Nat.le_refl _) (.cells #[.int .u8 (nn : Int)] 5 (0, 0))
      have HOW := hide (HO.out.sl.mono hbl)
      have hzl := hbl.size
      clear hL hn hT hnn
      go_wp2_with (at_builtin; refine app (by rfl) _ _ rfl wr.heap.size rfl HO1.out rfl HOW.out (by omega) hzl ?_)
      intro a3 c3 w3 ho3 hb3
      go_wp2
      go_ret
      refine ⟨⟨a3, _, c3, rfl, by omega, ?_⟩, ?_⟩
      · show Bs w3 a3 (1 + n1) c3 ([UInt8.ofNat (encMany (Files.enc 2) l).length] ++ encMany (Files.enc 2) l)
        rw [← HLL.out, HU.out]
        exact ho3.sl
      · have h1 := b0.trans (HB.out.mono b0.size)
        exact h1.trans ((hbl.mono h1.size).trans (hb3.mono h1.size))

set_option maxRecDepth 20000 in
set_option maxHeartbeats 4000000 in
theorem rbytes_both (dir : Int) (v : Value) (m : MsgM) (hc : ¬ m.code = 20) (w : World) (hm : MsgAt w v m) (hs : m.Small) :
    Calls Try.prog 32 #[.int .i64 dir, v] w fun e w' => (∃ a n c, e = .returned (.slice a n c) ∧ n ≤ 100000 ∧ Bs w' a n c ([UInt8.ofNat (encMany (Files.enc 2) m.recs).length] ++ encMany (Files.enc 2) m.recs)) ∧ Below w.heap.size w w' := by
  obtain ⟨cs, rfl, hsz, hone, hc0⟩ := hm.agg
  have HM := MB.made w cs hm 30
  have b0 := (Below.refl w.heap.size w).alloc (Nat.le_refl _) (.cells cs 30 (0, 0))
  obtain ⟨ar, lr, cr, kr, hr⟩ := HM.c_recs
  have k0 := HM.c_code
  obtain ⟨kc, hkc⟩ : ∃ n, n = m.code.toNat := ⟨_, rfl⟩
  rw [show byteV m.code = .int .u8 (kc : Int) by rw [hkc]] at k0
  have hk20 : ¬ kc = 20 := fun e => hc (UInt8.toNat_inj.1 (by rw [← hkc, e]; rfl))
  have g1 : ((kc : Int) == 20) = false := by simp; omega
  have g2 : decide ((kc : Int) = 20) = false := by simp; omega
  clear hc hkc
  have HR := hide hr
  have hlr : lr ≤ 100 := by rw [← hr.hlen]; exact hs.recs
  have HLN := hide hr.hlen
  have HWD := hide hs.part
  have HTK := hide (fun k => Nat.le_trans (Files.enc_take_le 2 m.recs k hs.part) (Nat.mul_le_mul_left 607 hs.recs))
  have z0 := HM.lt
  obtain ⟨l, hl⟩ : ∃ l, l = m.recs := ⟨_, rfl⟩
  rw [← hl] at HR HLN HWD HTK ⊢
  clear hl HM hm hs hr hc0
  go_enter Try.func32, Try.ntmps32
  go_upto_region 1 with (refine wpList_boxC rfl 30 _ rfl cs rfl ?_)
  generalize w.alloc (.cells cs 30 (0, 0)) = u at *
  go_wp2
  go_loopw [6, 5] (fun i s wr => ∃ (k : Nat) (a' : Option Addr) (n c' : Nat), k ≤ lr ∧ i = .int .i64 (k : Int) ∧ s = .slice a' n c' ∧ Own byteV wr u.heap.size a' n c' (encMany (Files.enc 2) (l.take k)) ∧ Below u.heap.size u wr ∧ ∀ y, a' = some y → y.block < wr.heap.size) (fun i _ _ => lr - (intOf i).toNat)
  case atStart => exact ⟨0, none, 0, 0, Nat.zero_le _, rfl, rfl, Own.empty _ _ _, Below.refl _ _, fun y e => by cases e⟩
  case round =>
    obtain ⟨k, a1, n1, c1, hk, rfl, rfl, ho, hbr, hax⟩ := hrel
    have hn1 : n1 ≤ 60700 := by rw [← ho.sl.hlen]; exact HTK.out k
    have HO := hide ho
    have kr1 := (hbr.cell (p := ⟨w.heap.size, 15, none⟩) z0).trans kr
    have hzu := hbr.size
    clear ho
    by_cases hlt : k < lr
    · have hk1 : k < l.length := by rw [HLN.out]; exact hlt
      obtain ⟨b, off, aw, lw, cw, rfl, hbl, hc0, hc1, hc2, hc3, hw1⟩ := HR.out.hcell k hk1
      have hlw : lw ≤ 300 := by rw [← hw1.hlen]; exact HWD.out _ (List.getElem_mem hk1)
      have HX := hide (Files.enc_take 2 l k hk1)
      generalize l[k] = x at *
      have HW := hide hw1
      have HLW := hide hw1.hlen
      replace hc0 := (hbr.cell (p := ⟨b, off + k * 4, none⟩) hbl).trans hc0
      replace hc1 := (hbr.cell (p := ⟨b, off + k * 4 + 1, none⟩) hbl).trans hc1
      replace hc2 := (hbr.cell (p := ⟨b, off + k * 4 + 2, none⟩) hbl).trans hc2
      replace hc3 := (hbr.cell (p := ⟨b, off + k * 4 + 3, none⟩) hbl).trans hc3
      have e7 := heap_alloc_new wr (.cells #[.int .u16 (x.file.toNat : Int), .int .u16 (x.record.toNat : Int), .int .u16 (x.count.toNat : Int), .slice aw lw cw] 43 (0, 0))
      have ba := (Below.refl wr.heap.size wr).alloc (Nat.le_refl _) (.cells #[.int .u16 (x.file.toNat : Int), .int .u16 (x.record.toNat : Int), .int .u16 (x.count.toNat : Int), .slice aw lw cw] 43 (0, 0))
      have hba : Below u.heap.size u (wr.alloc (.cells #[.int .u16 (x.file.toNat : Int), .int .u16 (x.record.toNat : Int), .int .u16 (x.count.toNat : Int), .slice aw lw cw] 43 (0, 0))) := hbr.trans (ba.mono hzu)
      have HOA := hide (HO.out.mono ba)
      obtain ⟨g, hg, hgx⟩ : ∃ g, (∀ b off, a1 = some ⟨b, off, none⟩ → b = g) ∧ g ≠ wr.heap.size := by
        cases a1 with
        | none => exact ⟨wr.heap.size + 1, fun _ _ e => (by cases e), by omega⟩
        | some y => exact ⟨y.block, fun b' off' e => (by cases e; rfl), Nat.ne_of_lt (hax y rfl)⟩
      clear hw1 hbl hax ba
      go_upto_region 6 with fail
      generalize wr.alloc (.cells #[.int .u16 (x.file.toNat : Int), .int .u16 (x.record.toNat : Int), .int .u16 (x.count.toNat : Int), .slice aw lw cw] 43 (0, 0)) = wv at *
      have hzx := lt_of_block e7
      clear HO kr1
      generalize wr.heap.size = xg at *
      have k01 := (hba.cell (p := ⟨w.heap.size, 0, none⟩) z0).trans k0
      have k73 := cell_of_row _ _ 3 _ _ _ e7
      have HE : Hid (Files.enc 2 x = 6 :: (putW [x.file, x.record, x.count] ++ putW x.words)) := hide rfl
      go_upto_region 8 with fail
      go_wp2_with (at_builtin; refine app_but (by rfl) _ _ rfl u.heap.size rfl (HOA.out.mono ((Below.refl _ _).alloc (Nat.le_refl _) _)) rfl (one_own wv 6 6 rfl (by omega) _).sl (by omega) (Nat.le_trans hba.size (by simp)) g hg ?_)
      intro a0 c0 w1 ho1 hb1 hu1
      have b1 : Below u.heap.size u w1 := (hba.alloc hba.size _).trans hb1
      have e71 := (hu1.block xg (by simp; omega) (Ne.symm hgx)).trans ((Below.heap_alloc _ _ _ hzx).trans e7)
      obtain ⟨g2, hg2, hgx2, hgz2⟩ := row_apart e71 ho1 (by omega)
      have k70 := cell_of_row _ _ 0 _ _ _ e71
      have k71 := cell_of_row _ _ 1 _ _ _ e71
      have k72 := cell_of_row _ _ 2 _ _ _ e71
      have HO1 := hide ho1
      clear hb1 hu1 hba HOA hg k01 k73 ho1 hzx
      go_wp2_with fail
      have hlit : Ws (w1.alloc (.cells #[.int .u16 (x.file.toNat : Int), .int .u16 (x.record.toNat : Int), .int .u16 (x.count.toNat : Int)] 24 (0, 0))) (some ⟨w1.heap.size, 0, none⟩) 3 3 [x.file, x.record, x.count] := Sl.fresh w1 [x.file, x.record, x.count] [.int .u16 (x.file.toNat : Int), .int .u16 (x.record.toNat : Int), .int .u16 (x.count.toNat : Int)] _ _ 3 rfl (by unfold maxLen; omega) rfl
      have bl := (Below.refl w1.heap.size w1).alloc (Nat.le_refl _) (.cells #[.int .u16 (x.file.toNat : Int), .int .u16 (x.record.toNat : Int), .int .u16 (x.count.toNat : Int)] 24 (0, 0))
      refine (refPut_any _ _ _ _ _ hlit (by omega)).mono ?_
      rintro r w2 ⟨⟨a2, c2, rfl, hx2⟩, hb2⟩
      have hb12 : Below w1.heap.size w1 w2 := bl.trans (hb2.mono bl.size)
      have HO2 := hide (HO1.out.mono hb12)
      have e72 := (hb12.block xg (lt_of_block e71)).trans e71
      have b2 := b1.trans (hb12.mono b1.size)
      have HX2 := hide hx2.sl
      clear HO1 hlit bl hb2 hx2 hb12 k70 k71 k72 e71 b1
      go_wp2_with (at_builtin; refine app_but (by rfl) _ _ rfl u.heap.size rfl HO2.out rfl HX2.out (by omega) b2.size g2 hg2 ?_)
      intro a3 c3 w3 ho3 hb3 hu3
      have b3 := b2.trans hb3
      have e73 := (hu3.block xg (lt_of_block e72) (Ne.symm hgx2)).trans e72
      clear hb3 hu3 b2 HO2 HX2 hg2
      have HW3 := hide (HW.out.mono b3)
      have HO3 := hide ho3
      have k73 := cell_of_row _ _ 3 _ _ _ e73
      clear ho3 e73
      go_wp2_with fail
      refine (refPut_any _ _ _ _ _ HW3.out (by omega)).mono ?_
      rintro r w4 ⟨⟨a4, c4, rfl, hx4⟩, hb4⟩
      have HO4 := hide (HO3.out.mono hb4)
      have HX4 := hide hx4.sl
      have b4 := b3.trans (hb4.mono b3.size)
      clear HO3 HW3 k73 hx4 hb4
      go_wp2_with (at_builtin; refine app (by rfl) _ _ rfl u.heap.size rfl HO4.out rfl HX4.out (by omega) b4.size ?_)
      intro a5 c5 w5 ho5 hb5
      have HB5 := hide (b4.trans hb5)
      have HA5 : Hid (∀ y, a5 = some y → y.block < w5.heap.size) := hide (fun y e => by
        obtain ⟨q, o, ha, hq, _⟩ := ho5.sl.at (by omega)
        rw [ha] at e
        injection e with e
        rw [← e]
        exact hq)
      have HO5 := hide ho5
      clear HO4 HX4 ho5 hb5 b4 b3
      go_wp2
      go_roundw
      case rel => exact ⟨k + 1, a5, _, c5, by omega, by go_num, rfl, by rw [HX.out, HE.out]; exact HO5.out, HB5.out, HA5.out⟩
      case measure => simp [intOf]; omega
    · have hT : Hid (encMany (Files.enc 2) (l.take k) = encMany (Files.enc 2) l) := hide (by rw [List.take_of_length_le (by rw [HLN.out]; omega)])
      rw [hT.out] at HO
      obtain ⟨L, hL⟩ : ∃ L, L = encMany (Files.enc 2) l := ⟨_, rfl⟩
      rw [← hL] at HO
      have HLL := hide hL
      have hn : n1 = L.length := HO.out.sl.hlen.symm
      obtain ⟨nn, hnn⟩ : ∃ q : Nat, q = n1 % 256 := ⟨_, rfl⟩
      have HU : Hid (UInt8.ofNat L.length = UInt8.ofNat nn) := hide (by
        rw [← UInt8.toNat_inj, UInt8.toNat_ofNat', UInt8.toNat_ofNat', ← hn]
        omega)
      have hcv : ((n1 : Int) % 256) = (nn : Int) := by omega
      have hn6 : nn < 256 := by omega
      have HB := hide hbr
      have HO1 := hide (one_own wr (nn : Int) nn rfl hn6 5)
      have hbl := (Below.refl wr.heap.size wr).alloc (Nat.le_refl _) (.cells #[.int .u8 (nn : Int)] 5 (0, 0))
      have HOW := hide (HO.out.sl.mono hbl)
      have hzl := hbl.size
      clear hL hn hT hnn
      go_wp2_with (at_builtin; refine app (by rfl) _ _ rfl wr.heap.size rfl HO1.out rfl HOW.out (by omega) hzl ?_)
      intro a3 c3 w3 ho3 hb3
      go_wp2
      go_ret
      refine ⟨⟨a3, _, c3, rfl, by omega, ?_⟩, ?_⟩
      · show Bs w3 a3 (1 + n1) c3 ([UInt8.ofNat (encMany (Files.enc 2) l).length] ++ encMany (Files.enc 2) l)
        rw [← HLL.out, HU.out]
        exact ho3.sl
      · have h1 := b0.trans (HB.out.mono b0.size)
        exact h1.trans ((hbl.mono h1.size).trans (hb3.mono h1.size))

namespace Files
theorem refBytes_form (dir : Int) (m : MsgM) (f : Frm) (h : formOf dir m.code = some f) : refBytes dir m = f.bytes m := by
  have e0 : enc 0 = enc 2 := by funext x; rfl
  unfold refBytes refG Frm.bytes
  rcases form_dir dir m.code f h with rfl | rfl
  · by_cases hc : m.code = 20
    · rw [if_neg (by simp)]
      rw [hc] at h
      cases h
      rw [e0]
    · rw [if_neg (fun e => hc e.1)]
      have hf : f = 2 := by
        simp [formOf, hc] at h
        exact h.2.symm
      rw [hf]
  · by_cases hc : m.code = 20
    · rw [if_pos ⟨hc, rfl⟩]
      rw [hc] at h
      cases h
      rfl
    · rw [if_neg (fun e => hc e.1)]
      have hf : f = 2 := by
        simp [formOf, hc] at h
        exact h.2.symm
      rw [hf]
theorem write_ref (dir : Int) (m : MsgM) : write dir m = if (parse dir m.code (refBytes dir m)).2 = 0 ∧ MsgM.same (parse dir m.code (refBytes dir m)).1 m = true then some (refBytes dir m) else none :=
  Pack.write_ref (X := pack) refBytes refBytes_form dir m
end Files
theorem refBytesOf_any (dir : Int) (v : Value) (m : MsgM) (w : World) (hm : MsgAt w v m) (hs : m.Small) :
    Calls Try.prog 32 #[.int .i64 dir, v] w fun e w' => (∃ a n c, e = .returned (.slice a n c) ∧ n ≤ 100000 ∧ Bs w' a n c (Files.refBytes dir m)) ∧ Below w.heap.size w w' := by
  unfold Files.refBytes Files.refG
  by_cases hc : m.code = 20
  · by_cases hd : dir = 1
    · subst hd
      rw [if_pos ⟨hc, rfl⟩]
      exact rbytes_told v m hc w hm hs
    · rw [if_neg (fun e => hd e.2)]
      exact rbytes_ask dir v m hc hd w hm hs
  · rw [if_neg (fun e => hc e.1)]
    exact rbytes_both dir v m hc w hm hs

end Go.Proofs.Ytolkcohmoalnhaa
