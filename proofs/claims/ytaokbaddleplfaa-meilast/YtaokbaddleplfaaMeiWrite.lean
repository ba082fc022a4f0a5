/-
  Package mei: the contracts of the closures that write forms, and of what may fit.
-/
import Derived.Test.YtaokbaddleplfaaMeiForm
import Derived.Test.YtaokbaddleplfaaAppBut
import Derived.Test.YtaokbaddleplfaaSmall
import Derived.Test.YtaokbaddleplfaaMsgRow
namespace Go.Proofs.Ytaokbaddleplfaa
open Go.RowKit
open Word Bits Cursor

namespace Mei
theorem objs_take (l : List ObjM) (k : Nat) (h : k < l.length) : encObjs (l.take (k + 1)) = encObjs (l.take k) ++ encObj l[k] := by
  rw [List.take_succ_eq_append_getElem h, objs_append]
  simp [encObjs]
theorem objs_take_le (l : List ObjM) (h : ∀ o ∈ l, o.value.length ≤ 300) (k : Nat) : (encObjs (l.take k)).length ≤ 302 * l.length :=
  Nat.le_trans (objs_len _ fun o ho => h o (List.mem_of_mem_take ho)) (Nat.mul_le_mul_left _ (by simp; omega))
theorem at_lt {w : World} {B : Nat} {a : Option Addr} {len cap : Nat} {xs : List UInt8} (h : Own byteV w B a len cap xs) (hl : 0 < len) : ∀ x, a = some x → x.block < w.heap.size := fun x e => by
  obtain ⟨b, off, ha, _, hlt, _⟩ := h.room 0 (by have := h.sl.hle; omega)
  rw [ha] at e
  injection e with e
  rw [← e]; exact hlt
theorem but_of (a : Option Addr) (S : Nat) (h : ∀ x, a = some x → x.block < S) : ∃ g, g ≠ S ∧ ∀ b off, a = some ⟨b, off, none⟩ → b = g := by
  cases a with
  | none => exact ⟨S + 1, by omega, fun _ _ e => by cases e⟩
  | some x => exact ⟨x.block, by have := h x rfl; omega, fun b off e => by injection e with e; rw [e]⟩
theorem two_lit (w : World) (x y : UInt8) (t : TypeId) : Bs (w.alloc (.cells #[byteV x, byteV y] t)) (some ⟨w.heap.size, 0, none⟩) 2 2 [x, y] :=
  Sl.fresh w [x, y] _ t _ 2 rfl (by unfold maxLen; omega) rfl
theorem five_lit (w : World) (x1 x2 x3 x4 : UInt8) (v : Int) (n : Nat) (hv : v = ((n % 256 : Nat) : Int)) (t : TypeId) : Own byteV (w.alloc (.cells #[byteV x1, byteV x2, byteV x3, byteV x4, .int .u8 v] t)) w.heap.size (some ⟨w.heap.size, 0, none⟩) 5 5 [x1, x2, x3, x4, UInt8.ofNat n] :=
  Own.fresh w [x1, x2, x3, x4, UInt8.ofNat n] [byteV x1, byteV x2, byteV x3, byteV x4, .int .u8 v] t 5 rfl (by unfold maxLen; omega) (by subst hv; simp only [List.map_cons, List.map_nil, byteV, UInt8.toNat_ofNat'])
end Mei

set_option maxRecDepth 20000 in
set_option maxHeartbeats 2000000 in
theorem otherWrite_any (v : Value) (m : MsgM) (w : World) (hm : MsgAt w v m) (hs : m.Small) :
    Calls Try.prog 54 #[v] w fun e w' => (∃ a n c, e = .returned (.slice a n c) ∧ n ≤ 91000 ∧ Bs w' a n c m.data) ∧ Below w.heap.size w w' := by
  obtain ⟨cs, rfl, hsz, hone, _⟩ := hm.agg
  have HM := MB.made w cs hm 30
  have b0 := (Below.refl w.heap.size w).alloc (Nat.le_refl _) (.cells cs 30 (0, 0))
  obtain ⟨ad, ld, cd, kd, hd⟩ := HM.c_data
  have hld : ld ≤ 50000 := by rw [← hd.hlen]; exact hs.data
  have HD := hide hd
  clear HM hd
  go_enter Try.func54, Try.ntmps54
  go_upto_region 1 with (refine wpList_boxC rfl 30 _ rfl cs rfl ?_)
  generalize w.alloc (.cells cs 30 (0, 0)) = u at *
  go_wp2
  go_ret
  exact ⟨⟨_, _, _, rfl, by omega, HD.out⟩, b0⟩

set_option maxRecDepth 20000 in
set_option maxHeartbeats 2000000 in
theorem askWrite_any (v : Value) (m : MsgM) (w : World) (hm : MsgAt w v m) :
    Calls Try.prog 58 #[v] w fun e w' => (∃ a n c, e = .returned (.slice a n c) ∧ n ≤ 91000 ∧ Bs w' a n c ([m.kind] ++ [m.next])) ∧ Below w.heap.size w w' := by
  obtain ⟨cs, rfl, hsz, hone, _⟩ := hm.agg
  have HM := MB.made w cs hm 30
  have b0 := (Below.refl w.heap.size w).alloc (Nat.le_refl _) (.cells cs 30 (0, 0))
  have k1 := HM.c_kind
  have k2 := HM.c_next
  clear HM
  go_enter Try.func58, Try.ntmps58
  go_upto_region 1 with (refine wpList_boxC rfl 30 _ rfl cs rfl ?_)
  generalize w.alloc (.cells cs 30 (0, 0)) = u at *
  have hl := Mei.two_lit u m.kind m.next 5
  go_wp2
  go_ret
  exact ⟨⟨_, _, _, rfl, by omega, hl⟩, b0.alloc b0.size _⟩

set_option maxRecDepth 20000 in
set_option maxHeartbeats 2000000 in
theorem writeObjects_any (a : Option Addr) (len cap : Nat) (l : List ObjM) (w : World) (hx : Obs w a len cap l) (hs : ∀ o ∈ l, o.value.length ≤ 300) (hlm : len ≤ 300) :
    Calls Try.prog 64 #[.slice a len cap] w fun e w' => (∃ a' n c', e = .returned (.slice a' n c') ∧ n ≤ 90600 ∧ Bs w' a' n c' (Mei.encObjs l)) ∧ Below w.heap.size w w' := by
  have HOB := hide hx
  have HLN := hide hx.hlen
  have HOV := hide hs
  have HTK : Hid (∀ k, (Mei.encObjs (l.take k)).length ≤ 90600) := hide (fun k => by
    have h1 := Mei.objs_take_le l hs k
    have h2 := hx.hlen
    omega)
  clear hs hx
  go_enter Try.func64, Try.ntmps64
  go_wp2_with fail
  go_loopw [8, 3] (fun i s wr => ∃ (k : Nat) (a' : Option Addr) (n c' : Nat), k ≤ len ∧ i = .int .i64 (k : Int) ∧ s = .slice a' n c' ∧ Own byteV wr w.heap.size a' n c' (Mei.encObjs (l.take k)) ∧ (∀ x, a' = some x → x.block < wr.heap.size) ∧ Below w.heap.size w wr) (fun i _ _ => len - (intOf i).toNat)
  case atStart => exact ⟨0, none, 0, 0, Nat.zero_le _, rfl, rfl, by simpa [Mei.encObjs] using Own.empty w w.heap.size none, fun _ e => (by cases e), Below.refl _ _⟩
  case round =>
    obtain ⟨k, a1, n1, c1, hk, rfl, rfl, ho, hat, hbr⟩ := hrel
    have hn1 : n1 ≤ 90600 := by rw [← ho.sl.hlen]; exact HTK.out k
    have HO := hide ho
    clear ho
    by_cases hlt : k < len
    · have hk1 : k < l.length := by rw [HLN.out]; exact hlt
      obtain ⟨b, off, ad, ld, cd, rfl, hbl, hc0, hc1, hx⟩ := HOB.out.hcell k hk1
      have hld : ld ≤ 300 := by rw [← hx.hlen]; exact HOV.out _ (List.getElem_mem hk1)
      have HT := hide (Mei.objs_take l k hk1)
      have HXL := hide hx.hlen
      generalize l[k] = x at *
      obtain ⟨ni, hni⟩ : ∃ n : Nat, n = x.id.toNat := ⟨_, rfl⟩
      have hnb : ni < 256 := by rw [hni]; exact byte_lt _
      rw [show byteV x.id = .int .u8 (ni : Int) by rw [hni]] at hc0
      have HNI := hide hni
      obtain ⟨lb, hlb⟩ : ∃ n : Nat, n = ld % 256 := ⟨_, rfl⟩
      have hlbb : lb < 256 := by omega
      have hw8 : IntKind.u8.wrap (ld : Int) = (lb : Int) := by rw [IntKind.wrap_u8]; omega
      have HLB := hide hlb
      replace hc0 := (hbr.cell (p := ⟨b, off + k * 2, none⟩) hbl).trans hc0
      replace hc1 := (hbr.cell (p := ⟨b, off + k * 2 + 1, none⟩) hbl).trans hc1
      have HXU := hide hx
      have hki : (k : Int) < (len : Int) := by omega
      obtain ⟨g, hgn, hg⟩ := Mei.but_of a1 wr.heap.size hat
      have g1 := heap_alloc_new wr (.cells #[.int .u8 (ni : Int), .slice ad ld cd] 43 (0, 0))
      have b1 := (Below.refl wr.heap.size wr).alloc (Nat.le_refl _) (.cells #[.int .u8 (ni : Int), .slice ad ld cd] 43 (0, 0))
      have HG := hide hg
      clear hx hni hlb hg
      go_upto_region 5 with fail
      have hS := lt_of_block g1
      generalize wr.alloc (.cells #[.int .u8 (ni : Int), .slice ad ld cd] 43 (0, 0)) = r1 at *
      have hoA := HO.out.mono (b1.trans (((Below.refl r1.heap.size r1).alloc (Nat.le_refl _) (.cells #[.int .u8 (ni : Int), .int .u8 (lb : Int)] 5)).mono b1.size))
      have hlit := (two_own r1 (ni : Int) (lb : Int) ni lb rfl rfl hnb hlbb 5).sl
      have hal := (Below.refl r1.heap.size r1).alloc (Nat.le_refl _) (.cells #[.int .u8 (ni : Int), .int .u8 (lb : Int)] 5)
      have g2 := (hal.block _ hS).trans g1
      have h01 : Below w.heap.size w r1 := hbr.trans (b1.mono hbr.size)
      have hB1 : w.heap.size ≤ (r1.alloc (.cells #[.int .u8 (ni : Int), .int .u8 (lb : Int)] 5)).heap.size := Nat.le_trans h01.size hal.size
      have k0 : r1.cell? ⟨wr.heap.size, 0, none⟩ = some (.int .u8 (ni : Int)) := cell_of_row r1 _ 0 _ _ _ g1
      have k1 : r1.cell? ⟨wr.heap.size, 1, none⟩ = some (.slice ad ld cd) := cell_of_row r1 _ 1 _ _ _ g1
      generalize hSz : wr.heap.size = S at *
      have HHS := hide hSz
      clear hSz g1
      go_wp2_with (at_builtin; refine app_but rfl _ _ rfl w.heap.size rfl hoA rfl hlit (by omega) hB1 g HG.out ?_)
      intro a3 c3 w3 ho3 hb3 hbu3
      have hSl : S < (r1.alloc (.cells #[.int .u8 (ni : Int), .int .u8 (lb : Int)] 5)).heap.size := Nat.lt_of_lt_of_le hS hal.size
      have g3 := (hbu3.block S hSl (by omega)).trans g2
      have h03 : Below w.heap.size w w3 := (h01.trans (hal.mono h01.size)).trans hb3
      have HX3 := hide (HXU.out.mono h03)
      have kq : w3.cell? ⟨S, 1, none⟩ = some (.slice ad ld cd) := cell_of_row w3 S 1 _ _ _ g3
      have HO3 := hide ho3
      have hsz3 : w.heap.size ≤ w3.heap.size := h03.size
      clear hoA hlit hal g2 h01 hB1 k0 k1 hb3 hbu3 hSl g3 HXU hc0 hc1 ho3
      go_wp2_with (at_builtin; refine app (by rfl) _ _ rfl w.heap.size rfl HO3.out rfl HX3.out (by omega) hsz3 ?_)
      intro a4 c4 w4 ho4 hb4
      have HE : Hid (Mei.encObjs (l.take (k + 1)) = Mei.encObjs (l.take k) ++ [UInt8.ofNat ni, UInt8.ofNat lb] ++ x.value) := hide (by
        rw [HT.out, List.append_assoc]
        congr 1
        show [x.id, UInt8.ofNat x.value.length] ++ x.value = _
        rw [HXL.out, HNI.out, HLB.out]
        congr 1
        congr 1
        · simp
        · congr 1
          apply UInt8.toNat_inj.1
          simp)
      have ho5 : Own byteV w4 w.heap.size a4 (n1 + 2 + ld) c4 (Mei.encObjs (l.take (k + 1))) := by
        rw [HE.out]
        simpa using ho4
      have HO4 := hide ho5
      have hat4 := Mei.at_lt ho5 (by omega)
      clear ho5 ho4 HO3 kq HE
      go_wp2
      go_roundw
      case rel => exact ⟨k + 1, a4, _, c4, by omega, by go_num, rfl, HO4.out, hat4, h03.trans hb4⟩
      case measure => simp [intOf]; omega
    · have hkk : k = len := by omega
      have HR : Hid (Bs wr a1 n1 c1 (Mei.encObjs l)) := hide (by
        have := HO.out.sl
        rwa [List.take_of_length_le (by rw [HLN.out]; omega)] at this)
      have hki : ¬ (k : Int) < (len : Int) := by omega
      clear HO hkk
      go_wp2
      go_ret
      exact ⟨⟨_, _, _, rfl, hn1, HR.out⟩, hbr⟩

set_option maxRecDepth 20000 in
set_option maxHeartbeats 2000000 in
theorem toldWrite_any (v : Value) (m : MsgM) (w : World) (hm : MsgAt w v m) (hs : m.Small) :
    Calls Try.prog 63 #[v] w fun e w' => (∃ a n c, e = .returned (.slice a n c) ∧ n ≤ 91000 ∧ Bs w' a n c ([m.kind, m.level, m.more, m.next, UInt8.ofNat m.objects.length] ++ Mei.encObjs m.objects)) ∧ Below w.heap.size w w' := by
  obtain ⟨cs, rfl, hsz, hone, _⟩ := hm.agg
  have HM := MB.made w cs hm 30
  have b0 := (Below.refl w.heap.size w).alloc (Nat.le_refl _) (.cells cs 30 (0, 0))
  have k1 := HM.c_kind
  have k2 := HM.c_level
  have k3 := HM.c_more
  have k4 := HM.c_next
  obtain ⟨ao, lo, co, k5, hobs⟩ := HM.c_objects
  have hlo : lo ≤ 300 := by rw [← hobs.hlen]; exact hs.objects
  have HOB := hide hobs
  have HLN := hide hobs.hlen
  have HOV := hide hs.obj
  obtain ⟨lb, hlb⟩ : ∃ n : Nat, n = lo % 256 := ⟨_, rfl⟩
  have hw8 : IntKind.u8.wrap (lo : Int) = (lb : Int) := by rw [IntKind.wrap_u8]; omega
  have HLB : Hid ((lb : Int) = ((lo % 256 : Nat) : Int)) := hide (by rw [hlb])
  have z0 := HM.lt
  rw [HLN.out]
  clear hm hs hobs HM hlb
  go_enter Try.func63, Try.ntmps63
  go_upto_region 1 with (refine wpList_boxC rfl 30 _ rfl cs rfl ?_)
  generalize w.alloc (.cells cs 30 (0, 0)) = u at *
  have hl := Mei.five_lit u m.kind m.level m.more m.next (lb : Int) lo HLB.out 5
  have b5 := (Below.refl u.heap.size u).alloc (Nat.le_refl _) (.cells #[byteV m.kind, byteV m.level, byteV m.more, byteV m.next, .int .u8 (lb : Int)] 5)
  have HL := hide hl
  clear hl
  go_upto_region 2 with fail
  generalize u.alloc (.cells #[byteV m.kind, byteV m.level, byteV m.more, byteV m.next, .int .u8 (lb : Int)] 5) = u5 at *
  replace k5 := (b5.cell (p := ⟨w.heap.size, 21, none⟩) z0).trans k5
  have HOB5 := hide (HOB.out.mono b5)
  obtain ⟨H5, hH5⟩ : ∃ l, l = [m.kind, m.level, m.more, m.next, UInt8.ofNat lo] := ⟨_, rfl⟩
  rw [← hH5] at HL
  have HH5 := hide hH5
  clear hH5 k1 k2 k3 k4 HOB
  go_wp2_with fail
  refine (writeObjects_any ao lo co m.objects u5 HOB5.out HOV.out hlo).mono ?_
  rintro e w6 ⟨⟨a6, n6, c6, rfl, hn6, hx6⟩, hb6⟩
  have hoA := HL.out.mono hb6
  have hB : u.heap.size ≤ w6.heap.size := Nat.le_trans b5.size hb6.size
  have h06 : Below w.heap.size w w6 := (b0.trans (b5.mono b0.size)).trans (hb6.mono (Nat.le_trans b0.size b5.size))
  clear HOB5 HL k5 hb6
  go_wp2_with (at_builtin; refine app (by rfl) _ _ rfl u.heap.size rfl hoA rfl hx6 (by omega) hB ?_)
  intro a7 c7 w7 ho7 hb7
  have h07 := h06.trans (hb7.mono b0.size)
  have HO7 := hide ho7
  clear ho7 hb7 hoA hx6
  go_wp2
  go_ret
  exact ⟨⟨_, _, _, rfl, by omega, by have := HO7.out.sl; rw [HH5.out] at this; exact this⟩, h07⟩

theorem formWrite_any (f : Mei.Frm) (v : Value) (m : MsgM) (w : World) (hm : MsgAt w v m) (hs : m.Small) :
    Calls Try.prog (Mei.wrOf f m.mei) #[v] w fun e w' => (∃ a n c, e = .returned (.slice a n c) ∧ n ≤ 91000 ∧ Bs w' a n c (if m.mei = 13 then m.data else Mei.tailOf f m)) ∧ Below w.heap.size w w' := by
  unfold Mei.wrOf
  by_cases h : m.mei = 13
  · rw [if_pos h, if_pos h]
    exact otherWrite_any v m w hm hs
  · rw [if_neg h, if_neg h]
    rcases Mei.Frm.two f with rfl | rfl
    · exact askWrite_any v m w hm
    · exact toldWrite_any v m w hm hs
theorem wr_enter (f : Mei.Frm) (a : UInt8) : ∀ args w, (callFunc (Mei.wrOf f a) args).run Try.prog w = .ok (.enter (Mei.wrOf f a) args) w := fun args w => by
  unfold Mei.wrOf
  split
  · kernel_rfl
  · rcases Mei.Frm.two f with rfl | rfl
    · kernel_rfl
    · kernel_rfl

/-! what may fit -/
namespace Mei
def long (o : ObjM) : Bool := decide (255 < o.value.length)
def fits (m : MsgM) : Bool := decide (m.data.length ≤ 255) && decide (m.objects.length ≤ 255) && !(m.objects.any long)
end Mei

set_option maxRecDepth 20000 in
theorem long_any (x : ObjM) (ad : Option Addr) (ld cd : Nat) (w : World) (hl : x.value.length = ld) :
    Calls Try.prog 42 #[.agg #[byteV x.id, .slice ad ld cd]] w fun e w' => e = .returned (.bool (Mei.long x)) ∧ Below w.heap.size w w' := by
  obtain ⟨R, hR⟩ : ∃ R, R = Mei.long x := ⟨_, rfl⟩
  have hq : decide ((255 : Int) < (ld : Int)) = R := by rw [hR]; unfold Mei.long; rw [hl, Bool.eq_iff_iff]; simp; omega
  rw [← hR]
  clear hR hl
  have b0 := (Below.refl w.heap.size w).alloc (Nat.le_refl _) (.cells #[byteV x.id, .slice ad ld cd] 43 (0, 0))
  go_enter Try.func42, Try.ntmps42
  go_wp2
  go_ret
  exact ⟨rfl, b0⟩

set_option maxRecDepth 20000 in
set_option maxHeartbeats 2000000 in
theorem indexLong_any (a : Option Addr) (len cap : Nat) (l : List ObjM) (w : World) (hx : Obs w a len cap l) :
    Calls Try.prog 65 #[.slice a len cap, Mei.fnV 42] w fun e w' => (∃ r : Int, e = .returned (.int .i64 r) ∧ decide (0 ≤ r) = l.any Mei.long) ∧ Below w.heap.size w w' := by
  have hle := hx.hle
  have hmx := hx.hmax
  unfold maxLen at hmx
  have HX := hide hx
  have HL := hide hx.hlen
  clear hx
  go_enter Try.func65, Try.ntmps65
  go_wp2_with fail
  go_loopw [8] (fun i wr => ∃ k : Nat, k ≤ len ∧ i = .int .i64 k ∧ (l.take k).any Mei.long = false ∧ Below w.heap.size w wr) (fun i _ => len - (intOf i).toNat)
  case atStart => exact ⟨0, Nat.zero_le _, rfl, rfl, Below.refl _ _⟩
  case round =>
    obtain ⟨k, hk, rfl, hn, hbr⟩ := hrel
    have HN := hide hn
    clear hn
    by_cases hlt : k < len
    · have hk1 : k < l.length := by rw [HL.out]; exact hlt
      have hki : (k : Int) < (len : Int) := by omega
      obtain ⟨b, off, ad, ld, cd, rfl, hbl, hc0, hc1, hv⟩ := (HX.out.mono hbr).hcell k hk1
      have HT : Hid ((l.take (k + 1)).any Mei.long = Mei.long l[k]) := hide (by
        rw [List.take_succ_eq_append_getElem hk1, List.any_append, HN.out]
        simp)
      have HI : Hid (Mei.long l[k] = true → l.any Mei.long = true) := hide (fun h => List.any_eq_true.2 ⟨_, List.getElem_mem hk1, h⟩)
      have hvl := hv.hlen
      generalize l[k] = x at *
      have HVL := hide hvl
      clear hvl hv
      go_wp2_with fail
      refine (long_any x ad ld cd wr HVL.out).mono ?_
      rintro e w1 ⟨rfl, hb1⟩
      replace hb1 := hbr.trans (hb1.mono hbr.size)
      clear hc0 hc1
      generalize Mei.long x = D at *
      cases D
      · go_wp2
        go_roundw
        case rel => exact ⟨k + 1, by omega, by go_num, HT.out, hb1⟩
        case measure => simp [intOf]; omega
      · go_wp2
        go_ret
        exact ⟨⟨_, rfl, by rw [HI.out trivial]; simp⟩, hb1⟩
    · have hki : ¬ (k : Int) < (len : Int) := by omega
      go_wp2
      go_ret
      exact ⟨⟨_, rfl, by
        have := HN.out
        rw [List.take_of_length_le (by rw [HL.out]; omega)] at this
        rw [this]; rfl⟩, hbr⟩

set_option maxRecDepth 20000 in
theorem hasLong_any (a : Option Addr) (len cap : Nat) (l : List ObjM) (w : World) (hx : Obs w a len cap l) :
    Calls Try.prog 43 #[.slice a len cap, Mei.fnV 42] w fun e w' => e = .returned (.bool (l.any Mei.long)) ∧ Below w.heap.size w w' := by
  have HX := hide hx
  clear hx
  go_enter Try.func43, Try.ntmps43
  go_wp2_with fail
  refine (indexLong_any a len cap l w HX.out).mono ?_
  rintro e w1 ⟨⟨r, rfl, hr⟩, hb⟩
  go_wp2
  go_ret
  exact ⟨by rw [← hr]; rfl, hb⟩

set_option maxRecDepth 20000 in
set_option maxHeartbeats 2000000 in
theorem mayFit_any (v : Value) (m : MsgM) (w : World) (hm : MsgAt w v m) :
    Calls Try.prog 32 #[v] w fun e w' => e = .returned (.bool (Mei.fits m)) ∧ Below w.heap.size w w' := by
  obtain ⟨cs, rfl, hsz, hone, _⟩ := hm.agg
  have HM := MB.made w cs hm 30
  have b0 := (Below.refl w.heap.size w).alloc (Nat.le_refl _) (.cells cs 30 (0, 0))
  obtain ⟨ad, ld, cd, kd, hd⟩ := HM.c_data
  obtain ⟨ao, lo, co, ko, ho⟩ := HM.c_objects
  obtain ⟨R, hR⟩ : ∃ R, R = Mei.fits m := ⟨_, rfl⟩
  have HE : Hid (R = (decide (ld ≤ 255) && decide (lo ≤ 255) && !(m.objects.any Mei.long))) := hide (by rw [hR]; unfold Mei.fits; rw [hd.hlen, ho.hlen])
  have HO := hide ho
  rw [← hR]
  clear hR HM hm hd ho
  go_enter Try.func32, Try.ntmps32
  go_upto_region 1 with (refine wpList_boxC rfl 30 _ rfl cs rfl ?_)
  generalize w.alloc (.cells cs 30 (0, 0)) = u at *
  by_cases h1 : ld ≤ 255
  · have q1 : (ld : Int) ≤ 255 := by omega
    by_cases h2 : lo ≤ 255
    · have q2 : (lo : Int) ≤ 255 := by omega
      have hR : Hid (R = !(m.objects.any Mei.long)) := hide (by rw [HE.out]; simp [h1, h2])
      clear HE h1 h2
      go_wp2_with fail
      refine (hasLong_any ao lo co m.objects u HO.out).mono ?_
      rintro e w1 ⟨rfl, hb1⟩
      generalize m.objects.any Mei.long = D at *
      go_wp2
      go_ret
      exact ⟨by rw [hR.out]; rfl, b0.trans (hb1.mono b0.size)⟩
    · have q2 : ¬ (lo : Int) ≤ 255 := by omega
      have hR : Hid (R = false) := hide (by rw [HE.out]; simp [h2])
      clear HE h1 h2
      go_wp2
      go_ret
      exact ⟨by rw [hR.out]; rfl, b0⟩
  · have q1 : ¬ (ld : Int) ≤ 255 := by omega
    have hR : Hid (R = false) := hide (by rw [HE.out]; simp [h1])
    clear HE h1
    go_wp2
    go_ret
    exact ⟨by rw [hR.out]; rfl, b0⟩

end Go.Proofs.Ytaokbaddleplfaa
