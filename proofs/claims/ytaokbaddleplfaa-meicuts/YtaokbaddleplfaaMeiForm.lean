/-
  Package mei: the forms by what is within the code; how one of them is read.
-/
import Derived.Test.YtaokbaddleplfaaMeiRead
namespace Go.Proofs.Ytaokbaddleplfaa
open Go.RowKit
open Word Bits Cursor

namespace Mei
theorem form_size : (Try.prog.info? 58).map (·.size) = some 2 := by kernel_rfl
abbrev fnV (F : FuncId) : Value := .func (.func F) #[] #[]
def Frm.rd : Frm → FuncId
  | 0 => 55
  | 1 => 59
def Frm.wr : Frm → FuncId
  | 0 => 58
  | 1 => 63
abbrev pairV (r s : FuncId) : Value := .agg #[fnV r, fnV s]
def tab (f : Frm) : List (Nat × Value) := [(13, pairV 52 54), (14, pairV f.rd f.wr)]
/-- What is looked up by a byte. -/
def rdOf (f : Frm) (a : UInt8) : FuncId := if a = 13 then 52 else f.rd
def wrOf (f : Frm) (a : UInt8) : FuncId := if a = 13 then 54 else f.wr
theorem tab_at (f : Frm) (a : UInt8) : tabAt (tab f) a.toNat = if isMei a = true then some (pairV (rdOf f a) (wrOf f a)) else none := by
  by_cases h : a = 13
  · subst h; rfl
  · by_cases k : a = 14
    · subst k; rfl
    · have h1 : a.toNat ≠ 13 := fun e => h (UInt8.toNat_inj.1 e)
      have h2 : a.toNat ≠ 14 := fun e => k (UInt8.toNat_inj.1 e)
      have h3 : ¬ isMei a = true := by unfold isMei; simp [h1, h2]
      rw [if_neg h3]
      show (if a.toNat = 13 then _ else if a.toNat = 14 then _ else none) = _
      rw [if_neg h1, if_neg h2]
end Mei

theorem results_row {P : Program} {fn : Func} {p : Tmp} {ty : TypeId} (h : fn.results = #[.cell p ty]) (tmps : Array Value) (w : World) (g : Nat) (t : TypeId) (cs : Array Value) (fr : Nat × Nat) (d : TypeDesc)
    (hp : tmps.getD p undef = .pointer (some ⟨g, 0, none⟩)) (hg : w.heap[g]? = some (.cells cs t fr))
    (hu : P.underlying ty = some d) (hd : (match d with | .struct _ | .array _ _ => true | _ => false) = true) (hi : (P.info? ty).map (·.size) = some cs.size) :
    (results fn tmps).run P w = .ok (.agg cs) w := results_cell_row h tmps w g t cs fr d hp hg hu hd hi

set_option maxRecDepth 20000 in
theorem carried_any (w : World) : Calls Try.prog 35 #[] w fun e w' => e = .returned (Mei.pairV 52 54) ∧ Below w.heap.size w w' := by
  go_enter Try.func35, Try.ntmps35
  go_wp2
  exact bodyPost_ret (results_row Try.results35 _ _ w.heap.size _ _ _ _ rfl (heap_alloc_new _ _) Try.underlying58 rfl Mei.form_size) rfl ⟨rfl, (Below.refl _ _).alloc (Nat.le_refl _) _⟩
set_option maxRecDepth 20000 in
theorem asked_any (w : World) : Calls Try.prog 36 #[] w fun e w' => e = .returned (Mei.pairV (Mei.Frm.rd 0) (Mei.Frm.wr 0)) ∧ Below w.heap.size w w' := by
  go_enter Try.func36, Try.ntmps36
  go_wp2
  exact bodyPost_ret (results_row Try.results36 _ _ w.heap.size _ _ _ _ rfl (heap_alloc_new _ _) Try.underlying58 rfl Mei.form_size) rfl ⟨rfl, (Below.refl _ _).alloc (Nat.le_refl _) _⟩
set_option maxRecDepth 20000 in
theorem told_any (w : World) : Calls Try.prog 37 #[] w fun e w' => e = .returned (Mei.pairV (Mei.Frm.rd 1) (Mei.Frm.wr 1)) ∧ Below w.heap.size w w' := by
  go_enter Try.func37, Try.ntmps37
  go_wp2
  exact bodyPost_ret (results_row Try.results37 _ _ w.heap.size _ _ _ _ rfl (heap_alloc_new _ _) Try.underlying58 rfl Mei.form_size) rfl ⟨rfl, (Below.refl _ _).alloc (Nat.le_refl _) _⟩

/-- What a look for a code's forms answers. -/
def FormsAt (o : Option Mei.Frm) (w : World) (mv : Value) : Prop := (o = none → mv = .map none) ∧ ∀ f, o = some f → ∃ b, mv = .map (some b) ∧ Tab w b (Mei.tab f)

set_option maxRecDepth 20000 in
set_option maxHeartbeats 2000000 in
theorem formsOf_some (f : Mei.Frm) (dir : Int) (hf : dir = ((f : Nat) : Int)) (w : World) :
    Calls Try.prog 19 #[.int .i64 dir, .int .u8 43] w fun e w' =>
      (∃ b, e = .returned (.tuple #[.map (some b), .int .i64 0]) ∧ Tab w' b (Mei.tab f)) ∧ Below w.heap.size w w' := by
  have hmm : ∀ w : World, (Instr.makeMap 49 none).run Try.prog w = .ok (.map (some w.heap.size)) (w.alloc (.map #[] 0)) := fun w => run_makeMap _ w
  have T0 := Tab.made w
  have B0 : Below w.heap.size w (w.alloc (.map #[] 0)) := (Below.refl _ _).alloc (Nat.le_refl _) _
  have hl : w.heap.size < (w.alloc (.map #[] 0)).heap.size := T0.lt
  rcases Mei.Frm.two f with rfl | rfl
  · obtain rfl : dir = 0 := hf
    go_enter Try.func19, Try.ntmps19
    go_wp2_with fail
    generalize w.alloc (.map #[] 0) = u at *
    refine (carried_any u).mono ?_
    rintro e w1 ⟨rfl, hb1⟩
    have T1 := T0.mono hb1
    have B1 := B0.trans (hb1.mono (Nat.le_of_lt hl))
    clear T0 hb1 B0 hl
    go_wp2_with (refine wpList_insertT rfl _ _ _ 49 rfl 5 58 Try.underlying49 Try.underlying5 w.heap.size _ rfl T1 13 rfl rfl _ rfl ?_)
    intro w2 T2 _ c2
    have B2 := B1.trans (c2 _ (Nat.le_refl _))
    have hl : w.heap.size < w2.heap.size := T2.lt
    clear T1 c2 B1
    go_wp2_with fail
    refine (asked_any w2).mono ?_
    rintro e w3 ⟨rfl, hb3⟩
    have T3 := T2.mono hb3
    have B3 := B2.trans (hb3.mono (Nat.le_of_lt hl))
    clear T2 hb3 B2 hl
    go_wp2_with (refine wpList_insertT rfl _ _ _ 49 rfl 5 58 Try.underlying49 Try.underlying5 w.heap.size _ rfl T3 14 rfl rfl _ rfl ?_)
    intro w4 T4 _ c4
    have B4 := B3.trans (c4 _ (Nat.le_refl _))
    clear T3 c4 B3
    go_wp2
    go_ret2
    exact ⟨⟨_, rfl, T4⟩, B4⟩
  · obtain rfl : dir = 1 := hf
    go_enter Try.func19, Try.ntmps19
    go_wp2_with fail
    generalize w.alloc (.map #[] 0) = u at *
    refine (carried_any u).mono ?_
    rintro e w1 ⟨rfl, hb1⟩
    have T1 := T0.mono hb1
    have B1 := B0.trans (hb1.mono (Nat.le_of_lt hl))
    clear T0 hb1 B0 hl
    go_wp2_with (refine wpList_insertT rfl _ _ _ 49 rfl 5 58 Try.underlying49 Try.underlying5 w.heap.size _ rfl T1 13 rfl rfl _ rfl ?_)
    intro w2 T2 _ c2
    have B2 := B1.trans (c2 _ (Nat.le_refl _))
    have hl : w.heap.size < w2.heap.size := T2.lt
    clear T1 c2 B1
    go_wp2_with fail
    refine (told_any w2).mono ?_
    rintro e w3 ⟨rfl, hb3⟩
    have T3 := T2.mono hb3
    have B3 := B2.trans (hb3.mono (Nat.le_of_lt hl))
    clear T2 hb3 B2 hl
    go_wp2_with (refine wpList_insertT rfl _ _ _ 49 rfl 5 58 Try.underlying49 Try.underlying5 w.heap.size _ rfl T3 14 rfl rfl _ rfl ?_)
    intro w4 T4 _ c4
    have B4 := B3.trans (c4 _ (Nat.le_refl _))
    clear T3 c4 B3
    go_wp2
    go_ret2
    exact ⟨⟨_, rfl, T4⟩, B4⟩

set_option maxRecDepth 20000 in
set_option maxHeartbeats 2000000 in
theorem formsOf_none (dir : Int) (c : UInt8) (h : Mei.formOf dir c = none) (w : World) :
    Calls Try.prog 19 #[.int .i64 dir, byteV c] w fun e w' => e = .returned (.tuple #[.map none, .int .i64 (Mei.errF dir c)]) ∧ w' = w := by
  have hE : Mei.errF dir c = if dir = 0 ∨ dir = 1 then 4 else 1 := by unfold Mei.errF; rw [h]
  obtain ⟨E, hE'⟩ : ∃ E, E = Mei.errF dir c := ⟨_, rfl⟩
  rw [← hE'] at hE ⊢
  have HE := hide hE
  obtain ⟨n, hn⟩ : ∃ n : Nat, n = c.toNat := ⟨_, rfl⟩
  have hd : (dir = 0 ∨ dir = 1) → n ≠ 43 := fun hd e => by
    have hc : c = 43 := UInt8.toNat_inj.1 (by rw [← hn, e]; rfl)
    subst hc
    rcases hd with rfl | rfl
    · exact absurd h (by decide)
    · exact absurd h (by decide)
  rw [show byteV c = .int .u8 (n : Int) by rw [hn]]
  clear hn hE hE' h
  go_enter Try.func19, Try.ntmps19
  by_cases h0 : dir = 0
  · have q : ((n : Int) != 43) = true := by have := hd (.inl h0); simp; omega
    have hE4 : Hid (E = 4) := hide (by rw [HE.out, if_pos (.inl h0)])
    subst h0
    clear hd HE
    go_wp2
    go_ret2
    exact ⟨by rw [hE4.out]; rfl, rfl⟩
  by_cases h1 : dir = 1
  · have q : ((n : Int) != 43) = true := by have := hd (.inr h1); simp; omega
    have hE4 : Hid (E = 4) := hide (by rw [HE.out, if_pos (.inr h1)])
    subst h1
    clear hd HE h0
    go_wp2
    go_ret2
    exact ⟨by rw [hE4.out]; rfl, rfl⟩
  have q0 : (dir != 0) = true := by simpa using h0
  have q1 : (dir != 1) = true := by simpa using h1
  have hE1 : Hid (E = 1) := hide (by rw [HE.out, if_neg (fun h => h.elim h0 h1)])
  clear hd HE h0 h1
  go_wp2
  go_ret2
  exact ⟨by rw [hE1.out]; rfl, rfl⟩

theorem formsOf_any (dir : Int) (c : UInt8) (w : World) :
    Calls Try.prog 19 #[.int .i64 dir, byteV c] w fun e w' =>
      (∃ mv, e = .returned (.tuple #[mv, .int .i64 (Mei.errF dir c)]) ∧ FormsAt (Mei.formOf dir c) w' mv) ∧ Below w.heap.size w w' := by
  cases h : Mei.formOf dir c with
  | none =>
    refine (formsOf_none dir c h w).mono ?_
    rintro e w1 ⟨rfl, rfl⟩
    exact ⟨⟨_, rfl, fun _ => rfl, fun f hf => by cases hf⟩, Below.refl _ _⟩
  | some f =>
    have key : c = 43 ∧ dir = ((f : Nat) : Int) := by
      unfold Mei.formOf at h
      split at h
      · rename_i hc
        refine ⟨hc, ?_⟩
        split at h
        · rename_i hd
          injection h with h
          rw [← h, hd]; rfl
        · split at h
          · rename_i hd
            injection h with h
            rw [← h, hd]; rfl
          · cases h
      · cases h
    have hE : Mei.errF dir c = 0 := by unfold Mei.errF; rw [h]
    rw [hE]
    obtain ⟨rfl, hd⟩ := key
    refine (formsOf_some f dir hd w).mono ?_
    rintro e w1 ⟨⟨b, rfl, ht⟩, hb⟩
    exact ⟨⟨_, rfl, fun h => (by cases h), fun g hg => (by cases hg; exact ⟨b, rfl, ht⟩)⟩, hb⟩

section
variable {w0 wb : World} {hi gm gc : Nat} {m : MsgM} {c : St} {w : World}
theorem formRead_any (f : Mei.Frm) (a : UInt8) (h : CR w0 wb hi gm gc m c w) :
    Calls Try.prog (Mei.rdOf f a) #[ptrV gc, ptrV gm] w fun e w' => e = .returned (.tuple #[]) ∧ CR w0 wb hi gm gc (Mei.body f m a c).1 (Mei.body f m a c).2 w' := by
  unfold Mei.rdOf Mei.body
  split
  · exact otherRead_any h
  · rcases Mei.Frm.two f with rfl | rfl
    · exact askRead_any h
    · exact toldRead_any h
theorem rd_enter (f : Mei.Frm) (a : UInt8) : ∀ args w, (callFunc (Mei.rdOf f a) args).run Try.prog w = .ok (.enter (Mei.rdOf f a) args) w := fun args w => by
  unfold Mei.rdOf
  split
  · kernel_rfl
  · rcases Mei.Frm.two f with rfl | rfl
    · kernel_rfl
    · kernel_rfl
end

end Go.Proofs.Ytaokbaddleplfaa
