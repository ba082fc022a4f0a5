/-
  A message that lies in a block of its own: its fields, loaded and stored.
-/
import Derived.Test.YtjacnghndnkcnaaMsgPut
import Derived.Test.YtjacnghndnkcnaaBut
namespace Go.Proofs.Ytjacnghndnkcnaa
open Go.RowKit

theorem Sl.bare {α : Type} {f : α → Value} {w : World} {a : Option Addr} {len cap : Nat} (h : Sl f w a len cap []) (w' : World) : Sl f w' a len cap [] := ⟨h.hlen, h.hle, h.hmax, fun _ hi => absurd hi (by simp)⟩
theorem Rs.bare {w : World} {a : Option Addr} {len cap : Nat} (h : Rs w a len cap []) (w' : World) : Rs w' a len cap [] := ⟨h.hlen, h.hle, h.hmax, fun _ hi => absurd hi (by simp)⟩
theorem Obs.bare {w : World} {a : Option Addr} {len cap : Nat} (h : Obs w a len cap []) (w' : World) : Obs w' a len cap [] := ⟨h.hlen, h.hle, h.hmax, fun _ hi => absurd hi (by simp)⟩

/-- A slice none of whose elements is what the cell held. -/
theorem Sl.cellSet {α : Type} {f : α → Value} {w : World} {a : Option Addr} {len cap : Nat} {xs : List α} (h : Sl f w a len cap xs) {p : Addr} {u : Value} (hp : w.cell? p = some u) (hu : ∀ x, u ≠ f x) (v : Value) : Sl f (w.setCell p v) a len cap xs :=
  ⟨h.hlen, h.hle, h.hmax, fun i hi => by
    obtain ⟨b, off, ha, hlt, hc⟩ := h.hcell i hi
    refine ⟨b, off, ha, by simpa [World.setCell] using hlt, ?_⟩
    rw [World.cell?_setCell_other]
    · exact hc
    · intro e
      first
        | (rw [e] at hc; rw [hc] at hp; exact hu _ (Option.some.inj hp).symm)
        | (rw [← e] at hc; rw [hc] at hp; exact hu _ (Option.some.inj hp).symm)⟩

/-- Block 'g' (of type 't') holds the message 'm'. -/
def MB (t : TypeId) (w : World) (g : Nat) (m : MsgM) : Prop := ∃ cs, w.heap[g]? = some (.cells cs t (0, 0)) ∧ MsgAt w (.agg cs) m

section
variable {t : TypeId} {w w' : World} {g : Nat} {m : MsgM}

theorem MB.lt (h : MB t w g m) : g < w.heap.size := by
  obtain ⟨cs, hg, _⟩ := h
  exact lt_of_block hg
theorem MB.mono (h : MB t w g m) (hb : Below w.heap.size w w') : MB t w' g m := by
  obtain ⟨cs, hg, hm⟩ := h
  exact ⟨cs, (hb.block g (lt_of_block hg)).trans hg, hm.mono hb⟩
theorem MB.fr (h : MB t w g m) (i : Nat) : w.frozen? ⟨g, i, none⟩ = false := by
  obtain ⟨cs, hg, hm⟩ := h
  exact fr_block hg i
theorem MsgAt.bare {v : Value} (h : MsgAt w v m) (hb : m.Bare) (w' : World) : MsgAt w' v m := by
  obtain ⟨aw, lw, cw, al, ll, cl, ad, ld, cd, ar, lr, cr, ao, lo, co, hv, h0, h1, h2, h3, h4⟩ := h
  obtain ⟨b0, b1, b2, b3, b4⟩ := hb
  refine ⟨aw, lw, cw, al, ll, cl, ad, ld, cd, ar, lr, cr, ao, lo, co, hv, ?_, ?_, ?_, ?_, ?_⟩
  · rw [b0] at h0 ⊢; exact h0.bare _
  · rw [b1] at h1 ⊢; exact h1.bare _
  · rw [b2] at h2 ⊢; exact h2.bare _
  · rw [b3] at h3 ⊢; exact h3.bare _
  · rw [b4] at h4 ⊢; exact h4.bare _
theorem MB.but {gc : Nat} (h : MB t w g m) (hb : m.Bare) (hn : g ≠ gc) (hw : But gc w w') : MB t w' g m := by
  obtain ⟨cs, hg, hm⟩ := h
  exact ⟨cs, (hw.block g (lt_of_block hg) hn).trans hg, hm.bare hb _⟩
/-- A message that is made. -/
theorem MB.made (w : World) (v : Array Value) (h : MsgAt w (.agg v) m) (t : TypeId) : MB t (w.alloc (.cells v t (0, 0))) w.heap.size m := ⟨v, heap_alloc_new _ _, h.mono ((Below.refl _ _).alloc (Nat.le_refl _) _)⟩

theorem MB.c_code (h : MB t w g m) : w.cell? ⟨g, 0, none⟩ = some (byteV m.code) := by
  obtain ⟨cs, hg, aw, lw, cw, al, ll, cl, ad, ld, cd, ar, lr, cr, ao, lo, co, hv, h0, h1, h2, h3, h4⟩ := h
  injection hv with hv
  subst hv
  exact cell_of_row w g 0 _ _ _ hg

theorem MB.c_fail (h : MB t w g m) : w.cell? ⟨g, 1, none⟩ = some (byteV m.fail) := by
  obtain ⟨cs, hg, aw, lw, cw, al, ll, cl, ad, ld, cd, ar, lr, cr, ao, lo, co, hv, h0, h1, h2, h3, h4⟩ := h
  injection hv with hv
  subst hv
  exact cell_of_row w g 1 _ _ _ hg

theorem MB.c_addr (h : MB t w g m) : w.cell? ⟨g, 2, none⟩ = some (wordV m.addr) := by
  obtain ⟨cs, hg, aw, lw, cw, al, ll, cl, ad, ld, cd, ar, lr, cr, ao, lo, co, hv, h0, h1, h2, h3, h4⟩ := h
  injection hv with hv
  subst hv
  exact cell_of_row w g 2 _ _ _ hg

theorem MB.c_count (h : MB t w g m) : w.cell? ⟨g, 3, none⟩ = some (wordV m.count) := by
  obtain ⟨cs, hg, aw, lw, cw, al, ll, cl, ad, ld, cd, ar, lr, cr, ao, lo, co, hv, h0, h1, h2, h3, h4⟩ := h
  injection hv with hv
  subst hv
  exact cell_of_row w g 3 _ _ _ hg

theorem MB.c_value (h : MB t w g m) : w.cell? ⟨g, 4, none⟩ = some (wordV m.value) := by
  obtain ⟨cs, hg, aw, lw, cw, al, ll, cl, ad, ld, cd, ar, lr, cr, ao, lo, co, hv, h0, h1, h2, h3, h4⟩ := h
  injection hv with hv
  subst hv
  exact cell_of_row w g 4 _ _ _ hg

theorem MB.c_and (h : MB t w g m) : w.cell? ⟨g, 5, none⟩ = some (wordV m.and_) := by
  obtain ⟨cs, hg, aw, lw, cw, al, ll, cl, ad, ld, cd, ar, lr, cr, ao, lo, co, hv, h0, h1, h2, h3, h4⟩ := h
  injection hv with hv
  subst hv
  exact cell_of_row w g 5 _ _ _ hg

theorem MB.c_or (h : MB t w g m) : w.cell? ⟨g, 6, none⟩ = some (wordV m.or_) := by
  obtain ⟨cs, hg, aw, lw, cw, al, ll, cl, ad, ld, cd, ar, lr, cr, ao, lo, co, hv, h0, h1, h2, h3, h4⟩ := h
  injection hv with hv
  subst hv
  exact cell_of_row w g 6 _ _ _ hg

theorem MB.c_addr2 (h : MB t w g m) : w.cell? ⟨g, 7, none⟩ = some (wordV m.addr2) := by
  obtain ⟨cs, hg, aw, lw, cw, al, ll, cl, ad, ld, cd, ar, lr, cr, ao, lo, co, hv, h0, h1, h2, h3, h4⟩ := h
  injection hv with hv
  subst hv
  exact cell_of_row w g 7 _ _ _ hg

theorem MB.c_sub (h : MB t w g m) : w.cell? ⟨g, 8, none⟩ = some (wordV m.sub) := by
  obtain ⟨cs, hg, aw, lw, cw, al, ll, cl, ad, ld, cd, ar, lr, cr, ao, lo, co, hv, h0, h1, h2, h3, h4⟩ := h
  injection hv with hv
  subst hv
  exact cell_of_row w g 8 _ _ _ hg

theorem MB.c_status (h : MB t w g m) : w.cell? ⟨g, 9, none⟩ = some (wordV m.status) := by
  obtain ⟨cs, hg, aw, lw, cw, al, ll, cl, ad, ld, cd, ar, lr, cr, ao, lo, co, hv, h0, h1, h2, h3, h4⟩ := h
  injection hv with hv
  subst hv
  exact cell_of_row w g 9 _ _ _ hg

theorem MB.c_events (h : MB t w g m) : w.cell? ⟨g, 10, none⟩ = some (wordV m.events) := by
  obtain ⟨cs, hg, aw, lw, cw, al, ll, cl, ad, ld, cd, ar, lr, cr, ao, lo, co, hv, h0, h1, h2, h3, h4⟩ := h
  injection hv with hv
  subst hv
  exact cell_of_row w g 10 _ _ _ hg

theorem MB.c_messages (h : MB t w g m) : w.cell? ⟨g, 11, none⟩ = some (wordV m.messages) := by
  obtain ⟨cs, hg, aw, lw, cw, al, ll, cl, ad, ld, cd, ar, lr, cr, ao, lo, co, hv, h0, h1, h2, h3, h4⟩ := h
  injection hv with hv
  subst hv
  exact cell_of_row w g 11 _ _ _ hg

theorem MB.c_mei (h : MB t w g m) : w.cell? ⟨g, 16, none⟩ = some (byteV m.mei) := by
  obtain ⟨cs, hg, aw, lw, cw, al, ll, cl, ad, ld, cd, ar, lr, cr, ao, lo, co, hv, h0, h1, h2, h3, h4⟩ := h
  injection hv with hv
  subst hv
  exact cell_of_row w g 16 _ _ _ hg

theorem MB.c_kind (h : MB t w g m) : w.cell? ⟨g, 17, none⟩ = some (byteV m.kind) := by
  obtain ⟨cs, hg, aw, lw, cw, al, ll, cl, ad, ld, cd, ar, lr, cr, ao, lo, co, hv, h0, h1, h2, h3, h4⟩ := h
  injection hv with hv
  subst hv
  exact cell_of_row w g 17 _ _ _ hg

theorem MB.c_level (h : MB t w g m) : w.cell? ⟨g, 18, none⟩ = some (byteV m.level) := by
  obtain ⟨cs, hg, aw, lw, cw, al, ll, cl, ad, ld, cd, ar, lr, cr, ao, lo, co, hv, h0, h1, h2, h3, h4⟩ := h
  injection hv with hv
  subst hv
  exact cell_of_row w g 18 _ _ _ hg

theorem MB.c_more (h : MB t w g m) : w.cell? ⟨g, 19, none⟩ = some (byteV m.more) := by
  obtain ⟨cs, hg, aw, lw, cw, al, ll, cl, ad, ld, cd, ar, lr, cr, ao, lo, co, hv, h0, h1, h2, h3, h4⟩ := h
  injection hv with hv
  subst hv
  exact cell_of_row w g 19 _ _ _ hg

theorem MB.c_next (h : MB t w g m) : w.cell? ⟨g, 20, none⟩ = some (byteV m.next) := by
  obtain ⟨cs, hg, aw, lw, cw, al, ll, cl, ad, ld, cd, ar, lr, cr, ao, lo, co, hv, h0, h1, h2, h3, h4⟩ := h
  injection hv with hv
  subst hv
  exact cell_of_row w g 20 _ _ _ hg

theorem MB.c_words (h : MB t w g m) : ∃ a l c, w.cell? ⟨g, 12, none⟩ = some (.slice a l c) ∧ Ws w a l c m.words := by
  obtain ⟨cs, hg, aw, lw, cw, al, ll, cl, ad, ld, cd, ar, lr, cr, ao, lo, co, hv, h0, h1, h2, h3, h4⟩ := h
  injection hv with hv
  subst hv
  exact ⟨aw, lw, cw, cell_of_row w g 12 _ _ _ hg, h0⟩

theorem MB.c_bits (h : MB t w g m) : ∃ a l c, w.cell? ⟨g, 13, none⟩ = some (.slice a l c) ∧ Ls w a l c m.bits := by
  obtain ⟨cs, hg, aw, lw, cw, al, ll, cl, ad, ld, cd, ar, lr, cr, ao, lo, co, hv, h0, h1, h2, h3, h4⟩ := h
  injection hv with hv
  subst hv
  exact ⟨al, ll, cl, cell_of_row w g 13 _ _ _ hg, h1⟩

theorem MB.c_data (h : MB t w g m) : ∃ a l c, w.cell? ⟨g, 14, none⟩ = some (.slice a l c) ∧ Bs w a l c m.data := by
  obtain ⟨cs, hg, aw, lw, cw, al, ll, cl, ad, ld, cd, ar, lr, cr, ao, lo, co, hv, h0, h1, h2, h3, h4⟩ := h
  injection hv with hv
  subst hv
  exact ⟨ad, ld, cd, cell_of_row w g 14 _ _ _ hg, h2⟩

theorem MB.c_recs (h : MB t w g m) : ∃ a l c, w.cell? ⟨g, 15, none⟩ = some (.slice a l c) ∧ Rs w a l c m.recs := by
  obtain ⟨cs, hg, aw, lw, cw, al, ll, cl, ad, ld, cd, ar, lr, cr, ao, lo, co, hv, h0, h1, h2, h3, h4⟩ := h
  injection hv with hv
  subst hv
  exact ⟨ar, lr, cr, cell_of_row w g 15 _ _ _ hg, h3⟩

theorem MB.c_objects (h : MB t w g m) : ∃ a l c, w.cell? ⟨g, 21, none⟩ = some (.slice a l c) ∧ Obs w a l c m.objects := by
  obtain ⟨cs, hg, aw, lw, cw, al, ll, cl, ad, ld, cd, ar, lr, cr, ao, lo, co, hv, h0, h1, h2, h3, h4⟩ := h
  injection hv with hv
  subst hv
  exact ⟨ao, lo, co, cell_of_row w g 21 _ _ _ hg, h4⟩

theorem MB.set_code (h : MB t w g m) (hb : m.Bare) (x : UInt8) : MB t (w.setCell ⟨g, 0, none⟩ (byteV x)) g (m.put_code x) := by
  obtain ⟨cs, hg, aw, lw, cw, al, ll, cl, ad, ld, cd, ar, lr, cr, ao, lo, co, hv, h0, h1, h2, h3, h4⟩ := h
  obtain ⟨b0, b1, b2, b3, b4⟩ := hb
  injection hv with hv
  subst hv
  refine ⟨_, set_block hg _, aw, lw, cw, al, ll, cl, ad, ld, cd, ar, lr, cr, ao, lo, co, rfl, ?_, ?_, ?_, ?_, ?_⟩
  · show Ws _ _ _ _ m.words; rw [b0] at h0 ⊢; exact h0.bare _
  · show Ls _ _ _ _ m.bits; rw [b1] at h1 ⊢; exact h1.bare _
  · show Bs _ _ _ _ m.data; rw [b2] at h2 ⊢; exact h2.bare _
  · show Rs _ _ _ _ m.recs; rw [b3] at h3 ⊢; exact h3.bare _
  · show Obs _ _ _ _ m.objects; rw [b4] at h4 ⊢; exact h4.bare _

theorem MB.set_fail (h : MB t w g m) (hb : m.Bare) (x : UInt8) : MB t (w.setCell ⟨g, 1, none⟩ (byteV x)) g (m.put_fail x) := by
  obtain ⟨cs, hg, aw, lw, cw, al, ll, cl, ad, ld, cd, ar, lr, cr, ao, lo, co, hv, h0, h1, h2, h3, h4⟩ := h
  obtain ⟨b0, b1, b2, b3, b4⟩ := hb
  injection hv with hv
  subst hv
  refine ⟨_, set_block hg _, aw, lw, cw, al, ll, cl, ad, ld, cd, ar, lr, cr, ao, lo, co, rfl, ?_, ?_, ?_, ?_, ?_⟩
  · show Ws _ _ _ _ m.words; rw [b0] at h0 ⊢; exact h0.bare _
  · show Ls _ _ _ _ m.bits; rw [b1] at h1 ⊢; exact h1.bare _
  · show Bs _ _ _ _ m.data; rw [b2] at h2 ⊢; exact h2.bare _
  · show Rs _ _ _ _ m.recs; rw [b3] at h3 ⊢; exact h3.bare _
  · show Obs _ _ _ _ m.objects; rw [b4] at h4 ⊢; exact h4.bare _

theorem MB.set_addr (h : MB t w g m) (hb : m.Bare) (x : UInt16) : MB t (w.setCell ⟨g, 2, none⟩ (wordV x)) g (m.put_addr x) := by
  obtain ⟨cs, hg, aw, lw, cw, al, ll, cl, ad, ld, cd, ar, lr, cr, ao, lo, co, hv, h0, h1, h2, h3, h4⟩ := h
  obtain ⟨b0, b1, b2, b3, b4⟩ := hb
  injection hv with hv
  subst hv
  refine ⟨_, set_block hg _, aw, lw, cw, al, ll, cl, ad, ld, cd, ar, lr, cr, ao, lo, co, rfl, ?_, ?_, ?_, ?_, ?_⟩
  · show Ws _ _ _ _ m.words; rw [b0] at h0 ⊢; exact h0.bare _
  · show Ls _ _ _ _ m.bits; rw [b1] at h1 ⊢; exact h1.bare _
  · show Bs _ _ _ _ m.data; rw [b2] at h2 ⊢; exact h2.bare _
  · show Rs _ _ _ _ m.recs; rw [b3] at h3 ⊢; exact h3.bare _
  · show Obs _ _ _ _ m.objects; rw [b4] at h4 ⊢; exact h4.bare _

theorem MB.set_count (h : MB t w g m) (hb : m.Bare) (x : UInt16) : MB t (w.setCell ⟨g, 3, none⟩ (wordV x)) g (m.put_count x) := by
  obtain ⟨cs, hg, aw, lw, cw, al, ll, cl, ad, ld, cd, ar, lr, cr, ao, lo, co, hv, h0, h1, h2, h3, h4⟩ := h
  obtain ⟨b0, b1, b2, b3, b4⟩ := hb
  injection hv with hv
  subst hv
  refine ⟨_, set_block hg _, aw, lw, cw, al, ll, cl, ad, ld, cd, ar, lr, cr, ao, lo, co, rfl, ?_, ?_, ?_, ?_, ?_⟩
  · show Ws _ _ _ _ m.words; rw [b0] at h0 ⊢; exact h0.bare _
  · show Ls _ _ _ _ m.bits; rw [b1] at h1 ⊢; exact h1.bare _
  · show Bs _ _ _ _ m.data; rw [b2] at h2 ⊢; exact h2.bare _
  · show Rs _ _ _ _ m.recs; rw [b3] at h3 ⊢; exact h3.bare _
  · show Obs _ _ _ _ m.objects; rw [b4] at h4 ⊢; exact h4.bare _

theorem MB.set_value (h : MB t w g m) (hb : m.Bare) (x : UInt16) : MB t (w.setCell ⟨g, 4, none⟩ (wordV x)) g (m.put_value x) := by
  obtain ⟨cs, hg, aw, lw, cw, al, ll, cl, ad, ld, cd, ar, lr, cr, ao, lo, co, hv, h0, h1, h2, h3, h4⟩ := h
  obtain ⟨b0, b1, b2, b3, b4⟩ := hb
  injection hv with hv
  subst hv
  refine ⟨_, set_block hg _, aw, lw, cw, al, ll, cl, ad, ld, cd, ar, lr, cr, ao, lo, co, rfl, ?_, ?_, ?_, ?_, ?_⟩
  · show Ws _ _ _ _ m.words; rw [b0] at h0 ⊢; exact h0.bare _
  · show Ls _ _ _ _ m.bits; rw [b1] at h1 ⊢; exact h1.bare _
  · show Bs _ _ _ _ m.data; rw [b2] at h2 ⊢; exact h2.bare _
  · show Rs _ _ _ _ m.recs; rw [b3] at h3 ⊢; exact h3.bare _
  · show Obs _ _ _ _ m.objects; rw [b4] at h4 ⊢; exact h4.bare _

theorem MB.set_and (h : MB t w g m) (hb : m.Bare) (x : UInt16) : MB t (w.setCell ⟨g, 5, none⟩ (wordV x)) g (m.put_and x) := by
  obtain ⟨cs, hg, aw, lw, cw, al, ll, cl, ad, ld, cd, ar, lr, cr, ao, lo, co, hv, h0, h1, h2, h3, h4⟩ := h
  obtain ⟨b0, b1, b2, b3, b4⟩ := hb
  injection hv with hv
  subst hv
  refine ⟨_, set_block hg _, aw, lw, cw, al, ll, cl, ad, ld, cd, ar, lr, cr, ao, lo, co, rfl, ?_, ?_, ?_, ?_, ?_⟩
  · show Ws _ _ _ _ m.words; rw [b0] at h0 ⊢; exact h0.bare _
  · show Ls _ _ _ _ m.bits; rw [b1] at h1 ⊢; exact h1.bare _
  · show Bs _ _ _ _ m.data; rw [b2] at h2 ⊢; exact h2.bare _
  · show Rs _ _ _ _ m.recs; rw [b3] at h3 ⊢; exact h3.bare _
  · show Obs _ _ _ _ m.objects; rw [b4] at h4 ⊢; exact h4.bare _

theorem MB.set_or (h : MB t w g m) (hb : m.Bare) (x : UInt16) : MB t (w.setCell ⟨g, 6, none⟩ (wordV x)) g (m.put_or x) := by
  obtain ⟨cs, hg, aw, lw, cw, al, ll, cl, ad, ld, cd, ar, lr, cr, ao, lo, co, hv, h0, h1, h2, h3, h4⟩ := h
  obtain ⟨b0, b1, b2, b3, b4⟩ := hb
  injection hv with hv
  subst hv
  refine ⟨_, set_block hg _, aw, lw, cw, al, ll, cl, ad, ld, cd, ar, lr, cr, ao, lo, co, rfl, ?_, ?_, ?_, ?_, ?_⟩
  · show Ws _ _ _ _ m.words; rw [b0] at h0 ⊢; exact h0.bare _
  · show Ls _ _ _ _ m.bits; rw [b1] at h1 ⊢; exact h1.bare _
  · show Bs _ _ _ _ m.data; rw [b2] at h2 ⊢; exact h2.bare _
  · show Rs _ _ _ _ m.recs; rw [b3] at h3 ⊢; exact h3.bare _
  · show Obs _ _ _ _ m.objects; rw [b4] at h4 ⊢; exact h4.bare _

theorem MB.set_addr2 (h : MB t w g m) (hb : m.Bare) (x : UInt16) : MB t (w.setCell ⟨g, 7, none⟩ (wordV x)) g (m.put_addr2 x) := by
  obtain ⟨cs, hg, aw, lw, cw, al, ll, cl, ad, ld, cd, ar, lr, cr, ao, lo, co, hv, h0, h1, h2, h3, h4⟩ := h
  obtain ⟨b0, b1, b2, b3, b4⟩ := hb
  injection hv with hv
  subst hv
  refine ⟨_, set_block hg _, aw, lw, cw, al, ll, cl, ad, ld, cd, ar, lr, cr, ao, lo, co, rfl, ?_, ?_, ?_, ?_, ?_⟩
  · show Ws _ _ _ _ m.words; rw [b0] at h0 ⊢; exact h0.bare _
  · show Ls _ _ _ _ m.bits; rw [b1] at h1 ⊢; exact h1.bare _
  · show Bs _ _ _ _ m.data; rw [b2] at h2 ⊢; exact h2.bare _
  · show Rs _ _ _ _ m.recs; rw [b3] at h3 ⊢; exact h3.bare _
  · show Obs _ _ _ _ m.objects; rw [b4] at h4 ⊢; exact h4.bare _

theorem MB.set_sub (h : MB t w g m) (hb : m.Bare) (x : UInt16) : MB t (w.setCell ⟨g, 8, none⟩ (wordV x)) g (m.put_sub x) := by
  obtain ⟨cs, hg, aw, lw, cw, al, ll, cl, ad, ld, cd, ar, lr, cr, ao, lo, co, hv, h0, h1, h2, h3, h4⟩ := h
  obtain ⟨b0, b1, b2, b3, b4⟩ := hb
  injection hv with hv
  subst hv
  refine ⟨_, set_block hg _, aw, lw, cw, al, ll, cl, ad, ld, cd, ar, lr, cr, ao, lo, co, rfl, ?_, ?_, ?_, ?_, ?_⟩
  · show Ws _ _ _ _ m.words; rw [b0] at h0 ⊢; exact h0.bare _
  · show Ls _ _ _ _ m.bits; rw [b1] at h1 ⊢; exact h1.bare _
  · show Bs _ _ _ _ m.data; rw [b2] at h2 ⊢; exact h2.bare _
  · show Rs _ _ _ _ m.recs; rw [b3] at h3 ⊢; exact h3.bare _
  · show Obs _ _ _ _ m.objects; rw [b4] at h4 ⊢; exact h4.bare _

theorem MB.set_status (h : MB t w g m) (hb : m.Bare) (x : UInt16) : MB t (w.setCell ⟨g, 9, none⟩ (wordV x)) g (m.put_status x) := by
  obtain ⟨cs, hg, aw, lw, cw, al, ll, cl, ad, ld, cd, ar, lr, cr, ao, lo, co, hv, h0, h1, h2, h3, h4⟩ := h
  obtain ⟨b0, b1, b2, b3, b4⟩ := hb
  injection hv with hv
  subst hv
  refine ⟨_, set_block hg _, aw, lw, cw, al, ll, cl, ad, ld, cd, ar, lr, cr, ao, lo, co, rfl, ?_, ?_, ?_, ?_, ?_⟩
  · show Ws _ _ _ _ m.words; rw [b0] at h0 ⊢; exact h0.bare _
  · show Ls _ _ _ _ m.bits; rw [b1] at h1 ⊢; exact h1.bare _
  · show Bs _ _ _ _ m.data; rw [b2] at h2 ⊢; exact h2.bare _
  · show Rs _ _ _ _ m.recs; rw [b3] at h3 ⊢; exact h3.bare _
  · show Obs _ _ _ _ m.objects; rw [b4] at h4 ⊢; exact h4.bare _

theorem MB.set_events (h : MB t w g m) (hb : m.Bare) (x : UInt16) : MB t (w.setCell ⟨g, 10, none⟩ (wordV x)) g (m.put_events x) := by
  obtain ⟨cs, hg, aw, lw, cw, al, ll, cl, ad, ld, cd, ar, lr, cr, ao, lo, co, hv, h0, h1, h2, h3, h4⟩ := h
  obtain ⟨b0, b1, b2, b3, b4⟩ := hb
  injection hv with hv
  subst hv
  refine ⟨_, set_block hg _, aw, lw, cw, al, ll, cl, ad, ld, cd, ar, lr, cr, ao, lo, co, rfl, ?_, ?_, ?_, ?_, ?_⟩
  · show Ws _ _ _ _ m.words; rw [b0] at h0 ⊢; exact h0.bare _
  · show Ls _ _ _ _ m.bits; rw [b1] at h1 ⊢; exact h1.bare _
  · show Bs _ _ _ _ m.data; rw [b2] at h2 ⊢; exact h2.bare _
  · show Rs _ _ _ _ m.recs; rw [b3] at h3 ⊢; exact h3.bare _
  · show Obs _ _ _ _ m.objects; rw [b4] at h4 ⊢; exact h4.bare _

theorem MB.set_messages (h : MB t w g m) (hb : m.Bare) (x : UInt16) : MB t (w.setCell ⟨g, 11, none⟩ (wordV x)) g (m.put_messages x) := by
  obtain ⟨cs, hg, aw, lw, cw, al, ll, cl, ad, ld, cd, ar, lr, cr, ao, lo, co, hv, h0, h1, h2, h3, h4⟩ := h
  obtain ⟨b0, b1, b2, b3, b4⟩ := hb
  injection hv with hv
  subst hv
  refine ⟨_, set_block hg _, aw, lw, cw, al, ll, cl, ad, ld, cd, ar, lr, cr, ao, lo, co, rfl, ?_, ?_, ?_, ?_, ?_⟩
  · show Ws _ _ _ _ m.words; rw [b0] at h0 ⊢; exact h0.bare _
  · show Ls _ _ _ _ m.bits; rw [b1] at h1 ⊢; exact h1.bare _
  · show Bs _ _ _ _ m.data; rw [b2] at h2 ⊢; exact h2.bare _
  · show Rs _ _ _ _ m.recs; rw [b3] at h3 ⊢; exact h3.bare _
  · show Obs _ _ _ _ m.objects; rw [b4] at h4 ⊢; exact h4.bare _

theorem MB.set_mei (h : MB t w g m) (hb : m.Bare) (x : UInt8) : MB t (w.setCell ⟨g, 16, none⟩ (byteV x)) g (m.put_mei x) := by
  obtain ⟨cs, hg, aw, lw, cw, al, ll, cl, ad, ld, cd, ar, lr, cr, ao, lo, co, hv, h0, h1, h2, h3, h4⟩ := h
  obtain ⟨b0, b1, b2, b3, b4⟩ := hb
  injection hv with hv
  subst hv
  refine ⟨_, set_block hg _, aw, lw, cw, al, ll, cl, ad, ld, cd, ar, lr, cr, ao, lo, co, rfl, ?_, ?_, ?_, ?_, ?_⟩
  · show Ws _ _ _ _ m.words; rw [b0] at h0 ⊢; exact h0.bare _
  · show Ls _ _ _ _ m.bits; rw [b1] at h1 ⊢; exact h1.bare _
  · show Bs _ _ _ _ m.data; rw [b2] at h2 ⊢; exact h2.bare _
  · show Rs _ _ _ _ m.recs; rw [b3] at h3 ⊢; exact h3.bare _
  · show Obs _ _ _ _ m.objects; rw [b4] at h4 ⊢; exact h4.bare _

theorem MB.set_kind (h : MB t w g m) (hb : m.Bare) (x : UInt8) : MB t (w.setCell ⟨g, 17, none⟩ (byteV x)) g (m.put_kind x) := by
  obtain ⟨cs, hg, aw, lw, cw, al, ll, cl, ad, ld, cd, ar, lr, cr, ao, lo, co, hv, h0, h1, h2, h3, h4⟩ := h
  obtain ⟨b0, b1, b2, b3, b4⟩ := hb
  injection hv with hv
  subst hv
  refine ⟨_, set_block hg _, aw, lw, cw, al, ll, cl, ad, ld, cd, ar, lr, cr, ao, lo, co, rfl, ?_, ?_, ?_, ?_, ?_⟩
  · show Ws _ _ _ _ m.words; rw [b0] at h0 ⊢; exact h0.bare _
  · show Ls _ _ _ _ m.bits; rw [b1] at h1 ⊢; exact h1.bare _
  · show Bs _ _ _ _ m.data; rw [b2] at h2 ⊢; exact h2.bare _
  · show Rs _ _ _ _ m.recs; rw [b3] at h3 ⊢; exact h3.bare _
  · show Obs _ _ _ _ m.objects; rw [b4] at h4 ⊢; exact h4.bare _

theorem MB.set_level (h : MB t w g m) (hb : m.Bare) (x : UInt8) : MB t (w.setCell ⟨g, 18, none⟩ (byteV x)) g (m.put_level x) := by
  obtain ⟨cs, hg, aw, lw, cw, al, ll, cl, ad, ld, cd, ar, lr, cr, ao, lo, co, hv, h0, h1, h2, h3, h4⟩ := h
  obtain ⟨b0, b1, b2, b3, b4⟩ := hb
  injection hv with hv
  subst hv
  refine ⟨_, set_block hg _, aw, lw, cw, al, ll, cl, ad, ld, cd, ar, lr, cr, ao, lo, co, rfl, ?_, ?_, ?_, ?_, ?_⟩
  · show Ws _ _ _ _ m.words; rw [b0] at h0 ⊢; exact h0.bare _
  · show Ls _ _ _ _ m.bits; rw [b1] at h1 ⊢; exact h1.bare _
  · show Bs _ _ _ _ m.data; rw [b2] at h2 ⊢; exact h2.bare _
  · show Rs _ _ _ _ m.recs; rw [b3] at h3 ⊢; exact h3.bare _
  · show Obs _ _ _ _ m.objects; rw [b4] at h4 ⊢; exact h4.bare _

theorem MB.set_more (h : MB t w g m) (hb : m.Bare) (x : UInt8) : MB t (w.setCell ⟨g, 19, none⟩ (byteV x)) g (m.put_more x) := by
  obtain ⟨cs, hg, aw, lw, cw, al, ll, cl, ad, ld, cd, ar, lr, cr, ao, lo, co, hv, h0, h1, h2, h3, h4⟩ := h
  obtain ⟨b0, b1, b2, b3, b4⟩ := hb
  injection hv with hv
  subst hv
  refine ⟨_, set_block hg _, aw, lw, cw, al, ll, cl, ad, ld, cd, ar, lr, cr, ao, lo, co, rfl, ?_, ?_, ?_, ?_, ?_⟩
  · show Ws _ _ _ _ m.words; rw [b0] at h0 ⊢; exact h0.bare _
  · show Ls _ _ _ _ m.bits; rw [b1] at h1 ⊢; exact h1.bare _
  · show Bs _ _ _ _ m.data; rw [b2] at h2 ⊢; exact h2.bare _
  · show Rs _ _ _ _ m.recs; rw [b3] at h3 ⊢; exact h3.bare _
  · show Obs _ _ _ _ m.objects; rw [b4] at h4 ⊢; exact h4.bare _

theorem MB.set_next (h : MB t w g m) (hb : m.Bare) (x : UInt8) : MB t (w.setCell ⟨g, 20, none⟩ (byteV x)) g (m.put_next x) := by
  obtain ⟨cs, hg, aw, lw, cw, al, ll, cl, ad, ld, cd, ar, lr, cr, ao, lo, co, hv, h0, h1, h2, h3, h4⟩ := h
  obtain ⟨b0, b1, b2, b3, b4⟩ := hb
  injection hv with hv
  subst hv
  refine ⟨_, set_block hg _, aw, lw, cw, al, ll, cl, ad, ld, cd, ar, lr, cr, ao, lo, co, rfl, ?_, ?_, ?_, ?_, ?_⟩
  · show Ws _ _ _ _ m.words; rw [b0] at h0 ⊢; exact h0.bare _
  · show Ls _ _ _ _ m.bits; rw [b1] at h1 ⊢; exact h1.bare _
  · show Bs _ _ _ _ m.data; rw [b2] at h2 ⊢; exact h2.bare _
  · show Rs _ _ _ _ m.recs; rw [b3] at h3 ⊢; exact h3.bare _
  · show Obs _ _ _ _ m.objects; rw [b4] at h4 ⊢; exact h4.bare _

theorem MB.set_words (h : MB t w g m) (hb : m.Bare) {a : Option Addr} {l c : Nat} {xs : List UInt16} (hx : Ws w a l c xs) : MB t (w.setCell ⟨g, 12, none⟩ (.slice a l c)) g (m.put_words xs) := by
  obtain ⟨cs, hg, aw, lw, cw, al, ll, cl, ad, ld, cd, ar, lr, cr, ao, lo, co, hv, h0, h1, h2, h3, h4⟩ := h
  obtain ⟨b0, b1, b2, b3, b4⟩ := hb
  injection hv with hv
  subst hv
  refine ⟨_, set_block hg _, a, l, c, al, ll, cl, ad, ld, cd, ar, lr, cr, ao, lo, co, rfl, ?_, ?_, ?_, ?_, ?_⟩
  · exact hx.cellSet (cell_of_row w g 12 _ _ _ hg) (fun x hx => by cases hx) _
  · show Ls _ _ _ _ m.bits; rw [b1] at h1 ⊢; exact h1.bare _
  · show Bs _ _ _ _ m.data; rw [b2] at h2 ⊢; exact h2.bare _
  · show Rs _ _ _ _ m.recs; rw [b3] at h3 ⊢; exact h3.bare _
  · show Obs _ _ _ _ m.objects; rw [b4] at h4 ⊢; exact h4.bare _

theorem MB.set_bits (h : MB t w g m) (hb : m.Bare) {a : Option Addr} {l c : Nat} {xs : List Bool} (hx : Ls w a l c xs) : MB t (w.setCell ⟨g, 13, none⟩ (.slice a l c)) g (m.put_bits xs) := by
  obtain ⟨cs, hg, aw, lw, cw, al, ll, cl, ad, ld, cd, ar, lr, cr, ao, lo, co, hv, h0, h1, h2, h3, h4⟩ := h
  obtain ⟨b0, b1, b2, b3, b4⟩ := hb
  injection hv with hv
  subst hv
  refine ⟨_, set_block hg _, aw, lw, cw, a, l, c, ad, ld, cd, ar, lr, cr, ao, lo, co, rfl, ?_, ?_, ?_, ?_, ?_⟩
  · show Ws _ _ _ _ m.words; rw [b0] at h0 ⊢; exact h0.bare _
  · exact hx.cellSet (cell_of_row w g 13 _ _ _ hg) (fun x hx => by cases hx) _
  · show Bs _ _ _ _ m.data; rw [b2] at h2 ⊢; exact h2.bare _
  · show Rs _ _ _ _ m.recs; rw [b3] at h3 ⊢; exact h3.bare _
  · show Obs _ _ _ _ m.objects; rw [b4] at h4 ⊢; exact h4.bare _

theorem MB.set_data (h : MB t w g m) (hb : m.Bare) {a : Option Addr} {l c : Nat} {xs : List UInt8} (hx : Bs w a l c xs) : MB t (w.setCell ⟨g, 14, none⟩ (.slice a l c)) g (m.put_data xs) := by
  obtain ⟨cs, hg, aw, lw, cw, al, ll, cl, ad, ld, cd, ar, lr, cr, ao, lo, co, hv, h0, h1, h2, h3, h4⟩ := h
  obtain ⟨b0, b1, b2, b3, b4⟩ := hb
  injection hv with hv
  subst hv
  refine ⟨_, set_block hg _, aw, lw, cw, al, ll, cl, a, l, c, ar, lr, cr, ao, lo, co, rfl, ?_, ?_, ?_, ?_, ?_⟩
  · show Ws _ _ _ _ m.words; rw [b0] at h0 ⊢; exact h0.bare _
  · show Ls _ _ _ _ m.bits; rw [b1] at h1 ⊢; exact h1.bare _
  · exact hx.cellSet (cell_of_row w g 14 _ _ _ hg) (fun x hx => by cases hx) _
  · show Rs _ _ _ _ m.recs; rw [b3] at h3 ⊢; exact h3.bare _
  · show Obs _ _ _ _ m.objects; rw [b4] at h4 ⊢; exact h4.bare _

end

end Go.Proofs.Ytjacnghndnkcnaa
