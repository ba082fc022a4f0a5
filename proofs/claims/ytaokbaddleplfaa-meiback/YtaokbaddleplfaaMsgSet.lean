/-
  One field of a message's cells turned, in whatever world.
-/
import Derived.Test.YtaokbaddleplfaaMsgPut
namespace Go.Proofs.Ytaokbaddleplfaa
open Go.RowKit

section
variable {w : World} {cs : Array Value} {m : MsgM}

theorem MsgAt.set_code (h : MsgAt w (.agg cs) m) (x : UInt8) : MsgAt w (.agg (cs.set! 0 (byteV x))) (m.put_code x) := by
  obtain ⟨aw, lw, cw, al, ll, cl, ad, ld, cd, ar, lr, cr, ao, lo, co, hv, h0, h1, h2, h3, h4⟩ := h
  injection hv with hv
  subst hv
  exact ⟨aw, lw, cw, al, ll, cl, ad, ld, cd, ar, lr, cr, ao, lo, co, rfl, h0, h1, h2, h3, h4⟩

theorem MsgAt.set_fail (h : MsgAt w (.agg cs) m) (x : UInt8) : MsgAt w (.agg (cs.set! 1 (byteV x))) (m.put_fail x) := by
  obtain ⟨aw, lw, cw, al, ll, cl, ad, ld, cd, ar, lr, cr, ao, lo, co, hv, h0, h1, h2, h3, h4⟩ := h
  injection hv with hv
  subst hv
  exact ⟨aw, lw, cw, al, ll, cl, ad, ld, cd, ar, lr, cr, ao, lo, co, rfl, h0, h1, h2, h3, h4⟩

theorem MsgAt.set_addr (h : MsgAt w (.agg cs) m) (x : UInt16) : MsgAt w (.agg (cs.set! 2 (wordV x))) (m.put_addr x) := by
  obtain ⟨aw, lw, cw, al, ll, cl, ad, ld, cd, ar, lr, cr, ao, lo, co, hv, h0, h1, h2, h3, h4⟩ := h
  injection hv with hv
  subst hv
  exact ⟨aw, lw, cw, al, ll, cl, ad, ld, cd, ar, lr, cr, ao, lo, co, rfl, h0, h1, h2, h3, h4⟩

theorem MsgAt.set_count (h : MsgAt w (.agg cs) m) (x : UInt16) : MsgAt w (.agg (cs.set! 3 (wordV x))) (m.put_count x) := by
  obtain ⟨aw, lw, cw, al, ll, cl, ad, ld, cd, ar, lr, cr, ao, lo, co, hv, h0, h1, h2, h3, h4⟩ := h
  injection hv with hv
  subst hv
  exact ⟨aw, lw, cw, al, ll, cl, ad, ld, cd, ar, lr, cr, ao, lo, co, rfl, h0, h1, h2, h3, h4⟩

theorem MsgAt.set_value (h : MsgAt w (.agg cs) m) (x : UInt16) : MsgAt w (.agg (cs.set! 4 (wordV x))) (m.put_value x) := by
  obtain ⟨aw, lw, cw, al, ll, cl, ad, ld, cd, ar, lr, cr, ao, lo, co, hv, h0, h1, h2, h3, h4⟩ := h
  injection hv with hv
  subst hv
  exact ⟨aw, lw, cw, al, ll, cl, ad, ld, cd, ar, lr, cr, ao, lo, co, rfl, h0, h1, h2, h3, h4⟩

theorem MsgAt.set_and (h : MsgAt w (.agg cs) m) (x : UInt16) : MsgAt w (.agg (cs.set! 5 (wordV x))) (m.put_and x) := by
  obtain ⟨aw, lw, cw, al, ll, cl, ad, ld, cd, ar, lr, cr, ao, lo, co, hv, h0, h1, h2, h3, h4⟩ := h
  injection hv with hv
  subst hv
  exact ⟨aw, lw, cw, al, ll, cl, ad, ld, cd, ar, lr, cr, ao, lo, co, rfl, h0, h1, h2, h3, h4⟩

theorem MsgAt.set_or (h : MsgAt w (.agg cs) m) (x : UInt16) : MsgAt w (.agg (cs.set! 6 (wordV x))) (m.put_or x) := by
  obtain ⟨aw, lw, cw, al, ll, cl, ad, ld, cd, ar, lr, cr, ao, lo, co, hv, h0, h1, h2, h3, h4⟩ := h
  injection hv with hv
  subst hv
  exact ⟨aw, lw, cw, al, ll, cl, ad, ld, cd, ar, lr, cr, ao, lo, co, rfl, h0, h1, h2, h3, h4⟩

theorem MsgAt.set_addr2 (h : MsgAt w (.agg cs) m) (x : UInt16) : MsgAt w (.agg (cs.set! 7 (wordV x))) (m.put_addr2 x) := by
  obtain ⟨aw, lw, cw, al, ll, cl, ad, ld, cd, ar, lr, cr, ao, lo, co, hv, h0, h1, h2, h3, h4⟩ := h
  injection hv with hv
  subst hv
  exact ⟨aw, lw, cw, al, ll, cl, ad, ld, cd, ar, lr, cr, ao, lo, co, rfl, h0, h1, h2, h3, h4⟩

theorem MsgAt.set_sub (h : MsgAt w (.agg cs) m) (x : UInt16) : MsgAt w (.agg (cs.set! 8 (wordV x))) (m.put_sub x) := by
  obtain ⟨aw, lw, cw, al, ll, cl, ad, ld, cd, ar, lr, cr, ao, lo, co, hv, h0, h1, h2, h3, h4⟩ := h
  injection hv with hv
  subst hv
  exact ⟨aw, lw, cw, al, ll, cl, ad, ld, cd, ar, lr, cr, ao, lo, co, rfl, h0, h1, h2, h3, h4⟩

theorem MsgAt.set_status (h : MsgAt w (.agg cs) m) (x : UInt16) : MsgAt w (.agg (cs.set! 9 (wordV x))) (m.put_status x) := by
  obtain ⟨aw, lw, cw, al, ll, cl, ad, ld, cd, ar, lr, cr, ao, lo, co, hv, h0, h1, h2, h3, h4⟩ := h
  injection hv with hv
  subst hv
  exact ⟨aw, lw, cw, al, ll, cl, ad, ld, cd, ar, lr, cr, ao, lo, co, rfl, h0, h1, h2, h3, h4⟩

theorem MsgAt.set_events (h : MsgAt w (.agg cs) m) (x : UInt16) : MsgAt w (.agg (cs.set! 10 (wordV x))) (m.put_events x) := by
  obtain ⟨aw, lw, cw, al, ll, cl, ad, ld, cd, ar, lr, cr, ao, lo, co, hv, h0, h1, h2, h3, h4⟩ := h
  injection hv with hv
  subst hv
  exact ⟨aw, lw, cw, al, ll, cl, ad, ld, cd, ar, lr, cr, ao, lo, co, rfl, h0, h1, h2, h3, h4⟩

theorem MsgAt.set_messages (h : MsgAt w (.agg cs) m) (x : UInt16) : MsgAt w (.agg (cs.set! 11 (wordV x))) (m.put_messages x) := by
  obtain ⟨aw, lw, cw, al, ll, cl, ad, ld, cd, ar, lr, cr, ao, lo, co, hv, h0, h1, h2, h3, h4⟩ := h
  injection hv with hv
  subst hv
  exact ⟨aw, lw, cw, al, ll, cl, ad, ld, cd, ar, lr, cr, ao, lo, co, rfl, h0, h1, h2, h3, h4⟩

theorem MsgAt.set_mei (h : MsgAt w (.agg cs) m) (x : UInt8) : MsgAt w (.agg (cs.set! 16 (byteV x))) (m.put_mei x) := by
  obtain ⟨aw, lw, cw, al, ll, cl, ad, ld, cd, ar, lr, cr, ao, lo, co, hv, h0, h1, h2, h3, h4⟩ := h
  injection hv with hv
  subst hv
  exact ⟨aw, lw, cw, al, ll, cl, ad, ld, cd, ar, lr, cr, ao, lo, co, rfl, h0, h1, h2, h3, h4⟩

theorem MsgAt.set_kind (h : MsgAt w (.agg cs) m) (x : UInt8) : MsgAt w (.agg (cs.set! 17 (byteV x))) (m.put_kind x) := by
  obtain ⟨aw, lw, cw, al, ll, cl, ad, ld, cd, ar, lr, cr, ao, lo, co, hv, h0, h1, h2, h3, h4⟩ := h
  injection hv with hv
  subst hv
  exact ⟨aw, lw, cw, al, ll, cl, ad, ld, cd, ar, lr, cr, ao, lo, co, rfl, h0, h1, h2, h3, h4⟩

theorem MsgAt.set_level (h : MsgAt w (.agg cs) m) (x : UInt8) : MsgAt w (.agg (cs.set! 18 (byteV x))) (m.put_level x) := by
  obtain ⟨aw, lw, cw, al, ll, cl, ad, ld, cd, ar, lr, cr, ao, lo, co, hv, h0, h1, h2, h3, h4⟩ := h
  injection hv with hv
  subst hv
  exact ⟨aw, lw, cw, al, ll, cl, ad, ld, cd, ar, lr, cr, ao, lo, co, rfl, h0, h1, h2, h3, h4⟩

theorem MsgAt.set_more (h : MsgAt w (.agg cs) m) (x : UInt8) : MsgAt w (.agg (cs.set! 19 (byteV x))) (m.put_more x) := by
  obtain ⟨aw, lw, cw, al, ll, cl, ad, ld, cd, ar, lr, cr, ao, lo, co, hv, h0, h1, h2, h3, h4⟩ := h
  injection hv with hv
  subst hv
  exact ⟨aw, lw, cw, al, ll, cl, ad, ld, cd, ar, lr, cr, ao, lo, co, rfl, h0, h1, h2, h3, h4⟩

theorem MsgAt.set_next (h : MsgAt w (.agg cs) m) (x : UInt8) : MsgAt w (.agg (cs.set! 20 (byteV x))) (m.put_next x) := by
  obtain ⟨aw, lw, cw, al, ll, cl, ad, ld, cd, ar, lr, cr, ao, lo, co, hv, h0, h1, h2, h3, h4⟩ := h
  injection hv with hv
  subst hv
  exact ⟨aw, lw, cw, al, ll, cl, ad, ld, cd, ar, lr, cr, ao, lo, co, rfl, h0, h1, h2, h3, h4⟩

theorem MsgAt.set_words (h : MsgAt w (.agg cs) m) {a : Option Addr} {l c : Nat} {xs : List UInt16} (hx : Ws w a l c xs) : MsgAt w (.agg (cs.set! 12 (.slice a l c))) (m.put_words xs) := by
  obtain ⟨aw, lw, cw, al, ll, cl, ad, ld, cd, ar, lr, cr, ao, lo, co, hv, h0, h1, h2, h3, h4⟩ := h
  injection hv with hv
  subst hv
  exact ⟨a, l, c, al, ll, cl, ad, ld, cd, ar, lr, cr, ao, lo, co, rfl, hx, h1, h2, h3, h4⟩

theorem MsgAt.set_bits (h : MsgAt w (.agg cs) m) {a : Option Addr} {l c : Nat} {xs : List Bool} (hx : Ls w a l c xs) : MsgAt w (.agg (cs.set! 13 (.slice a l c))) (m.put_bits xs) := by
  obtain ⟨aw, lw, cw, al, ll, cl, ad, ld, cd, ar, lr, cr, ao, lo, co, hv, h0, h1, h2, h3, h4⟩ := h
  injection hv with hv
  subst hv
  exact ⟨aw, lw, cw, a, l, c, ad, ld, cd, ar, lr, cr, ao, lo, co, rfl, h0, hx, h2, h3, h4⟩

theorem MsgAt.set_data (h : MsgAt w (.agg cs) m) {a : Option Addr} {l c : Nat} {xs : List UInt8} (hx : Bs w a l c xs) : MsgAt w (.agg (cs.set! 14 (.slice a l c))) (m.put_data xs) := by
  obtain ⟨aw, lw, cw, al, ll, cl, ad, ld, cd, ar, lr, cr, ao, lo, co, hv, h0, h1, h2, h3, h4⟩ := h
  injection hv with hv
  subst hv
  exact ⟨aw, lw, cw, al, ll, cl, a, l, c, ar, lr, cr, ao, lo, co, rfl, h0, h1, hx, h3, h4⟩

theorem MsgAt.set_recs (h : MsgAt w (.agg cs) m) {a : Option Addr} {l c : Nat} {xs : List RecM} (hx : Rs w a l c xs) : MsgAt w (.agg (cs.set! 15 (.slice a l c))) (m.put_recs xs) := by
  obtain ⟨aw, lw, cw, al, ll, cl, ad, ld, cd, ar, lr, cr, ao, lo, co, hv, h0, h1, h2, h3, h4⟩ := h
  injection hv with hv
  subst hv
  exact ⟨aw, lw, cw, al, ll, cl, ad, ld, cd, a, l, c, ao, lo, co, rfl, h0, h1, h2, hx, h4⟩

theorem MsgAt.set_objects (h : MsgAt w (.agg cs) m) {a : Option Addr} {l c : Nat} {xs : List ObjM} (hx : Obs w a l c xs) : MsgAt w (.agg (cs.set! 21 (.slice a l c))) (m.put_objects xs) := by
  obtain ⟨aw, lw, cw, al, ll, cl, ad, ld, cd, ar, lr, cr, ao, lo, co, hv, h0, h1, h2, h3, h4⟩ := h
  injection hv with hv
  subst hv
  exact ⟨aw, lw, cw, al, ll, cl, ad, ld, cd, ar, lr, cr, a, l, c, rfl, h0, h1, h2, h3, hx⟩

end

end Go.Proofs.Ytaokbaddleplfaa
