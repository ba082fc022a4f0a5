/-
  Messages with one field put; messages without lists.
-/
import Derived.Test.YtjacnghndnkcnaaMsg
namespace Go.Proofs.Ytjacnghndnkcnaa

/-- The message has no lists. -/
def MsgM.Bare (m : MsgM) : Prop := m.words = [] ∧ m.bits = [] ∧ m.data = [] ∧ m.recs = [] ∧ m.objects = []
/-- A message of a code, all else being zero. -/
def MsgM.of (c : UInt8) : MsgM := ⟨c, 0, 0, 0, 0, 0, 0, 0, 0, 0, 0, 0, [], [], [], [], 0, 0, 0, 0, 0, []⟩
def MsgM.zero : MsgM := MsgM.of 0
theorem MsgM.bare_of (c : UInt8) : (MsgM.of c).Bare := ⟨rfl, rfl, rfl, rfl, rfl⟩

def MsgM.put_code (m : MsgM) (x : UInt8) : MsgM := { m with code := x }
theorem MsgM.Bare.put_code {m : MsgM} (h : m.Bare) (x : UInt8) : (m.put_code x).Bare := h
def MsgM.put_fail (m : MsgM) (x : UInt8) : MsgM := { m with fail := x }
theorem MsgM.Bare.put_fail {m : MsgM} (h : m.Bare) (x : UInt8) : (m.put_fail x).Bare := h
def MsgM.put_addr (m : MsgM) (x : UInt16) : MsgM := { m with addr := x }
theorem MsgM.Bare.put_addr {m : MsgM} (h : m.Bare) (x : UInt16) : (m.put_addr x).Bare := h
def MsgM.put_count (m : MsgM) (x : UInt16) : MsgM := { m with count := x }
theorem MsgM.Bare.put_count {m : MsgM} (h : m.Bare) (x : UInt16) : (m.put_count x).Bare := h
def MsgM.put_value (m : MsgM) (x : UInt16) : MsgM := { m with value := x }
theorem MsgM.Bare.put_value {m : MsgM} (h : m.Bare) (x : UInt16) : (m.put_value x).Bare := h
def MsgM.put_and (m : MsgM) (x : UInt16) : MsgM := { m with and_ := x }
theorem MsgM.Bare.put_and {m : MsgM} (h : m.Bare) (x : UInt16) : (m.put_and x).Bare := h
def MsgM.put_or (m : MsgM) (x : UInt16) : MsgM := { m with or_ := x }
theorem MsgM.Bare.put_or {m : MsgM} (h : m.Bare) (x : UInt16) : (m.put_or x).Bare := h
def MsgM.put_addr2 (m : MsgM) (x : UInt16) : MsgM := { m with addr2 := x }
theorem MsgM.Bare.put_addr2 {m : MsgM} (h : m.Bare) (x : UInt16) : (m.put_addr2 x).Bare := h
def MsgM.put_sub (m : MsgM) (x : UInt16) : MsgM := { m with sub := x }
theorem MsgM.Bare.put_sub {m : MsgM} (h : m.Bare) (x : UInt16) : (m.put_sub x).Bare := h
def MsgM.put_status (m : MsgM) (x : UInt16) : MsgM := { m with status := x }
theorem MsgM.Bare.put_status {m : MsgM} (h : m.Bare) (x : UInt16) : (m.put_status x).Bare := h
def MsgM.put_events (m : MsgM) (x : UInt16) : MsgM := { m with events := x }
theorem MsgM.Bare.put_events {m : MsgM} (h : m.Bare) (x : UInt16) : (m.put_events x).Bare := h
def MsgM.put_messages (m : MsgM) (x : UInt16) : MsgM := { m with messages := x }
theorem MsgM.Bare.put_messages {m : MsgM} (h : m.Bare) (x : UInt16) : (m.put_messages x).Bare := h
def MsgM.put_mei (m : MsgM) (x : UInt8) : MsgM := { m with mei := x }
theorem MsgM.Bare.put_mei {m : MsgM} (h : m.Bare) (x : UInt8) : (m.put_mei x).Bare := h
def MsgM.put_kind (m : MsgM) (x : UInt8) : MsgM := { m with kind := x }
theorem MsgM.Bare.put_kind {m : MsgM} (h : m.Bare) (x : UInt8) : (m.put_kind x).Bare := h
def MsgM.put_level (m : MsgM) (x : UInt8) : MsgM := { m with level := x }
theorem MsgM.Bare.put_level {m : MsgM} (h : m.Bare) (x : UInt8) : (m.put_level x).Bare := h
def MsgM.put_more (m : MsgM) (x : UInt8) : MsgM := { m with more := x }
theorem MsgM.Bare.put_more {m : MsgM} (h : m.Bare) (x : UInt8) : (m.put_more x).Bare := h
def MsgM.put_next (m : MsgM) (x : UInt8) : MsgM := { m with next := x }
theorem MsgM.Bare.put_next {m : MsgM} (h : m.Bare) (x : UInt8) : (m.put_next x).Bare := h
def MsgM.put_words (m : MsgM) (xs : List UInt16) : MsgM := { m with words := xs }
def MsgM.put_bits (m : MsgM) (xs : List Bool) : MsgM := { m with bits := xs }
def MsgM.put_data (m : MsgM) (xs : List UInt8) : MsgM := { m with data := xs }
def MsgM.put_recs (m : MsgM) (xs : List RecM) : MsgM := { m with recs := xs }
def MsgM.put_objects (m : MsgM) (xs : List ObjM) : MsgM := { m with objects := xs }

end Go.Proofs.Ytjacnghndnkcnaa
