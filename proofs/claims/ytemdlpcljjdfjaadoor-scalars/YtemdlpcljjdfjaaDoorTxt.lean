import Derived.Test.YtemdlpcljjdfjaaDoorHrow
import Derived.Laws.IdiomStrings
import Derived.Deep.MidRow
/- Texts as lists of bytes. Nothing of the dump. -/
namespace Go.Proofs.YtemdlpcljjdfjaaDoor
open Go.RowKit
def bytesOf (s : ByteArray) : List UInt8 := s.data.toList
theorem bytesOf_length (s : ByteArray) : (bytesOf s).length = s.size := rfl
def strOf (l : List UInt8) : ByteArray := ⟨l.toArray⟩
theorem bytesOf_strOf (l : List UInt8) : bytesOf (strOf l) = l := by simp [bytesOf, strOf]
theorem strOf_bytesOf (s : ByteArray) : strOf (bytesOf s) = s := by cases s; simp [bytesOf, strOf]
/-- '[]byte(s)'. -/
theorem conv_bytes {P : Program} (src dst e : TypeId) (hs : P.underlying src = some .string) (hd : P.underlying dst = some (.slice e)) (he : P.underlying e = some (.int .u8)) (s : ByteArray) (w : World) :
    ∃ cap W1, (convert src dst (.string s)).run P w = .ok (.slice (some ⟨w.heap.size, 0, none⟩) s.size cap) W1 ∧ W1.rangeAt w.heap.size 0 ((bytesOf s).map cv) ∧ Below w.heap.size w W1 ∧ W1.heap.size = w.heap.size + 1 := by
  refine ⟨_, _, run_bytes_of_string (P := P) w src dst e s hs hd he, ?_, (Below.refl _ _).drew.alloc (Nat.le_refl _) _, by simp⟩
  intro j v hv
  rw [Nat.zero_add, cell_of_row _ w.heap.size j _ _ _ (heap_alloc_new w.drew _)]
  have hj : j < s.data.size := by
    have := (List.getElem?_eq_some_iff.1 hv).1
    simpa [bytesOf] using this
  simp only [bytesRow]
  rw [Array.getElem?_append_left (by simpa using hj)]
  simp [bytesOf, List.getElem?_map] at hv ⊢
  exact hv
/-- The number of bytes, the first one the least. -/
def valLE : List UInt8 → Nat
  | [] => 0
  | c :: l => c.toNat + 256 * valLE l
end Go.Proofs.YtemdlpcljjdfjaaDoor
