import Derived.Test.YtcnbhpghcjcejaaDoorWords
/- A hasher's row of cells; what a call that turns one block alone leaves. Nothing of the dump. -/
namespace Go.Proofs.YtcnbhpghcjcejaaDoor
open Go.RowKit

theorem hide {p : Prop} (h : p) : Hid p := h

/-- A word, a byte, as a value. -/
abbrev uv (x : BitVec 64) : Value := .int .u64 (U x)
abbrev cv (c : UInt8) : Value := .int .u8 (C8 c)

structure S8 where
  a : BitVec 64
  b : BitVec 64
  c : BitVec 64
  d : BitVec 64
  e : BitVec 64
  f : BitVec 64
  g : BitVec 64
  h : BitVec 64

def S8.words (s : S8) : List (BitVec 64) := [s.a, s.b, s.c, s.d, s.e, s.f, s.g, s.h]
def S8.add (s t : S8) : S8 := ⟨s.a + t.a, s.b + t.b, s.c + t.c, s.d + t.d, s.e + t.e, s.f + t.f, s.g + t.g, s.h + t.h⟩
theorem S8.words_length (s : S8) : s.words.length = 8 := rfl

structure HS where
  st : S8
  blk : List UInt8
  n : Nat

def HS.hi (H : HS) : BitVec 64 := BitVec.ofNat 64 (H.n / 18446744073709551616)
def HS.lo (H : HS) : BitVec 64 := BitVec.ofNat 64 H.n

def HS.row (H : HS) : List Value := H.st.words.map uv ++ (H.blk.map cv ++ [uv H.hi, uv H.lo])

/-- Block b of the world is the row of H. -/
structure Has (w : World) (b : Nat) (T : TypeId) (H : HS) : Prop where
  heap : w.heap[b]? = some (.cells H.row.toArray T (0, 0))
  len : H.blk.length = 128

/-- No block that was there has turned, but block b. -/
structure Turn (b : Nat) (w w' : World) : Prop where
  os : w'.os = w.os
  tape : w'.tape = w.tape
  output : w'.output = w.output
  size : w.heap.size ≤ w'.heap.size
  block : ∀ k, k < w.heap.size → k ≠ b → w'.heap[k]? = w.heap[k]?

theorem Turn.refl (b : Nat) (w : World) : Turn b w w := ⟨rfl, rfl, rfl, Nat.le_refl _, fun _ _ _ => rfl⟩
theorem Turn.trans {b : Nat} {x y z : World} (h : Turn b x y) (k : Turn b y z) : Turn b x z :=
  ⟨k.os.trans h.os, k.tape.trans h.tape, k.output.trans h.output, Nat.le_trans h.size k.size,
   fun i hi hb => (k.block i (Nat.lt_of_lt_of_le hi h.size) hb).trans (h.block i hi hb)⟩
theorem Turn.drew {b : Nat} {x y : World} (h : Turn b x y) : Turn b x y.drew := ⟨h.os, h.tape, h.output, h.size, h.block⟩
theorem Turn.alloc {b : Nat} {x y : World} (h : Turn b x y) (o : Obj) : Turn b x (y.alloc o) :=
  h.trans ⟨rfl, rfl, rfl, by simp, fun k hk _ => Below.heap_alloc _ _ _ hk⟩
theorem Turn.setCell {b : Nat} {x y : World} (h : Turn b x y) {p : Addr} (hp : p.block = b) (u : Value) : Turn b x (y.setCell p u) :=
  h.trans ⟨rfl, rfl, rfl, by simp [World.setCell], fun k _ hk => Below.heap_setCell _ _ _ _ (by omega)⟩
theorem Turn.setNew {b : Nat} {x y : World} (h : Turn b x y) {p : Addr} (hp : x.heap.size ≤ p.block) (u : Value) : Turn b x (y.setCell p u) :=
  ⟨h.os, h.tape, h.output, by simp [World.setCell]; exact h.size,
   fun k hk hb => (Below.heap_setCell _ _ _ _ (by omega)).trans (h.block k hk hb)⟩
theorem Turn.below {b B : Nat} {w w' : World} (h : Turn b w w') (hb : B ≤ b) (hB : B ≤ w.heap.size) : Below B w w' :=
  ⟨h.os, h.tape, h.output, h.size, fun k hk => h.block k (by omega) (by omega)⟩
theorem Turn.of_below {b : Nat} {w w' : World} (h : Below w.heap.size w w') : Turn b w w' :=
  ⟨h.os, h.tape, h.output, h.size, fun k hk _ => h.block k hk⟩
/-- A call that turned a block that the caller made alone. -/
theorem Turn.newer {b c : Nat} {x y z : World} (h : Turn b x y) (k : Turn c y z) (hc : x.heap.size ≤ c) : Turn b x z :=
  ⟨k.os.trans h.os, k.tape.trans h.tape, k.output.trans h.output, Nat.le_trans h.size k.size,
   fun i hi hb => (k.block i (Nat.lt_of_lt_of_le hi h.size) (by omega)).trans (h.block i hi hb)⟩

theorem HS.row_length (H : HS) (h : H.blk.length = 128) : H.row.length = 138 := by simp [HS.row, S8.words, h]

theorem Has.lt {w : World} {b : Nat} {T : TypeId} {H : HS} (h : Has w b T H) : b < w.heap.size := by
  rcases Nat.lt_or_ge b w.heap.size with g | g
  · exact g
  · have := h.heap; rw [Array.getElem?_eq_none g] at this; cases this
theorem Has.frozen {w : World} {b : Nat} {T : TypeId} {H : HS} (h : Has w b T H) (i : Nat) : w.frozen? ⟨b, i, none⟩ = false :=
  frozen_of_row w b i _ T h.heap
theorem Has.cell {w : World} {b : Nat} {T : TypeId} {H : HS} (h : Has w b T H) (i : Nat) : w.cell? ⟨b, i, none⟩ = H.row[i]? := by
  rw [cell_of_row w b i _ T _ h.heap]; simp
theorem HS.row_lo (H : HS) (h : H.blk.length = 128) : H.row[137]? = some (uv H.lo) := by
  simp [HS.row, S8.words, h]
theorem HS.row_hi (H : HS) (h : H.blk.length = 128) : H.row[136]? = some (uv H.hi) := by
  simp [HS.row, S8.words, h]
theorem HS.row_blk (H : HS) (i : Nat) (h : i < H.blk.length) : H.row[8 + i]? = some (cv (H.blk.getD i 0)) := by
  have e : H.row[8 + i]? = (H.blk.map cv ++ [uv H.hi, uv H.lo])[i]? := by
    unfold HS.row; rw [List.getElem?_append_right (by simp [S8.words])]; simp [S8.words]
  rw [e, List.getElem?_append_left (by simpa using h)]; simp [h]
theorem HS.set_hi_lo (H : HS) (h : H.blk.length = 128) (m : Nat) : (H.row.set 137 (uv (BitVec.ofNat 64 m))).set 136 (uv (BitVec.ofNat 64 (m / 18446744073709551616))) = ({ H with n := m } : HS).row := by
  simp [HS.row, HS.hi, HS.lo, S8.words, h]
theorem HS.set_lo (H : HS) (h : H.blk.length = 128) (m : Nat) (hm : m / 18446744073709551616 = H.n / 18446744073709551616) : H.row.set 137 (uv (BitVec.ofNat 64 m)) = ({ H with n := m } : HS).row := by
  simp [HS.row, HS.hi, HS.lo, S8.words, h, hm]
theorem HS.set_blk (H : HS) (i : Nat) (h : i < H.blk.length) (c : UInt8) : H.row.set (8 + i) (cv c) = ({ H with blk := H.blk.set i c } : HS).row := by
  unfold HS.row
  rw [List.set_append_right _ _ (by simp [S8.words])]
  have e : 8 + i - (List.map uv H.st.words).length = i := by simp [S8.words]
  rw [e, List.set_append_left _ _ (by simpa using h), ← List.map_set]
  rfl

/-- A store into a row that is known. -/
theorem row_store {w : World} {b : Nat} {T : TypeId} {cs : List Value} (h : w.heap[b]? = some (.cells cs.toArray T (0, 0))) (i : Nat) (v : Value) :
    (w.setCell ⟨b, i, none⟩ v).heap[b]? = some (.cells (cs.set i v).toArray T (0, 0)) := by
  rw [heap_setCell_same w b i _ T v h]; simp

def HS.count (H : HS) (k : Nat) : HS := { H with n := H.n + k }

theorem lo_add (n k : Nat) : BitVec.ofNat 64 n + BitVec.ofNat 64 k = BitVec.ofNat 64 (n + k) := (BitVec.ofNat_add n k).symm
theorem U_ofNat (n : Nat) : U (BitVec.ofNat 64 n) = ((n % 18446744073709551616 : Nat) : Int) := by unfold U; rw [BitVec.toNat_ofNat]
/-- The carry. -/
theorem carry_iff (n k : Nat) (hk : k < 18446744073709551616) :
    U (BitVec.ofNat 64 (n + k)) < U (BitVec.ofNat 64 k) ↔ (n + k) / 18446744073709551616 = n / 18446744073709551616 + 1 := by
  rw [U_ofNat, U_ofNat]; omega
theorem carry_not (n k : Nat) (hk : k < 18446744073709551616) (h : ¬ U (BitVec.ofNat 64 (n + k)) < U (BitVec.ofNat 64 k)) : (n + k) / 18446744073709551616 = n / 18446744073709551616 := by
  rw [U_ofNat, U_ofNat] at h; omega

end Go.Proofs.YtcnbhpghcjcejaaDoor
