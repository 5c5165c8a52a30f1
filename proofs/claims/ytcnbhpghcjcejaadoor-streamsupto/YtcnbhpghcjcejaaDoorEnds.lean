import Derived.Test.YtcnbhpghcjcejaaDoorWrite
/- The end of a text: clear, the last block. Plain mathematics and two run equations. -/
namespace Go.Proofs.YtcnbhpghcjcejaaDoor
open Go.RowKit

/-- 'clear(x)', x a slice of bytes in a row that is known. -/
theorem zeroU8 (w : World) : (zeroValue 5).run Tryd.prog w = .ok (.int .u8 0) w := by kernel_rfl
theorem zeroCells_u8 (n : Nat) : (Builtin.zeroCells (Value.int .u8 0).cells n).toList = (List.replicate n (0 : UInt8)).map cv := by
  have e : (Value.int .u8 0).cells = #[Value.int .u8 0] := rfl
  rw [e]
  unfold Builtin.zeroCells
  apply List.ext_getElem?
  intro i
  by_cases hi : i < n
  · have h1 : i % 1 = 0 := Nat.mod_one i
    simp [hi]
    rw [h1]; rfl
  · simp [hi]
theorem run_clear_bytes (w : World) (ty : TypeId) (g o n cap : Nat) (cur : List Value) (t : TypeId) (hn : 0 < n) (hg : w.heap[g]? = some (.cells cur.toArray t (0, 0))) (hfit : o + n ≤ cur.length) :
    (Builtin.clear_ #[39] ty #[.slice (some ⟨g, o, none⟩) n cap]).run Tryd.prog w =
      .ok (.tuple #[]) (w.setRow g (cur.take o ++ (List.replicate n (0 : UInt8)).map cv ++ cur.drop (o + n)).toArray) := by
  obtain ⟨m, rfl⟩ : ∃ m, n = m + 1 := ⟨n - 1, by omega⟩
  have hlen : ((List.replicate (m + 1) (0 : UInt8)).map cv).length = m + 1 := by simp
  have hst := run_storeCells_at Tryd.prog g o t ((List.replicate (m + 1) (0 : UInt8)).map cv) 0 cur.toArray w hg (by rw [hlen]; simpa using hfit) (by
    intro v hv; obtain ⟨x, _, rfl⟩ := List.mem_map.1 hv; rfl)
  rw [hlen] at hst
  simp only [Nat.add_zero] at hst
  simp only [Builtin.clear_, Sem.run_bind, run_underlying sizeSl39, Result.andThen_ok, Sem.run_pure, List.getElem?_toArray, List.getElem?_cons_zero]
  simp only [zeroU8, Result.andThen_ok, zeroCells_u8]
  rw [hst]
  rfl
theorem run_clear_none (w : World) (ty : TypeId) (a : Option Addr) (cap : Nat) : (Builtin.clear_ #[39] ty #[.slice a 0 cap]).run Tryd.prog w = .ok (.tuple #[]) w := by
  cases a <;> simp [Builtin.clear_, run_underlying sizeSl39]
theorem slice128_end (b o : Nat) (w : World) :
    (Instr.sliceAt 48 (.pointer (some ⟨b, o, none⟩)) (some (.int .i64 128)) none none).run Tryd.prog w = .ok (.slice (some ⟨b, o, none⟩) 0 0) w := by
  cases hq : Tryd.prog.info? 5 with
  | none => have := sizeU8; rw [hq] at this; cases this
  | some i =>
    have hi : i.size = 1 := by have := sizeU8; rw [hq] at this; simpa using this
    simp [Instr.sliceAt, Instr.sureAddr, run_underlying under128, Instr.sliceBounds, run_sliceBound, sizeOf, typeInfo, hq, hi]
theorem slice128_all (b o : Nat) (w : World) :
    (Instr.sliceAt 48 (.pointer (some ⟨b, o, none⟩)) none none none).run Tryd.prog w = .ok (.slice (some ⟨b, o, none⟩) 128 128) w := by
  cases hq : Tryd.prog.info? 5 with
  | none => have := sizeU8; rw [hq] at this; cases this
  | some i =>
    simp [Instr.sliceAt, Instr.sureAddr, run_underlying under128, Instr.sliceBounds, sizeOf, typeInfo, hq, Addr.add]

/-- A word's bytes laid over a list. -/
def layB (l : List UInt8) (off : Nat) (x : BitVec 64) : Nat → List UInt8
  | 0 => l
  | k + 1 => (layB l off x k).set (off + k) (byteOf x k)
theorem layB_length (l : List UInt8) (off : Nat) (x : BitVec 64) (k : Nat) : (layB l off x k).length = l.length := by
  induction k with
  | zero => rfl
  | succ k ih => simp [layB, ih]
theorem lay_row (H : HS) (off : Nat) (x : BitVec 64) (k : Nat) (h : off + k ≤ H.blk.length) : lay H.row (8 + off) x k = ({ H with blk := layB H.blk off x k } : HS).row := by
  induction k with
  | zero => cases H; rfl
  | succ k ih =>
    have e := HS.set_blk { H with blk := layB H.blk off x k } (off + k) (by show _ < (layB H.blk off x k).length; rw [layB_length]; omega) (byteOf x k)
    show (lay H.row (8 + off) x k).set (8 + off + k) (cv (byteOf x k)) = _
    rw [ih (by omega), Nat.add_assoc, e]
    rfl
def be8 (x : BitVec 64) : List UInt8 := [byteOf x 0, byteOf x 1, byteOf x 2, byteOf x 3, byteOf x 4, byteOf x 5, byteOf x 6, byteOf x 7]
theorem layB_all (l : List UInt8) (off : Nat) (x : BitVec 64) (h : off + 8 ≤ l.length) : layB l off x 8 = l.take off ++ (be8 x ++ l.drop (off + 8)) := by
  apply List.ext_getElem?
  intro i
  have ht : (l.take off).length = off := by simp; omega
  by_cases h1 : i < off
  · rw [List.getElem?_append_left (by omega), List.getElem?_take, if_pos h1]
    simp only [layB]
    rw [List.getElem?_set_ne (by omega), List.getElem?_set_ne (by omega), List.getElem?_set_ne (by omega), List.getElem?_set_ne (by omega), List.getElem?_set_ne (by omega), List.getElem?_set_ne (by omega), List.getElem?_set_ne (by omega), List.getElem?_set_ne (by omega)]
  · obtain ⟨j, rfl⟩ : ∃ j, i = off + j := ⟨i - off, by omega⟩
    rw [List.getElem?_append_right (by omega), ht, Nat.add_sub_cancel_left]
    by_cases h2 : j < 8
    · rw [List.getElem?_append_left (by exact h2)]
      have hj : j = 0 ∨ j = 1 ∨ j = 2 ∨ j = 3 ∨ j = 4 ∨ j = 5 ∨ j = 6 ∨ j = 7 := by omega
      have hl : ∀ k, k < 8 → off + k < l.length := fun k hk => by omega
      have hl0 : off < l.length := by omega
      rcases hj with rfl | rfl | rfl | rfl | rfl | rfl | rfl | rfl <;> simp [layB, be8, hl, hl0]
    · rw [List.getElem?_append_right (by show 8 ≤ j; omega), List.getElem?_drop]
      simp only [layB]
      have e : off + 8 + (j - (be8 x).length) = off + j := by show off + 8 + (j - 8) = _; omega
      rw [e, List.getElem?_set_ne (by omega), List.getElem?_set_ne (by omega), List.getElem?_set_ne (by omega), List.getElem?_set_ne (by omega), List.getElem?_set_ne (by omega), List.getElem?_set_ne (by omega), List.getElem?_set_ne (by omega), List.getElem?_set_ne (by omega)]

/-- The block with the end's mark behind what waits. -/
def HS.marked (H : HS) : HS := { H with blk := H.blk.take H.filled ++ (128 :: List.replicate (127 - H.filled) 0) }
noncomputable def HS.roomed (H : HS) : HS := if 112 ≤ H.filled then { H.marked.mix with blk := List.replicate 128 0 } else H.marked
def HS.hi3 (H : HS) : BitVec 64 := H.hi <<< 3 ||| H.lo >>> 61
def HS.lo3 (H : HS) : BitVec 64 := H.lo <<< 3
noncomputable def HS.ended (H : HS) : HS := HS.mix { H.roomed with blk := layB (layB H.roomed.blk 112 H.hi3 8) 120 H.lo3 8 }
theorem HS.marked_length (H : HS) (h : H.blk.length = 128) : H.marked.blk.length = 128 := by
  have := H.filled_lt
  simp [HS.marked, h]; omega
theorem HS.roomed_length (H : HS) (h : H.blk.length = 128) : H.roomed.blk.length = 128 := by
  unfold HS.roomed; split
  · simp
  · exact H.marked_length h
theorem HS.roomed_n (H : HS) : H.roomed.n = H.n := by
  unfold HS.roomed; split <;> cases H <;> rfl
end Go.Proofs.YtcnbhpghcjcejaaDoor
