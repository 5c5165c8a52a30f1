import Derived.Test.YtcnbhpghcjcejaaDoorBytes
/- The schedule of words, as lists; its row of 80 cells. Plain mathematics. -/
namespace Go.Proofs.YtcnbhpghcjcejaaDoor
open Go.RowKit

/-- Word t of a block. -/
def w16 (blk : List UInt8) (t : Nat) : BitVec 64 := be (fun i => blk.getD (8 * t + i) 0) 8
def w16s (blk : List UInt8) : Nat → List (BitVec 64)
  | 0 => []
  | n + 1 => w16s blk n ++ [w16 blk n]
theorem w16s_length (blk : List UInt8) (n : Nat) : (w16s blk n).length = n := by
  induction n with
  | zero => rfl
  | succ n ih => simp [w16s, ih]

def nextW (l : List (BitVec 64)) (n : Nat) : BitVec 64 :=
  smallSigma1W (l.getD (n + 14) 0) + l.getD (n + 9) 0 + smallSigma0W (l.getD (n + 1) 0) + l.getD n 0
def sch (blk : List UInt8) : Nat → List (BitVec 64)
  | 0 => w16s blk 16
  | n + 1 => sch blk n ++ [nextW (sch blk n) n]
theorem sch_length (blk : List UInt8) (n : Nat) : (sch blk n).length = 16 + n := by
  induction n with
  | zero => simp [sch, w16s_length]
  | succ n ih => simp [sch, ih]; omega

/-- A row of 80 words, of which the first are known. -/
def wrow (l : List (BitVec 64)) : List Value := l.map uv ++ List.replicate (80 - l.length) (uv 0)
theorem wrow_length (l : List (BitVec 64)) (h : l.length ≤ 80) : (wrow l).length = 80 := by simp [wrow]; omega
theorem wrow_get (l : List (BitVec 64)) (i : Nat) (h : i < l.length) : (wrow l)[i]? = some (uv (l.getD i 0)) := by
  unfold wrow; rw [List.getElem?_append_left (by simpa using h)]; simp [h]
theorem wrow_there (l : List (BitVec 64)) (i : Nat) (h : i < 80) (hl : l.length ≤ 80) : ∃ v, (wrow l)[i]? = some v :=
  ⟨_, List.getElem?_eq_getElem (by rw [wrow_length l hl]; exact h)⟩
theorem wrow_set (l : List (BitVec 64)) (x : BitVec 64) (h : l.length < 80) : (wrow l).set l.length (uv x) = wrow (l ++ [x]) := by
  unfold wrow
  rw [List.set_append_right _ _ (by simp)]
  obtain ⟨m, hm⟩ : ∃ m, 80 - l.length = m + 1 := ⟨79 - l.length, by omega⟩
  have e2 : 80 - (l ++ [x]).length = m := by simp; omega
  rw [hm, e2]
  simp [List.replicate_succ]
theorem wrow_cell (l : List (BitVec 64)) : ∀ v ∈ wrow l, v.oneCell' = true := by
  intro v hv
  rcases List.mem_append.1 hv with h | h
  · obtain ⟨x, _, rfl⟩ := List.mem_map.1 h; rfl
  · rw [(List.mem_replicate.1 h).2]; rfl

theorem zero80 (w : World) : (zeroValue 59).run Tryd.prog w = .ok (.agg (wrow []).toArray) w := by kernel_rfl
theorem under128 : Tryd.prog.underlying 48 = some (.array 128 5) := by kernel_rfl
theorem sizeU8 : (Tryd.prog.info? 5).map (·.size) = some 1 := by kernel_rfl
theorem slice128 (b o : Nat) (z : Int) (l : Nat) (hz : z = l) (hl : l < 128) (w : World) :
    (Instr.sliceAt 48 (.pointer (some ⟨b, o, none⟩)) (some (.int .i64 z)) none none).run Tryd.prog w = .ok (.slice (some ⟨b, o + l, none⟩) (128 - l) (128 - l)) w := by
  subst hz
  have h1 : ((l : Int) ≤ 128) := by omega
  have h2 : ¬ 128 = l := by omega
  cases hq : Tryd.prog.info? 5 with
  | none => have := sizeU8; rw [hq] at this; cases this
  | some i =>
    have hi : i.size = 1 := by have := sizeU8; rw [hq] at this; simpa using this
    simp [Instr.sliceAt, Instr.sureAddr, run_underlying under128, Instr.sliceBounds, run_sliceBound, sizeOf, typeInfo, hq, hi, h1, h2, Addr.add]
theorem under80 : Tryd.prog.underlying 59 = some (.array 80 40) := by kernel_rfl
theorem size80 : (Tryd.prog.info? 59).map (·.size) = some 80 := by kernel_rfl
end Go.Proofs.YtcnbhpghcjcejaaDoor
