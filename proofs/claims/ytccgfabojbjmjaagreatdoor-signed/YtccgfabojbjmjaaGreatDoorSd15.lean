import Derived.Test.YtccgfabojbjmjaaGreatDoorSd14
import Derived.Test.YtccgfabojbjmjaaGreatDoorSd09
namespace Go.Proofs.YtccgfabojbjmjaaGreatDoor
open Go.RowKit
def fA (n : Nat) : Array Value := ((fd n).map iv).toArray
theorem fd_small (n : Nat) (h : n < 67108864) : fd n = (n : Int) :: List.replicate 9 0 := by
 have hall : ∀ x ∈ (n : Int) :: List.replicate 9 (0 : Int), 0 ≤ x ∧ x < 67108864 := by
  intro x hx
  simp only [List.mem_cons, List.mem_replicate] at hx
  omega
 have e := dB_vB 67108864 (by decide) _ hall
 have e2 : vB 67108864 ((n : Int) :: List.replicate 9 0) = n := by simp [vB]
 rw [e2] at e
 exact e
theorem fA_small (n : Nat) (h : n < 67108864) : fA n = #[iv n, iv 0, iv 0, iv 0, iv 0, iv 0, iv 0, iv 0, iv 0, iv 0] := by
 unfold fA; rw [fd_small n h]; rfl
theorem row_keep' {w w' : World} {g : Nat} {o : Obj} (h : w.heap[g]? = some o) (hb : Below w.heap.size w w') : w'.heap[g]? = some o := (hb.block g (lt_row h)).trans h
section
attribute [local irreducible] fA
def onesN (a : Nat) : Nat → Nat
 | 0 => 1
 | n + 1 => mP (sqN 1 (onesN a n)) a
theorem onesN_lt (a n : Nat) : onesN a n < P := by
 cases n with
 | zero => exact (by decide : 1 < P)
 | succ n => exact mP_lt _ _
end
section
attribute [local irreducible] fA
def invD (a : Nat) : Nat := mP (sqN 1 (mP (sqN 2 (mP (sqN 2 (onesN a 250)) a)) a)) a
theorem invD_lt (a : Nat) : invD a < P := mP_lt _ _
def m1D : Nat := mP (sqN 1 (mP (sqN 2 (onesN 2 250)) 2)) 2
end
end Go.Proofs.YtccgfabojbjmjaaGreatDoor
