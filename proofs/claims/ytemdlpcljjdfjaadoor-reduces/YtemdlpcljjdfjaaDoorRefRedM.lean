import Derived.Test.YtemdlpcljjdfjaaDoorRefOrd
import Derived.Test.YtemdlpcljjdfjaaDoorBitMath
/- The document's answer: reduced. -/
namespace Go.Proofs.YtemdlpcljjdfjaaDoor
open Go.RowKit
/-- The row with its first k digits made 16 times as great. -/
def row16 (l : List Int) (k : Nat) : List Int := (List.range l.length).map fun i => if i < k then 16 * l.getD i 0 else l.getD i 0
/-- The row with its first k digits less those of L. -/
def rowL (l m : List Int) (k : Nat) : List Int := (List.range l.length).map fun i => if i < k then l.getD i 0 - m.getD i 0 else l.getD i 0
theorem rowF_get (l : List Int) (f : Nat → Int) (k : Nat) (h : k < l.length) : ((List.range l.length).map fun i => if i < k then f i else l.getD i 0).getD k 0 = l.getD k 0 := by
  simp [List.getD, h]
theorem rowF_zero (l : List Int) (f : Nat → Int) : ((List.range l.length).map fun i => if i < 0 then f i else l.getD i 0) = l := by
  apply List.ext_getElem?
  intro i
  by_cases h : i < l.length
  · simp [h, List.getD]
  · simp [h]
theorem rowF_step (l : List Int) (f : Nat → Int) (k : Nat) (h : k < l.length) :
    ((List.range l.length).map fun i => if i < k then f i else l.getD i 0).set k (f k) = (List.range l.length).map fun i => if i < k + 1 then f i else l.getD i 0 := by
  apply List.ext_getElem?
  intro i
  rw [List.getElem?_set]
  by_cases hk : k = i
  · subst hk; simp [h]
  · rw [if_neg hk]
    by_cases h : i < l.length
    · have e1 : (i < k + 1) = (i < k) := by apply propext; omega
      simp [h, e1]
    · simp [h]
theorem rowF_all (l : List Int) (f : Nat → Int) : ((List.range l.length).map fun i => if i < l.length then f i else l.getD i 0) = (List.range l.length).map f := by
  apply List.map_congr_left
  intro i hi
  rw [if_pos (List.mem_range.1 hi)]
theorem map_range (l : List Int) (g : Int → Int) : (List.range l.length).map (fun i => g (l.getD i 0)) = l.map g := by
  apply List.ext_getElem?
  intro i
  by_cases h : i < l.length
  · simp [h, List.getD]
  · simp [h]
theorem vB_scale (B c : Int) (l : List Int) : vB B (l.map (c * ·)) = c * vB B l := by
  induction l with
  | nil => simp [vB]
  | cons a l ih =>
    simp only [List.map_cons, vB, ih, Int.mul_add]
    rw [Int.mul_left_comm]
theorem vB_sub (B : Int) (l m : List Int) (h : l.length = m.length) : vB B ((List.range l.length).map fun i => l.getD i 0 - m.getD i 0) = vB B l - vB B m := by
  induction l generalizing m with
  | nil => cases m with
    | nil => rfl
    | cons => simp at h
  | cons a l ih => cases m with
    | nil => simp at h
    | cons b m =>
      have e := ih m (by simpa using h)
      rw [List.length_cons, List.range_succ_eq_map, List.map_cons, List.map_map]
      simp only [vB]
      have e2 : (List.range l.length).map ((fun i => (a :: l).getD i 0 - (b :: m).getD i 0) ∘ Nat.succ) = (List.range l.length).map fun i => l.getD i 0 - m.getD i 0 := by
        apply List.map_congr_left; intro i _; simp
      rw [e2, e, Int.mul_sub]
      simp; omega
theorem valLE_nib (l : List UInt8) (i : Nat) : (valLE l / 16 ^ i % 16) = if i % 2 = 0 then (l.getD (i / 2) 0).toNat % 16 else (l.getD (i / 2) 0).toNat / 16 := by
  have h := valLE_byte l (i / 2)
  rw [← h]
  have e : (256 : Nat) ^ (i / 2) = 16 ^ (2 * (i / 2)) := by rw [Nat.pow_mul]
  rw [e]
  split
  · rename_i h0
    rw [show 2 * (i / 2) = i by omega]
    generalize valLE l / 16 ^ i = x
    omega
  · rename_i h0
    have e2 : valLE l / 16 ^ i = valLE l / 16 ^ (2 * (i / 2)) / 16 := by
      rw [Nat.div_div_eq_div_mul, ← Nat.pow_succ, show (2 * (i / 2)).succ = i by omega]
    rw [e2]
    generalize valLE l / 16 ^ (2 * (i / 2)) = x
    omega
theorem nib_step (v i : Nat) : v / 16 ^ i = 16 * (v / 16 ^ (i + 1)) + v / 16 ^ i % 16 := by
  rw [Nat.pow_succ, ← Nat.div_div_eq_div_mul]
  generalize v / 16 ^ i = x
  omega
theorem nib_red (v i L : Nat) : (16 * (v / 16 ^ (i + 1) % L) + v / 16 ^ i % 16) % L = v / 16 ^ i % L := by
  conv => rhs; rw [nib_step v i]
  rw [Nat.add_mod, Nat.mul_mod, Nat.mod_mod, ← Nat.mul_mod, ← Nat.add_mod]
theorem vB_set0 (B : Int) (l : List Int) (h : 0 < l.length) (f : Int) : vB B (l.set 0 (l.getD 0 0 + f)) = vB B l + f := by
  cases l with
  | nil => simp at h
  | cons a l => simp [vB]; omega
/-- What the row of a block is as a number. -/
def rowVal (w : World) (b : Nat) : Nat := match w.heap[b]? with
  | some (.cells cs _ _) => (vB 65536 (cs.toList.map intOf)).toNat
  | _ => 0
theorem rowVal_eq {w : World} {b : Nat} {t : TypeId} {fr : Nat × Nat} {n : Nat} (h : w.heap[b]? = some (.cells ((dB 65536 17 (n : Int)).map iv).toArray t fr)) (hn : n < 65536 ^ 17) : rowVal w b = n := by
  unfold rowVal
  rw [h]
  have e : (((dB 65536 17 (n : Int)).map iv).toArray.toList.map intOf) = dB 65536 17 (n : Int) := by
    simp only [List.map_map]
    exact (List.map_congr_left (fun x _ => rfl)).trans (List.map_id _)
  simp only [e, vB_dB 65536 (by decide) 17 (n : Int)]
  rw [Int.emod_eq_of_lt (by omega) (by have : ((65536 : Int) ^ 17) = ((65536 ^ 17 : Nat) : Int) := by decide
                                       rw [this]; omega)]
  simp
theorem red_last (v i L m f t0 t : Nat) (hm : m = v / 16 ^ (i + 1) % L) (hf : f = v / 16 ^ i % 16) (ht0 : t0 = 16 * m + f) (hmod : t % L = t0 % L) (hlt : t < L) : v / 16 ^ i % L = t := by
  rw [Nat.mod_eq_of_lt hlt] at hmod
  rw [hmod, ht0, hm, hf, nib_red]
end Go.Proofs.YtemdlpcljjdfjaaDoor
