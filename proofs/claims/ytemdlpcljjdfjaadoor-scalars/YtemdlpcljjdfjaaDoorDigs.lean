import Derived.Test.YtemdlpcljjdfjaaDoorHrow
/- Digits: rows of whole numbers, the least one first, to a base. Nothing of the dump. -/
namespace Go.Proofs.YtemdlpcljjdfjaaDoor
open Go.RowKit

abbrev iv (x : Int) : Value := .int .i64 x
/-- What the digits are together. -/
def vB (B : Int) : List Int → Int
  | [] => 0
  | a :: l => a + B * vB B l
/-- The k digits of a number. -/
def dB (B : Int) : Nat → Int → List Int
  | 0, _ => []
  | k + 1, n => n % B :: dB B k (n / B)
/-- Carried on from a carry c. -/
def cB (B : Int) : Int → List Int → List Int
  | _, [] => []
  | c, a :: l => (a + c) % B :: cB B ((a + c) / B) l
theorem dB_length (B : Int) (k : Nat) (n : Int) : (dB B k n).length = k := by
  induction k generalizing n with
  | zero => rfl
  | succ k ih => simp [dB, ih]
theorem cB_dB (B : Int) (hB : 0 < B) (c : Int) (l : List Int) : cB B c l = dB B l.length (vB B l + c) := by
  induction l generalizing c with
  | nil => rfl
  | cons a l ih =>
    have e1 : (a + B * vB B l + c) % B = (a + c) % B := by rw [show a + B * vB B l + c = a + c + B * vB B l by omega, Int.add_mul_emod_self_left]
    have e2 : (a + B * vB B l + c) / B = vB B l + (a + c) / B := by
      rw [show a + B * vB B l + c = a + c + B * vB B l by omega, Int.add_mul_ediv_left _ _ (by omega)]; omega
    simp only [cB, List.length_cons, dB, vB, e1, e2, ih]
theorem emod_mul' (B m n : Int) (hB : 0 < B) (hm : 0 < m) : n % (B * m) = n % B + B * (n / B % m) := by
  have e1 := Int.emod_add_mul_ediv n B
  have e2 := Int.emod_add_mul_ediv (n / B) m
  have b1 := Int.emod_nonneg n (show B ≠ 0 by omega)
  have b2 := Int.emod_lt_of_pos n hB
  have b3 := Int.emod_nonneg (n / B) (show m ≠ 0 by omega)
  have b4 := Int.emod_lt_of_pos (n / B) hm
  have e : n = n % B + B * (n / B % m) + B * m * (n / B / m) := by
    conv => lhs; rw [← e1, ← e2]
    rw [Int.mul_add, Int.mul_assoc]; omega
  have p1 : B * (n / B % m) ≤ B * (m - 1) := Int.mul_le_mul_of_nonneg_left (by omega) (by omega)
  have p0 : 0 ≤ B * (n / B % m) := Int.mul_nonneg (by omega) b3
  rw [Int.mul_sub] at p1
  conv => lhs; rw [e]
  rw [Int.add_mul_emod_self_left, Int.emod_eq_of_lt (by omega) (by omega)]
theorem vB_dB (B : Int) (hB : 0 < B) (k : Nat) (n : Int) : vB B (dB B k n) = n % B ^ k := by
  induction k generalizing n with
  | zero => simp [vB, dB, Int.emod_one]
  | succ k ih =>
    simp only [vB, dB, ih]
    rw [Int.pow_succ, Int.mul_comm (B ^ k) B, emod_mul' B (B ^ k) n hB (Int.pow_pos hB)]
/-- The carry ahead of digit k. -/
def carry (B : Int) (l : List Int) : Nat → Int
  | 0 => 0
  | k + 1 => (l.getD k 0 + carry B l k) / B
/-- The row ahead of digit k. -/
def rowC (B : Int) (l : List Int) (k : Nat) : List Int := (List.range l.length).map fun i => if i < k then (l.getD i 0 + carry B l i) % B else l.getD i 0
theorem rowC_length (B : Int) (l : List Int) (k : Nat) : (rowC B l k).length = l.length := by simp [rowC]
theorem rowC_zero (B : Int) (l : List Int) : rowC B l 0 = l := by
  apply List.ext_getElem?
  intro i
  by_cases h : i < l.length
  · simp [rowC, h, List.getD]
  · simp [rowC, h]
theorem rowC_get (B : Int) (l : List Int) (k : Nat) (h : k < l.length) : (rowC B l k).getD k 0 = l.getD k 0 := by
  simp [rowC, List.getD, h]
theorem rowC_step (B : Int) (l : List Int) (k : Nat) (_h : k < l.length) : (rowC B l k).set k ((l.getD k 0 + carry B l k) % B) = rowC B l (k + 1) := by
  apply List.ext_getElem?
  intro i
  rw [List.getElem?_set]
  by_cases hk : k = i
  · subst hk; simp [rowC, _h]
  · rw [if_neg hk]
    by_cases h : i < l.length
    · have e1 : (i < k + 1) = (i < k) := by apply propext; omega
      simp [rowC, h, e1]
    · simp [rowC, h]
theorem cB_get (B : Int) (l : List Int) (c : Int) (f : Nat → Int) (h0 : f 0 = c) (hs : ∀ i, f (i + 1) = (l.getD i 0 + f i) / B) :
    cB B c l = (List.range l.length).map fun i => (l.getD i 0 + f i) % B := by
  induction l generalizing c f with
  | nil => rfl
  | cons a l ih =>
    rw [List.length_cons, List.range_succ_eq_map, List.map_cons, List.map_map]
    simp only [cB]
    congr 1
    · simp [h0]
    · rw [ih ((a + c) / B) (fun i => f (i + 1)) (by rw [hs 0, h0]; simp) (fun i => by rw [hs (i + 1)]; simp)]
      apply List.map_congr_left
      intro i _
      simp
theorem rowC_all (B : Int) (hB : 0 < B) (l : List Int) : rowC B l l.length = dB B l.length (vB B l) := by
  have e := cB_get B l 0 (carry B l) rfl (fun _ => rfl)
  rw [cB_dB B hB, Int.add_zero] at e
  rw [e]
  apply List.map_congr_left
  intro i hi
  rw [if_pos (List.mem_range.1 hi)]
theorem dB_lt (B : Int) (hB : 0 < B) (k : Nat) (n : Int) : ∀ x ∈ dB B k n, 0 ≤ x ∧ x < B := by
  induction k generalizing n with
  | zero => simp [dB]
  | succ k ih =>
    intro x hx
    simp only [dB, List.mem_cons] at hx
    rcases hx with rfl | hx
    · exact ⟨Int.emod_nonneg _ (by omega), Int.emod_lt_of_pos _ hB⟩
    · exact ih _ x hx
theorem vB_bound (B : Int) (hB : 0 < B) (l : List Int) (h : ∀ x ∈ l, 0 ≤ x ∧ x < B) : 0 ≤ vB B l ∧ vB B l < B ^ l.length := by
  induction l with
  | nil => simp [vB]
  | cons a l ih =>
    obtain ⟨h0, h1⟩ := ih (fun x hx => h x (List.mem_cons_of_mem _ hx))
    obtain ⟨a0, a1⟩ := h a List.mem_cons_self
    simp only [vB, List.length_cons, Int.pow_succ]
    have p0 : 0 ≤ B * vB B l := Int.mul_nonneg (by omega) h0
    have p1 : B * vB B l ≤ B * (B ^ l.length - 1) := Int.mul_le_mul_of_nonneg_left (by omega) (by omega)
    rw [Int.mul_sub, Int.mul_comm B (B ^ l.length)] at p1
    omega
theorem vB_append (B : Int) (l m : List Int) : vB B (l ++ m) = vB B l + B ^ l.length * vB B m := by
  induction l with
  | nil => simp [vB]
  | cons a l ih =>
    simp only [List.cons_append, vB, ih, List.length_cons, Int.pow_succ, Int.mul_add, ← Int.mul_assoc, Int.mul_comm B (B ^ l.length)]
    omega
/-- Digits held against one another from the greatest down. -/
theorem lt_by_digit (B : Int) (hB : 0 < B) (a b : List Int) (i : Nat) (ha : ∀ x ∈ a, 0 ≤ x ∧ x < B) (hb : ∀ x ∈ b, 0 ≤ x ∧ x < B) (hl : a.length = b.length) (hi : i < a.length)
    (hd : a.drop (i + 1) = b.drop (i + 1)) (hne : a.getD i 0 ≠ b.getD i 0) : vB B a < vB B b ↔ a.getD i 0 < b.getD i 0 := by
  have sp : ∀ l : List Int, i < l.length → l = l.take i ++ (l.getD i 0 :: l.drop (i + 1)) := by
    intro l h
    have := List.drop_eq_getElem_cons h
    rw [show l.getD i 0 = l[i] by simp [List.getD, List.getElem?_eq_getElem h], ← this, List.take_append_drop]
  have ea : vB B a = vB B (a.take i) + B ^ i * (a.getD i 0 + B * vB B (b.drop (i + 1))) := by
    conv => lhs; rw [sp a hi, vB_append]
    rw [List.length_take, Nat.min_eq_left (by omega), hd]; rfl
  have eb : vB B b = vB B (b.take i) + B ^ i * (b.getD i 0 + B * vB B (b.drop (i + 1))) := by
    conv => lhs; rw [sp b (by omega), vB_append]
    rw [List.length_take, Nat.min_eq_left (by omega)]; rfl
  have ba := vB_bound B hB (a.take i) (fun x hx => ha x (List.mem_of_mem_take hx))
  have bb := vB_bound B hB (b.take i) (fun x hx => hb x (List.mem_of_mem_take hx))
  rw [List.length_take, Nat.min_eq_left (by omega)] at ba bb
  rw [ea, eb]
  have hp : 0 < B ^ i := Int.pow_pos hB
  generalize a.getD i 0 = x at *
  generalize b.getD i 0 = y at *
  generalize B * vB B (b.drop (i + 1)) = u at *
  generalize B ^ i = p at *
  rw [Int.mul_add, Int.mul_add]
  rcases Int.lt_or_gt_of_ne hne with h | h
  · have := Int.mul_le_mul_of_nonneg_left (show x ≤ y - 1 by omega) (Int.le_of_lt hp)
    rw [Int.mul_sub] at this
    constructor
    · intro _; exact h
    · intro _; omega
  · have := Int.mul_le_mul_of_nonneg_left (show y ≤ x - 1 by omega) (Int.le_of_lt hp)
    rw [Int.mul_sub] at this
    constructor
    · intro _; omega
    · intro _; omega
/-- A row of numbers in a block. -/
theorem ivs_get {w : World} {b : Nat} {l : List Int} {T : TypeId} {fr : Nat × Nat} (h : w.heap[b]? = some (.cells (l.map iv).toArray T fr)) (i : Nat) (hi : i < l.length) :
    w.cell? ⟨b, i, none⟩ = some (iv (l.getD i 0)) := by
  rw [cell_of_row w b i _ T _ h]; simp [hi, List.getD]
theorem ivs_cell (l : List Int) : ∀ v ∈ l.map iv, v.oneCell' = true := by
  intro v hv; obtain ⟨x, _, rfl⟩ := List.mem_map.1 hv; rfl
theorem getD_mem {l : List Int} {i : Nat} (h : i < l.length) : l.getD i 0 ∈ l := by
  simp [List.getD, List.getElem?_eq_getElem h]
theorem carry_bound (B : Int) (hB : 2 ≤ B) (l : List Int) (m : Int) (h : ∀ x ∈ l, -m ≤ x ∧ x ≤ m) (hm : 1 ≤ m) (k : Nat) (hk : k ≤ l.length) : -m ≤ carry B l k ∧ carry B l k ≤ m := by
  induction k with
  | zero => simp [carry]; omega
  | succ k ih =>
    obtain ⟨h0, h1⟩ := ih (by omega)
    obtain ⟨a0, a1⟩ := h (l.getD k 0) (getD_mem (by omega))
    simp only [carry]
    have p : m * 2 ≤ m * B := Int.mul_le_mul_of_nonneg_left hB (by omega)
    constructor
    · apply Int.le_ediv_of_mul_le (by omega)
      rw [Int.neg_mul]; omega
    · apply Int.ediv_le_of_le_mul (by omega)
      omega
end Go.Proofs.YtemdlpcljjdfjaaDoor
