import Derived.Test.YtemdlpcljjdfjaaDoorDigs
import Derived.Test.YtemdlpcljjdfjaaDoorPow
/- The document's field: ten digits of 26 bits. Plain mathematics. -/
namespace Go.Proofs.YtemdlpcljjdfjaaDoor
open Go.RowKit
theorem vB_set (B : Int) (l : List Int) (k : Nat) (x : Int) (h : k < l.length) : vB B (l.set k x) = vB B l + (x - l.getD k 0) * B ^ k := by
  induction l generalizing k with
  | nil => simp at h
  | cons a l ih =>
    cases k with
    | zero => simp [vB]; omega
    | succ k =>
      simp only [List.set_cons_succ, vB]
      rw [ih k (by simpa using h), List.getD_cons_succ, Int.pow_succ, Int.mul_add]
      rw [show B * ((x - l.getD k 0) * B ^ k) = (x - l.getD k 0) * (B ^ k * B) by rw [Int.mul_comm B, Int.mul_assoc]]
      omega
theorem rowC_val (B : Int) (l : List Int) (k : Nat) (h : k ≤ l.length) : vB B (rowC B l k) + B ^ k * carry B l k = vB B l := by
  induction k with
  | zero => rw [rowC_zero]; simp [carry]
  | succ k ih =>
    have e := ih (by omega)
    rw [← rowC_step B l k (by omega), vB_set B _ k _ (by rw [rowC_length]; omega), rowC_get B l k (by omega)]
    simp only [carry]
    generalize l.getD k 0 = t at *
    generalize carry B l k = c at *
    have e2 := Int.emod_add_mul_ediv (t + c) B
    generalize (t + c) % B = u at *
    generalize (t + c) / B = q at *
    have e3 : (u - t) * B ^ k + B ^ k * B * q = B ^ k * c := by
      have : B ^ k * c = B ^ k * (u + B * q - t) := by rw [e2]; congr 1; omega
      rw [this, Int.mul_sub, Int.mul_add, Int.sub_mul, Int.mul_comm u, Int.mul_comm t, ← Int.mul_assoc]; omega
    rw [Int.pow_succ]
    omega
theorem dB_vB (B : Int) (hB : 0 < B) (l : List Int) (h : ∀ x ∈ l, 0 ≤ x ∧ x < B) : dB B l.length (vB B l) = l := by
  induction l with
  | nil => rfl
  | cons a l ih =>
    obtain ⟨a0, a1⟩ := h a List.mem_cons_self
    simp only [List.length_cons, dB, vB]
    rw [Int.add_mul_emod_self_left, Int.emod_eq_of_lt a0 a1, Int.add_mul_ediv_left _ _ (by omega), Int.ediv_eq_zero_of_lt a0 a1, Int.zero_add, ih (fun x hx => h x (List.mem_cons_of_mem _ hx))]
theorem vB_abs (B : Int) (hB : 2 ≤ B) (m : Int) (hm : 0 ≤ m) (l : List Int) (h : ∀ x ∈ l, -m ≤ x ∧ x ≤ m) : -(m * B ^ l.length) + m ≤ vB B l ∧ vB B l ≤ m * B ^ l.length - m := by
  induction l with
  | nil => simp [vB]; omega
  | cons a l ih =>
    obtain ⟨h0, h1⟩ := ih (fun x hx => h x (List.mem_cons_of_mem _ hx))
    obtain ⟨a0, a1⟩ := h a List.mem_cons_self
    simp only [vB, List.length_cons, Int.pow_succ]
    have p0 := Int.mul_le_mul_of_nonneg_left h0 (show 0 ≤ B by omega)
    have p1 := Int.mul_le_mul_of_nonneg_left h1 (show 0 ≤ B by omega)
    have p2 := Int.mul_le_mul_of_nonneg_left hB hm
    rw [Int.mul_add, Int.mul_neg] at p0
    rw [Int.mul_sub] at p1
    rw [← Int.mul_assoc]
    rw [show B * (m * B ^ l.length) = m * B ^ l.length * B by rw [Int.mul_comm]] at p0 p1
    rw [Int.mul_comm m B] at p2
    omega
/-- Digit 0 gets so much more. -/
def up0 (l : List Int) (x : Int) : List Int := l.set 0 (l.getD 0 0 + x)
/-- A round: what is above 2^255 comes back 19 times. -/
def rF (d : List Int) : List Int := up0 (dB 67108864 10 (vB 67108864 d % 57896044618658097711785492504343953926634992332820282019728792003956564819968)) (19 * (vB 67108864 d / 57896044618658097711785492504343953926634992332820282019728792003956564819968))
theorem rF_length (d : List Int) : (rF d).length = 10 := by simp [rF, up0, dB_length]
/-- The row ahead of the last digit's end. -/
theorem round_row (d : List Int) (hl : d.length = 10) :
    (rowC 67108864 d 9).set 9 ((d.getD 9 0 + carry 67108864 d 9) % 2097152) = dB 67108864 10 (vB 67108864 d % 57896044618658097711785492504343953926634992332820282019728792003956564819968) ∧ (d.getD 9 0 + carry 67108864 d 9) / 2097152 = vB 67108864 d / 57896044618658097711785492504343953926634992332820282019728792003956564819968 := by
  have hv := rowC_val 67108864 d 9 (by omega)
  have hs := vB_set 67108864 (rowC 67108864 d 9) 9 ((d.getD 9 0 + carry 67108864 d 9) % 2097152) (by rw [rowC_length]; omega)
  rw [rowC_get _ _ _ (by omega)] at hs
  have hset : (rowC 67108864 d 9).set 9 ((d.getD 9 0 + carry 67108864 d 9) % 2097152) = (rowC 67108864 d 9).take 9 ++ [(d.getD 9 0 + carry 67108864 d 9) % 2097152] := by
    rw [List.set_eq_take_append_cons_drop, if_pos (by rw [rowC_length]; omega), List.drop_eq_nil_of_le (by rw [rowC_length]; omega)]
  have hlow : ∀ x ∈ (rowC 67108864 d 9).take 9, 0 ≤ x ∧ x < 67108864 := by
    intro x hx
    obtain ⟨i, hi, e⟩ := List.mem_iff_getElem.1 hx
    have hi' : i < 9 := by rw [List.length_take] at hi; omega
    rw [List.getElem_take] at e
    simp only [rowC, List.getElem_map, List.getElem_range, if_pos hi'] at e
    rw [← e]; omega
  have hb := vB_bound 67108864 (by decide) _ hlow
  have hlen : ((rowC 67108864 d 9).take 9).length = 9 := by rw [List.length_take, rowC_length, hl]; rfl
  rw [hlen] at hb
  have hv2 : vB 67108864 ((rowC 67108864 d 9).set 9 ((d.getD 9 0 + carry 67108864 d 9) % 2097152)) = vB 67108864 ((rowC 67108864 d 9).take 9) + 67108864 ^ 9 * ((d.getD 9 0 + carry 67108864 d 9) % 2097152) := by
    rw [hset, vB_append, hlen]; simp [vB]
  have hall : ∀ x ∈ (rowC 67108864 d 9).set 9 ((d.getD 9 0 + carry 67108864 d 9) % 2097152), 0 ≤ x ∧ x < 67108864 := by
    rw [hset]
    intro x hx
    rcases List.mem_append.1 hx with h | h
    · exact hlow x h
    · rw [List.mem_singleton] at h; omega
  have hrow := dB_vB 67108864 (by decide) _ hall
  rw [List.length_set, rowC_length, hl] at hrow
  rw [show (67108864 : Int) ^ 9 = 27606985387162255149739023449108101809804435888681546220650096895197184 from by decide] at hv hs hv2 hb
  have key : vB 67108864 ((rowC 67108864 d 9).set 9 ((d.getD 9 0 + carry 67108864 d 9) % 2097152)) = vB 67108864 d % 57896044618658097711785492504343953926634992332820282019728792003956564819968 ∧ (d.getD 9 0 + carry 67108864 d 9) / 2097152 = vB 67108864 d / 57896044618658097711785492504343953926634992332820282019728792003956564819968 := by
    clear hrow hall hset hlow hlen
    generalize vB 67108864 ((rowC 67108864 d 9).set 9 ((d.getD 9 0 + carry 67108864 d 9) % 2097152)) = vR at *
    generalize vB 67108864 (List.take 9 (rowC 67108864 d 9)) = vT at *
    generalize vB 67108864 (rowC 67108864 d 9) = vr at *
    generalize vB 67108864 d = vd at *
    generalize d.getD 9 0 = t at *
    generalize carry 67108864 d 9 = c at *
    constructor <;> omega
  rw [key.1] at hrow
  exact ⟨hrow.symm, key.2⟩
theorem rF_bound (d : List Int) (hl : d.length = 10) (h : ∀ x ∈ d, -2305843009213693952 ≤ x ∧ x ≤ 2305843009213693952) : ∀ x ∈ rF d, -2305843009213693952 ≤ x ∧ x ≤ 2305843009213693952 := by
  have hq := (round_row d hl).2
  have hc := carry_bound 67108864 (by decide) d 2305843009213693952 h (by decide) 9 (by omega)
  have ht := h _ (getD_mem (l := d) (i := 9) (by omega))
  have hd := dB_lt 67108864 (by decide) 10 (vB 67108864 d % 57896044618658097711785492504343953926634992332820282019728792003956564819968)
  intro x hx
  unfold rF up0 at hx
  rcases List.mem_or_eq_of_mem_set hx with hx | hx
  · have := hd x hx; omega
  · have h0 := hd _ (getD_mem (l := dB 67108864 10 (vB 67108864 d % 57896044618658097711785492504343953926634992332820282019728792003956564819968)) (i := 0) (by rw [dB_length]; decide))
    rw [hx, ← hq]
    generalize carry 67108864 d 9 = c at *
    generalize d.getD 9 0 = t at *
    generalize (dB 67108864 10 (vB 67108864 d % 57896044618658097711785492504343953926634992332820282019728792003956564819968)).getD 0 0 = z at *
    omega
theorem rF_val (d : List Int) : vB 67108864 (rF d) = vB 67108864 d % 57896044618658097711785492504343953926634992332820282019728792003956564819968 + 19 * (vB 67108864 d / 57896044618658097711785492504343953926634992332820282019728792003956564819968) := by
  unfold rF up0
  rw [vB_set _ _ _ _ (by rw [dB_length]; decide), vB_dB _ (by decide)]
  rw [show (67108864 : Int) ^ 10 = 1852673427797059126777135760139006525652319754650249024631321344126610074238976 from by decide, Int.pow_zero, Int.mul_one]
  generalize vB 67108864 d = v
  generalize (dB 67108864 10 (v % 57896044618658097711785492504343953926634992332820282019728792003956564819968)).getD 0 0 = z
  omega
/-- What two rounds leave. -/
def V2 (d : List Int) : Int := vB 67108864 (rF (rF d))
theorem V2_spec (d : List Int) (hl : d.length = 10) (h : ∀ x ∈ d, -2305843009213693952 ≤ x ∧ x ≤ 2305843009213693952) : 0 ≤ V2 d ∧ V2 d < 57896044618658097711785492504343953926634992332820282019728792003956564819968 ∧ V2 d % 57896044618658097711785492504343953926634992332820282019728792003956564819949 = vB 67108864 d % 57896044618658097711785492504343953926634992332820282019728792003956564819949 := by
  have hq := (round_row d hl).2
  have hc := carry_bound 67108864 (by decide) d 2305843009213693952 h (by decide) 9 (by omega)
  have ht := h _ (getD_mem (l := d) (i := 9) (by omega))
  have e1 := rF_val d
  have e2 := rF_val (rF d)
  unfold V2
  generalize carry 67108864 d 9 = c at *
  generalize d.getD 9 0 = t at *
  generalize vB 67108864 (rF (rF d)) = w at *
  generalize vB 67108864 (rF d) = u at *
  generalize vB 67108864 d = v at *
  have hq2 : -4398046511104 ≤ v / 57896044618658097711785492504343953926634992332820282019728792003956564819968 ∧ v / 57896044618658097711785492504343953926634992332820282019728792003956564819968 ≤ 4398046511104 := by omega
  clear hq hc ht
  refine ⟨by omega, by omega, ?_⟩
  have e3 : w = v - 57896044618658097711785492504343953926634992332820282019728792003956564819949 * (v / 57896044618658097711785492504343953926634992332820282019728792003956564819968 + u / 57896044618658097711785492504343953926634992332820282019728792003956564819968) := by
    have := Int.emod_add_mul_ediv v 57896044618658097711785492504343953926634992332820282019728792003956564819968
    have := Int.emod_add_mul_ediv u 57896044618658097711785492504343953926634992332820282019728792003956564819968
    omega
  rw [e3, Int.sub_mul_emod_self_left]
theorem third (d : List Int) (hl : d.length = 10) (h : ∀ x ∈ d, -2305843009213693952 ≤ x ∧ x ≤ 2305843009213693952) : rF (rF (rF d)) = dB 67108864 10 (V2 d) := by
  obtain ⟨a, b, _⟩ := V2_spec d hl h
  have e : rF (rF (rF d)) = up0 (dB 67108864 10 (V2 d % 57896044618658097711785492504343953926634992332820282019728792003956564819968)) (19 * (V2 d / 57896044618658097711785492504343953926634992332820282019728792003956564819968)) := rfl
  rw [e, Int.emod_eq_of_lt a b, Int.ediv_eq_zero_of_lt a b]
  unfold up0
  simp [dB]
/-- The digits of a number of the field. -/
def fd (n : Nat) : List Int := dB 67108864 10 n
theorem fd_length (n : Nat) : (fd n).length = 10 := dB_length _ _ _
theorem fd_lt (n : Nat) : ∀ x ∈ fd n, 0 ≤ x ∧ x < 67108864 := dB_lt _ (by decide) _ _
theorem fd_val (n : Nat) (h : n < P) : vB 67108864 (fd n) = n := by
  unfold fd
  rw [vB_dB _ (by decide), show (67108864 : Int) ^ 10 = 1852673427797059126777135760139006525652319754650249024631321344126610074238976 from by decide]
  rw [P_val] at h
  omega
/-- The number that digits settle to. -/
def stl (d : List Int) : Nat := (vB 67108864 d % 57896044618658097711785492504343953926634992332820282019728792003956564819949).toNat
theorem stl_lt (d : List Int) : stl d < P := by
  unfold stl; rw [P_val]; omega
/-- 'whole', when digits 1 to k have been looked at. -/
def isW (l : List Int) : Nat → Bool
  | 0 => decide (l.getD 9 0 = 2097151) && decide (67108845 ≤ l.getD 0 0)
  | k + 1 => isW l k && decide (l.getD (k + 1) 0 = 67108863)
theorem isW_iff (v : Int) (h0 : 0 ≤ v) (h1 : v < 57896044618658097711785492504343953926634992332820282019728792003956564819968) : isW (dB 67108864 10 v) 8 = decide (57896044618658097711785492504343953926634992332820282019728792003956564819949 ≤ v) := by
  have hd := dB_lt 67108864 (by decide) 10 v
  have hv := vB_dB 67108864 (by decide) 10 v
  rw [show (67108864 : Int) ^ 10 = 1852673427797059126777135760139006525652319754650249024631321344126610074238976 from by decide, Int.emod_eq_of_lt h0 (by omega)] at hv
  have hl := dB_length 67108864 10 v
  generalize dB 67108864 10 v = l at *
  match l, hl with
  | [a0, a1, a2, a3, a4, a5, a6, a7, a8, a9], _ =>
    simp only [vB] at hv
    simp only [List.mem_cons, List.not_mem_nil, or_false, forall_eq_or_imp, forall_eq] at hd
    obtain ⟨b0, b1, b2, b3, b4, b5, b6, b7, b8, b9⟩ := hd
    rw [Bool.eq_iff_iff]
    simp only [isW, Bool.and_eq_true, decide_eq_true_eq, List.getD_cons_succ, List.getD_cons_zero]
    constructor
    · rintro ⟨⟨⟨⟨⟨⟨⟨⟨⟨c9, c0⟩, c1⟩, c2⟩, c3⟩, c4⟩, c5⟩, c6⟩, c7⟩, c8⟩
      omega
    · intro h
      have c9 : a9 = 2097151 := by omega
      have c8 : a8 = 67108863 := by omega
      have c7 : a7 = 67108863 := by omega
      have c6 : a6 = 67108863 := by omega
      have c5 : a5 = 67108863 := by omega
      have c4 : a4 = 67108863 := by omega
      have c3 : a3 = 67108863 := by omega
      have c2 : a2 = 67108863 := by omega
      have c1 : a1 = 67108863 := by omega
      exact ⟨⟨⟨⟨⟨⟨⟨⟨⟨c9, by omega⟩, c1⟩, c2⟩, c3⟩, c4⟩, c5⟩, c6⟩, c7⟩, c8⟩
/-- What 'settled' answers. -/
theorem settled_end (d : List Int) (hl : d.length = 10) (h : ∀ x ∈ d, -2305843009213693952 ≤ x ∧ x ≤ 2305843009213693952) :
    (isW (dB 67108864 10 (V2 d)) 8 = true → ((dB 67108864 10 (V2 d)).getD 0 0 - 67108845) :: List.replicate 9 0 = fd (stl d)) ∧ (isW (dB 67108864 10 (V2 d)) 8 = false → dB 67108864 10 (V2 d) = fd (stl d)) := by
  obtain ⟨h0, h1, h2⟩ := V2_spec d hl h
  rw [isW_iff _ h0 h1]
  unfold fd stl
  rw [← h2]
  generalize V2 d = v at *
  constructor
  · intro hw
    have hP : 57896044618658097711785492504343953926634992332820282019728792003956564819949 ≤ v := of_decide_eq_true hw
    have e : v % 57896044618658097711785492504343953926634992332820282019728792003956564819949 = v - 57896044618658097711785492504343953926634992332820282019728792003956564819949 := by omega
    rw [e]
    have : (dB 67108864 10 v).getD 0 0 = v % 67108864 := by simp [dB]
    rw [this]
    have e2 : ((v - 57896044618658097711785492504343953926634992332820282019728792003956564819949).toNat : Int) = v % 67108864 - 67108845 := by omega
    rw [e2]
    have hall : ∀ x ∈ (v % 67108864 - 67108845) :: List.replicate 9 (0 : Int), 0 ≤ x ∧ x < 67108864 := by
      intro x hx
      simp only [List.mem_cons, List.mem_replicate] at hx
      omega
    have := dB_vB 67108864 (by decide) _ hall
    rw [← this]
    congr 1
    simp [vB]
  · intro hw
    have hP : ¬ 57896044618658097711785492504343953926634992332820282019728792003956564819949 ≤ v := of_decide_eq_false hw
    congr 1
    omega
theorem stl_add (a b : Nat) (d : List Int) (hv : vB 67108864 d = a + b) : stl d = aP a b := by
  unfold stl aP
  rw [hv]
  rw [P_val] at *
  omega
theorem stl_sub (a b : Nat) (hb : b < P) (d : List Int) (hv : vB 67108864 d = (a : Int) - b) : stl d = sP a b := by
  unfold stl sP
  rw [hv]
  rw [P_val] at *
  omega
theorem vB_zip (B : Int) (f : Int → Int → Int) (g : Int → Int → Int) (hf : ∀ a b c d, f a b + B * g c d = g (a + B * c) (b + B * d)) (h0 : g 0 0 = 0) : ∀ (l m : List Int), l.length = m.length → (∀ x y, f x y = g x y) → vB B (List.zipWith f l m) = g (vB B l) (vB B m)
  | [], [], _, _ => h0.symm
  | [], _ :: _, h, _ => by simp at h
  | _ :: _, [], h, _ => by simp at h
  | a :: l, b :: m, h, k => by
    simp only [List.zipWith_cons_cons, vB]
    rw [vB_zip B f g hf h0 l m (by simpa using h) k, hf]
end Go.Proofs.YtemdlpcljjdfjaaDoor
/- The document's product: what the rows hold on the way. Plain mathematics. -/
namespace Go.Proofs.YtemdlpcljjdfjaaDoor
open Go.RowKit
theorem int_cancel (a b : Int) : a + b - a = b := by omega
theorem vB_take (B : Int) (l : List Int) (k : Nat) (h : k < l.length) : vB B (l.take (k + 1)) = vB B (l.take k) + l.getD k 0 * B ^ k := by
  rw [List.take_succ_eq_append_getElem h, vB_append, List.length_take, Nat.min_eq_left (by omega)]
  simp [vB, List.getD, List.getElem?_eq_getElem h]
  rw [Int.mul_comm]
/-- The rows of a product, when digit i of a has met the first k of b. -/
structure MI (a b low high : List Int) (i k : Nat) : Prop where
  ll : low.length = 10
  hl : high.length = 10
  val : vB 67108864 low + 67108864 ^ 10 * vB 67108864 high = vB 67108864 (a.take i) * vB 67108864 b + a.getD i 0 * (67108864 ^ i * vB 67108864 (b.take k))
  bl : ∀ x ∈ low, 0 ≤ x ∧ x ≤ (10 * i + k : Nat) * 4503599627370496
  bh : ∀ x ∈ high, 0 ≤ x ∧ x ≤ (10 * i + k : Nat) * 4503599627370496
theorem prod_le {x y : Int} (hx : 0 ≤ x ∧ x < 67108864) (hy : 0 ≤ y ∧ y < 67108864) : 0 ≤ x * y ∧ x * y ≤ 4503599627370496 := by
  refine ⟨Int.mul_nonneg hx.1 hy.1, ?_⟩
  have h1 := Int.mul_le_mul_of_nonneg_left (show y ≤ 67108864 by omega) hx.1
  omega
theorem MI.start (a b : List Int) : MI a b (List.replicate 10 0) (List.replicate 10 0) 0 0 := by
  refine ⟨rfl, rfl, ?_, ?_, ?_⟩
  · rw [List.take_zero, List.take_zero]
    have : vB 67108864 (List.replicate 10 0) = 0 := by decide
    rw [this]; simp [vB]
  · intro x hx; rw [List.mem_replicate] at hx; omega
  · intro x hx; rw [List.mem_replicate] at hx; omega
theorem set_bound {l : List Int} {i : Nat} {y z : Int} (hi : i < l.length) (n : Nat) (h : ∀ x ∈ l, 0 ≤ x ∧ x ≤ (n : Int) * 4503599627370496) (hy : 0 ≤ y ∧ y ≤ 4503599627370496) (hz : z = l.getD i 0 + y) :
    ∀ x ∈ l.set i z, 0 ≤ x ∧ x ≤ ((n + 1 : Nat) : Int) * 4503599627370496 := by
  intro x hx
  rcases List.mem_or_eq_of_mem_set hx with hx | hx
  · have := h x hx; omega
  · have := h _ (getD_mem hi); omega
theorem more_bound {l : List Int} (n : Nat) (h : ∀ x ∈ l, 0 ≤ x ∧ x ≤ (n : Int) * 4503599627370496) : ∀ x ∈ l, 0 ≤ x ∧ x ≤ ((n + 1 : Nat) : Int) * 4503599627370496 := by
  intro x hx
  have := h x hx; omega
theorem MI.low {a b low high : List Int} {i k : Nat} (h : MI a b low high i k) (hb : b.length = 10) (ra : ∀ x ∈ a, 0 ≤ x ∧ x < 67108864) (rb : ∀ x ∈ b, 0 ≤ x ∧ x < 67108864) (ha : i < a.length) (hk : k < 10) (hs : i + k < 10) :
    MI a b (low.set (i + k) (low.getD (i + k) 0 + a.getD i 0 * b.getD k 0)) high i (k + 1) := by
  have hp := prod_le (ra _ (getD_mem ha)) (rb _ (getD_mem (l := b) (i := k) (by omega)))
  refine ⟨by rw [List.length_set]; exact h.ll, h.hl, ?_, set_bound (by rw [h.ll]; exact hs) _ h.bl hp rfl, more_bound _ h.bh⟩
  rw [vB_set _ _ _ _ (by rw [h.ll]; exact hs), vB_take _ _ _ (by omega)]
  have e := h.val
  have e2 : (low.getD (i + k) 0 + a.getD i 0 * b.getD k 0 - low.getD (i + k) 0) * 67108864 ^ (i + k) = a.getD i 0 * (67108864 ^ i * (b.getD k 0 * 67108864 ^ k)) := by
    rw [int_cancel, Int.pow_add]
    ac_rfl
  rw [e2, Int.mul_add, Int.mul_add]
  omega
theorem MI.high {a b low high : List Int} {i k : Nat} (h : MI a b low high i k) (hb : b.length = 10) (ra : ∀ x ∈ a, 0 ≤ x ∧ x < 67108864) (rb : ∀ x ∈ b, 0 ≤ x ∧ x < 67108864) (ha : i < a.length) (hl : a.length = 10) (hk : k < 10) (hs : 10 ≤ i + k) :
    MI a b low (high.set (i + k - 10) (high.getD (i + k - 10) 0 + a.getD i 0 * b.getD k 0)) i (k + 1) := by
  have hp := prod_le (ra _ (getD_mem ha)) (rb _ (getD_mem (l := b) (i := k) (by omega)))
  have hlt : i + k - 10 < high.length := by rw [h.hl]; omega
  refine ⟨h.ll, by rw [List.length_set]; exact h.hl, ?_, more_bound _ h.bl, set_bound hlt _ h.bh hp rfl⟩
  rw [vB_set _ _ _ _ hlt, vB_take _ _ _ (by omega)]
  have e := h.val
  have e2 : 67108864 ^ 10 * ((high.getD (i + k - 10) 0 + a.getD i 0 * b.getD k 0 - high.getD (i + k - 10) 0) * 67108864 ^ (i + k - 10)) = a.getD i 0 * (67108864 ^ i * (b.getD k 0 * 67108864 ^ k)) := by
    rw [int_cancel]
    have : (67108864 : Int) ^ 10 * 67108864 ^ (i + k - 10) = 67108864 ^ i * 67108864 ^ k := by
      rw [← Int.pow_add, ← Int.pow_add]; congr 1; omega
    calc (67108864 : Int) ^ 10 * (a.getD i 0 * b.getD k 0 * 67108864 ^ (i + k - 10)) = a.getD i 0 * b.getD k 0 * (67108864 ^ 10 * 67108864 ^ (i + k - 10)) := by ac_rfl
      _ = a.getD i 0 * b.getD k 0 * (67108864 ^ i * 67108864 ^ k) := by rw [this]
      _ = _ := by ac_rfl
  rw [Int.mul_add (67108864 ^ 10), e2, Int.mul_add, Int.mul_add]
  omega
theorem MI.next {a b low high : List Int} {i : Nat} (h : MI a b low high i 10) (hb : b.length = 10) (ha : i < a.length) : MI a b low high (i + 1) 0 := by
  refine ⟨h.ll, h.hl, ?_, fun x hx => by have := h.bl x hx; omega, fun x hx => by have := h.bh x hx; omega⟩
  have e := h.val
  rw [List.take_of_length_le (show b.length ≤ 10 by omega)] at e
  rw [e, vB_take _ _ _ ha, Int.add_mul, List.take_zero]
  simp only [vB, Int.mul_zero, Int.add_zero]
  congr 1
  ac_rfl
theorem stl_mul (a b : Nat) (low high : List Int) (hv : vB 67108864 low + 67108864 ^ 10 * vB 67108864 high = (a : Int) * b) (c : Int) (d : List Int) (hc : vB 67108864 d = vB 67108864 low + 608 * (vB 67108864 high - 67108864 ^ 10 * c) + 369664 * c) : stl d = mP a b := by
  unfold stl mP
  rw [show (67108864 : Int) ^ 10 = 1852673427797059126777135760139006525652319754650249024631321344126610074238976 from by decide] at hv hc
  have e : vB 67108864 d = (a : Int) * b - 57896044618658097711785492504343953926634992332820282019728792003956564819949 * (32 * (vB 67108864 high + 608 * c)) := by omega
  rw [e, Int.sub_mul_emod_self_left, P_val, ← Int.natCast_mul]
  exact congrArg Int.toNat (Int.natCast_emod (a * b) 57896044618658097711785492504343953926634992332820282019728792003956564819949).symm
/-- 608 times the upper row, added up to digit k. -/
def addM (m : Int) (l h : List Int) (k : Nat) : List Int := (List.range l.length).map fun i => if i < k then l.getD i 0 + m * h.getD i 0 else l.getD i 0
theorem addM_length (m : Int) (l h : List Int) (k : Nat) : (addM m l h k).length = l.length := by simp [addM]
theorem addM_zero (m : Int) (l h : List Int) : addM m l h 0 = l := by
  apply List.ext_getElem?
  intro i
  by_cases hi : i < l.length
  · simp [addM, hi, List.getD]
  · simp [addM, hi]
theorem addM_get (m : Int) (l h : List Int) (k : Nat) (hk : k < l.length) : (addM m l h k).getD k 0 = l.getD k 0 := by
  simp [addM, List.getD, hk]
theorem addM_step (m : Int) (l h : List Int) (k : Nat) (hk : k < l.length) : (addM m l h k).set k (l.getD k 0 + m * h.getD k 0) = addM m l h (k + 1) := by
  apply List.ext_getElem?
  intro i
  rw [List.getElem?_set]
  by_cases hki : k = i
  · subst hki; simp [addM, hk]
  · rw [if_neg hki]
    by_cases hi : i < l.length
    · have e1 : (i < k + 1) = (i < k) := by apply propext; omega
      simp [addM, hi, e1]
    · simp [addM, hi]
theorem addM_val (B m : Int) (l h : List Int) (hl : l.length = h.length) (k : Nat) (hk : k ≤ l.length) : vB B (addM m l h k) = vB B l + m * vB B (h.take k) := by
  induction k with
  | zero => rw [addM_zero]; simp [vB]
  | succ k ih =>
    rw [← addM_step m l h k (by omega), vB_set _ _ _ _ (by rw [addM_length]; omega), addM_get _ _ _ _ (by omega), ih (by omega), vB_take _ _ _ (by omega), Int.mul_add, int_cancel]
    rw [Int.mul_assoc]; omega
theorem addM_all (B m : Int) (l h : List Int) (hl : l.length = h.length) : vB B (addM m l h l.length) = vB B l + m * vB B h := by
  rw [addM_val B m l h hl _ (Nat.le_refl _), hl, List.take_length]
theorem addM_bound (m : Int) (l h : List Int) (k : Nat) (hl : l.length = h.length) (p q r : Int) (h1 : ∀ x ∈ l, -p ≤ x ∧ x ≤ p) (h2 : ∀ x ∈ h, -q ≤ m * x ∧ m * x ≤ q) (hr : p + q ≤ r) (hq : 0 ≤ q) : ∀ x ∈ addM m l h k, -r ≤ x ∧ x ≤ r := by
  intro x hx
  obtain ⟨i, hi, rfl⟩ := List.mem_map.1 hx
  rw [List.mem_range] at hi
  have a1 := h1 _ (getD_mem hi)
  have a2 := h2 _ (getD_mem (l := h) (i := i) (by omega))
  split <;> omega
end Go.Proofs.YtemdlpcljjdfjaaDoor
