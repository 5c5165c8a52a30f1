import Derived.Test.YtccgfabojbjmjaaGreatDoorLo09
import Derived.Deep.CutRange
set_option maxRecDepth 100000
set_option maxHeartbeats 8000000
namespace Go.Proofs.YtccgfabojbjmjaaGreatDoor
open Go.RowKit
theorem YI (B : Int) (l : List Int) (k : Nat) (x : Int) (h : k < l.length) : vB B (l.set k x) = vB B l + (x - l.getD k 0) * B ^ k := by
 induction l generalizing k with
 | nil => simp at h
 | cons a l ih =>
  cases k with
  | zero => simp [vB]; omega
  | succ k =>
   simp only [List.set_cons_succ, vB]
   rw [ih k (by simpa using h), List.getD_cons_succ, Int.pow_succ, Int.mul_add]
   rw [show B * ((x - l.getD k 0) * B ^ k) = (x - l.getD k 0) * (B ^ k * B) by rw [Int.mul_comm B, Int.mul_assoc]]
   omega
theorem qhW (B : Int) (l : List Int) (k : Nat) (h : k ≤ l.length) : vB B (jQ B l k) + B ^ k * jT B l k = vB B l := by
 induction k with
 | zero => rw [qbW]; simp [jT]
 | succ k ih =>
  have e := ih (by omega)
  rw [← qce B l k (by omega), YI B _ k _ (by rw [Ya]; omega), qbu B l k (by omega)]
  simp only [jT]
  generalize l.getD k 0 = t at *
  generalize jT B l k = c at *
  have e2 := Int.emod_add_mul_ediv (t + c) B
  generalize (t + c) % B = u at *
  generalize (t + c) / B = q at *
  have e3 : (u - t) * B ^ k + B ^ k * B * q = B ^ k * c := by
   have : B ^ k * c = B ^ k * (u + B * q - t) := by rw [e2]; congr 1; omega
   rw [this, Int.mul_sub, Int.mul_add, Int.sub_mul, Int.mul_comm u, Int.mul_comm t, ← Int.mul_assoc]; omega
  rw [Int.pow_succ]
  omega
theorem qnV (B : Int) (hB : 0 < B) (l : List Int) (h : ∀ x ∈ l, 0 ≤ x ∧ x < B) : dB B l.length (vB B l) = l := by
 induction l with
 | nil => rfl
 | cons a l ih =>
  obtain ⟨a0, a1⟩ := h a List.mem_cons_self
  simp only [List.length_cons, dB, vB]
  rw [Int.add_mul_emod_self_left, Int.emod_eq_of_lt a0 a1, Int.add_mul_ediv_left _ _ (by omega), Int.ediv_eq_zero_of_lt a0 a1, Int.zero_add, ih (fun x hx => h x (List.mem_cons_of_mem _ hx))]
def up0 (l : List Int) (x : Int) : List Int := l.set 0 (l.getD 0 0 + x)
def rF (d : List Int) : List Int := up0 (dB 67108864 10 (vB 67108864 d % 57896044618658097711785492504343953926634992332820282019728792003956564819968)) (19 * (vB 67108864 d / 57896044618658097711785492504343953926634992332820282019728792003956564819968))
theorem qky (d : List Int) : (rF d).length = 10 := by simp [rF, up0, ZG]
theorem qb4 (d : List Int) (hl : d.length = 10) :
  (jQ 67108864 d 9).set 9 ((d.getD 9 0 + jT 67108864 d 9) % 2097152) = dB 67108864 10 (vB 67108864 d % 57896044618658097711785492504343953926634992332820282019728792003956564819968) ∧ (d.getD 9 0 + jT 67108864 d 9) / 2097152 = vB 67108864 d / 57896044618658097711785492504343953926634992332820282019728792003956564819968 := by
 have hv := qhW 67108864 d 9 (by omega)
 have hs := YI 67108864 (jQ 67108864 d 9) 9 ((d.getD 9 0 + jT 67108864 d 9) % 2097152) (by rw [Ya]; omega)
 rw [qbu _ _ _ (by omega)] at hs
 have hset : (jQ 67108864 d 9).set 9 ((d.getD 9 0 + jT 67108864 d 9) % 2097152) = (jQ 67108864 d 9).take 9 ++ [(d.getD 9 0 + jT 67108864 d 9) % 2097152] := by
  rw [List.set_eq_take_append_cons_drop, if_pos (by rw [Ya]; omega), List.drop_eq_nil_of_le (by rw [Ya]; omega)]
 have hlow : ∀ x ∈ (jQ 67108864 d 9).take 9, 0 ≤ x ∧ x < 67108864 := by
  intro x hx
  obtain ⟨i, hi, e⟩ := List.mem_iff_getElem.1 hx
  have hi' : i < 9 := by rw [Zh] at hi; omega
  rw [List.getElem_take] at e
  simp only [jQ, List.getElem_map, List.getElem_range, if_pos hi'] at e
  rw [← e]; omega
 have hb := qe6 67108864 (by decide) _ hlow
 have hlen : ((jQ 67108864 d 9).take 9).length = 9 := by rw [Zh, Ya, hl]; rfl
 rw [hlen] at hb
 have hv2 : vB 67108864 ((jQ 67108864 d 9).set 9 ((d.getD 9 0 + jT 67108864 d 9) % 2097152)) = vB 67108864 ((jQ 67108864 d 9).take 9) + 67108864 ^ 9 * ((d.getD 9 0 + jT 67108864 d 9) % 2097152) := by
  rw [hset, qb5, hlen]; simp [vB]
 have hall : ∀ x ∈ (jQ 67108864 d 9).set 9 ((d.getD 9 0 + jT 67108864 d 9) % 2097152), 0 ≤ x ∧ x < 67108864 := by
  rw [hset]
  intro x hx
  rcases List.mem_append.1 hx with h | h
  · exact hlow x h
  · rw [List.mem_singleton] at h; omega
 have hrow := qnV 67108864 (by decide) _ hall
 rw [List.length_set, Ya, hl] at hrow
 rw [show (67108864 : Int) ^ 9 = 27606985387162255149739023449108101809804435888681546220650096895197184 from by decide] at hv hs hv2 hb
 have key : vB 67108864 ((jQ 67108864 d 9).set 9 ((d.getD 9 0 + jT 67108864 d 9) % 2097152)) = vB 67108864 d % 57896044618658097711785492504343953926634992332820282019728792003956564819968 ∧ (d.getD 9 0 + jT 67108864 d 9) / 2097152 = vB 67108864 d / 57896044618658097711785492504343953926634992332820282019728792003956564819968 := by
  clear hrow hall hset hlow hlen
  generalize vB 67108864 ((jQ 67108864 d 9).set 9 ((d.getD 9 0 + jT 67108864 d 9) % 2097152)) = vR at *
  generalize vB 67108864 (List.take 9 (jQ 67108864 d 9)) = vT at *
  generalize vB 67108864 (jQ 67108864 d 9) = vr at *
  generalize vB 67108864 d = vd at *
  generalize d.getD 9 0 = t at *
  generalize jT 67108864 d 9 = c at *
  constructor <;> omega
 rw [key.1] at hrow
 exact ⟨hrow.symm, key.2⟩
theorem qn8 (d : List Int) (hl : d.length = 10) (h : ∀ x ∈ d, -2305843009213693952 ≤ x ∧ x ≤ 2305843009213693952) : ∀ x ∈ rF d, -2305843009213693952 ≤ x ∧ x ≤ 2305843009213693952 := by
 have hq := (qb4 d hl).2
 have hc := qas 67108864 (by decide) d 2305843009213693952 h (by decide) 9 (by omega)
 have ht := h _ (jB (l := d) (i := 9) (by omega))
 have hd := yX 67108864 (by decide) 10 (vB 67108864 d % 57896044618658097711785492504343953926634992332820282019728792003956564819968)
 intro x hx
 unfold rF up0 at hx
 rcases List.mem_or_eq_of_mem_set hx with hx | hx
 · have := hd x hx; omega
 ·
  have h0 := hd _ (jB (l := dB 67108864 10 (vB 67108864 d % 57896044618658097711785492504343953926634992332820282019728792003956564819968)) (i := 0) (by rw [ZG]; decide))
  rw [hx, ← hq]
  generalize jT 67108864 d 9 = c at *
  generalize d.getD 9 0 = t at *
  generalize (dB 67108864 10 (vB 67108864 d % 57896044618658097711785492504343953926634992332820282019728792003956564819968)).getD 0 0 = z at *
  omega
theorem qpq (d : List Int) : vB 67108864 (rF d) = vB 67108864 d % 57896044618658097711785492504343953926634992332820282019728792003956564819968 + 19 * (vB 67108864 d / 57896044618658097711785492504343953926634992332820282019728792003956564819968) := by
 unfold rF up0
 rw [YI _ _ _ _ (by rw [ZG]; decide), Yd _ (by decide)]
 rw [show (67108864 : Int) ^ 10 = 1852673427797059126777135760139006525652319754650249024631321344126610074238976 from by decide, Int.pow_zero, Int.mul_one]
 generalize vB 67108864 d = v
 generalize (dB 67108864 10 (v % 57896044618658097711785492504343953926634992332820282019728792003956564819968)).getD 0 0 = z
 omega
def V2 (d : List Int) : Int := vB 67108864 (rF (rF d))
theorem qlN (d : List Int) (hl : d.length = 10) (h : ∀ x ∈ d, -2305843009213693952 ≤ x ∧ x ≤ 2305843009213693952) : 0 ≤ V2 d ∧ V2 d < 57896044618658097711785492504343953926634992332820282019728792003956564819968 ∧ V2 d % 57896044618658097711785492504343953926634992332820282019728792003956564819949 = vB 67108864 d % 57896044618658097711785492504343953926634992332820282019728792003956564819949 := by
 have hq := (qb4 d hl).2
 have hc := qas 67108864 (by decide) d 2305843009213693952 h (by decide) 9 (by omega)
 have ht := h _ (jB (l := d) (i := 9) (by omega))
 have e1 := qpq d
 have e2 := qpq (rF d)
 unfold V2
 generalize jT 67108864 d 9 = c at *
 generalize d.getD 9 0 = t at *
 generalize vB 67108864 (rF (rF d)) = w at *
 generalize vB 67108864 (rF d) = u at *
 generalize vB 67108864 d = v at *
 have hq2 : -4398046511104 ≤ v / 57896044618658097711785492504343953926634992332820282019728792003956564819968 ∧ v / 57896044618658097711785492504343953926634992332820282019728792003956564819968 ≤ 4398046511104 := by omega
 clear hq hc ht
 refine ⟨by omega, by omega, ?_⟩
 have e3 : w = v - 57896044618658097711785492504343953926634992332820282019728792003956564819949 * (v / 57896044618658097711785492504343953926634992332820282019728792003956564819968 + u / 57896044618658097711785492504343953926634992332820282019728792003956564819968) := by
  have := Int.emod_add_mul_ediv v 57896044618658097711785492504343953926634992332820282019728792003956564819968
  have := Int.emod_add_mul_ediv u 57896044618658097711785492504343953926634992332820282019728792003956564819968
  omega
 rw [e3, Int.sub_mul_emod_self_left]
theorem qvc (d : List Int) (hl : d.length = 10) (h : ∀ x ∈ d, -2305843009213693952 ≤ x ∧ x ≤ 2305843009213693952) : rF (rF (rF d)) = dB 67108864 10 (V2 d) := by
 obtain ⟨a, b, _⟩ := qlN d hl h
 have e : rF (rF (rF d)) = up0 (dB 67108864 10 (V2 d % 57896044618658097711785492504343953926634992332820282019728792003956564819968)) (19 * (V2 d / 57896044618658097711785492504343953926634992332820282019728792003956564819968)) := rfl
 rw [e, Int.emod_eq_of_lt a b, Int.ediv_eq_zero_of_lt a b]
 unfold up0
 simp [dB]
def fd (n : Nat) : List Int := dB 67108864 10 n
theorem Qo (n : Nat) : (fd n).length = 10 := ZG _ _ _
theorem yZ (n : Nat) : ∀ x ∈ fd n, 0 ≤ x ∧ x < 67108864 := yX _ (by decide) _ _
theorem kW (n : Nat) (h : n < P) : vB 67108864 (fd n) = n := by
 unfold fd
 rw [Yd _ (by decide), show (67108864 : Int) ^ 10 = 1852673427797059126777135760139006525652319754650249024631321344126610074238976 from by decide]
 rw [Zw] at h
 omega
def JK (d : List Int) : Nat := (vB 67108864 d % 57896044618658097711785492504343953926634992332820282019728792003956564819949).toNat
def ZX (l : List Int) : Nat → Bool
 | 0 => decide (l.getD 9 0 = 2097151) && decide (67108845 ≤ l.getD 0 0)
 | k + 1 => ZX l k && decide (l.getD (k + 1) 0 = 67108863)
theorem qpT (v : Int) (h0 : 0 ≤ v) (h1 : v < 57896044618658097711785492504343953926634992332820282019728792003956564819968) : ZX (dB 67108864 10 v) 8 = decide (57896044618658097711785492504343953926634992332820282019728792003956564819949 ≤ v) := by
 have hd := yX 67108864 (by decide) 10 v
 have hv := Yd 67108864 (by decide) 10 v
 rw [show (67108864 : Int) ^ 10 = 1852673427797059126777135760139006525652319754650249024631321344126610074238976 from by decide, Int.emod_eq_of_lt h0 (by omega)] at hv
 have hl := ZG 67108864 10 v
 generalize dB 67108864 10 v = l at *
 match l, hl with
 | [a0, a1, a2, a3, a4, a5, a6, a7, a8, a9], _ =>
  simp only [vB] at hv
  simp only [List.mem_cons, List.not_mem_nil, or_false, forall_eq_or_imp, forall_eq] at hd
  obtain ⟨b0, b1, b2, b3, b4, b5, b6, b7, b8, b9⟩ := hd
  rw [Bool.eq_iff_iff]
  simp only [ZX, Bool.and_eq_true, decide_eq_true_eq, List.getD_cons_succ, List.getD_cons_zero]
  constructor
  ·
   rintro ⟨⟨⟨⟨⟨⟨⟨⟨⟨c9, c0⟩, c1⟩, c2⟩, c3⟩, c4⟩, c5⟩, c6⟩, c7⟩, c8⟩
   omega
  ·
   intro h
   have c9 : a9 = 2097151 := by omega
   have c8 : a8 = 67108863 := by omega
   have c7 : a7 = 67108863 := by omega
   have c6 : a6 = 67108863 := by omega
   have c5 : a5 = 67108863 := by omega
   have c4 : a4 = 67108863 := by omega
   have c3 : a3 = 67108863 := by omega
   have c2 : a2 = 67108863 := by omega
   have c1 : a1 = 67108863 := by omega
   exact ⟨⟨⟨⟨⟨⟨⟨⟨⟨c9, by omega⟩, c1⟩, c2⟩, c3⟩, c4⟩, c5⟩, c6⟩, c7⟩, c8⟩
theorem qgv (d : List Int) (hl : d.length = 10) (h : ∀ x ∈ d, -2305843009213693952 ≤ x ∧ x ≤ 2305843009213693952) :
  (ZX (dB 67108864 10 (V2 d)) 8 = true → ((dB 67108864 10 (V2 d)).getD 0 0 - 67108845) :: List.replicate 9 0 = fd (JK d)) ∧ (ZX (dB 67108864 10 (V2 d)) 8 = false → dB 67108864 10 (V2 d) = fd (JK d)) := by
 obtain ⟨h0, h1, h2⟩ := qlN d hl h
 rw [qpT _ h0 h1]
 unfold fd JK
 rw [← h2]
 generalize V2 d = v at *
 constructor
 ·
  intro hw
  have hP : 57896044618658097711785492504343953926634992332820282019728792003956564819949 ≤ v := of_decide_eq_true hw
  have e : v % 57896044618658097711785492504343953926634992332820282019728792003956564819949 = v - 57896044618658097711785492504343953926634992332820282019728792003956564819949 := by omega
  rw [e]
  have : (dB 67108864 10 v).getD 0 0 = v % 67108864 := by simp [dB]
  rw [this]
  have e2 : ((v - 57896044618658097711785492504343953926634992332820282019728792003956564819949).toNat : Int) = v % 67108864 - 67108845 := by omega
  rw [e2]
  have hall : ∀ x ∈ (v % 67108864 - 67108845) :: List.replicate 9 (0 : Int), 0 ≤ x ∧ x < 67108864 := by
   intro x hx
   simp only [List.mem_cons, List.mem_replicate] at hx
   omega
  have := qnV 67108864 (by decide) _ hall
  rw [← this]
  congr 1
  simp [vB]
 ·
  intro hw
  have hP : ¬ 57896044618658097711785492504343953926634992332820282019728792003956564819949 ≤ v := of_decide_eq_false hw
  congr 1
  omega
theorem qrK (a b : Nat) (d : List Int) (hv : vB 67108864 d = a + b) : JK d = aP a b := by
 unfold JK aP
 rw [hv]
 rw [Zw] at *
 omega
theorem qqO (a b : Nat) (hb : b < P) (d : List Int) (hv : vB 67108864 d = (a : Int) - b) : JK d = sP a b := by
 unfold JK sP
 rw [hv]
 rw [Zw] at *
 omega
theorem kZ (a b : Int) : a + b - a = b := by omega
theorem qbL (B : Int) (l : List Int) (k : Nat) (h : k < l.length) : vB B (l.take (k + 1)) = vB B (l.take k) + l.getD k 0 * B ^ k := by
 rw [List.take_succ_eq_append_getElem h, qb5, Zh, Nat.min_eq_left (by omega)]
 simp [vB, List.getD, zO h]
 rw [Int.mul_comm]
structure MI (a b low high : List Int) (i k : Nat) : Prop where
 ll : low.length = 10
 hl : high.length = 10
 val : vB 67108864 low + 67108864 ^ 10 * vB 67108864 high = vB 67108864 (a.take i) * vB 67108864 b + a.getD i 0 * (67108864 ^ i * vB 67108864 (b.take k))
 bl : ∀ x ∈ low, 0 ≤ x ∧ x ≤ (10 * i + k : Nat) * 4503599627370496
 bh : ∀ x ∈ high, 0 ≤ x ∧ x ≤ (10 * i + k : Nat) * 4503599627370496
theorem qeP {x y : Int} (hx : 0 ≤ x ∧ x < 67108864) (hy : 0 ≤ y ∧ y < 67108864) : 0 ≤ x * y ∧ x * y ≤ 4503599627370496 := by
 refine ⟨Int.mul_nonneg hx.1 hy.1, ?_⟩
 have h1 := Int.mul_le_mul_of_nonneg_left (show y ≤ 67108864 by omega) hx.1
 omega
theorem MI.start (a b : List Int) : MI a b (List.replicate 10 0) (List.replicate 10 0) 0 0 := by
 refine ⟨rfl, rfl, ?_, ?_, ?_⟩
 ·
  rw [List.take_zero, List.take_zero]
  have : vB 67108864 (List.replicate 10 0) = 0 := by decide
  rw [this]; simp [vB]
 · intro x hx; rw [List.mem_replicate] at hx; omega
 · intro x hx; rw [List.mem_replicate] at hx; omega
theorem qfy {l : List Int} {i : Nat} {y z : Int} (hi : i < l.length) (n : Nat) (h : ∀ x ∈ l, 0 ≤ x ∧ x ≤ (n : Int) * 4503599627370496) (hy : 0 ≤ y ∧ y ≤ 4503599627370496) (hz : z = l.getD i 0 + y) :
  ∀ x ∈ l.set i z, 0 ≤ x ∧ x ≤ ((n + 1 : Nat) : Int) * 4503599627370496 := by
 intro x hx
 rcases List.mem_or_eq_of_mem_set hx with hx | hx
 · have := h x hx; omega
 · have := h _ (jB hi); omega
theorem qez {l : List Int} (n : Nat) (h : ∀ x ∈ l, 0 ≤ x ∧ x ≤ (n : Int) * 4503599627370496) : ∀ x ∈ l, 0 ≤ x ∧ x ≤ ((n + 1 : Nat) : Int) * 4503599627370496 := by
 intro x hx
 have := h x hx; omega
theorem MI.low {a b low high : List Int} {i k : Nat} (h : MI a b low high i k) (hb : b.length = 10) (ra : ∀ x ∈ a, 0 ≤ x ∧ x < 67108864) (rb : ∀ x ∈ b, 0 ≤ x ∧ x < 67108864) (ha : i < a.length) (hk : k < 10) (hs : i + k < 10) :
  MI a b (low.set (i + k) (low.getD (i + k) 0 + a.getD i 0 * b.getD k 0)) high i (k + 1) := by
 have hp := qeP (ra _ (jB ha)) (rb _ (jB (l := b) (i := k) (by omega)))
 refine ⟨by rw [List.length_set]; exact h.ll, h.hl, ?_, qfy (by rw [h.ll]; exact hs) _ h.bl hp rfl, qez _ h.bh⟩
 rw [YI _ _ _ _ (by rw [h.ll]; exact hs), qbL _ _ _ (by omega)]
 have e := h.val
 have e2 : (low.getD (i + k) 0 + a.getD i 0 * b.getD k 0 - low.getD (i + k) 0) * 67108864 ^ (i + k) = a.getD i 0 * (67108864 ^ i * (b.getD k 0 * 67108864 ^ k)) := by
  rw [kZ, Int.pow_add]
  ac_rfl
 rw [e2, Int.mul_add, Int.mul_add]
 omega
theorem MI.high {a b low high : List Int} {i k : Nat} (h : MI a b low high i k) (hb : b.length = 10) (ra : ∀ x ∈ a, 0 ≤ x ∧ x < 67108864) (rb : ∀ x ∈ b, 0 ≤ x ∧ x < 67108864) (ha : i < a.length) (hl : a.length = 10) (hk : k < 10) (hs : 10 ≤ i + k) :
  MI a b low (high.set (i + k - 10) (high.getD (i + k - 10) 0 + a.getD i 0 * b.getD k 0)) i (k + 1) := by
 have hp := qeP (ra _ (jB ha)) (rb _ (jB (l := b) (i := k) (by omega)))
 have hlt : i + k - 10 < high.length := by rw [h.hl]; omega
 refine ⟨h.ll, by rw [List.length_set]; exact h.hl, ?_, qez _ h.bl, qfy hlt _ h.bh hp rfl⟩
 rw [YI _ _ _ _ hlt, qbL _ _ _ (by omega)]
 have e := h.val
 have e2 : 67108864 ^ 10 * ((high.getD (i + k - 10) 0 + a.getD i 0 * b.getD k 0 - high.getD (i + k - 10) 0) * 67108864 ^ (i + k - 10)) = a.getD i 0 * (67108864 ^ i * (b.getD k 0 * 67108864 ^ k)) := by
  rw [kZ]
  have : (67108864 : Int) ^ 10 * 67108864 ^ (i + k - 10) = 67108864 ^ i * 67108864 ^ k := by
   rw [← Int.pow_add, ← Int.pow_add]; congr 1; omega
  calc (67108864 : Int) ^ 10 * (a.getD i 0 * b.getD k 0 * 67108864 ^ (i + k - 10)) = a.getD i 0 * b.getD k 0 * (67108864 ^ 10 * 67108864 ^ (i + k - 10)) := by ac_rfl
   _ = a.getD i 0 * b.getD k 0 * (67108864 ^ i * 67108864 ^ k) := by rw [this]
   _ = _ := by ac_rfl
 rw [Int.mul_add (67108864 ^ 10), e2, Int.mul_add, Int.mul_add]
 omega
theorem MI.next {a b low high : List Int} {i : Nat} (h : MI a b low high i 10) (hb : b.length = 10) (ha : i < a.length) : MI a b low high (i + 1) 0 := by
 refine ⟨h.ll, h.hl, ?_, fun x hx => by have := h.bl x hx; omega, fun x hx => by have := h.bh x hx; omega⟩
 have e := h.val
 rw [zP (show b.length ≤ 10 by omega)] at e
 rw [e, qbL _ _ _ ha, Int.add_mul, List.take_zero]
 simp only [vB, Int.mul_zero, Int.add_zero]
 congr 1
 ac_rfl
theorem qrb (a b : Nat) (low high : List Int) (hv : vB 67108864 low + 67108864 ^ 10 * vB 67108864 high = (a : Int) * b) (c : Int) (d : List Int) (hc : vB 67108864 d = vB 67108864 low + 608 * (vB 67108864 high - 67108864 ^ 10 * c) + 369664 * c) : JK d = mP a b := by
 unfold JK mP
 rw [show (67108864 : Int) ^ 10 = 1852673427797059126777135760139006525652319754650249024631321344126610074238976 from by decide] at hv hc
 have e : vB 67108864 d = (a : Int) * b - 57896044618658097711785492504343953926634992332820282019728792003956564819949 * (32 * (vB 67108864 high + 608 * c)) := by omega
 rw [e, Int.sub_mul_emod_self_left, Zw, ← Int.natCast_mul]
 exact congrArg Int.toNat (Int.natCast_emod (a * b) 57896044618658097711785492504343953926634992332820282019728792003956564819949).symm
def Qx (m : Int) (l h : List Int) (k : Nat) : List Int := (List.range l.length).map fun i => if i < k then l.getD i 0 + m * h.getD i 0 else l.getD i 0
theorem qaj (m : Int) (l h : List Int) (k : Nat) : (Qx m l h k).length = l.length := by simp [Qx]
theorem qbP (m : Int) (l h : List Int) : Qx m l h 0 = l := by
 apply List.ext_getElem?
 intro i
 by_cases hi : i < l.length
 · simp [Qx, hi, List.getD]
 · simp [Qx, hi]
theorem qc1 (m : Int) (l h : List Int) (k : Nat) (hk : k < l.length) : (Qx m l h k).getD k 0 = l.getD k 0 := by
 simp [Qx, List.getD, hk]
theorem qbT (m : Int) (l h : List Int) (k : Nat) (hk : k < l.length) : (Qx m l h k).set k (l.getD k 0 + m * h.getD k 0) = Qx m l h (k + 1) := by
 apply List.ext_getElem?
 intro i
 rw [List.getElem?_set]
 by_cases hki : k = i
 · subst hki; simp [Qx, hk]
 ·
  rw [if_neg hki]
  by_cases hi : i < l.length
  ·
   have e1 : (i < k + 1) = (i < k) := by apply propext; omega
   simp [Qx, hi, e1]
  · simp [Qx, hi]
theorem qoy (B m : Int) (l h : List Int) (hl : l.length = h.length) (k : Nat) (hk : k ≤ l.length) : vB B (Qx m l h k) = vB B l + m * vB B (h.take k) := by
 induction k with
 | zero => rw [qbP]; simp [vB]
 | succ k ih =>
  rw [← qbT m l h k (by omega), YI _ _ _ _ (by rw [qaj]; omega), qc1 _ _ _ _ (by omega), ih (by omega), qbL _ _ _ (by omega), Int.mul_add, kZ]
  rw [Int.mul_assoc]; omega
theorem qe4 (B m : Int) (l h : List Int) (hl : l.length = h.length) : vB B (Qx m l h l.length) = vB B l + m * vB B h := by
 rw [qoy B m l h hl _ (zm _), hl, List.take_length]
theorem qcB (m : Int) (l h : List Int) (k : Nat) (hl : l.length = h.length) (p q r : Int) (h1 : ∀ x ∈ l, -p ≤ x ∧ x ≤ p) (h2 : ∀ x ∈ h, -q ≤ m * x ∧ m * x ≤ q) (hr : p + q ≤ r) (hq : 0 ≤ q) : ∀ x ∈ Qx m l h k, -r ≤ x ∧ x ≤ r := by
 intro x hx
 obtain ⟨i, hi, rfl⟩ := List.mem_map.1 hx
 rw [List.mem_range] at hi
 have a1 := h1 _ (jB hi)
 have a2 := h2 _ (jB (l := h) (i := i) (by omega))
 split <;> omega
open Go.RowKit
theorem qsy (n : Int) : bits .and .i64 n 67108863 = n % 67108864 := by
 have h : (BitVec.ofInt 64 67108863).toNat = 2 ^ 26 - 1 := by decide
 have key : (BitVec.ofInt 64 n &&& BitVec.ofInt 64 67108863).toNat = (n % ((2 ^ 64 : Nat) : Int)).toNat % 2 ^ 26 := by
  rw [BitVec.toNat_and, BitVec.toNat_ofInt, h, Nat.and_two_pow_sub_one_eq_mod]
 show IntKind.i64.wrap ((BitVec.ofInt 64 n &&& BitVec.ofInt 64 67108863).toNat : Nat) = n % 67108864
 rw [key, zq]
 omega
theorem quy (n : Int) : bits .and .i64 n 2097151 = n % 2097152 := by
 have h : (BitVec.ofInt 64 2097151).toNat = 2 ^ 21 - 1 := by decide
 have key : (BitVec.ofInt 64 n &&& BitVec.ofInt 64 2097151).toNat = (n % ((2 ^ 64 : Nat) : Int)).toNat % 2 ^ 21 := by
  rw [BitVec.toNat_and, BitVec.toNat_ofInt, h, Nat.and_two_pow_sub_one_eq_mod]
 show IntKind.i64.wrap ((BitVec.ofInt 64 n &&& BitVec.ofInt 64 2097151).toNat : Nat) = n % 2097152
 rw [key, zq]
 omega
theorem q7 : Tryz.prog.underlying 95 = some (.array 10 3) := by kernel_rfl
theorem qsb : (Tryz.prog.info? 95).map (·.size) = some 10 := by kernel_rfl
def zF : Array Value := ((List.replicate 10 (0 : Int)).map iv).toArray
theorem qhp (w : World) : (zeroValue 95).run Tryz.prog w = .ok (.agg zF) w := by kernel_rfl
theorem ki {d : List Int} (h : d.length = 10) : (Tryz.prog.info? 95).map (·.size) = some (d.map iv).toArray.size := by rw [qsb]; simp [h]
theorem qeD {d : List Int} (h : d.length = 10) : zF.size = (d.map iv).toArray.size := by simp [h]; rfl
theorem qdA (d : List Int) : (d.map iv).toArray.all (·.oneCell') = true := all_oneCell_toArray (qbO _)
def itF (d : List Int) : Nat → List Int
 | 0 => d
 | k + 1 => rF (itF d k)
theorem qef {d : List Int} (h : d.length = 10) (k : Nat) : (itF d k).length = 10 := by
 cases k with
 | zero => exact h
 | succ k => exact qky _
theorem qmN {d : List Int} (hl : d.length = 10) (h : ∀ x ∈ d, -2305843009213693952 ≤ x ∧ x ≤ 2305843009213693952) (k : Nat) : ∀ x ∈ itF d k, -2305843009213693952 ≤ x ∧ x ≤ 2305843009213693952 := by
 induction k with
 | zero => exact h
 | succ k ih => exact qn8 _ (qef hl k) ih
theorem qlS (D : List Int) (hl : D.length = 10) : ((jQ 67108864 D 9).set 9 ((D.getD 9 0 + jT 67108864 D 9) % 2097152)).set 0 (((jQ 67108864 D 9).set 9 ((D.getD 9 0 + jT 67108864 D 9) % 2097152)).getD 0 0 + 19 * ((D.getD 9 0 + jT 67108864 D 9) / 2097152)) = rF D := by
 obtain ⟨h1, h2⟩ := qb4 D hl
 rw [h1, h2]; rfl
section
attribute [local go_sem] qsy quy
theorem qaV (d : List Int) (hl : d.length = 10) (hb : ∀ x ∈ d, -2305843009213693952 ≤ x ∧ x ≤ 2305843009213693952) (w : World) :
  zC 106 #[.agg (d.map iv).toArray] w (.agg ((fd (JK d)).map iv).toArray) := by
 have hz := qhp
 have HL := qa hl
 have HB := qa hb
 clear hl hb
 obtain ⟨M, HM⟩ := zx ((d.map iv).toArray)
 rw [← HM.o]
 go_enter Tryz.func106, Tryz.ntmps106
 go_wp2_with fail
 go_loopw [3] (fun i wr => ∃ (k : Nat), k ≤ 3 ∧ i = .int .i64 k ∧ Hid (qi wr w.heap.size (((itF d k).map iv).toArray) 95) ∧ Hid (qi wr (w.heap.size + 1) zF 95) ∧ Hid (zB w wr)) (fun i _ => 3 - (intOf i).toNat)
 case atStart =>
  refine ⟨0, Zc _, rfl, ?_, Zd _ _ _, by show Below _ _ _; go_grown⟩
  show _ = some (Obj.cells (d.map iv).toArray _ _)
  rw [← HM.o]; exact (zb _ _ (by simp)).trans (za _ _)
 case round =>
  obtain ⟨k, hk, rfl, H0, H1, HBl⟩ := hrel
  by_cases hlt : k < 3
  ·
   have bk : (k : Int) < 3 := by omega
   obtain ⟨D, HD⟩ := zx (itF d k)
   have HDl : Hid (D.length = 10) := by rw [HD.o]; exact qef HL.o k
   have HDb : Hid (∀ x ∈ D, -2305843009213693952 ≤ x ∧ x ≤ 2305843009213693952) := by rw [HD.o]; exact qmN HL.o HB.o k
   rw [← HD.o] at H0
   clear hz
   go_wp2_with fail
   go_loopw [4, 5] (fun c i wr => ∃ (j : Nat) (z : Int), j ≤ 9 ∧ i = .int .i64 j ∧ c = .int .i64 z ∧ Hid (z = jT 67108864 D j) ∧ Hid (qi wr w.heap.size (((jQ 67108864 D j).map iv).toArray) 95) ∧ Hid (qi wr (w.heap.size + 1) zF 95) ∧ Hid (zB w wr)) (fun _ i _ => 9 - (intOf i).toNat)
   case atStart => exact ⟨0, 0, Zc _, rfl, rfl, rfl, by rw [qbW]; exact H0, H1, HBl⟩
   case round =>
    clear H0 H1 HBl
    obtain ⟨j, z, hj, rfl, rfl, HZ, H0, H1, HBl⟩ := hrel
    have hz1 := qas 67108864 (by decide) D 2305843009213693952 HDb.o (by decide) j (by rw [HDl.o]; omega)
    rw [← HZ.o] at hz1
    obtain ⟨z0, z1⟩ := hz1
    by_cases hj9 : j < 9
    ·
     have bj : (j : Int) < 9 := by omega
     have c0 := Qc H0.o j (by rw [Ya, HDl.o]; omega)
     rw [qbu _ _ _ (by rw [HDl.o]; omega)] at c0
     have f0 := frozen_of_row wr w.heap.size j _ _ H0.o
     obtain ⟨x, HX⟩ := zx (D.getD j 0)
     rw [← HX.o] at c0
     have hx := HDb.o _ (jB (l := D) (i := j) (by rw [HDl.o]; omega))
     rw [← HX.o] at hx
     obtain ⟨x0, x1⟩ := hx
     have hw1 : IntKind.i64.wrap (x + z) = x + z := by rw [zq]; omega
     go_wp2_with fail
     refine ⟨⟨j + 1, (x + z) / 67108864, by omega, by go_num, rfl, ?_, ?_, QR _ _ H1.o (by omega), HBl.o.setCell (by show _ ≤ _; exact zm _) _⟩, by simp [intOf]; omega⟩
     · show _ = _; simp only [jT]; rw [← HX.o, ← HZ.o]
     ·
      show _ = _
      rw [← qce _ _ _ (by rw [HDl.o]; omega), List.map_set, ← HX.o, ← HZ.o]
      exact Qg H0.o j _
    ·
     obtain rfl : j = 9 := by omega
     have bj : (9 : Int) ≤ ((9 : Nat) : Int) := by omega
     have c0 := Qc H0.o 9 (by rw [Ya, HDl.o]; decide)
     rw [qbu _ _ _ (by rw [HDl.o]; decide)] at c0
     have f0 := frozen_of_row wr w.heap.size 9 _ _ H0.o
     obtain ⟨x, HX⟩ := zx (D.getD 9 0)
     rw [← HX.o] at c0
     have hx := HDb.o _ (jB (l := D) (i := 9) (by rw [HDl.o]; decide))
     rw [← HX.o] at hx
     obtain ⟨x0, x1⟩ := hx
     have hw1 : IntKind.i64.wrap (x + z) = x + z := by rw [zq]; omega
     obtain ⟨R, HR⟩ := zx ((jQ 67108864 D 9).set 9 ((x + z) % 2097152))
     have H2 : Hid ((wr.setCell ⟨w.heap.size, 9, none⟩ (iv ((x + z) % 2097152))).heap[w.heap.size]? = some (.cells (R.map iv).toArray 95)) := by
      rw [HR.o, List.map_set]; exact Qg H0.o 9 _
     have H3 : Hid ((wr.setCell ⟨w.heap.size, 9, none⟩ (iv ((x + z) % 2097152))).heap[w.heap.size + 1]? = some (.cells zF 95)) := QR _ _ H1.o (by omega)
     have H4 : Hid (zB w (wr.setCell ⟨w.heap.size, 9, none⟩ (iv ((x + z) % 2097152)))) := HBl.o.setCell (by show _ ≤ _; exact zm _) _
     go_upto_region 13 with fail
     obtain ⟨W2, hW2⟩ := zy (wr.setCell ⟨w.heap.size, 9, none⟩ (iv ((x + z) % 2097152)))
     rw [← hW2] at H2 H3 H4 ⊢
     clear hW2 c0 f0 H0 H1 HBl
     have HRF : Hid (R.set 0 (R.getD 0 0 + 19 * ((x + z) / 2097152)) = rF D) := by
      show _ = _
      rw [HR.o, HX.o, HZ.o]; exact qlS D HDl.o
     have HRl : Hid (R.length = 10) := by show _ = _; rw [HR.o, List.length_set, Ya]; exact HDl.o
     have HRb : Hid (0 ≤ R.getD 0 0 ∧ R.getD 0 0 < 67108864) := by
      have h1 := (qb4 D HDl.o).1
      rw [← HX.o, ← HZ.o, ← HR.o] at h1
      rw [h1]
      exact yX 67108864 (by decide) 10 _ _ (jB (by rw [ZG]; decide))
     have c0 := Qc H2.o 0 (by rw [HRl.o]; decide)
     have f0 := frozen_of_row W2 w.heap.size 0 _ _ H2.o
     obtain ⟨y, HY⟩ := zx (R.getD 0 0)
     rw [← HY.o] at c0 HRb HRF
     obtain ⟨y0, y1⟩ := HRb.o
     obtain ⟨q, HQ⟩ := zx ((x + z) / 2097152)
     have hq : -2199023255552 ≤ q ∧ q ≤ 2199023255552 := by rw [HQ.o]; omega
     obtain ⟨q0, q1⟩ := hq
     rw [← HQ.o] at HRF
     have hqe : (x + z) / 2097152 = q := HQ.o.symm
     have hw2 : IntKind.i64.wrap (19 * q) = 19 * q := by rw [zq]; omega
     have hw3 : IntKind.i64.wrap (y + 19 * q) = y + 19 * q := by rw [zq]; omega
     clear x0 x1 z0 z1 hw1 HRb
     go_wp2_with fail
     refine ⟨⟨k + 1, by omega, by go_num, ?_, QR _ _ H3.o (by omega), H4.o.setCell (by show _ ≤ _; exact zm _) _⟩, by simp [intOf]; omega⟩
     show _ = some (Obj.cells ((rF (itF d k)).map iv).toArray _ _)
     rw [← HD.o, ← HRF.o, List.map_set]
     exact Qg H2.o 0 _
  ·
   obtain rfl : k = 3 := by omega
   have bk : (3 : Int) ≤ ((3 : Nat) : Int) := by omega
   obtain ⟨D, HD⟩ := zx (dB 67108864 10 (V2 d))
   have HT := qvc d HL.o HB.o
   have H0' : Hid (qi wr w.heap.size ((D.map iv).toArray) 95) := by
    have e := H0.o
    rw [show itF d 3 = dB 67108864 10 (V2 d) from HT, ← HD.o] at e
    exact e
   have HDl : Hid (D.length = 10) := by rw [HD.o]; exact ZG _ _ _
   have HDb : Hid (∀ x ∈ D, 0 ≤ x ∧ x < 67108864) := by rw [HD.o]; exact yX _ (by decide) _ _
   have HE := qa (qgv d HL.o HB.o)
   rw [← HD.o] at HE
   have c9 := Qc H0'.o 9 (by rw [HDl.o]; decide)
   have c0 := Qc H0'.o 0 (by rw [HDl.o]; decide)
   obtain ⟨x9, HX9⟩ := zx (D.getD 9 0)
   obtain ⟨x0, HX0⟩ := zx (D.getD 0 0)
   rw [← HX9.o] at c9
   rw [← HX0.o] at c0
   have hcase : ((x9 == 2097151) = true ∧ decide (67108845 ≤ x0) = true ∧ ZX D 0 = true) ∨ ((x9 == 2097151) = true ∧ decide (67108845 ≤ x0) = false ∧ ZX D 0 = false) ∨ ((x9 == 2097151) = false ∧ x0 = x0 ∧ ZX D 0 = false) := by
    simp only [ZX, ← HX9.o, ← HX0.o]
    by_cases h9 : x9 = 2097151
    ·
     by_cases h0 : 67108845 ≤ x0
     · exact .inl ⟨by simp [h9], by simp [h0], by simp [h9, h0]⟩
     · exact .inr (.inl ⟨by simp [h9], by simp [h0], by simp [h9, h0]⟩)
    · exact .inr (.inr ⟨by simp [h9], by simp, by simp [h9]⟩)
   clear HT H0 hlt hk HL HB HD
   rcases hcase with ⟨hb9, hx0, hW⟩ | ⟨hb9, hx0, hW⟩ | ⟨hb9, hx0, hW⟩
   all_goals (
    have HW0 := qa hW
    clear hW
    go_wp2_with fail
    clear hb9 hx0 c9 c0
    go_loopw [8, 9] (fun b i wr => ∃ (j : Nat), j ≤ 8 ∧ i = .int .i64 ((j + 1 : Nat) : Int) ∧ b = .bool (ZX D j) ∧ Hid (qi wr w.heap.size ((D.map iv).toArray) 95) ∧ Hid (qi wr (w.heap.size + 1) zF 95) ∧ Hid (zB w wr)) (fun _ i _ => 9 - (intOf i).toNat)
    case atStart => exact ⟨0, Zc _, rfl, by rw [HW0.o], H0', H1, HBl⟩
    case round =>
     clear H0' H1 HBl
     obtain ⟨j, hj, rfl, rfl, H0, H1, HBl⟩ := hrel
     by_cases hj8 : j < 8
     ·
      have bj : ((j + 1 : Nat) : Int) < 9 := by omega
      have c0 := Qc H0.o (j + 1) (by rw [HDl.o]; omega)
      obtain ⟨x, HX⟩ := zx (D.getD (j + 1) 0)
      rw [← HX.o] at c0
      have hc : (ZX D j = true ∧ (x == 67108863) = true ∧ ZX D (j + 1) = true) ∨ (ZX D j = true ∧ (x == 67108863) = false ∧ ZX D (j + 1) = false) ∨ (ZX D j = false ∧ x = x ∧ ZX D (j + 1) = false) := by
       simp only [ZX, ← HX.o]
       by_cases h1 : ZX D j = true
       ·
        by_cases h2 : x = 67108863
        · exact .inl ⟨h1, by simp [h2], by simp [h1, h2]⟩
        · exact .inr (.inl ⟨h1, by simp [h2], by simp [h1, h2]⟩)
       · exact .inr (.inr ⟨by simpa using h1, by simp, by simp [h1]⟩)
      rcases hc with ⟨h1, h2, h3⟩ | ⟨h1, h2, h3⟩ | ⟨h1, h2, h3⟩
      all_goals (
       rw [h1]
       have H3 := qa h3
       clear h3 h1
       go_wp2_with fail
       exact ⟨⟨j + 1, by omega, by go_num, by rw [H3.o], H0, H1, HBl⟩, by simp [intOf]; omega⟩)
     ·
      obtain rfl : j = 8 := by omega
      have bj : (9 : Int) ≤ ((8 + 1 : Nat) : Int) := by omega
      obtain ⟨R, HR⟩ := zx (((fd (JK d)).map iv).toArray)
      have HSz : Hid ((Tryz.prog.info? 95).map (·.size) = some R.size) := by show _ = _; rw [HR.o]; exact ki (Qo _)
      have HO : Hid (zF.size = R.size) := by show _ = _; rw [HR.o]; exact qeD (Qo _)
      have HA : Hid (R.all (·.oneCell') = true) := by rw [HR.o]; exact qdA _
      cases hw8 : ZX D 8
      ·
       have HRD : Hid (R = (D.map iv).toArray) := by show _ = _; rw [HR.o, ← HE.o.2 hw8]
       rw [← HRD.o] at H0
       clear hw8
       go_wp2_with (first | (refine zL 95 (.tmp 1) w.heap.size R H0.o q7 HSz.o ?_) | (refine qB 95 (.tmp 2) (.tmp 67) (w.heap.size + 1) R H1.o HSz.o HO.o HA.o ?_))
       refine zh (v := .agg R) (results_cell_row Tryz.results106 _ _ (w.heap.size + 1) 95 R (0, 0) _ (by rfl) (zd _ _ _ _ _ _ H1.o) q7 rfl HSz.o) rfl ⟨by rw [HR.o], ze HBl.o (by omega) _⟩
      ·
       have HRE := HE.o.1 hw8
       rw [← HX0.o] at HRE
       have HRD : Hid (#[iv (x0 - 67108845), iv 0, iv 0, iv 0, iv 0, iv 0, iv 0, iv 0, iv 0, iv 0] = R) := by show _ = _; rw [HR.o, ← HRE]; rfl
       clear HRE hw8
       have c0 := Qc H0.o 0 (by rw [HDl.o]; decide)
       have hx := HDb.o _ (jB (l := D) (i := 0) (by rw [HDl.o]; decide))
       rw [← HX0.o] at c0 hx
       obtain ⟨xa, xb⟩ := hx
       have hw1 : IntKind.i64.wrap (x0 - 67108845) = x0 - 67108845 := by rw [zq]; omega
       go_wp2_with (first | (refine qB 95 (.tmp 2) (.tmp 66) (w.heap.size + 1) #[iv (x0 - 67108845), iv 0, iv 0, iv 0, iv 0, iv 0, iv 0, iv 0, iv 0, iv 0] H1.o (by rw [HRD.o]; exact HSz.o) (by rw [HRD.o]; exact HO.o) (by rw [HRD.o]; exact HA.o) ?_))
       rw [HRD.o]
       refine zh (v := .agg R) (results_cell_row Tryz.results106 _ _ (w.heap.size + 1) 95 R (0, 0) _ (by rfl) (zd _ _ _ _ _ _ H1.o) q7 rfl HSz.o) rfl ⟨by rw [HR.o], ze HBl.o (by omega) _⟩)
end
abbrev fF (n : Nat) : Value := .agg ((fd n).map iv).toArray
theorem qaZ {w : World} {g g' : Nat} {o : Obj} (i : Nat) (v : Value) (h : w.heap[g]? = some o) (hne : g ≠ g') : (w.setCell ⟨g', i, none⟩ v).drew.heap[g]? = some o :=
 (Below.heap_setCell w _ v g hne).trans h
theorem qpe (n : Nat) (m : Int) (hm : m = 1 ∨ m = -1) : ∀ x ∈ fd n, -67108864 ≤ m * x ∧ m * x ≤ 67108864 := by
 intro x hx
 have := yZ n x hx
 rcases hm with rfl | rfl <;> omega
theorem qmP (n : Nat) : ∀ x ∈ fd n, -67108864 ≤ x ∧ x ≤ 67108864 := by
 intro x hx
 have := yZ n x hx
 omega
section
theorem qtY (a b : Nat) (ha : a < P) (hb : b < P) (w : World) :
  zC 109 #[fF a, fF b] w (fF (aP a b)) := by
 have hz := qhp
 obtain ⟨M, HM⟩ := zx (((fd a).map iv).toArray)
 obtain ⟨N, HN⟩ := zx (((fd b).map iv).toArray)
 obtain ⟨A, HA⟩ := zx (fd a)
 obtain ⟨B, HB⟩ := zx (fd b)
 have HAl : Hid (A.length = 10) := by rw [HA.o]; exact Qo a
 have HBl : Hid (B.length = 10) := by rw [HB.o]; exact Qo b
 have HAb : Hid (∀ x ∈ A, 0 ≤ x ∧ x < 67108864) := by rw [HA.o]; exact yZ a
 have HBb : Hid (∀ x ∈ B, 0 ≤ x ∧ x < 67108864) := by rw [HB.o]; exact yZ b
 have HS : Hid (JK (Qx 1 A B 10) = aP a b) := by
  refine qrK a b _ ?_
  have e := qe4 67108864 1 A B (by rw [HAl.o, HBl.o])
  rw [HAl.o] at e
  rw [e, HA.o, HB.o, kW a ha, kW b hb]; omega
 have HSl : Hid ((Qx 1 A B 10).length = 10) := by show _ = _; rw [qaj]; exact HAl.o
 have HSb : Hid (∀ x ∈ Qx 1 A B 10, -2305843009213693952 ≤ x ∧ x ≤ 2305843009213693952) :=
  qcB 1 A B 10 (by rw [HAl.o, HBl.o]) 67108864 67108864 _ (by rw [HA.o]; exact qmP a) (by rw [HB.o]; exact qpe b _ (by decide)) (by decide) (by decide)
 show Calls _ _ #[.agg ((fd a).map iv).toArray, .agg ((fd b).map iv).toArray] w _
 rw [← HM.o, ← HN.o]
 rw [← HA.o] at HM
 rw [← HB.o] at HN
 clear ha hb
 go_enter Tryz.func109, Tryz.ntmps109
 go_wp2_with fail
 go_loopw [5] (fun i wr => ∃ (k : Nat), k ≤ 10 ∧ i = .int .i64 k ∧ Hid (qi wr w.heap.size (((Qx 1 A B k).map iv).toArray) 95) ∧ Hid (qi wr (w.heap.size + 1) ((B.map iv).toArray) 95) ∧ Hid (qi wr (w.heap.size + 2) zF 95) ∧ Hid (zB w wr)) (fun i _ => 10 - (intOf i).toNat)
 case atStart => exact ⟨0, Zc _, rfl, by rw [qbP, ← HM.o]; exact JO _ _ _ _, by rw [← HN.o]; exact Jm _ _ _ _, Jb _ _ _ _, by show Below _ _ _; go_grown⟩
 case round =>
  obtain ⟨k, hk, rfl, H0, H1, H2, HBw⟩ := hrel
  by_cases hlt : k < 10
  ·
   have bk : (k : Int) < 10 := by omega
   have c0 := Qc H0.o k (by rw [qaj, HAl.o]; exact hlt)
   rw [qc1 _ _ _ _ (by rw [HAl.o]; exact hlt)] at c0
   have c1 := Qc H1.o k (by rw [HBl.o]; exact hlt)
   have f0 := frozen_of_row wr w.heap.size k _ _ H0.o
   obtain ⟨x, HX⟩ := zx (A.getD k 0)
   obtain ⟨y, HY⟩ := zx (B.getD k 0)
   rw [← HX.o] at c0
   rw [← HY.o] at c1
   have hx := HAb.o _ (jB (l := A) (i := k) (by rw [HAl.o]; exact hlt))
   have hy := HBb.o _ (jB (l := B) (i := k) (by rw [HBl.o]; exact hlt))
   rw [← HX.o] at hx
   rw [← HY.o] at hy
   obtain ⟨x0, x1⟩ := hx
   obtain ⟨y0, y1⟩ := hy
   have hw1 : IntKind.i64.wrap (x + y) = x + y := by rw [zq]; omega
   clear hz
   go_wp2_with fail
   go_region
   go_wp2_with fail
   refine ⟨⟨k + 1, by omega, by go_num, ?_, qaZ _ _ H1.o (by omega), qaZ _ _ H2.o (by omega), (HBw.o.setCell (by show _ ≤ _; exact zm _) _).drew⟩, by simp [intOf]; omega⟩
   show _ = _
   rw [← qbT _ _ _ _ (by rw [HAl.o]; exact hlt), List.map_set, ← HX.o, ← HY.o, show x + 1 * y = x + y by omega]
   exact Qg H0.o k _
  ·
   obtain rfl : k = 10 := by omega
   have bk : (10 : Int) ≤ ((10 : Nat) : Int) := by omega
   obtain ⟨S, HSe⟩ := zx (Qx 1 A B 10)
   rw [← HSe.o] at H0 HS HSl HSb
   have HSz := qa (ki HSl.o)
   clear hz hlt hk
   go_wp2_with (first | (refine zL 95 (.tmp 2) w.heap.size (S.map iv).toArray H0.o q7 HSz.o ?_))
   refine (qaV S HSl.o HSb.o _).mono ?_
   rintro e W1 ⟨rfl, hB1⟩
   have hlt1 := qh H2.o
   have H2b : Hid (qi W1 (w.heap.size + 2) zF 95) := qs H2.o hB1 hlt1
   have HB2 : Hid (zB w W1) := HBw.o.trans (hB1.mono (by omega))
   rw [HS.o]
   obtain ⟨R, HR⟩ := zx (((fd (aP a b)).map iv).toArray)
   rw [← HR.o]
   have HRz : Hid ((Tryz.prog.info? 95).map (·.size) = some R.size) := by show _ = _; rw [HR.o]; exact ki (Qo _)
   have HRo : Hid (zF.size = R.size) := by show _ = _; rw [HR.o]; exact qeD (Qo _)
   have HRa : Hid (R.all (·.oneCell') = true) := by rw [HR.o]; exact qdA _
   clear hB1 hlt1 H0 H1 H2 HSz
   go_wp2_with (first | (refine qB 95 (.tmp 4) (.tmp 20) (w.heap.size + 2) R H2b.o HRz.o HRo.o HRa.o ?_))
   refine zh (v := .agg R) (results_cell_row Tryz.results109 _ _ (w.heap.size + 2) 95 R (0, 0) _ (by rfl) (zd _ _ _ _ _ _ H2b.o) q7 rfl HRz.o) rfl ⟨by rw [HR.o], ze HB2.o (by omega) _⟩
end
section
theorem qs2 (a b : Nat) (ha : a < P) (hb : b < P) (w : World) :
  zC 64 #[fF a, fF b] w (fF (sP a b)) := by
 have hz := qhp
 obtain ⟨M, HM⟩ := zx (((fd a).map iv).toArray)
 obtain ⟨N, HN⟩ := zx (((fd b).map iv).toArray)
 obtain ⟨A, HA⟩ := zx (fd a)
 obtain ⟨B, HB⟩ := zx (fd b)
 have HAl : Hid (A.length = 10) := by rw [HA.o]; exact Qo a
 have HBl : Hid (B.length = 10) := by rw [HB.o]; exact Qo b
 have HAb : Hid (∀ x ∈ A, 0 ≤ x ∧ x < 67108864) := by rw [HA.o]; exact yZ a
 have HBb : Hid (∀ x ∈ B, 0 ≤ x ∧ x < 67108864) := by rw [HB.o]; exact yZ b
 have HS : Hid (JK (Qx (-1) A B 10) = sP a b) := by
  refine qqO a b hb _ ?_
  have e := qe4 67108864 (-1) A B (by rw [HAl.o, HBl.o])
  rw [HAl.o] at e
  rw [e, HA.o, HB.o, kW a ha, kW b hb]; omega
 have HSl : Hid ((Qx (-1) A B 10).length = 10) := by show _ = _; rw [qaj]; exact HAl.o
 have HSb : Hid (∀ x ∈ Qx (-1) A B 10, -2305843009213693952 ≤ x ∧ x ≤ 2305843009213693952) :=
  qcB (-1) A B 10 (by rw [HAl.o, HBl.o]) 67108864 67108864 _ (by rw [HA.o]; exact qmP a) (by rw [HB.o]; exact qpe b _ (by decide)) (by decide) (by decide)
 show Calls _ _ #[.agg ((fd a).map iv).toArray, .agg ((fd b).map iv).toArray] w _
 rw [← HM.o, ← HN.o]
 rw [← HA.o] at HM
 rw [← HB.o] at HN
 clear ha hb
 go_enter Tryz.func64, Tryz.ntmps64
 go_wp2_with fail
 go_loopw [5] (fun i wr => ∃ (k : Nat), k ≤ 10 ∧ i = .int .i64 k ∧ Hid (qi wr w.heap.size (((Qx (-1) A B k).map iv).toArray) 95) ∧ Hid (qi wr (w.heap.size + 1) ((B.map iv).toArray) 95) ∧ Hid (qi wr (w.heap.size + 2) zF 95) ∧ Hid (zB w wr)) (fun i _ => 10 - (intOf i).toNat)
 case atStart => exact ⟨0, Zc _, rfl, by rw [qbP, ← HM.o]; exact JO _ _ _ _, by rw [← HN.o]; exact Jm _ _ _ _, Jb _ _ _ _, by show Below _ _ _; go_grown⟩
 case round =>
  obtain ⟨k, hk, rfl, H0, H1, H2, HBw⟩ := hrel
  by_cases hlt : k < 10
  ·
   have bk : (k : Int) < 10 := by omega
   have c0 := Qc H0.o k (by rw [qaj, HAl.o]; exact hlt)
   rw [qc1 _ _ _ _ (by rw [HAl.o]; exact hlt)] at c0
   have c1 := Qc H1.o k (by rw [HBl.o]; exact hlt)
   have f0 := frozen_of_row wr w.heap.size k _ _ H0.o
   obtain ⟨x, HX⟩ := zx (A.getD k 0)
   obtain ⟨y, HY⟩ := zx (B.getD k 0)
   rw [← HX.o] at c0
   rw [← HY.o] at c1
   have hx := HAb.o _ (jB (l := A) (i := k) (by rw [HAl.o]; exact hlt))
   have hy := HBb.o _ (jB (l := B) (i := k) (by rw [HBl.o]; exact hlt))
   rw [← HX.o] at hx
   rw [← HY.o] at hy
   obtain ⟨x0, x1⟩ := hx
   obtain ⟨y0, y1⟩ := hy
   have hw1 : IntKind.i64.wrap (x - y) = x - y := by rw [zq]; omega
   clear hz
   go_wp2_with fail
   go_region
   go_wp2_with fail
   refine ⟨⟨k + 1, by omega, by go_num, ?_, qaZ _ _ H1.o (by omega), qaZ _ _ H2.o (by omega), (HBw.o.setCell (by show _ ≤ _; exact zm _) _).drew⟩, by simp [intOf]; omega⟩
   show _ = _
   rw [← qbT _ _ _ _ (by rw [HAl.o]; exact hlt), List.map_set, ← HX.o, ← HY.o, show x + (-1) * y = x - y by omega]
   exact Qg H0.o k _
  ·
   obtain rfl : k = 10 := by omega
   have bk : (10 : Int) ≤ ((10 : Nat) : Int) := by omega
   obtain ⟨S, HSe⟩ := zx (Qx (-1) A B 10)
   rw [← HSe.o] at H0 HS HSl HSb
   have HSz := qa (ki HSl.o)
   clear hz hlt hk
   go_wp2_with (first | (refine zL 95 (.tmp 2) w.heap.size (S.map iv).toArray H0.o q7 HSz.o ?_))
   refine (qaV S HSl.o HSb.o _).mono ?_
   rintro e W1 ⟨rfl, hB1⟩
   have hlt1 := qh H2.o
   have H2b : Hid (qi W1 (w.heap.size + 2) zF 95) := qs H2.o hB1 hlt1
   have HB2 : Hid (zB w W1) := HBw.o.trans (hB1.mono (by omega))
   rw [HS.o]
   obtain ⟨R, HR⟩ := zx (((fd (sP a b)).map iv).toArray)
   rw [← HR.o]
   have HRz : Hid ((Tryz.prog.info? 95).map (·.size) = some R.size) := by show _ = _; rw [HR.o]; exact ki (Qo _)
   have HRo : Hid (zF.size = R.size) := by show _ = _; rw [HR.o]; exact qeD (Qo _)
   have HRa : Hid (R.all (·.oneCell') = true) := by rw [HR.o]; exact qdA _
   clear hB1 hlt1 H0 H1 H2 HSz
   go_wp2_with (first | (refine qB 95 (.tmp 4) (.tmp 20) (w.heap.size + 2) R H2b.o HRz.o HRo.o HRa.o ?_))
   refine zh (v := .agg R) (results_cell_row Tryz.results64 _ _ (w.heap.size + 2) 95 R (0, 0) _ (by rfl) (zd _ _ _ _ _ _ H2b.o) q7 rfl HRz.o) rfl ⟨by rw [HR.o], ze HB2.o (by omega) _⟩
end
open Go.RowKit
theorem qrt (w : World) (A B C D E : Obj) : (((((w.alloc A).alloc B).alloc C).alloc D).alloc E).heap[w.heap.size]? = some A := by
 rw [zb _ _ (by simp <;> omega), zb _ _ (by simp <;> omega)]; exact JO _ _ _ _
theorem qqq (w : World) (A B C D E : Obj) : (((((w.alloc A).alloc B).alloc C).alloc D).alloc E).heap[w.heap.size + 1]? = some B := by
 rw [zb _ _ (by simp <;> omega), zb _ _ (by simp <;> omega)]; exact Jm _ _ _ _
theorem qpO (w : World) (A B C D E : Obj) : (((((w.alloc A).alloc B).alloc C).alloc D).alloc E).heap[w.heap.size + 2]? = some C := by
 rw [zb _ _ (by simp <;> omega), zb _ _ (by simp)]; exact Jb _ _ _ _
theorem qpU (w : World) (A B C D E : Obj) : (((((w.alloc A).alloc B).alloc C).alloc D).alloc E).heap[w.heap.size + 3]? = some D := by
 have := Zd ((((w.alloc A).alloc B).alloc C)) D E
 rw [zb _ _ (by simp)]
 have e := za (((w.alloc A).alloc B).alloc C) D
 simpa using e
theorem qrz (w : World) (A B C D E : Obj) : (((((w.alloc A).alloc B).alloc C).alloc D).alloc E).heap[w.heap.size + 4]? = some E := by
 have e := za ((((w.alloc A).alloc B).alloc C).alloc D) E
 simpa using e
structure MW (w wr : World) (A B low high : List Int) : Prop where
 r0 : wr.heap[w.heap.size]? = some (.cells (A.map iv).toArray 95)
 r1 : wr.heap[w.heap.size + 1]? = some (.cells (B.map iv).toArray 95)
 r2 : wr.heap[w.heap.size + 2]? = some (.cells zF 95)
 r3 : wr.heap[w.heap.size + 3]? = some (.cells (low.map iv).toArray 95)
 r4 : wr.heap[w.heap.size + 4]? = some (.cells (high.map iv).toArray 95)
 be : zB w wr
theorem MW.low {w wr : World} {A B low high : List Int} (h : MW w wr A B low high) (i : Nat) (v : Int) : MW w (wr.setCell ⟨w.heap.size + 3, i, none⟩ (iv v)) A B (low.set i v) high :=
 ⟨QR _ _ h.r0 (by omega), QR _ _ h.r1 (by omega), QR _ _ h.r2 (by omega), by rw [List.map_set]; exact Qg h.r3 i _, QR _ _ h.r4 (by omega), h.be.setCell (by show _ ≤ _; simp) _⟩
theorem MW.high {w wr : World} {A B low high : List Int} (h : MW w wr A B low high) (i : Nat) (v : Int) : MW w (wr.setCell ⟨w.heap.size + 4, i, none⟩ (iv v)) A B low (high.set i v) :=
 ⟨QR _ _ h.r0 (by omega), QR _ _ h.r1 (by omega), QR _ _ h.r2 (by omega), QR _ _ h.r3 (by omega), by rw [List.map_set]; exact Qg h.r4 i _, h.be.setCell (by show _ ≤ _; simp) _⟩
theorem MW.drew {w wr : World} {A B low high : List Int} (h : MW w wr A B low high) : MW w wr.drew A B low high := ⟨h.r0, h.r1, h.r2, h.r3, h.r4, h.be.drew⟩
theorem MI.bnd {a b low high : List Int} {i k : Nat} (h : MI a b low high i k) (hi : 10 * i + k ≤ 100) : (∀ x ∈ low, -450359962737049600 ≤ x ∧ x ≤ 450359962737049600) ∧ (∀ x ∈ high, -450359962737049600 ≤ x ∧ x ≤ 450359962737049600) := by
 constructor
 · intro x hx; have := h.bl x hx; omega
 · intro x hx; have := h.bh x hx; omega
section
attribute [local go_sem] qsy
theorem qsS (a b : Nat) (ha : a < P) (hb : b < P) (w : World) :
  zC 63 #[fF a, fF b] w (fF (mP a b)) := by
 have hz := qhp
 obtain ⟨M, HM⟩ := zx (((fd a).map iv).toArray)
 obtain ⟨N, HN⟩ := zx (((fd b).map iv).toArray)
 obtain ⟨A, HA⟩ := zx (fd a)
 obtain ⟨B, HB⟩ := zx (fd b)
 have HAl : Hid (A.length = 10) := by rw [HA.o]; exact Qo a
 have HBl : Hid (B.length = 10) := by rw [HB.o]; exact Qo b
 have HAb : Hid (∀ x ∈ A, 0 ≤ x ∧ x < 67108864) := by rw [HA.o]; exact yZ a
 have HBb : Hid (∀ x ∈ B, 0 ≤ x ∧ x < 67108864) := by rw [HB.o]; exact yZ b
 have HAv : Hid (vB 67108864 A = a) := by rw [HA.o]; exact kW a ha
 have HBv : Hid (vB 67108864 B = b) := by rw [HB.o]; exact kW b hb
 show Calls _ _ #[.agg ((fd a).map iv).toArray, .agg ((fd b).map iv).toArray] w _
 rw [← HM.o, ← HN.o]
 rw [← HA.o] at HM
 rw [← HB.o] at HN
 clear ha hb HA HB
 go_enter Tryz.func63, Tryz.ntmps63
 go_wp2_with fail
 go_loopw [7] (fun iV wr => ∃ (i : Nat) (low high : List Int), i ≤ 10 ∧ iV = .int .i64 i ∧ Hid (MI A B low high i 0) ∧ Hid (MW w wr A B low high)) (fun i _ => 10 - (intOf i).toNat)
 case atStart =>
  refine ⟨0, List.replicate 10 0, List.replicate 10 0, Zc _, rfl, MI.start A B, ⟨?_, ?_, qpO _ _ _ _ _ _, qpU _ _ _ _ _ _, qrz _ _ _ _ _ _, by go_grown⟩⟩
  · rw [← HM.o]; exact qrt _ _ _ _ _ _
  · rw [← HN.o]; exact qqq _ _ _ _ _ _
 case round =>
  obtain ⟨i, low, high, hi, rfl, HI, HW⟩ := hrel
  clear hz
  by_cases hlt : i < 10
  ·
   have bi : (i : Int) < 10 := by omega
   have ca := Qc HW.o.r0 i (by rw [HAl.o]; exact hlt)
   obtain ⟨x, HX⟩ := zx (A.getD i 0)
   rw [← HX.o] at ca
   have hx := HAb.o _ (jB (l := A) (i := i) (by rw [HAl.o]; exact hlt))
   rw [← HX.o] at hx
   obtain ⟨x0, x1⟩ := hx
   go_wp2_with fail
   clear ca
   go_loopw [9] (fun kV wr => ∃ (k : Nat) (low high : List Int), i + k ≤ 10 ∧ kV = .int .i64 k ∧ Hid (MI A B low high i k) ∧ Hid (MW w wr A B low high)) (fun k _ => 10 - (intOf k).toNat)
   case atStart => exact ⟨0, low, high, by omega, rfl, HI, HW⟩
   case round =>
    clear HI HW low high
    obtain ⟨k, low, high, hk, rfl, HI, HW⟩ := hrel
    have hs1 : IntKind.i64.wrap (10 - (i : Int)) = 10 - (i : Int) := by rw [zq]; omega
    by_cases hk10 : i + k < 10
    ·
     have bk : (k : Int) < 10 - (i : Int) := by omega
     have es : IntKind.i64.wrap ((i : Int) + (k : Int)) = ((i + k : Nat) : Int) := by rw [zq]; omega
     have bs : ((i + k : Nat) : Int) < 10 := by omega
     have bk2 : (k : Int) < 10 := by omega
     have cl := Qc HW.o.r3 (i + k) (by rw [HI.o.ll]; exact hk10)
     have cb := Qc HW.o.r1 k (by rw [HBl.o]; omega)
     have f3 := frozen_of_row wr (w.heap.size + 3) (i + k) _ _ HW.o.r3
     obtain ⟨y, HY⟩ := zx (B.getD k 0)
     obtain ⟨u, HU⟩ := zx (low.getD (i + k) 0)
     rw [← HY.o] at cb
     rw [← HU.o] at cl
     have hy := HBb.o _ (jB (l := B) (i := k) (by rw [HBl.o]; omega))
     rw [← HY.o] at hy
     obtain ⟨p0, p1⟩ := qeP ⟨x0, x1⟩ hy
     have hu := HI.o.bl _ (jB (l := low) (i := i + k) (by rw [HI.o.ll]; exact hk10))
     rw [← HU.o] at hu
     have hw1 : IntKind.i64.wrap (x * y) = x * y := by rw [zq]; omega
     have hw2 : IntKind.i64.wrap (u + x * y) = u + x * y := by rw [zq]; omega
     have HN1 : Hid (MI A B (low.set (i + k) (u + x * y)) high i (k + 1)) := by
      rw [HU.o, HX.o, HY.o]; exact HI.o.low HBl.o HAb.o HBb.o (by rw [HAl.o]; exact hlt) (by omega) hk10
     have HN2 := qa (HW.o.low (i + k) (u + x * y)).drew
     clear hy hu p0 p1
     go_wp2_with fail
     go_region
     go_wp2_with fail
     exact ⟨⟨k + 1, _, _, by omega, by go_num, HN1, HN2⟩, by simp [intOf]; omega⟩
    ·
     have hk' : i + k = 10 := by omega
     have bk : 10 - (i : Int) ≤ (k : Int) := by omega
     go_wp2_with fail
     go_loopw [10] (fun kV wr => ∃ (k : Nat) (low high : List Int), 10 ≤ i + k ∧ k ≤ 10 ∧ kV = .int .i64 k ∧ Hid (MI A B low high i k) ∧ Hid (MW w wr A B low high)) (fun k _ => 10 - (intOf k).toNat)
     case atStart => exact ⟨k, low, high, by omega, by omega, by show _ = _; congr 1; omega, HI, HW⟩
     case round =>
      clear HI HW low high bk hk10 hk' hs1
      obtain ⟨n, low, high, hik, hn, rfl, HI, HW⟩ := hrel
      by_cases hn10 : n < 10
      ·
       have bk : (n : Int) < 10 := by omega
       have es : IntKind.i64.wrap ((i : Int) + (n : Int)) = (i : Int) + (n : Int) := by rw [zq]; omega
       have es2 : IntKind.i64.wrap ((i : Int) + (n : Int) - 10) = ((i + n - 10 : Nat) : Int) := by rw [zq]; omega
       have bs : ((i + n - 10 : Nat) : Int) < 10 := by omega
       have cl := Qc HW.o.r4 (i + n - 10) (by rw [HI.o.hl]; omega)
       have cb := Qc HW.o.r1 n (by rw [HBl.o]; omega)
       have f3 := frozen_of_row wr (w.heap.size + 4) (i + n - 10) _ _ HW.o.r4
       obtain ⟨y, HY⟩ := zx (B.getD n 0)
       obtain ⟨u, HU⟩ := zx (high.getD (i + n - 10) 0)
       rw [← HY.o] at cb
       rw [← HU.o] at cl
       have hy := HBb.o _ (jB (l := B) (i := n) (by rw [HBl.o]; omega))
       rw [← HY.o] at hy
       obtain ⟨p0, p1⟩ := qeP ⟨x0, x1⟩ hy
       have hu := HI.o.bh _ (jB (l := high) (i := i + n - 10) (by rw [HI.o.hl]; omega))
       rw [← HU.o] at hu
       have hw1 : IntKind.i64.wrap (x * y) = x * y := by rw [zq]; omega
       have hw2 : IntKind.i64.wrap (u + x * y) = u + x * y := by rw [zq]; omega
       obtain ⟨j, hj⟩ := zy (i + n - 10)
       have HN1 : Hid (MI A B low (high.set j (u + x * y)) i (n + 1)) := by
        rw [hj, HU.o, HX.o, HY.o]; exact HI.o.high HBl.o HAb.o HBb.o (by rw [HAl.o]; exact hlt) HAl.o hn10 hik
       have HN2 := qa (HW.o.high j (u + x * y)).drew
       rw [← hj] at es2 bs cl f3
       clear hy hu p0 p1 hj
       go_wp2_with fail
       go_region
       go_wp2_with fail
       exact ⟨⟨n + 1, _, _, by omega, by omega, by go_num, HN1, HN2⟩, by simp [intOf]; omega⟩
      ·
       obtain rfl : n = 10 := by omega
       have bk : (10 : Int) ≤ ((10 : Nat) : Int) := by omega
       go_wp2_with fail
       exact ⟨⟨i + 1, low, high, by omega, by go_num, HI.o.next HBl.o (by rw [HAl.o]; exact hlt), HW⟩, by simp [intOf]; omega⟩
  ·
   obtain rfl : i = 10 := by omega
   have bi : (10 : Int) ≤ ((10 : Nat) : Int) := by omega
   have HV : Hid (vB 67108864 low + 67108864 ^ 10 * vB 67108864 high = (a : Int) * b) := by
    show _ = _
    have e := HI.o.val
    rw [zP (show A.length ≤ 10 by rw [HAl.o]; exact zm _), HAv.o, HBv.o] at e
    rw [e]
    simp [vB]
   have HLl := qa HI.o.ll
   have HHl := qa HI.o.hl
   obtain ⟨hbl, hbh⟩ := HI.o.bnd (by omega)
   have HLb := qa hbl
   have HHb := qa hbh
   clear hbl hbh hlt hi HI HAb HBb HAv HBv
   go_wp2_with fail
   go_loopw [11, 12] (fun cV iV wr => ∃ (j : Nat) (z : Int), j ≤ 10 ∧ iV = .int .i64 j ∧ cV = .int .i64 z ∧ Hid (z = jT 67108864 high j) ∧ Hid (MW w wr A B low (jQ 67108864 high j))) (fun _ i _ => 10 - (intOf i).toNat)
   case atStart => exact ⟨0, 0, Zc _, rfl, rfl, rfl, by rw [qbW]; exact HW⟩
   case round =>
    clear HW
    obtain ⟨j, z, hj, rfl, rfl, HZ, HW⟩ := hrel
    by_cases hj10 : j < 10
    ·
     have bj : (j : Int) < 10 := by omega
     have hz1 := qas 67108864 (by decide) high 450359962737049600 HHb.o (by decide) j (by rw [HHl.o]; omega)
     rw [← HZ.o] at hz1
     obtain ⟨z0, z1⟩ := hz1
     have c0 := Qc HW.o.r4 j (by rw [Ya, HHl.o]; omega)
     rw [qbu _ _ _ (by rw [HHl.o]; omega)] at c0
     have f0 := frozen_of_row wr (w.heap.size + 4) j _ _ HW.o.r4
     obtain ⟨x, HX⟩ := zx (high.getD j 0)
     rw [← HX.o] at c0
     have hx := HHb.o _ (jB (l := high) (i := j) (by rw [HHl.o]; omega))
     rw [← HX.o] at hx
     obtain ⟨x0, x1⟩ := hx
     have hw1 : IntKind.i64.wrap (x + z) = x + z := by rw [zq]; omega
     have HN2 := qa (HW.o.high j ((x + z) % 67108864))
     go_wp2_with fail
     refine ⟨⟨j + 1, (x + z) / 67108864, by omega, by go_num, rfl, ?_, ?_⟩, by simp [intOf]; omega⟩
     · show _ = _; simp only [jT]; rw [← HX.o, ← HZ.o]
     ·
      rw [← qce _ _ _ (by rw [HHl.o]; omega), ← HX.o, ← HZ.o]
      exact HN2
    ·
     obtain rfl : j = 10 := by omega
     have bj : (10 : Int) ≤ ((10 : Nat) : Int) := by omega
     have HZb : Hid (-13421772800 ≤ z ∧ z ≤ 13421772800) := by
      have h9 := qas 67108864 (by decide) high 450359962737049600 HHb.o (by decide) 9 (by rw [HHl.o]; omega)
      have hx := HHb.o _ (jB (l := high) (i := 9) (by rw [HHl.o]; omega))
      have e : z = (high.getD 9 0 + jT 67108864 high 9) / 67108864 := HZ.o
      show -13421772800 ≤ z ∧ z ≤ 13421772800
      omega
     obtain ⟨H, HH⟩ := zx (jQ 67108864 high 10)
     rw [← HH.o] at HW
     have HHv : Hid (vB 67108864 H = vB 67108864 high - 67108864 ^ 10 * z) := by
      have e := qhW 67108864 high 10 (by rw [HHl.o]; exact zm _)
      rw [← HH.o, ← HZ.o] at e
      show _ = _
      omega
     have HHl2 : Hid (H.length = 10) := by show _ = _; rw [HH.o, Ya]; exact HHl.o
     have HHb2 : Hid (∀ x ∈ H, 0 ≤ x ∧ x < 67108864) := by
      rw [HH.o]
      have e := qh8 67108864 (by decide) high
      rw [HHl.o] at e
      rw [e]
      exact yX _ (by decide) _ _
     clear HZ HH hj10 hj HHb
     go_wp2_with fail
     go_loopw [14] (fun iV wr => ∃ (j : Nat), j ≤ 10 ∧ iV = .int .i64 j ∧ Hid (MW w wr A B (Qx 608 low H j) H)) (fun i _ => 10 - (intOf i).toNat)
     case atStart => exact ⟨0, Zc _, rfl, by rw [qbP]; exact HW⟩
     case round =>
      clear HW
      obtain ⟨j, hj, rfl, HW⟩ := hrel
      by_cases hj10 : j < 10
      ·
       have bj : (j : Int) < 10 := by omega
       have c0 := Qc HW.o.r3 j (by rw [qaj, HLl.o]; exact hj10)
       rw [qc1 _ _ _ _ (by rw [HLl.o]; exact hj10)] at c0
       have c1 := Qc HW.o.r4 j (by rw [HHl2.o]; exact hj10)
       have f0 := frozen_of_row wr (w.heap.size + 3) j _ _ HW.o.r3
       obtain ⟨x, HX⟩ := zx (low.getD j 0)
       obtain ⟨y, HY⟩ := zx (H.getD j 0)
       rw [← HX.o] at c0
       rw [← HY.o] at c1
       have hx := HLb.o _ (jB (l := low) (i := j) (by rw [HLl.o]; exact hj10))
       have hy := HHb2.o _ (jB (l := H) (i := j) (by rw [HHl2.o]; exact hj10))
       rw [← HX.o] at hx
       rw [← HY.o] at hy
       obtain ⟨x0, x1⟩ := hx
       obtain ⟨y0, y1⟩ := hy
       have hw1 : IntKind.i64.wrap (608 * y) = 608 * y := by rw [zq]; omega
       have hw2 : IntKind.i64.wrap (x + 608 * y) = x + 608 * y := by rw [zq]; omega
       have HN2 := qa (HW.o.low j (x + 608 * y)).drew
       go_wp2_with fail
       go_region
       go_wp2_with fail
       refine ⟨⟨j + 1, by omega, by go_num, ?_⟩, by simp [intOf]; omega⟩
       rw [← qbT _ _ _ _ (by rw [HLl.o]; exact hj10), ← HX.o, ← HY.o]
       exact HN2
      ·
       obtain rfl : j = 10 := by omega
       have bj : (10 : Int) ≤ ((10 : Nat) : Int) := by omega
       obtain ⟨L, HLe⟩ := zx (Qx 608 low H 10)
       rw [← HLe.o] at HW
       have HLv : Hid (vB 67108864 L = vB 67108864 low + 608 * vB 67108864 H) := by
        have e := qe4 67108864 608 low H (by rw [HLl.o, HHl2.o])
        rw [HLl.o, ← HLe.o] at e
        exact e
       have HL2 : Hid (L.length = 10) := by show _ = _; rw [HLe.o, qaj]; exact HLl.o
       have HL3 : Hid (∀ x ∈ L, -450360003539238912 ≤ x ∧ x ≤ 450360003539238912) := by
        rw [HLe.o]
        refine qcB 608 low H 10 (by rw [HLl.o, HHl2.o]) 450359962737049600 40802189312 _ HLb.o ?_ (by decide) (by decide)
        intro x hx
        have := HHb2.o x hx
        omega
       have c0 := Qc HW.o.r3 0 (by rw [HL2.o]; decide)
       have f0 := frozen_of_row wr (w.heap.size + 3) 0 _ _ HW.o.r3
       obtain ⟨y, HY⟩ := zx (L.getD 0 0)
       rw [← HY.o] at c0
       have hy := HL3.o _ (jB (l := L) (i := 0) (by rw [HL2.o]; decide))
       rw [← HY.o] at hy
       obtain ⟨y0, y1⟩ := hy
       obtain ⟨z0, z1⟩ := HZb.o
       have hw1 : IntKind.i64.wrap (369664 * z) = 369664 * z := by rw [zq]; omega
       have hw2 : IntKind.i64.wrap (y + 369664 * z) = y + 369664 * z := by rw [zq]; omega
       obtain ⟨S, HSe⟩ := zx (L.set 0 (y + 369664 * z))
       have HS : Hid (JK S = mP a b) := by
        refine qrb a b low high HV.o z S ?_
        rw [HSe.o, YI _ _ _ _ (by rw [HL2.o]; decide), ← HY.o, HLv.o, HHv.o]
        rw [kZ, Int.pow_zero, Int.mul_one]
       have HSl : Hid (S.length = 10) := by show _ = _; rw [HSe.o, List.length_set]; exact HL2.o
       have HSb : Hid (∀ x ∈ S, -2305843009213693952 ≤ x ∧ x ≤ 2305843009213693952) := by
        intro x hx
        rw [HSe.o] at hx
        rcases List.mem_or_eq_of_mem_set hx with h | h
        · have := HL3.o x h; omega
        · omega
       have HN2 := qa (HW.o.low 0 (y + 369664 * z))
       rw [← HSe.o] at HN2
       have HSz := qa (ki HSl.o)
       clear hj10 hj
       go_upto_region 27 with fail
       obtain ⟨W2, hW2⟩ := zy (wr.setCell ⟨w.heap.size + 3, 0, none⟩ (iv (y + 369664 * z)))
       rw [← hW2] at HN2 ⊢
       have J2 := qa HN2.o.r2
       have J3 := qa HN2.o.r3
       have J4 := qa HN2.o.be
       clear hW2 c0 f0 HW HN2 hw1 hw2 y0 y1 z0 z1
       go_wp2_with (first | (refine zL 95 (.tmp 5) (w.heap.size + 3) (S.map iv).toArray J3.o q7 HSz.o ?_))
       refine (qaV S HSl.o HSb.o _).mono ?_
       rintro e W1 ⟨rfl, hB1⟩
       have hlt1 := qh J2.o
       have H2b : Hid (qi W1 (w.heap.size + 2) zF 95) := qs J2.o hB1 hlt1
       have HB2 : Hid (zB w W1) := J4.o.trans (hB1.mono (by omega))
       rw [HS.o]
       obtain ⟨R, HR⟩ := zx (((fd (mP a b)).map iv).toArray)
       rw [← HR.o]
       have HRz : Hid ((Tryz.prog.info? 95).map (·.size) = some R.size) := by show _ = _; rw [HR.o]; exact ki (Qo _)
       have HRo : Hid (zF.size = R.size) := by show _ = _; rw [HR.o]; exact qeD (Qo _)
       have HRa : Hid (R.all (·.oneCell') = true) := by rw [HR.o]; exact qdA _
       clear hB1 hlt1 J2 J3 J4 HSz
       go_wp2_with (first | (refine qB 95 (.tmp 4) (.tmp 102) (w.heap.size + 2) R H2b.o HRz.o HRo.o HRa.o ?_))
       refine zh (v := .agg R) (results_cell_row Tryz.results63 _ _ (w.heap.size + 2) 95 R (0, 0) _ (by rfl) (zd _ _ _ _ _ _ H2b.o) q7 rfl HRz.o) rfl ⟨by rw [HR.o], ze HB2.o (by omega) _⟩
end
end Go.Proofs.YtccgfabojbjmjaaGreatDoor
