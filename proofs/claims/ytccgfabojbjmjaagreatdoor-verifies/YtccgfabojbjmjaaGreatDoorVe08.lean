import Derived.Test.YtccgfabojbjmjaaGreatDoorCards
import Derived.Test.YtccgfabojbjmjaaGreatDoorTie
import Derived.ProofKit
import Derived.OpenShut
import Derived.ShutString
import Derived.ChangeOld
import Derived.Deep.DeepHandedRow
import Derived.Lib.LaidTab
import Derived.SizedLaws
import Derived.Test.YtccgfabojbjmjaaGreatDoorVe07
import Derived.Deep.CutRange
namespace Go.Proofs.YtccgfabojbjmjaaGreatDoor
open Go.ChangeShapes Go.WideShapes Go.ChangeAt Go.RowKit
theorem own : ownKnob Tryz.prog.godebug = none := by kernel_rfl
theorem gOrd : Tryz.prog.globalNamed "latch/scalar.order" = some 6 := by kernel_rfl
theorem gOrdType : (Tryz.prog.globals[6]?).map (·.type) = some 60 := by kernel_rfl
theorem cells4 : Tryz.prog.cellsOf 60 = 4 := by kernel_rfl
theorem cells64 : Tryz.prog.cellsOf 59 = 1 := by kernel_rfl
theorem underU64 : Tryz.prog.underlying 59 = some (.int .u64) := by kernel_rfl
def ordints : List Int := [6346243789798364141, 1503914060200516822, 0, 1152921504606846976]
theorem laid_ord : (Rows.laid_latch_scalar_order : DataW Unit) = Lib.tabData .u64 ordints := by kernel_rfl
theorem ord_of_tab {W : World} (t : Lib.TabIs Tryz.prog W "latch/scalar.order" .u64 ordints) : OrdAt W := by
 unfold Lib.TabIs World.var? at t
 rw [gOrd] at t
 simp only [Option.bind_some] at t
 split at t
 ·
  rename_i cs ty fr h
  refine ⟨ty, fr, h.trans ?_⟩
  rw [Option.some.inj t]
  rfl
 · cases t
theorem order_met {W : World} (h : laidMetH Tryz.prog [("latch/scalar.order", Rows.laid_latch_scalar_order)] W) : OrdAt W := by
 refine ord_of_tab (Lib.tabIs_of_head (rest := []) gOrd gOrdType under4 underU64 cells64 cells4 ?_)
 rw [← laid_ord]; exact h
theorem vB_set (B : Int) (l : List Int) (k : Nat) (x : Int) (h : k < l.length) : vB B (l.set k x) = vB B l + (x - l.getD k 0) * B ^ k := by
 induction l generalizing k with
 | nil => simp at h
 | cons a l ih =>
  cases k with
  | zero => simp [vB]; omega
  | succ k =>
   simp only [List.set_cons_succ, vB]
   rw [ih k (by simpa using h), List.getD_cons_succ, Int.pow_succ, Int.mul_add]
   rw [show B * ((x - l.getD k 0) * B ^ k) = (x - l.getD k 0) * (B ^ k * B) by rw [Int.mul_comm B, Int.mul_assoc]]
   omega
theorem rowC_val (B : Int) (l : List Int) (k : Nat) (h : k ≤ l.length) : vB B (rowC B l k) + B ^ k * carry B l k = vB B l := by
 induction k with
 | zero => rw [rowC_zero]; simp [carry]
 | succ k ih =>
  have e := ih (by omega)
  rw [← rowC_step B l k (by omega), vB_set B _ k _ (by rw [rowC_length]; omega), rowC_get B l k (by omega)]
  simp only [carry]
  generalize l.getD k 0 = t at *
  generalize carry B l k = c at *
  have e2 := Int.emod_add_mul_ediv (t + c) B
  generalize (t + c) % B = u at *
  generalize (t + c) / B = q at *
  have e3 : (u - t) * B ^ k + B ^ k * B * q = B ^ k * c := by
   have : B ^ k * c = B ^ k * (u + B * q - t) := by rw [e2]; congr 1; omega
   rw [this, Int.mul_sub, Int.mul_add, Int.sub_mul, Int.mul_comm u, Int.mul_comm t, ← Int.mul_assoc]; omega
  rw [Int.pow_succ]
  omega
theorem dB_vB (B : Int) (hB : 0 < B) (l : List Int) (h : ∀ x ∈ l, 0 ≤ x ∧ x < B) : dB B l.length (vB B l) = l := by
 induction l with
 | nil => rfl
 | cons a l ih =>
  obtain ⟨a0, a1⟩ := h a List.mem_cons_self
  simp only [List.length_cons, dB, vB]
  rw [Int.add_mul_emod_self_left, Int.emod_eq_of_lt a0 a1, Int.add_mul_ediv_left _ _ (by omega), Int.ediv_eq_zero_of_lt a0 a1, Int.zero_add, ih (fun x hx => h x (List.mem_cons_of_mem _ hx))]
def up0 (l : List Int) (x : Int) : List Int := l.set 0 (l.getD 0 0 + x)
def rF (d : List Int) : List Int := up0 (dB 67108864 10 (vB 67108864 d % 57896044618658097711785492504343953926634992332820282019728792003956564819968)) (19 * (vB 67108864 d / 57896044618658097711785492504343953926634992332820282019728792003956564819968))
theorem rF_length (d : List Int) : (rF d).length = 10 := by simp [rF, up0, dB_length]
theorem round_row (d : List Int) (hl : d.length = 10) :
  (rowC 67108864 d 9).set 9 ((d.getD 9 0 + carry 67108864 d 9) % 2097152) = dB 67108864 10 (vB 67108864 d % 57896044618658097711785492504343953926634992332820282019728792003956564819968) ∧ (d.getD 9 0 + carry 67108864 d 9) / 2097152 = vB 67108864 d / 57896044618658097711785492504343953926634992332820282019728792003956564819968 := by
 have hv := rowC_val 67108864 d 9 (by omega)
 have hs := vB_set 67108864 (rowC 67108864 d 9) 9 ((d.getD 9 0 + carry 67108864 d 9) % 2097152) (by rw [rowC_length]; omega)
 rw [rowC_get _ _ _ (by omega)] at hs
 have hset : (rowC 67108864 d 9).set 9 ((d.getD 9 0 + carry 67108864 d 9) % 2097152) = (rowC 67108864 d 9).take 9 ++ [(d.getD 9 0 + carry 67108864 d 9) % 2097152] := by
  rw [List.set_eq_take_append_cons_drop, if_pos (by rw [rowC_length]; omega), List.drop_eq_nil_of_le (by rw [rowC_length]; omega)]
 have hlow : ∀ x ∈ (rowC 67108864 d 9).take 9, 0 ≤ x ∧ x < 67108864 := by
  intro x hx
  obtain ⟨i, hi, e⟩ := List.mem_iff_getElem.1 hx
  have hi' : i < 9 := by rw [List.length_take] at hi; omega
  rw [List.getElem_take] at e
  simp only [rowC, List.getElem_map, List.getElem_range, if_pos hi'] at e
  rw [← e]; omega
 have hb := vB_bound 67108864 (by decide) _ hlow
 have hlen : ((rowC 67108864 d 9).take 9).length = 9 := by rw [List.length_take, rowC_length, hl]; rfl
 rw [hlen] at hb
 have hv2 : vB 67108864 ((rowC 67108864 d 9).set 9 ((d.getD 9 0 + carry 67108864 d 9) % 2097152)) = vB 67108864 ((rowC 67108864 d 9).take 9) + 67108864 ^ 9 * ((d.getD 9 0 + carry 67108864 d 9) % 2097152) := by
  rw [hset, vB_append, hlen]; simp [vB]
 have hall : ∀ x ∈ (rowC 67108864 d 9).set 9 ((d.getD 9 0 + carry 67108864 d 9) % 2097152), 0 ≤ x ∧ x < 67108864 := by
  rw [hset]
  intro x hx
  rcases List.mem_append.1 hx with h | h
  · exact hlow x h
  · rw [List.mem_singleton] at h; omega
 have hrow := dB_vB 67108864 (by decide) _ hall
 rw [List.length_set, rowC_length, hl] at hrow
 rw [show (67108864 : Int) ^ 9 = 27606985387162255149739023449108101809804435888681546220650096895197184 from by decide] at hv hs hv2 hb
 have key : vB 67108864 ((rowC 67108864 d 9).set 9 ((d.getD 9 0 + carry 67108864 d 9) % 2097152)) = vB 67108864 d % 57896044618658097711785492504343953926634992332820282019728792003956564819968 ∧ (d.getD 9 0 + carry 67108864 d 9) / 2097152 = vB 67108864 d / 57896044618658097711785492504343953926634992332820282019728792003956564819968 := by
  clear hrow hall hset hlow hlen
  generalize vB 67108864 ((rowC 67108864 d 9).set 9 ((d.getD 9 0 + carry 67108864 d 9) % 2097152)) = vR at *
  generalize vB 67108864 (List.take 9 (rowC 67108864 d 9)) = vT at *
  generalize vB 67108864 (rowC 67108864 d 9) = vr at *
  generalize vB 67108864 d = vd at *
  generalize d.getD 9 0 = t at *
  generalize carry 67108864 d 9 = c at *
  constructor <;> omega
 rw [key.1] at hrow
 exact ⟨hrow.symm, key.2⟩
theorem rF_bound (d : List Int) (hl : d.length = 10) (h : ∀ x ∈ d, -2305843009213693952 ≤ x ∧ x ≤ 2305843009213693952) : ∀ x ∈ rF d, -2305843009213693952 ≤ x ∧ x ≤ 2305843009213693952 := by
 have hq := (round_row d hl).2
 have hc := carry_bound 67108864 (by decide) d 2305843009213693952 h (by decide) 9 (by omega)
 have ht := h _ (getD_mem (l := d) (i := 9) (by omega))
 have hd := dB_lt 67108864 (by decide) 10 (vB 67108864 d % 57896044618658097711785492504343953926634992332820282019728792003956564819968)
 intro x hx
 unfold rF up0 at hx
 rcases List.mem_or_eq_of_mem_set hx with hx | hx
 · have := hd x hx; omega
 ·
  have h0 := hd _ (getD_mem (l := dB 67108864 10 (vB 67108864 d % 57896044618658097711785492504343953926634992332820282019728792003956564819968)) (i := 0) (by rw [dB_length]; decide))
  rw [hx, ← hq]
  generalize carry 67108864 d 9 = c at *
  generalize d.getD 9 0 = t at *
  generalize (dB 67108864 10 (vB 67108864 d % 57896044618658097711785492504343953926634992332820282019728792003956564819968)).getD 0 0 = z at *
  omega
theorem rF_val (d : List Int) : vB 67108864 (rF d) = vB 67108864 d % 57896044618658097711785492504343953926634992332820282019728792003956564819968 + 19 * (vB 67108864 d / 57896044618658097711785492504343953926634992332820282019728792003956564819968) := by
 unfold rF up0
 rw [vB_set _ _ _ _ (by rw [dB_length]; decide), vB_dB _ (by decide)]
 rw [show (67108864 : Int) ^ 10 = 1852673427797059126777135760139006525652319754650249024631321344126610074238976 from by decide, Int.pow_zero, Int.mul_one]
 generalize vB 67108864 d = v
 generalize (dB 67108864 10 (v % 57896044618658097711785492504343953926634992332820282019728792003956564819968)).getD 0 0 = z
 omega
def V2 (d : List Int) : Int := vB 67108864 (rF (rF d))
theorem V2_spec (d : List Int) (hl : d.length = 10) (h : ∀ x ∈ d, -2305843009213693952 ≤ x ∧ x ≤ 2305843009213693952) : 0 ≤ V2 d ∧ V2 d < 57896044618658097711785492504343953926634992332820282019728792003956564819968 ∧ V2 d % 57896044618658097711785492504343953926634992332820282019728792003956564819949 = vB 67108864 d % 57896044618658097711785492504343953926634992332820282019728792003956564819949 := by
 have hq := (round_row d hl).2
 have hc := carry_bound 67108864 (by decide) d 2305843009213693952 h (by decide) 9 (by omega)
 have ht := h _ (getD_mem (l := d) (i := 9) (by omega))
 have e1 := rF_val d
 have e2 := rF_val (rF d)
 unfold V2
 generalize carry 67108864 d 9 = c at *
 generalize d.getD 9 0 = t at *
 generalize vB 67108864 (rF (rF d)) = w at *
 generalize vB 67108864 (rF d) = u at *
 generalize vB 67108864 d = v at *
 have hq2 : -4398046511104 ≤ v / 57896044618658097711785492504343953926634992332820282019728792003956564819968 ∧ v / 57896044618658097711785492504343953926634992332820282019728792003956564819968 ≤ 4398046511104 := by omega
 clear hq hc ht
 refine ⟨by omega, by omega, ?_⟩
 have e3 : w = v - 57896044618658097711785492504343953926634992332820282019728792003956564819949 * (v / 57896044618658097711785492504343953926634992332820282019728792003956564819968 + u / 57896044618658097711785492504343953926634992332820282019728792003956564819968) := by
  have := Int.emod_add_mul_ediv v 57896044618658097711785492504343953926634992332820282019728792003956564819968
  have := Int.emod_add_mul_ediv u 57896044618658097711785492504343953926634992332820282019728792003956564819968
  omega
 rw [e3, Int.sub_mul_emod_self_left]
theorem third (d : List Int) (hl : d.length = 10) (h : ∀ x ∈ d, -2305843009213693952 ≤ x ∧ x ≤ 2305843009213693952) : rF (rF (rF d)) = dB 67108864 10 (V2 d) := by
 obtain ⟨a, b, _⟩ := V2_spec d hl h
 have e : rF (rF (rF d)) = up0 (dB 67108864 10 (V2 d % 57896044618658097711785492504343953926634992332820282019728792003956564819968)) (19 * (V2 d / 57896044618658097711785492504343953926634992332820282019728792003956564819968)) := rfl
 rw [e, Int.emod_eq_of_lt a b, Int.ediv_eq_zero_of_lt a b]
 unfold up0
 simp [dB]
def fd (n : Nat) : List Int := dB 67108864 10 n
theorem fd_length (n : Nat) : (fd n).length = 10 := dB_length _ _ _
theorem fd_lt (n : Nat) : ∀ x ∈ fd n, 0 ≤ x ∧ x < 67108864 := dB_lt _ (by decide) _ _
theorem fd_val (n : Nat) (h : n < P) : vB 67108864 (fd n) = n := by
 unfold fd
 rw [vB_dB _ (by decide), show (67108864 : Int) ^ 10 = 1852673427797059126777135760139006525652319754650249024631321344126610074238976 from by decide]
 rw [P_val] at h
 omega
def stl (d : List Int) : Nat := (vB 67108864 d % 57896044618658097711785492504343953926634992332820282019728792003956564819949).toNat
def isW (l : List Int) : Nat → Bool
 | 0 => decide (l.getD 9 0 = 2097151) && decide (67108845 ≤ l.getD 0 0)
 | k + 1 => isW l k && decide (l.getD (k + 1) 0 = 67108863)
theorem isW_iff (v : Int) (h0 : 0 ≤ v) (h1 : v < 57896044618658097711785492504343953926634992332820282019728792003956564819968) : isW (dB 67108864 10 v) 8 = decide (57896044618658097711785492504343953926634992332820282019728792003956564819949 ≤ v) := by
 have hd := dB_lt 67108864 (by decide) 10 v
 have hv := vB_dB 67108864 (by decide) 10 v
 rw [show (67108864 : Int) ^ 10 = 1852673427797059126777135760139006525652319754650249024631321344126610074238976 from by decide, Int.emod_eq_of_lt h0 (by omega)] at hv
 have hl := dB_length 67108864 10 v
 generalize dB 67108864 10 v = l at *
 match l, hl with
 | [a0, a1, a2, a3, a4, a5, a6, a7, a8, a9], _ =>
  simp only [vB] at hv
  simp only [List.mem_cons, List.not_mem_nil, or_false, forall_eq_or_imp, forall_eq] at hd
  obtain ⟨b0, b1, b2, b3, b4, b5, b6, b7, b8, b9⟩ := hd
  rw [Bool.eq_iff_iff]
  simp only [isW, Bool.and_eq_true, decide_eq_true_eq, List.getD_cons_succ, List.getD_cons_zero]
  constructor
  ·
   rintro ⟨⟨⟨⟨⟨⟨⟨⟨⟨c9, c0⟩, c1⟩, c2⟩, c3⟩, c4⟩, c5⟩, c6⟩, c7⟩, c8⟩
   omega
  ·
   intro h
   have c9 : a9 = 2097151 := by omega
   have c8 : a8 = 67108863 := by omega
   have c7 : a7 = 67108863 := by omega
   have c6 : a6 = 67108863 := by omega
   have c5 : a5 = 67108863 := by omega
   have c4 : a4 = 67108863 := by omega
   have c3 : a3 = 67108863 := by omega
   have c2 : a2 = 67108863 := by omega
   have c1 : a1 = 67108863 := by omega
   exact ⟨⟨⟨⟨⟨⟨⟨⟨⟨c9, by omega⟩, c1⟩, c2⟩, c3⟩, c4⟩, c5⟩, c6⟩, c7⟩, c8⟩
theorem settled_end (d : List Int) (hl : d.length = 10) (h : ∀ x ∈ d, -2305843009213693952 ≤ x ∧ x ≤ 2305843009213693952) :
  (isW (dB 67108864 10 (V2 d)) 8 = true → ((dB 67108864 10 (V2 d)).getD 0 0 - 67108845) :: List.replicate 9 0 = fd (stl d)) ∧ (isW (dB 67108864 10 (V2 d)) 8 = false → dB 67108864 10 (V2 d) = fd (stl d)) := by
 obtain ⟨h0, h1, h2⟩ := V2_spec d hl h
 rw [isW_iff _ h0 h1]
 unfold fd stl
 rw [← h2]
 generalize V2 d = v at *
 constructor
 ·
  intro hw
  have hP : 57896044618658097711785492504343953926634992332820282019728792003956564819949 ≤ v := of_decide_eq_true hw
  have e : v % 57896044618658097711785492504343953926634992332820282019728792003956564819949 = v - 57896044618658097711785492504343953926634992332820282019728792003956564819949 := by omega
  rw [e]
  have : (dB 67108864 10 v).getD 0 0 = v % 67108864 := by simp [dB]
  rw [this]
  have e2 : ((v - 57896044618658097711785492504343953926634992332820282019728792003956564819949).toNat : Int) = v % 67108864 - 67108845 := by omega
  rw [e2]
  have hall : ∀ x ∈ (v % 67108864 - 67108845) :: List.replicate 9 (0 : Int), 0 ≤ x ∧ x < 67108864 := by
   intro x hx
   simp only [List.mem_cons, List.mem_replicate] at hx
   omega
  have := dB_vB 67108864 (by decide) _ hall
  rw [← this]
  congr 1
  simp [vB]
 ·
  intro hw
  have hP : ¬ 57896044618658097711785492504343953926634992332820282019728792003956564819949 ≤ v := of_decide_eq_false hw
  congr 1
  omega
theorem stl_add (a b : Nat) (d : List Int) (hv : vB 67108864 d = a + b) : stl d = aP a b := by
 unfold stl aP
 rw [hv]
 rw [P_val] at *
 omega
theorem stl_sub (a b : Nat) (hb : b < P) (d : List Int) (hv : vB 67108864 d = (a : Int) - b) : stl d = sP a b := by
 unfold stl sP
 rw [hv]
 rw [P_val] at *
 omega
theorem int_cancel (a b : Int) : a + b - a = b := by omega
theorem vB_take (B : Int) (l : List Int) (k : Nat) (h : k < l.length) : vB B (l.take (k + 1)) = vB B (l.take k) + l.getD k 0 * B ^ k := by
 rw [List.take_succ_eq_append_getElem h, vB_append, List.length_take, Nat.min_eq_left (by omega)]
 simp [vB, List.getD, List.getElem?_eq_getElem h]
 rw [Int.mul_comm]
structure MI (a b low high : List Int) (i k : Nat) : Prop where
 ll : low.length = 10
 hl : high.length = 10
 val : vB 67108864 low + 67108864 ^ 10 * vB 67108864 high = vB 67108864 (a.take i) * vB 67108864 b + a.getD i 0 * (67108864 ^ i * vB 67108864 (b.take k))
 bl : ∀ x ∈ low, 0 ≤ x ∧ x ≤ (10 * i + k : Nat) * 4503599627370496
 bh : ∀ x ∈ high, 0 ≤ x ∧ x ≤ (10 * i + k : Nat) * 4503599627370496
theorem prod_le {x y : Int} (hx : 0 ≤ x ∧ x < 67108864) (hy : 0 ≤ y ∧ y < 67108864) : 0 ≤ x * y ∧ x * y ≤ 4503599627370496 := by
 refine ⟨Int.mul_nonneg hx.1 hy.1, ?_⟩
 have h1 := Int.mul_le_mul_of_nonneg_left (show y ≤ 67108864 by omega) hx.1
 omega
theorem MI.start (a b : List Int) : MI a b (List.replicate 10 0) (List.replicate 10 0) 0 0 := by
 refine ⟨rfl, rfl, ?_, ?_, ?_⟩
 ·
  rw [List.take_zero, List.take_zero]
  have : vB 67108864 (List.replicate 10 0) = 0 := by decide
  rw [this]; simp [vB]
 · intro x hx; rw [List.mem_replicate] at hx; omega
 · intro x hx; rw [List.mem_replicate] at hx; omega
theorem set_bound {l : List Int} {i : Nat} {y z : Int} (hi : i < l.length) (n : Nat) (h : ∀ x ∈ l, 0 ≤ x ∧ x ≤ (n : Int) * 4503599627370496) (hy : 0 ≤ y ∧ y ≤ 4503599627370496) (hz : z = l.getD i 0 + y) :
  ∀ x ∈ l.set i z, 0 ≤ x ∧ x ≤ ((n + 1 : Nat) : Int) * 4503599627370496 := by
 intro x hx
 rcases List.mem_or_eq_of_mem_set hx with hx | hx
 · have := h x hx; omega
 · have := h _ (getD_mem hi); omega
theorem more_bound {l : List Int} (n : Nat) (h : ∀ x ∈ l, 0 ≤ x ∧ x ≤ (n : Int) * 4503599627370496) : ∀ x ∈ l, 0 ≤ x ∧ x ≤ ((n + 1 : Nat) : Int) * 4503599627370496 := by
 intro x hx
 have := h x hx; omega
theorem MI.low {a b low high : List Int} {i k : Nat} (h : MI a b low high i k) (hb : b.length = 10) (ra : ∀ x ∈ a, 0 ≤ x ∧ x < 67108864) (rb : ∀ x ∈ b, 0 ≤ x ∧ x < 67108864) (ha : i < a.length) (hk : k < 10) (hs : i + k < 10) :
  MI a b (low.set (i + k) (low.getD (i + k) 0 + a.getD i 0 * b.getD k 0)) high i (k + 1) := by
 have hp := prod_le (ra _ (getD_mem ha)) (rb _ (getD_mem (l := b) (i := k) (by omega)))
 refine ⟨by rw [List.length_set]; exact h.ll, h.hl, ?_, set_bound (by rw [h.ll]; exact hs) _ h.bl hp rfl, more_bound _ h.bh⟩
 rw [vB_set _ _ _ _ (by rw [h.ll]; exact hs), vB_take _ _ _ (by omega)]
 have e := h.val
 have e2 : (low.getD (i + k) 0 + a.getD i 0 * b.getD k 0 - low.getD (i + k) 0) * 67108864 ^ (i + k) = a.getD i 0 * (67108864 ^ i * (b.getD k 0 * 67108864 ^ k)) := by
  rw [int_cancel, Int.pow_add]
  ac_rfl
 rw [e2, Int.mul_add, Int.mul_add]
 omega
theorem MI.high {a b low high : List Int} {i k : Nat} (h : MI a b low high i k) (hb : b.length = 10) (ra : ∀ x ∈ a, 0 ≤ x ∧ x < 67108864) (rb : ∀ x ∈ b, 0 ≤ x ∧ x < 67108864) (ha : i < a.length) (hl : a.length = 10) (hk : k < 10) (hs : 10 ≤ i + k) :
  MI a b low (high.set (i + k - 10) (high.getD (i + k - 10) 0 + a.getD i 0 * b.getD k 0)) i (k + 1) := by
 have hp := prod_le (ra _ (getD_mem ha)) (rb _ (getD_mem (l := b) (i := k) (by omega)))
 have hlt : i + k - 10 < high.length := by rw [h.hl]; omega
 refine ⟨h.ll, by rw [List.length_set]; exact h.hl, ?_, more_bound _ h.bl, set_bound hlt _ h.bh hp rfl⟩
 rw [vB_set _ _ _ _ hlt, vB_take _ _ _ (by omega)]
 have e := h.val
 have e2 : 67108864 ^ 10 * ((high.getD (i + k - 10) 0 + a.getD i 0 * b.getD k 0 - high.getD (i + k - 10) 0) * 67108864 ^ (i + k - 10)) = a.getD i 0 * (67108864 ^ i * (b.getD k 0 * 67108864 ^ k)) := by
  rw [int_cancel]
  have : (67108864 : Int) ^ 10 * 67108864 ^ (i + k - 10) = 67108864 ^ i * 67108864 ^ k := by
   rw [← Int.pow_add, ← Int.pow_add]; congr 1; omega
  calc (67108864 : Int) ^ 10 * (a.getD i 0 * b.getD k 0 * 67108864 ^ (i + k - 10)) = a.getD i 0 * b.getD k 0 * (67108864 ^ 10 * 67108864 ^ (i + k - 10)) := by ac_rfl
   _ = a.getD i 0 * b.getD k 0 * (67108864 ^ i * 67108864 ^ k) := by rw [this]
   _ = _ := by ac_rfl
 rw [Int.mul_add (67108864 ^ 10), e2, Int.mul_add, Int.mul_add]
 omega
theorem MI.next {a b low high : List Int} {i : Nat} (h : MI a b low high i 10) (hb : b.length = 10) (ha : i < a.length) : MI a b low high (i + 1) 0 := by
 refine ⟨h.ll, h.hl, ?_, fun x hx => by have := h.bl x hx; omega, fun x hx => by have := h.bh x hx; omega⟩
 have e := h.val
 rw [List.take_of_length_le (show b.length ≤ 10 by omega)] at e
 rw [e, vB_take _ _ _ ha, Int.add_mul, List.take_zero]
 simp only [vB, Int.mul_zero, Int.add_zero]
 congr 1
 ac_rfl
theorem stl_mul (a b : Nat) (low high : List Int) (hv : vB 67108864 low + 67108864 ^ 10 * vB 67108864 high = (a : Int) * b) (c : Int) (d : List Int) (hc : vB 67108864 d = vB 67108864 low + 608 * (vB 67108864 high - 67108864 ^ 10 * c) + 369664 * c) : stl d = mP a b := by
 unfold stl mP
 rw [show (67108864 : Int) ^ 10 = 1852673427797059126777135760139006525652319754650249024631321344126610074238976 from by decide] at hv hc
 have e : vB 67108864 d = (a : Int) * b - 57896044618658097711785492504343953926634992332820282019728792003956564819949 * (32 * (vB 67108864 high + 608 * c)) := by omega
 rw [e, Int.sub_mul_emod_self_left, P_val, ← Int.natCast_mul]
 exact congrArg Int.toNat (Int.natCast_emod (a * b) 57896044618658097711785492504343953926634992332820282019728792003956564819949).symm
def addM (m : Int) (l h : List Int) (k : Nat) : List Int := (List.range l.length).map fun i => if i < k then l.getD i 0 + m * h.getD i 0 else l.getD i 0
theorem addM_length (m : Int) (l h : List Int) (k : Nat) : (addM m l h k).length = l.length := by simp [addM]
theorem addM_zero (m : Int) (l h : List Int) : addM m l h 0 = l := by
 apply List.ext_getElem?
 intro i
 by_cases hi : i < l.length
 · simp [addM, hi, List.getD]
 · simp [addM, hi]
theorem addM_get (m : Int) (l h : List Int) (k : Nat) (hk : k < l.length) : (addM m l h k).getD k 0 = l.getD k 0 := by
 simp [addM, List.getD, hk]
theorem addM_step (m : Int) (l h : List Int) (k : Nat) (hk : k < l.length) : (addM m l h k).set k (l.getD k 0 + m * h.getD k 0) = addM m l h (k + 1) := by
 apply List.ext_getElem?
 intro i
 rw [List.getElem?_set]
 by_cases hki : k = i
 · subst hki; simp [addM, hk]
 ·
  rw [if_neg hki]
  by_cases hi : i < l.length
  ·
   have e1 : (i < k + 1) = (i < k) := by apply propext; omega
   simp [addM, hi, e1]
  · simp [addM, hi]
theorem addM_val (B m : Int) (l h : List Int) (hl : l.length = h.length) (k : Nat) (hk : k ≤ l.length) : vB B (addM m l h k) = vB B l + m * vB B (h.take k) := by
 induction k with
 | zero => rw [addM_zero]; simp [vB]
 | succ k ih =>
  rw [← addM_step m l h k (by omega), vB_set _ _ _ _ (by rw [addM_length]; omega), addM_get _ _ _ _ (by omega), ih (by omega), vB_take _ _ _ (by omega), Int.mul_add, int_cancel]
  rw [Int.mul_assoc]; omega
theorem addM_all (B m : Int) (l h : List Int) (hl : l.length = h.length) : vB B (addM m l h l.length) = vB B l + m * vB B h := by
 rw [addM_val B m l h hl _ (Nat.le_refl _), hl, List.take_length]
theorem addM_bound (m : Int) (l h : List Int) (k : Nat) (hl : l.length = h.length) (p q r : Int) (h1 : ∀ x ∈ l, -p ≤ x ∧ x ≤ p) (h2 : ∀ x ∈ h, -q ≤ m * x ∧ m * x ≤ q) (hr : p + q ≤ r) (hq : 0 ≤ q) : ∀ x ∈ addM m l h k, -r ≤ x ∧ x ≤ r := by
 intro x hx
 obtain ⟨i, hi, rfl⟩ := List.mem_map.1 hx
 rw [List.mem_range] at hi
 have a1 := h1 _ (getD_mem hi)
 have a2 := h2 _ (getD_mem (l := h) (i := i) (by omega))
 split <;> omega
theorem and26 (n : Int) : bits .and .i64 n 67108863 = n % 67108864 := by
 have h : (BitVec.ofInt 64 67108863).toNat = 2 ^ 26 - 1 := by decide
 have key : (BitVec.ofInt 64 n &&& BitVec.ofInt 64 67108863).toNat = (n % ((2 ^ 64 : Nat) : Int)).toNat % 2 ^ 26 := by
  rw [BitVec.toNat_and, BitVec.toNat_ofInt, h, Nat.and_two_pow_sub_one_eq_mod]
 show IntKind.i64.wrap ((BitVec.ofInt 64 n &&& BitVec.ofInt 64 67108863).toNat : Nat) = n % 67108864
 rw [key, IntKind.wrap_i64]
 omega
theorem and21 (n : Int) : bits .and .i64 n 2097151 = n % 2097152 := by
 have h : (BitVec.ofInt 64 2097151).toNat = 2 ^ 21 - 1 := by decide
 have key : (BitVec.ofInt 64 n &&& BitVec.ofInt 64 2097151).toNat = (n % ((2 ^ 64 : Nat) : Int)).toNat % 2 ^ 21 := by
  rw [BitVec.toNat_and, BitVec.toNat_ofInt, h, Nat.and_two_pow_sub_one_eq_mod]
 show IntKind.i64.wrap ((BitVec.ofInt 64 n &&& BitVec.ofInt 64 2097151).toNat : Nat) = n % 2097152
 rw [key, IntKind.wrap_i64]
 omega
theorem underF : Tryz.prog.underlying 95 = some (.array 10 3) := by kernel_rfl
theorem sizeF : (Tryz.prog.info? 95).map (·.size) = some 10 := by kernel_rfl
def zF : Array Value := ((List.replicate 10 (0 : Int)).map iv).toArray
theorem zeroF (w : World) : (zeroValue 95).run Tryz.prog w = .ok (.agg zF) w := by kernel_rfl
theorem ivF_size {d : List Int} (h : d.length = 10) : (Tryz.prog.info? 95).map (·.size) = some (d.map iv).toArray.size := by rw [sizeF]; simp [h]
theorem ivF_old {d : List Int} (h : d.length = 10) : zF.size = (d.map iv).toArray.size := by simp [h]; rfl
theorem ivF_all (d : List Int) : (d.map iv).toArray.all (·.oneCell') = true := all_oneCell_toArray (ivs_cell _)
def itF (d : List Int) : Nat → List Int
 | 0 => d
 | k + 1 => rF (itF d k)
theorem itF_length {d : List Int} (h : d.length = 10) (k : Nat) : (itF d k).length = 10 := by
 cases k with
 | zero => exact h
 | succ k => exact rF_length _
theorem itF_bound {d : List Int} (hl : d.length = 10) (h : ∀ x ∈ d, -2305843009213693952 ≤ x ∧ x ≤ 2305843009213693952) (k : Nat) : ∀ x ∈ itF d k, -2305843009213693952 ≤ x ∧ x ≤ 2305843009213693952 := by
 induction k with
 | zero => exact h
 | succ k ih => exact rF_bound _ (itF_length hl k) ih
theorem round_set (D : List Int) (hl : D.length = 10) : ((rowC 67108864 D 9).set 9 ((D.getD 9 0 + carry 67108864 D 9) % 2097152)).set 0 (((rowC 67108864 D 9).set 9 ((D.getD 9 0 + carry 67108864 D 9) % 2097152)).getD 0 0 + 19 * ((D.getD 9 0 + carry 67108864 D 9) / 2097152)) = rF D := by
 obtain ⟨h1, h2⟩ := round_row D hl
 rw [h1, h2]; rfl
section
attribute [local go_sem] and26 and21
set_option maxRecDepth 100000 in
set_option maxHeartbeats 400000 in
theorem settled_any (d : List Int) (hl : d.length = 10) (hb : ∀ x ∈ d, -2305843009213693952 ≤ x ∧ x ≤ 2305843009213693952) (w : World) :
  Calls Tryz.prog 106 #[.agg (d.map iv).toArray] w fun e w' => e = .returned (.agg ((fd (stl d)).map iv).toArray) ∧ Below w.heap.size w w' := by
 have hz := zeroF
 have HL := hide hl
 have HB := hide hb
 clear hl hb
 obtain ⟨M, HM⟩ : ∃ M, Hid (M = (d.map iv).toArray) := ⟨_, rfl⟩
 rw [← HM.out]
 go_enter Tryz.func106, Tryz.ntmps106
 go_wp2_with fail
 go_loopw [3] (fun i wr => ∃ (k : Nat), k ≤ 3 ∧ i = .int .i64 k ∧ Hid (wr.heap[w.heap.size]? = some (.cells ((itF d k).map iv).toArray 95 (0, 0))) ∧ Hid (wr.heap[w.heap.size + 1]? = some (.cells zF 95 (0, 0))) ∧ Hid (Below w.heap.size w wr)) (fun i _ => 3 - (intOf i).toNat)
 case atStart =>
  refine ⟨0, Nat.zero_le _, rfl, ?_, heap_alloc2_new _ _ _, by show Below _ _ _; go_grown⟩
  show _ = some (Obj.cells (d.map iv).toArray _ _)
  rw [← HM.out]; exact (heap_alloc_old _ _ (by simp)).trans (heap_alloc_new _ _)
 case round =>
  obtain ⟨k, hk, rfl, H0, H1, HBl⟩ := hrel
  by_cases hlt : k < 3
  ·
   have bk : (k : Int) < 3 := by omega
   obtain ⟨D, HD⟩ : ∃ D, Hid (D = itF d k) := ⟨_, rfl⟩
   have HDl : Hid (D.length = 10) := by rw [HD.out]; exact itF_length HL.out k
   have HDb : Hid (∀ x ∈ D, -2305843009213693952 ≤ x ∧ x ≤ 2305843009213693952) := by rw [HD.out]; exact itF_bound HL.out HB.out k
   rw [← HD.out] at H0
   clear hz
   go_wp2_with fail
   go_loopw [4, 5] (fun c i wr => ∃ (j : Nat) (z : Int), j ≤ 9 ∧ i = .int .i64 j ∧ c = .int .i64 z ∧ Hid (z = carry 67108864 D j) ∧ Hid (wr.heap[w.heap.size]? = some (.cells ((rowC 67108864 D j).map iv).toArray 95 (0, 0))) ∧ Hid (wr.heap[w.heap.size + 1]? = some (.cells zF 95 (0, 0))) ∧ Hid (Below w.heap.size w wr)) (fun _ i _ => 9 - (intOf i).toNat)
   case atStart => exact ⟨0, 0, Nat.zero_le _, rfl, rfl, rfl, by rw [rowC_zero]; exact H0, H1, HBl⟩
   case round =>
    clear H0 H1 HBl
    obtain ⟨j, z, hj, rfl, rfl, HZ, H0, H1, HBl⟩ := hrel
    have hz1 := carry_bound 67108864 (by decide) D 2305843009213693952 HDb.out (by decide) j (by rw [HDl.out]; omega)
    rw [← HZ.out] at hz1
    obtain ⟨z0, z1⟩ := hz1
    by_cases hj9 : j < 9
    ·
     have bj : (j : Int) < 9 := by omega
     have c0 := ivs_get H0.out j (by rw [rowC_length, HDl.out]; omega)
     rw [rowC_get _ _ _ (by rw [HDl.out]; omega)] at c0
     have f0 := frozen_of_row wr w.heap.size j _ _ H0.out
     obtain ⟨x, HX⟩ : ∃ x, Hid (x = D.getD j 0) := ⟨_, rfl⟩
     rw [← HX.out] at c0
     have hx := HDb.out _ (getD_mem (l := D) (i := j) (by rw [HDl.out]; omega))
     rw [← HX.out] at hx
     obtain ⟨x0, x1⟩ := hx
     have hw1 : IntKind.i64.wrap (x + z) = x + z := by rw [IntKind.wrap_i64]; omega
     go_wp2_with fail
     refine ⟨⟨j + 1, (x + z) / 67108864, by omega, by go_num, rfl, ?_, ?_, far_row _ _ H1.out (by omega), HBl.out.setCell (by show _ ≤ _; exact Nat.le_refl _) _⟩, by simp [intOf]; omega⟩
     · show _ = _; simp only [carry]; rw [← HX.out, ← HZ.out]
     ·
      show _ = _
      rw [← rowC_step _ _ _ (by rw [HDl.out]; omega), List.map_set, ← HX.out, ← HZ.out]
      exact row_store H0.out j _
    ·
     obtain rfl : j = 9 := by omega
     have bj : (9 : Int) ≤ ((9 : Nat) : Int) := by omega
     have c0 := ivs_get H0.out 9 (by rw [rowC_length, HDl.out]; decide)
     rw [rowC_get _ _ _ (by rw [HDl.out]; decide)] at c0
     have f0 := frozen_of_row wr w.heap.size 9 _ _ H0.out
     obtain ⟨x, HX⟩ : ∃ x, Hid (x = D.getD 9 0) := ⟨_, rfl⟩
     rw [← HX.out] at c0
     have hx := HDb.out _ (getD_mem (l := D) (i := 9) (by rw [HDl.out]; decide))
     rw [← HX.out] at hx
     obtain ⟨x0, x1⟩ := hx
     have hw1 : IntKind.i64.wrap (x + z) = x + z := by rw [IntKind.wrap_i64]; omega
     obtain ⟨R, HR⟩ : ∃ R, Hid (R = (rowC 67108864 D 9).set 9 ((x + z) % 2097152)) := ⟨_, rfl⟩
     have H2 : Hid ((wr.setCell ⟨w.heap.size, 9, none⟩ (iv ((x + z) % 2097152))).heap[w.heap.size]? = some (.cells (R.map iv).toArray 95 (0, 0))) := by
      rw [HR.out, List.map_set]; exact row_store H0.out 9 _
     have H3 : Hid ((wr.setCell ⟨w.heap.size, 9, none⟩ (iv ((x + z) % 2097152))).heap[w.heap.size + 1]? = some (.cells zF 95 (0, 0))) := far_row _ _ H1.out (by omega)
     have H4 : Hid (Below w.heap.size w (wr.setCell ⟨w.heap.size, 9, none⟩ (iv ((x + z) % 2097152)))) := HBl.out.setCell (by show _ ≤ _; exact Nat.le_refl _) _
     go_upto_region 13 with fail
     obtain ⟨W2, hW2⟩ : ∃ W2, W2 = wr.setCell ⟨w.heap.size, 9, none⟩ (iv ((x + z) % 2097152)) := ⟨_, rfl⟩
     rw [← hW2] at H2 H3 H4 ⊢
     clear hW2 c0 f0 H0 H1 HBl
     have HRF : Hid (R.set 0 (R.getD 0 0 + 19 * ((x + z) / 2097152)) = rF D) := by
      show _ = _
      rw [HR.out, HX.out, HZ.out]; exact round_set D HDl.out
     have HRl : Hid (R.length = 10) := by show _ = _; rw [HR.out, List.length_set, rowC_length]; exact HDl.out
     have HRb : Hid (0 ≤ R.getD 0 0 ∧ R.getD 0 0 < 67108864) := by
      have h1 := (round_row D HDl.out).1
      rw [← HX.out, ← HZ.out, ← HR.out] at h1
      rw [h1]
      exact dB_lt 67108864 (by decide) 10 _ _ (getD_mem (by rw [dB_length]; decide))
     have c0 := ivs_get H2.out 0 (by rw [HRl.out]; decide)
     have f0 := frozen_of_row W2 w.heap.size 0 _ _ H2.out
     obtain ⟨y, HY⟩ : ∃ y, Hid (y = R.getD 0 0) := ⟨_, rfl⟩
     rw [← HY.out] at c0 HRb HRF
     obtain ⟨y0, y1⟩ := HRb.out
     obtain ⟨q, HQ⟩ : ∃ q, Hid (q = (x + z) / 2097152) := ⟨_, rfl⟩
     have hq : -2199023255552 ≤ q ∧ q ≤ 2199023255552 := by rw [HQ.out]; omega
     obtain ⟨q0, q1⟩ := hq
     rw [← HQ.out] at HRF
     have hqe : (x + z) / 2097152 = q := HQ.out.symm
     have hw2 : IntKind.i64.wrap (19 * q) = 19 * q := by rw [IntKind.wrap_i64]; omega
     have hw3 : IntKind.i64.wrap (y + 19 * q) = y + 19 * q := by rw [IntKind.wrap_i64]; omega
     clear x0 x1 z0 z1 hw1 HRb
     go_wp2_with fail
     refine ⟨⟨k + 1, by omega, by go_num, ?_, far_row _ _ H3.out (by omega), H4.out.setCell (by show _ ≤ _; exact Nat.le_refl _) _⟩, by simp [intOf]; omega⟩
     show _ = some (Obj.cells ((rF (itF d k)).map iv).toArray _ _)
     rw [← HD.out, ← HRF.out, List.map_set]
     exact row_store H2.out 0 _
  ·
   obtain rfl : k = 3 := by omega
   have bk : (3 : Int) ≤ ((3 : Nat) : Int) := by omega
   obtain ⟨D, HD⟩ : ∃ D, Hid (D = dB 67108864 10 (V2 d)) := ⟨_, rfl⟩
   have HT := third d HL.out HB.out
   have H0' : Hid (wr.heap[w.heap.size]? = some (.cells (D.map iv).toArray 95 (0, 0))) := by
    have e := H0.out
    rw [show itF d 3 = dB 67108864 10 (V2 d) from HT, ← HD.out] at e
    exact e
   have HDl : Hid (D.length = 10) := by rw [HD.out]; exact dB_length _ _ _
   have HDb : Hid (∀ x ∈ D, 0 ≤ x ∧ x < 67108864) := by rw [HD.out]; exact dB_lt _ (by decide) _ _
   have HE := hide (settled_end d HL.out HB.out)
   rw [← HD.out] at HE
   have c9 := ivs_get H0'.out 9 (by rw [HDl.out]; decide)
   have c0 := ivs_get H0'.out 0 (by rw [HDl.out]; decide)
   obtain ⟨x9, HX9⟩ : ∃ x, Hid (x = D.getD 9 0) := ⟨_, rfl⟩
   obtain ⟨x0, HX0⟩ : ∃ x, Hid (x = D.getD 0 0) := ⟨_, rfl⟩
   rw [← HX9.out] at c9
   rw [← HX0.out] at c0
   have hcase : ((x9 == 2097151) = true ∧ decide (67108845 ≤ x0) = true ∧ isW D 0 = true) ∨ ((x9 == 2097151) = true ∧ decide (67108845 ≤ x0) = false ∧ isW D 0 = false) ∨ ((x9 == 2097151) = false ∧ x0 = x0 ∧ isW D 0 = false) := by
    simp only [isW, ← HX9.out, ← HX0.out]
    by_cases h9 : x9 = 2097151
    ·
     by_cases h0 : 67108845 ≤ x0
     · exact .inl ⟨by simp [h9], by simp [h0], by simp [h9, h0]⟩
     · exact .inr (.inl ⟨by simp [h9], by simp [h0], by simp [h9, h0]⟩)
    · exact .inr (.inr ⟨by simp [h9], by simp, by simp [h9]⟩)
   clear HT H0 hlt hk HL HB HD
   rcases hcase with ⟨hb9, hx0, hW⟩ | ⟨hb9, hx0, hW⟩ | ⟨hb9, hx0, hW⟩
   all_goals (
    have HW0 := hide hW
    clear hW
    go_wp2_with fail
    clear hb9 hx0 c9 c0
    go_loopw [8, 9] (fun b i wr => ∃ (j : Nat), j ≤ 8 ∧ i = .int .i64 ((j + 1 : Nat) : Int) ∧ b = .bool (isW D j) ∧ Hid (wr.heap[w.heap.size]? = some (.cells (D.map iv).toArray 95 (0, 0))) ∧ Hid (wr.heap[w.heap.size + 1]? = some (.cells zF 95 (0, 0))) ∧ Hid (Below w.heap.size w wr)) (fun _ i _ => 9 - (intOf i).toNat)
    case atStart => exact ⟨0, Nat.zero_le _, rfl, by rw [HW0.out], H0', H1, HBl⟩
    case round =>
     clear H0' H1 HBl
     obtain ⟨j, hj, rfl, rfl, H0, H1, HBl⟩ := hrel
     by_cases hj8 : j < 8
     ·
      have bj : ((j + 1 : Nat) : Int) < 9 := by omega
      have c0 := ivs_get H0.out (j + 1) (by rw [HDl.out]; omega)
      obtain ⟨x, HX⟩ : ∃ x, Hid (x = D.getD (j + 1) 0) := ⟨_, rfl⟩
      rw [← HX.out] at c0
      have hc : (isW D j = true ∧ (x == 67108863) = true ∧ isW D (j + 1) = true) ∨ (isW D j = true ∧ (x == 67108863) = false ∧ isW D (j + 1) = false) ∨ (isW D j = false ∧ x = x ∧ isW D (j + 1) = false) := by
       simp only [isW, ← HX.out]
       by_cases h1 : isW D j = true
       ·
        by_cases h2 : x = 67108863
        · exact .inl ⟨h1, by simp [h2], by simp [h1, h2]⟩
        · exact .inr (.inl ⟨h1, by simp [h2], by simp [h1, h2]⟩)
       · exact .inr (.inr ⟨by simpa using h1, by simp, by simp [h1]⟩)
      rcases hc with ⟨h1, h2, h3⟩ | ⟨h1, h2, h3⟩ | ⟨h1, h2, h3⟩
      all_goals (
       rw [h1]
       have H3 := hide h3
       clear h3 h1
       go_wp2_with fail
       exact ⟨⟨j + 1, by omega, by go_num, by rw [H3.out], H0, H1, HBl⟩, by simp [intOf]; omega⟩)
     ·
      obtain rfl : j = 8 := by omega
      have bj : (9 : Int) ≤ ((8 + 1 : Nat) : Int) := by omega
      obtain ⟨R, HR⟩ : ∃ R, Hid (R = ((fd (stl d)).map iv).toArray) := ⟨_, rfl⟩
      have HSz : Hid ((Tryz.prog.info? 95).map (·.size) = some R.size) := by show _ = _; rw [HR.out]; exact ivF_size (fd_length _)
      have HO : Hid (zF.size = R.size) := by show _ = _; rw [HR.out]; exact ivF_old (fd_length _)
      have HA : Hid (R.all (·.oneCell') = true) := by rw [HR.out]; exact ivF_all _
      cases hw8 : isW D 8
      ·
       have HRD : Hid (R = (D.map iv).toArray) := by show _ = _; rw [HR.out, ← HE.out.2 hw8]
       rw [← HRD.out] at H0
       clear hw8
       go_wp2_with (first | (refine wpList_load_row (by rfl) 95 (.tmp 1) (by rfl) w.heap.size (by rfl) 95 R (0, 0) _ H0.out underF rfl HSz.out ?_) | (refine wpList_store_row (by rfl) 95 (.tmp 2) (.tmp 67) (by rfl) (w.heap.size + 1) R (by rfl) (by rfl) 95 _ H1.out HSz.out HO.out HA.out ?_))
       refine bodyPost_ret (v := .agg R) (results_cell_row Tryz.results106 _ _ (w.heap.size + 1) 95 R (0, 0) _ (by rfl) (setRow_heap _ _ _ _ _ _ H1.out) underF rfl HSz.out) rfl ⟨by rw [HR.out], below_setRow HBl.out (by omega) _⟩
      ·
       have HRE := HE.out.1 hw8
       rw [← HX0.out] at HRE
       have HRD : Hid (#[iv (x0 - 67108845), iv 0, iv 0, iv 0, iv 0, iv 0, iv 0, iv 0, iv 0, iv 0] = R) := by show _ = _; rw [HR.out, ← HRE]; rfl
       clear HRE hw8
       have c0 := ivs_get H0.out 0 (by rw [HDl.out]; decide)
       have hx := HDb.out _ (getD_mem (l := D) (i := 0) (by rw [HDl.out]; decide))
       rw [← HX0.out] at c0 hx
       obtain ⟨xa, xb⟩ := hx
       have hw1 : IntKind.i64.wrap (x0 - 67108845) = x0 - 67108845 := by rw [IntKind.wrap_i64]; omega
       go_wp2_with (first | (refine wpList_store_row (by rfl) 95 (.tmp 2) (.tmp 66) (by rfl) (w.heap.size + 1) #[iv (x0 - 67108845), iv 0, iv 0, iv 0, iv 0, iv 0, iv 0, iv 0, iv 0, iv 0] (by rfl) (by rfl) 95 _ H1.out (by rw [HRD.out]; exact HSz.out) (by rw [HRD.out]; exact HO.out) (by rw [HRD.out]; exact HA.out) ?_))
       rw [HRD.out]
       refine bodyPost_ret (v := .agg R) (results_cell_row Tryz.results106 _ _ (w.heap.size + 1) 95 R (0, 0) _ (by rfl) (setRow_heap _ _ _ _ _ _ H1.out) underF rfl HSz.out) rfl ⟨by rw [HR.out], below_setRow HBl.out (by omega) _⟩)
end
abbrev fF (n : Nat) : Value := .agg ((fd n).map iv).toArray
theorem far_drew {w : World} {g g' : Nat} {o : Obj} (i : Nat) (v : Value) (h : w.heap[g]? = some o) (hne : g ≠ g') : (w.setCell ⟨g', i, none⟩ v).drew.heap[g]? = some o :=
 (Below.heap_setCell w _ v g hne).trans h
theorem fd_abs (n : Nat) (m : Int) (hm : m = 1 ∨ m = -1) : ∀ x ∈ fd n, -67108864 ≤ m * x ∧ m * x ≤ 67108864 := by
 intro x hx
 have := fd_lt n x hx
 rcases hm with rfl | rfl <;> omega
theorem fd_abs' (n : Nat) : ∀ x ∈ fd n, -67108864 ≤ x ∧ x ≤ 67108864 := by
 intro x hx
 have := fd_lt n x hx
 omega
section
set_option maxRecDepth 100000 in
set_option maxHeartbeats 400000 in
theorem refAdd (a b : Nat) (ha : a < P) (hb : b < P) (w : World) :
  Calls Tryz.prog 109 #[fF a, fF b] w fun e w' => e = .returned (fF (aP a b)) ∧ Below w.heap.size w w' := by
 have hz := zeroF
 obtain ⟨M, HM⟩ : ∃ M, Hid (M = ((fd a).map iv).toArray) := ⟨_, rfl⟩
 obtain ⟨N, HN⟩ : ∃ N, Hid (N = ((fd b).map iv).toArray) := ⟨_, rfl⟩
 obtain ⟨A, HA⟩ : ∃ A, Hid (A = fd a) := ⟨_, rfl⟩
 obtain ⟨B, HB⟩ : ∃ B, Hid (B = fd b) := ⟨_, rfl⟩
 have HAl : Hid (A.length = 10) := by rw [HA.out]; exact fd_length a
 have HBl : Hid (B.length = 10) := by rw [HB.out]; exact fd_length b
 have HAb : Hid (∀ x ∈ A, 0 ≤ x ∧ x < 67108864) := by rw [HA.out]; exact fd_lt a
 have HBb : Hid (∀ x ∈ B, 0 ≤ x ∧ x < 67108864) := by rw [HB.out]; exact fd_lt b
 have HS : Hid (stl (addM 1 A B 10) = aP a b) := by
  refine stl_add a b _ ?_
  have e := addM_all 67108864 1 A B (by rw [HAl.out, HBl.out])
  rw [HAl.out] at e
  rw [e, HA.out, HB.out, fd_val a ha, fd_val b hb]; omega
 have HSl : Hid ((addM 1 A B 10).length = 10) := by show _ = _; rw [addM_length]; exact HAl.out
 have HSb : Hid (∀ x ∈ addM 1 A B 10, -2305843009213693952 ≤ x ∧ x ≤ 2305843009213693952) :=
  addM_bound 1 A B 10 (by rw [HAl.out, HBl.out]) 67108864 67108864 _ (by rw [HA.out]; exact fd_abs' a) (by rw [HB.out]; exact fd_abs b _ (by decide)) (by decide) (by decide)
 show Calls _ _ #[.agg ((fd a).map iv).toArray, .agg ((fd b).map iv).toArray] w _
 rw [← HM.out, ← HN.out]
 rw [← HA.out] at HM
 rw [← HB.out] at HN
 clear ha hb
 go_enter Tryz.func109, Tryz.ntmps109
 go_wp2_with fail
 go_loopw [5] (fun i wr => ∃ (k : Nat), k ≤ 10 ∧ i = .int .i64 k ∧ Hid (wr.heap[w.heap.size]? = some (.cells ((addM 1 A B k).map iv).toArray 95 (0, 0))) ∧ Hid (wr.heap[w.heap.size + 1]? = some (.cells (B.map iv).toArray 95 (0, 0))) ∧ Hid (wr.heap[w.heap.size + 2]? = some (.cells zF 95 (0, 0))) ∧ Hid (Below w.heap.size w wr)) (fun i _ => 10 - (intOf i).toNat)
 case atStart => exact ⟨0, Nat.zero_le _, rfl, by rw [addM_zero, ← HM.out]; exact heap3_0 _ _ _ _, by rw [← HN.out]; exact heap3_1 _ _ _ _, heap3_2 _ _ _ _, by show Below _ _ _; go_grown⟩
 case round =>
  obtain ⟨k, hk, rfl, H0, H1, H2, HBw⟩ := hrel
  by_cases hlt : k < 10
  ·
   have bk : (k : Int) < 10 := by omega
   have c0 := ivs_get H0.out k (by rw [addM_length, HAl.out]; exact hlt)
   rw [addM_get _ _ _ _ (by rw [HAl.out]; exact hlt)] at c0
   have c1 := ivs_get H1.out k (by rw [HBl.out]; exact hlt)
   have f0 := frozen_of_row wr w.heap.size k _ _ H0.out
   obtain ⟨x, HX⟩ : ∃ x, Hid (x = A.getD k 0) := ⟨_, rfl⟩
   obtain ⟨y, HY⟩ : ∃ y, Hid (y = B.getD k 0) := ⟨_, rfl⟩
   rw [← HX.out] at c0
   rw [← HY.out] at c1
   have hx := HAb.out _ (getD_mem (l := A) (i := k) (by rw [HAl.out]; exact hlt))
   have hy := HBb.out _ (getD_mem (l := B) (i := k) (by rw [HBl.out]; exact hlt))
   rw [← HX.out] at hx
   rw [← HY.out] at hy
   obtain ⟨x0, x1⟩ := hx
   obtain ⟨y0, y1⟩ := hy
   have hw1 : IntKind.i64.wrap (x + y) = x + y := by rw [IntKind.wrap_i64]; omega
   clear hz
   go_wp2_with fail
   go_region
   go_wp2_with fail
   refine ⟨⟨k + 1, by omega, by go_num, ?_, far_drew _ _ H1.out (by omega), far_drew _ _ H2.out (by omega), (HBw.out.setCell (by show _ ≤ _; exact Nat.le_refl _) _).drew⟩, by simp [intOf]; omega⟩
   show _ = _
   rw [← addM_step _ _ _ _ (by rw [HAl.out]; exact hlt), List.map_set, ← HX.out, ← HY.out, show x + 1 * y = x + y by omega]
   exact row_store H0.out k _
  ·
   obtain rfl : k = 10 := by omega
   have bk : (10 : Int) ≤ ((10 : Nat) : Int) := by omega
   obtain ⟨S, HSe⟩ : ∃ S, Hid (S = addM 1 A B 10) := ⟨_, rfl⟩
   rw [← HSe.out] at H0 HS HSl HSb
   have HSz := hide (ivF_size HSl.out)
   clear hz hlt hk
   go_wp2_with (first | (refine wpList_load_row (by rfl) 95 (.tmp 2) (by rfl) w.heap.size (by rfl) 95 (S.map iv).toArray (0, 0) _ H0.out underF rfl HSz.out ?_))
   refine (settled_any S HSl.out HSb.out _).mono ?_
   rintro e W1 ⟨rfl, hB1⟩
   have hlt1 := lt_row H2.out
   have H2b : Hid (W1.heap[w.heap.size + 2]? = some (.cells zF 95 (0, 0))) := row_below H2.out hB1 hlt1
   have HB2 : Hid (Below w.heap.size w W1) := HBw.out.trans (hB1.mono (by omega))
   rw [HS.out]
   obtain ⟨R, HR⟩ : ∃ R, Hid (R = ((fd (aP a b)).map iv).toArray) := ⟨_, rfl⟩
   rw [← HR.out]
   have HRz : Hid ((Tryz.prog.info? 95).map (·.size) = some R.size) := by show _ = _; rw [HR.out]; exact ivF_size (fd_length _)
   have HRo : Hid (zF.size = R.size) := by show _ = _; rw [HR.out]; exact ivF_old (fd_length _)
   have HRa : Hid (R.all (·.oneCell') = true) := by rw [HR.out]; exact ivF_all _
   clear hB1 hlt1 H0 H1 H2 HSz
   go_wp2_with (first | (refine wpList_store_row (by rfl) 95 (.tmp 4) (.tmp 20) (by rfl) (w.heap.size + 2) R (by rfl) (by rfl) 95 _ H2b.out HRz.out HRo.out HRa.out ?_))
   refine bodyPost_ret (v := .agg R) (results_cell_row Tryz.results109 _ _ (w.heap.size + 2) 95 R (0, 0) _ (by rfl) (setRow_heap _ _ _ _ _ _ H2b.out) underF rfl HRz.out) rfl ⟨by rw [HR.out], below_setRow HB2.out (by omega) _⟩
end
section
set_option maxRecDepth 100000 in
set_option maxHeartbeats 400000 in
theorem refSub (a b : Nat) (ha : a < P) (hb : b < P) (w : World) :
  Calls Tryz.prog 64 #[fF a, fF b] w fun e w' => e = .returned (fF (sP a b)) ∧ Below w.heap.size w w' := by
 have hz := zeroF
 obtain ⟨M, HM⟩ : ∃ M, Hid (M = ((fd a).map iv).toArray) := ⟨_, rfl⟩
 obtain ⟨N, HN⟩ : ∃ N, Hid (N = ((fd b).map iv).toArray) := ⟨_, rfl⟩
 obtain ⟨A, HA⟩ : ∃ A, Hid (A = fd a) := ⟨_, rfl⟩
 obtain ⟨B, HB⟩ : ∃ B, Hid (B = fd b) := ⟨_, rfl⟩
 have HAl : Hid (A.length = 10) := by rw [HA.out]; exact fd_length a
 have HBl : Hid (B.length = 10) := by rw [HB.out]; exact fd_length b
 have HAb : Hid (∀ x ∈ A, 0 ≤ x ∧ x < 67108864) := by rw [HA.out]; exact fd_lt a
 have HBb : Hid (∀ x ∈ B, 0 ≤ x ∧ x < 67108864) := by rw [HB.out]; exact fd_lt b
 have HS : Hid (stl (addM (-1) A B 10) = sP a b) := by
  refine stl_sub a b hb _ ?_
  have e := addM_all 67108864 (-1) A B (by rw [HAl.out, HBl.out])
  rw [HAl.out] at e
  rw [e, HA.out, HB.out, fd_val a ha, fd_val b hb]; omega
 have HSl : Hid ((addM (-1) A B 10).length = 10) := by show _ = _; rw [addM_length]; exact HAl.out
 have HSb : Hid (∀ x ∈ addM (-1) A B 10, -2305843009213693952 ≤ x ∧ x ≤ 2305843009213693952) :=
  addM_bound (-1) A B 10 (by rw [HAl.out, HBl.out]) 67108864 67108864 _ (by rw [HA.out]; exact fd_abs' a) (by rw [HB.out]; exact fd_abs b _ (by decide)) (by decide) (by decide)
 show Calls _ _ #[.agg ((fd a).map iv).toArray, .agg ((fd b).map iv).toArray] w _
 rw [← HM.out, ← HN.out]
 rw [← HA.out] at HM
 rw [← HB.out] at HN
 clear ha hb
 go_enter Tryz.func64, Tryz.ntmps64
 go_wp2_with fail
 go_loopw [5] (fun i wr => ∃ (k : Nat), k ≤ 10 ∧ i = .int .i64 k ∧ Hid (wr.heap[w.heap.size]? = some (.cells ((addM (-1) A B k).map iv).toArray 95 (0, 0))) ∧ Hid (wr.heap[w.heap.size + 1]? = some (.cells (B.map iv).toArray 95 (0, 0))) ∧ Hid (wr.heap[w.heap.size + 2]? = some (.cells zF 95 (0, 0))) ∧ Hid (Below w.heap.size w wr)) (fun i _ => 10 - (intOf i).toNat)
 case atStart => exact ⟨0, Nat.zero_le _, rfl, by rw [addM_zero, ← HM.out]; exact heap3_0 _ _ _ _, by rw [← HN.out]; exact heap3_1 _ _ _ _, heap3_2 _ _ _ _, by show Below _ _ _; go_grown⟩
 case round =>
  obtain ⟨k, hk, rfl, H0, H1, H2, HBw⟩ := hrel
  by_cases hlt : k < 10
  ·
   have bk : (k : Int) < 10 := by omega
   have c0 := ivs_get H0.out k (by rw [addM_length, HAl.out]; exact hlt)
   rw [addM_get _ _ _ _ (by rw [HAl.out]; exact hlt)] at c0
   have c1 := ivs_get H1.out k (by rw [HBl.out]; exact hlt)
   have f0 := frozen_of_row wr w.heap.size k _ _ H0.out
   obtain ⟨x, HX⟩ : ∃ x, Hid (x = A.getD k 0) := ⟨_, rfl⟩
   obtain ⟨y, HY⟩ : ∃ y, Hid (y = B.getD k 0) := ⟨_, rfl⟩
   rw [← HX.out] at c0
   rw [← HY.out] at c1
   have hx := HAb.out _ (getD_mem (l := A) (i := k) (by rw [HAl.out]; exact hlt))
   have hy := HBb.out _ (getD_mem (l := B) (i := k) (by rw [HBl.out]; exact hlt))
   rw [← HX.out] at hx
   rw [← HY.out] at hy
   obtain ⟨x0, x1⟩ := hx
   obtain ⟨y0, y1⟩ := hy
   have hw1 : IntKind.i64.wrap (x - y) = x - y := by rw [IntKind.wrap_i64]; omega
   clear hz
   go_wp2_with fail
   go_region
   go_wp2_with fail
   refine ⟨⟨k + 1, by omega, by go_num, ?_, far_drew _ _ H1.out (by omega), far_drew _ _ H2.out (by omega), (HBw.out.setCell (by show _ ≤ _; exact Nat.le_refl _) _).drew⟩, by simp [intOf]; omega⟩
   show _ = _
   rw [← addM_step _ _ _ _ (by rw [HAl.out]; exact hlt), List.map_set, ← HX.out, ← HY.out, show x + (-1) * y = x - y by omega]
   exact row_store H0.out k _
  ·
   obtain rfl : k = 10 := by omega
   have bk : (10 : Int) ≤ ((10 : Nat) : Int) := by omega
   obtain ⟨S, HSe⟩ : ∃ S, Hid (S = addM (-1) A B 10) := ⟨_, rfl⟩
   rw [← HSe.out] at H0 HS HSl HSb
   have HSz := hide (ivF_size HSl.out)
   clear hz hlt hk
   go_wp2_with (first | (refine wpList_load_row (by rfl) 95 (.tmp 2) (by rfl) w.heap.size (by rfl) 95 (S.map iv).toArray (0, 0) _ H0.out underF rfl HSz.out ?_))
   refine (settled_any S HSl.out HSb.out _).mono ?_
   rintro e W1 ⟨rfl, hB1⟩
   have hlt1 := lt_row H2.out
   have H2b : Hid (W1.heap[w.heap.size + 2]? = some (.cells zF 95 (0, 0))) := row_below H2.out hB1 hlt1
   have HB2 : Hid (Below w.heap.size w W1) := HBw.out.trans (hB1.mono (by omega))
   rw [HS.out]
   obtain ⟨R, HR⟩ : ∃ R, Hid (R = ((fd (sP a b)).map iv).toArray) := ⟨_, rfl⟩
   rw [← HR.out]
   have HRz : Hid ((Tryz.prog.info? 95).map (·.size) = some R.size) := by show _ = _; rw [HR.out]; exact ivF_size (fd_length _)
   have HRo : Hid (zF.size = R.size) := by show _ = _; rw [HR.out]; exact ivF_old (fd_length _)
   have HRa : Hid (R.all (·.oneCell') = true) := by rw [HR.out]; exact ivF_all _
   clear hB1 hlt1 H0 H1 H2 HSz
   go_wp2_with (first | (refine wpList_store_row (by rfl) 95 (.tmp 4) (.tmp 20) (by rfl) (w.heap.size + 2) R (by rfl) (by rfl) 95 _ H2b.out HRz.out HRo.out HRa.out ?_))
   refine bodyPost_ret (v := .agg R) (results_cell_row Tryz.results64 _ _ (w.heap.size + 2) 95 R (0, 0) _ (by rfl) (setRow_heap _ _ _ _ _ _ H2b.out) underF rfl HRz.out) rfl ⟨by rw [HR.out], below_setRow HB2.out (by omega) _⟩
end
end Go.Proofs.YtccgfabojbjmjaaGreatDoor
