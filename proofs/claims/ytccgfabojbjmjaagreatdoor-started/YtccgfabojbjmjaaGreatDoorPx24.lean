import Derived.Test.YtccgfabojbjmjaaGreatDoorPx23
namespace Go.Proofs.YtccgfabojbjmjaaGreatDoor
open Go.RowKit
theorem tau_val (a : Fin P) : tau a.val = a := by
 apply Fin.ext; simp only [tau, Fin.val_ofNat]; exact Nat.mod_eq_of_lt a.isLt
theorem tau_of_lt {n : Nat} (h : n < P) : (tau n).val = n := by
 simp only [tau, Fin.val_ofNat]; exact Nat.mod_eq_of_lt h
noncomputable def inK (a : Fin P) : Fin P := tau (invN a.val)
theorem ne_mod {a : Fin P} (h : a ≠ 0) : a.val % P ≠ 0 := by
 rw [Nat.mod_eq_of_lt a.isLt]
 intro e
 exact h (Fin.ext e)
theorem inK_mul {a : Fin P} (h : a ≠ 0) : a * inK a = 1 := by
 have e := mP_inv (ne_mod h)
 have e2 : tau (mP a.val (invN a.val)) = tau 1 := by rw [e]
 rw [tau_mP, tau_one, tau_val] at e2
 exact e2
theorem ne_mul {a b : Fin P} (ha : a ≠ 0) (hb : b ≠ 0) : a * b ≠ 0 := by
 intro h
 have e := inK_mul ha
 generalize inK a = c at e
 exact hb (by grind)
theorem cancelK {a b c : Fin P} (ha : a ≠ 0) (h : b * a = c * a) : b = c := by
 have e := inK_mul ha
 generalize inK a = i at e
 grind
theorem one_ne : (1 : Fin P) ≠ 0 := by decide
theorem two_ne : (2 : Fin P) ≠ 0 := by decide
noncomputable def dK : Fin P := tau dN
theorem dK_ns (s t : Fin P) (hs : s ≠ 0) : t * t ≠ dK * (s * s) := by
 intro h
 have ht : t ≠ 0 := by
  intro e
  have hd : dK ≠ 0 := by
   unfold dK
   intro e2
   exact absurd ((tau_zero_iff (by decide)).1 e2) (by decide)
  have := ne_mul hd (ne_mul hs hs)
  grind
 have e : mP t.val t.val = mP dN (mP s.val s.val) := by
  apply tau_inj (mP_lt _ _) (mP_lt _ _)
  rw [tau_mP, tau_mP, tau_mP, tau_val, tau_val]
  exact h
 have e2 : pwP (mP t.val t.val) Hf = pwP (mP dN (mP s.val s.val)) Hf := by rw [e]
 rw [pwP_mP, pwP_mP, pwP_mP, ← pwP_add, ← pwP_add, Hf_two, show pwP t.val (P - 1) = 1 from fermat (ne_mod ht), show pwP s.val (P - 1) = 1 from fermat (ne_mod hs), dN_Hf] at e2
 exact absurd e2 (by decide)
def OnC (x y : Fin P) : Prop := y * y = 1 + x * x + dK * (x * x) * (y * y)
theorem on_ne {x y : Fin P} (h : OnC x y) : ¬ (x * tau rmN + y = 0 ∧ x * tau rmN - y = 0) := by
 unfold OnC at h
 have h2 := two_ne
 have e := rm_e
 generalize tau rmN = r at *
 generalize dK = d at *
 intro ⟨a, b⟩
 have hy : y = 0 := by
  refine cancelK h2 ?_
  grind
 have hx : x = 0 := by grind
 rw [hx, hy] at h
 apply one_ne
 simp only [Fin.mul_zero, Fin.add_zero] at h
 exact h.symm
theorem compl_sq (d r x y u v s t : Fin P) (h : y * y = 1 + x * x + d * (x * x) * (y * y)) (h2 : v * v = 1 + u * u + d * (u * u) * (v * v)) (e : r * r + 1 = 0) (hs : s * s = 1) (ht : t * t = 1) (hk : d * x * u * y * v = s) : (x * r + s * t * y) * (x * r + s * t * y) = d * (x * y * (u * r + t * v) * (x * y * (u * r + t * v))) := by
 grind
theorem complete {x y u v s : Fin P} (h : OnC x y) (h2 : OnC u v) (hs : s * s = 1) : dK * x * u * y * v ≠ s := by
 intro hk
 have key : ∀ t : Fin P, t * t = 1 → u * tau rmN + t * v = 0 := by
  intro t ht
  have hn := dK_ns (x * y * (u * tau rmN + t * v)) (x * tau rmN + s * t * y)
  by_cases h0 : u * tau rmN + t * v = 0
  · exact h0
  exfalso
  have hx : x ≠ 0 := by
   intro e
   have := one_ne
   generalize dK = d at hk
   clear h h2 hn
   grind
  have hy : y ≠ 0 := by
   intro e
   have := one_ne
   generalize dK = d at hk
   clear h h2 hn
   grind
  exact hn (ne_mul (ne_mul hx hy) h0) (compl_sq dK (tau rmN) x y u v s t h h2 rm_e hs ht hk)
 have k1 := key 1 (by grind)
 have k2 := key (-1) (by grind)
 refine on_ne h2 ⟨?_, ?_⟩
 · generalize tau rmN = r at *; grind
 · generalize tau rmN = r at *; grind
theorem den_add {x y u v : Fin P} (h : OnC x y) (h2 : OnC u v) : 1 + dK * x * u * y * v ≠ 0 := by
 intro e
 refine complete h h2 (s := -1) (by grind) ?_
 generalize dK * x * u * y * v = k at e
 grind
theorem den_sub {x y u v : Fin P} (h : OnC x y) (h2 : OnC u v) : 1 - dK * x * u * y * v ≠ 0 := by
 intro e
 refine complete h h2 (s := 1) (by grind) ?_
 generalize dK * x * u * y * v = k at e
 grind
theorem closed_num (d x y u v : Fin P) (h : y * y = 1 + x * x + d * (x * x) * (y * y)) (h2 : v * v = 1 + u * u + d * (u * u) * (v * v)) (D E X Y : Fin P) (hD : X * (1 + d * x * u * y * v) = x * v + u * y) (hE : Y * (1 - d * x * u * y * v) = y * v + x * u) (eD : D = 1 + d * x * u * y * v) (eE : E = 1 - d * x * u * y * v) : Y * Y * (D * D * (E * E)) = (1 + X * X + d * (X * X) * (Y * Y)) * (D * D * (E * E)) := by
 have a : X * D = x * v + u * y := by rw [eD]; exact hD
 have b : Y * E = y * v + x * u := by rw [eE]; exact hE
 have e1 : Y * Y * (D * D * (E * E)) = (Y * E) * (Y * E) * (D * D) := by grind
 have e2 : (1 + X * X + d * (X * X) * (Y * Y)) * (D * D * (E * E)) = D * D * (E * E) + (X * D) * (X * D) * (E * E) + d * ((X * D) * (X * D)) * ((Y * E) * (Y * E)) := by grind
 rw [e1, e2, a, b, eD, eE]
 clear e1 e2 a b hD hE eD eE
 grind
structure G where
 x : Fin P
 y : Fin P
 on : OnC x y
theorem G.ext' {a b : G} (hx : a.x = b.x) (hy : a.y = b.y) : a = b := by
 cases a; cases b; cases hx; cases hy; rfl
noncomputable def sX (a b : G) : Fin P := (a.x * b.y + b.x * a.y) * inK (1 + dK * a.x * b.x * a.y * b.y)
noncomputable def sY (a b : G) : Fin P := (a.y * b.y + a.x * b.x) * inK (1 - dK * a.x * b.x * a.y * b.y)
theorem sX_mul (a b : G) : sX a b * (1 + dK * a.x * b.x * a.y * b.y) = a.x * b.y + b.x * a.y := by
 have e := inK_mul (den_add a.on b.on)
 unfold sX
 generalize inK (1 + dK * a.x * b.x * a.y * b.y) = i at *
 generalize 1 + dK * a.x * b.x * a.y * b.y = k at *
 grind
theorem sY_mul (a b : G) : sY a b * (1 - dK * a.x * b.x * a.y * b.y) = a.y * b.y + a.x * b.x := by
 have e := inK_mul (den_sub a.on b.on)
 unfold sY
 generalize inK (1 - dK * a.x * b.x * a.y * b.y) = i at *
 generalize 1 - dK * a.x * b.x * a.y * b.y = k at *
 grind
noncomputable def gAdd (a b : G) : G := ⟨sX a b, sY a b, by
 have hD := den_add a.on b.on
 have hE := den_sub a.on b.on
 exact cancelK (ne_mul (ne_mul hD hD) (ne_mul hE hE)) (closed_num dK a.x a.y b.x b.y a.on b.on _ _ _ _ (sX_mul a b) (sY_mul a b) rfl rfl)⟩
theorem gAdd_x {a b : G} {X : Fin P} (h : X * (1 + dK * a.x * b.x * a.y * b.y) = a.x * b.y + b.x * a.y) : (gAdd a b).x = X := cancelK (den_add a.on b.on) ((sX_mul a b).trans h.symm)
theorem gAdd_y {a b : G} {Y : Fin P} (h : Y * (1 - dK * a.x * b.x * a.y * b.y) = a.y * b.y + a.x * b.x) : (gAdd a b).y = Y := cancelK (den_sub a.on b.on) ((sY_mul a b).trans h.symm)
theorem gAdd_comm (a b : G) : gAdd a b = gAdd b a := by
 have e1 := sX_mul b a
 have e2 := sY_mul b a
 refine G.ext' (gAdd_x (X := sX b a) ?_) (gAdd_y (Y := sY b a) ?_)
 · generalize dK = d at *; generalize sX b a = X at *; clear e2; grind
 · generalize dK = d at *; generalize sY b a = X at *; clear e1; grind
theorem on_zero (d x y : Fin P) (hx : x = 0) (hy : y = 1) : y * y = 1 + x * x + d * (x * x) * (y * y) := by grind
noncomputable def g0 : G := ⟨0, 1, on_zero dK 0 1 rfl rfl⟩
theorem gAdd_zero (a : G) : gAdd a g0 = a := by
 refine G.ext' (gAdd_x ?_) (gAdd_y ?_)
 ·
  show a.x * (1 + dK * a.x * 0 * a.y * 1) = a.x * 1 + 0 * a.y
  generalize dK = d; grind
 ·
  show a.y * (1 - dK * a.x * 0 * a.y * 1) = a.y * 1 + a.x * 0
  generalize dK = d; grind
theorem assoc_x (d x1 y1 x2 y2 x3 y3 : Fin P) (h1 : y1*y1 = 1 + x1*x1 + d*(x1*x1)*(y1*y1)) (h2 : y2*y2 = 1 + x2*x2 + d*(x2*x2)*(y2*y2)) (h3 : y3*y3 = 1 + x3*x3 + d*(x3*x3)*(y3*y3))
 (X12 Y12 k12 X23 Y23 k23 : Fin P) (a1 : X12 = x1*y2+x2*y1) (a2 : Y12 = y1*y2+x1*x2) (a3 : k12 = d*x1*x2*y1*y2)
 (b1 : X23 = x2*y3+x3*y2) (b2 : Y23 = y2*y3+x2*x3) (b3 : k23 = d*x2*x3*y2*y3) :
 (X12*(1-k12)*y3 + x3*Y12*(1+k12)) * ((1+k23)*(1-k23) + d*X23*Y23*x1*y1) = (x1*Y23*(1+k23) + X23*(1-k23)*y1) * ((1+k12)*(1-k12) + d*X12*Y12*x3*y3) := by
 subst a1 a2 a3 b1 b2 b3
 grind
theorem assoc_y (d x1 y1 x2 y2 x3 y3 : Fin P) (h1 : y1*y1 = 1 + x1*x1 + d*(x1*x1)*(y1*y1)) (h2 : y2*y2 = 1 + x2*x2 + d*(x2*x2)*(y2*y2)) (h3 : y3*y3 = 1 + x3*x3 + d*(x3*x3)*(y3*y3))
 (X12 Y12 k12 X23 Y23 k23 : Fin P) (a1 : X12 = x1*y2+x2*y1) (a2 : Y12 = y1*y2+x1*x2) (a3 : k12 = d*x1*x2*y1*y2)
 (b1 : X23 = x2*y3+x3*y2) (b2 : Y23 = y2*y3+x2*x3) (b3 : k23 = d*x2*x3*y2*y3) :
 (Y12*(1+k12)*y3 + x3*X12*(1-k12)) * ((1+k23)*(1-k23) - d*X23*Y23*x1*y1) = (x1*X23*(1-k23) + Y23*(1+k23)*y1) * ((1+k12)*(1-k12) - d*X12*Y12*x3*y3) := by
 subst a1 a2 a3 b1 b2 b3
 grind
theorem step_x (d x12 y12 x3 y3 u v X12 Y12 X : Fin P) (hu : x12 * u = X12) (hv : y12 * v = Y12) (h : X * (1 + d * x12 * x3 * y12 * y3) = x12 * y3 + x3 * y12) : X * (u * v + d * X12 * Y12 * x3 * y3) = X12 * v * y3 + x3 * Y12 * u := by
 subst hu hv
 have e : X * (u * v + d * (x12 * u) * (y12 * v) * x3 * y3) = X * (1 + d * x12 * x3 * y12 * y3) * (u * v) := by grind
 rw [e, h]; clear e h; grind
theorem step_y (d x12 y12 x3 y3 u v X12 Y12 Y : Fin P) (hu : x12 * u = X12) (hv : y12 * v = Y12) (h : Y * (1 - d * x12 * x3 * y12 * y3) = y12 * y3 + x12 * x3) : Y * (u * v - d * X12 * Y12 * x3 * y3) = Y12 * u * y3 + x3 * X12 * v := by
 subst hu hv
 have e : Y * (u * v - d * (x12 * u) * (y12 * v) * x3 * y3) = Y * (1 - d * x12 * x3 * y12 * y3) * (u * v) := by grind
 rw [e, h]; clear e h; grind
theorem den_eq (d x12 y12 x3 y3 u v X12 Y12 : Fin P) (hu : x12 * u = X12) (hv : y12 * v = Y12) : u * v + d * X12 * Y12 * x3 * y3 = u * v * (1 + d * x12 * x3 * y12 * y3) := by subst hu hv; grind
theorem den_eq' (d x12 y12 x3 y3 u v X12 Y12 : Fin P) (hu : x12 * u = X12) (hv : y12 * v = Y12) : u * v - d * X12 * Y12 * x3 * y3 = u * v * (1 - d * x12 * x3 * y12 * y3) := by subst hu hv; grind
theorem cross (X X' A B C D : Fin P) (hB : B ≠ 0) (hD : D ≠ 0) (h1 : X * B = A) (h2 : X' * D = C) (h : A * D = C * B) : X = X' := by
 refine cancelK (ne_mul hB hD) ?_
 subst h1 h2
 grind
theorem gAdd_assoc (a b c : G) : gAdd (gAdd a b) c = gAdd a (gAdd b c) := by
 have p1 := sX_mul a b
 have p2 := sY_mul a b
 have q1 := sX_mul b c
 have q2 := sY_mul b c
 have hu := den_add a.on b.on
 have hv := den_sub a.on b.on
 have hs := den_add b.on c.on
 have ht := den_sub b.on c.on
 have m1 := den_add (gAdd a b).on c.on
 have m2 := den_sub (gAdd a b).on c.on
 have n1 := den_add (gAdd b c).on a.on
 have n2 := den_sub (gAdd b c).on a.on
 have X1 := step_x dK _ _ c.x c.y _ _ _ _ _ p1 p2 (sX_mul (gAdd a b) c)
 have Y1 := step_y dK _ _ c.x c.y _ _ _ _ _ p1 p2 (sY_mul (gAdd a b) c)
 have X2 := step_x dK _ _ a.x a.y _ _ _ _ _ q1 q2 (sX_mul (gAdd b c) a)
 have Y2 := step_y dK _ _ a.x a.y _ _ _ _ _ q1 q2 (sY_mul (gAdd b c) a)
 rw [gAdd_comm a (gAdd b c)]
 refine G.ext' ?_ ?_
 ·
  refine cross _ _ _ _ _ _ ?_ ?_ X1 X2 ?_
  · rw [den_eq dK _ _ c.x c.y _ _ _ _ p1 p2]; exact ne_mul (ne_mul hu hv) m1
  · rw [den_eq dK _ _ a.x a.y _ _ _ _ q1 q2]; exact ne_mul (ne_mul hs ht) n1
  ·
   have e := assoc_x dK a.x a.y b.x b.y c.x c.y a.on b.on c.on _ _ _ _ _ _ rfl rfl rfl rfl rfl rfl
   clear p1 p2 q1 q2 hu hv hs ht m1 m2 n1 n2 X1 Y1 X2 Y2
   refine e.trans ?_
   generalize dK = d
   grind
 ·
  refine cross _ _ _ _ _ _ ?_ ?_ Y1 Y2 ?_
  · rw [den_eq' dK _ _ c.x c.y _ _ _ _ p1 p2]; exact ne_mul (ne_mul hu hv) m2
  · rw [den_eq' dK _ _ a.x a.y _ _ _ _ q1 q2]; exact ne_mul (ne_mul hs ht) n2
  ·
   have e := assoc_y dK a.x a.y b.x b.y c.x c.y a.on b.on c.on _ _ _ _ _ _ rfl rfl rfl rfl rfl rfl
   clear p1 p2 q1 q2 hu hv hs ht m1 m2 n1 n2 X1 Y1 X2 Y2
   refine e.trans ?_
   generalize dK = d
   grind
noncomputable def gMul : Nat → G → G
 | 0, _ => g0
 | n + 1, a => gAdd (gMul n a) a
theorem gZero_add (a : G) : gAdd g0 a = a := (gAdd_comm _ _).trans (gAdd_zero a)
theorem gMul_zero (a : G) : gMul 0 a = g0 := rfl
theorem gMul_one (a : G) : gMul 1 a = a := gZero_add a
theorem gMul_succ (n : Nat) (a : G) : gMul (n + 1) a = gAdd (gMul n a) a := rfl
theorem gMul_add (m n : Nat) (a : G) : gMul (m + n) a = gAdd (gMul m a) (gMul n a) := by
 induction n with
 | zero => rw [Nat.add_zero, gMul_zero, gAdd_zero]
 | succ n ih => rw [← Nat.add_assoc, gMul_succ, ih, gMul_succ, gAdd_assoc]
theorem gMul_dbl (n : Nat) (a : G) : gMul (2 * n) a = gAdd (gMul n a) (gMul n a) := by rw [Nat.two_mul, gMul_add]
theorem gMul_mul (m n : Nat) (a : G) : gMul (m * n) a = gMul m (gMul n a) := by
 induction m with
 | zero => rw [Nat.zero_mul, gMul_zero, gMul_zero]
 | succ m ih => rw [Nat.succ_mul, gMul_add, ih, gMul_succ]
theorem on_neg (d x y : Fin P) (h : y * y = 1 + x * x + d * (x * x) * (y * y)) : y * y = 1 + -x * -x + d * (-x * -x) * (y * y) := by grind
def gNeg (a : G) : G := ⟨-a.x, a.y, on_neg dK a.x a.y a.on⟩
theorem neg_x (d x y : Fin P) : 0 * (1 + d * x * -x * y * y) = x * y + -x * y := by grind
theorem neg_y (d x y : Fin P) (h : y * y = 1 + x * x + d * (x * x) * (y * y)) : 1 * (1 - d * x * -x * y * y) = y * y + x * -x := by grind
theorem gAdd_neg (a : G) : gAdd a (gNeg a) = g0 :=
 G.ext' (gAdd_x (a := a) (b := gNeg a) (neg_x dK a.x a.y)) (gAdd_y (a := a) (b := gNeg a) (neg_y dK a.x a.y a.on))
structure RP (p : Pt) (a : G) : Prop where
 ok : p.Ok
 z : tau p.z ≠ 0
 x : tau p.x = a.x * tau p.z
 y : tau p.y = a.y * tau p.z
 t : tau p.t = a.x * a.y * tau p.z
theorem parts_id (X Y e f g h : Fin P) (hX : e = X * g) (hY : h = Y * f) : e * f = X * (f * g) ∧ g * h = Y * (f * g) ∧ e * h = X * Y * (f * g) := by
 subst hX hY
 refine ⟨?_, ?_, ?_⟩ <;> grind
theorem RP_parts {e f g h : Nat} {a : G} (hf : tau f ≠ 0) (hg : tau g ≠ 0) (hX : tau e = a.x * tau g) (hY : tau h = a.y * tau f) : RP (partsP e f g h) a := by
 obtain ⟨h1, h2, h3⟩ := parts_id a.x a.y _ _ _ _ hX hY
 refine ⟨partsP_ok _ _ _ _, ?_, ?_, ?_, ?_⟩
 ·
  show tau (mP f g) ≠ 0
  rw [tau_mP]; exact ne_mul hf hg
 ·
  show tau (mP e f) = _ * tau (mP f g)
  rw [tau_mP, tau_mP]; exact h1
 ·
  show tau (mP g h) = _ * tau (mP f g)
  rw [tau_mP, tau_mP]; exact h2
 ·
  show tau (mP e h) = _ * tau (mP f g)
  rw [tau_mP, tau_mP]; exact h3
theorem add_f (d x y u v z w : Fin P) : z * w + z * w - x * y * z * (d + d) * (u * v * w) = 2 * (z * w) * (1 - d * x * u * y * v) := by grind
theorem add_g (d x y u v z w : Fin P) : z * w + z * w + x * y * z * (d + d) * (u * v * w) = 2 * (z * w) * (1 + d * x * u * y * v) := by grind
theorem add_e (x y u v z w X D : Fin P) (h : X * D = x * v + u * y) : (y * z + x * z) * (v * w + u * w) - (y * z - x * z) * (v * w - u * w) = X * (2 * (z * w) * D) := by
 have e : X * (2 * (z * w) * D) = 2 * (z * w) * (X * D) := by grind
 rw [e, h]; clear e h; grind
theorem add_h (x y u v z w Y E : Fin P) (h : Y * E = y * v + x * u) : (y * z + x * z) * (v * w + u * w) + (y * z - x * z) * (v * w - u * w) = Y * (2 * (z * w) * E) := by
 have e : Y * (2 * (z * w) * E) = 2 * (z * w) * (Y * E) := by grind
 rw [e, h]; clear e h; grind
theorem RP_add {p q : Pt} {a b : G} (hp : RP p a) (hq : RP q b) : RP (addP p q) (gAdd a b) := by
 obtain ⟨po, pz, px, py, pt⟩ := hp
 obtain ⟨qo, qz, qx, qy, qt⟩ := hq
 have hD := den_add a.on b.on
 have hE := den_sub a.on b.on
 have sx : (gAdd a b).x * _ = _ := sX_mul a b
 have sy : (gAdd a b).y * _ = _ := sY_mul a b
 have h2 := two_ne
 have hA : tau (aA p q) = (tau p.y - tau p.x) * (tau q.y - tau q.x) := by
  unfold aA; rw [tau_mP, tau_sP _ _ po.x, tau_sP _ _ qo.x]
 have hB : tau (bB p q) = (tau p.y + tau p.x) * (tau q.y + tau q.x) := by
  unfold bB; rw [tau_mP, tau_aP, tau_aP]
 have hC : tau (cC p q) = tau p.t * (dK + dK) * tau q.t := by
  unfold cC dK; rw [tau_mP, tau_mP, tau_tdN]
 have hZ : tau (zZ p q) = tau p.z * tau q.z := by unfold zZ; rw [tau_mP]
 have ef : tau (sP (aP (zZ p q) (zZ p q)) (cC p q)) = 2 * (tau p.z * tau q.z) * (1 - dK * a.x * b.x * a.y * b.y) := by
  rw [tau_sP _ _ (show cC p q < P from mP_lt _ _), tau_aP, hZ, hC, pt, qt]
  exact add_f _ _ _ _ _ _ _
 have eg : tau (aP (aP (zZ p q) (zZ p q)) (cC p q)) = 2 * (tau p.z * tau q.z) * (1 + dK * a.x * b.x * a.y * b.y) := by
  rw [tau_aP, tau_aP, hZ, hC, pt, qt]
  exact add_g _ _ _ _ _ _ _
 refine RP_parts ?_ ?_ ?_ ?_
 · rw [ef]; exact ne_mul (ne_mul h2 (ne_mul pz qz)) hE
 · rw [eg]; exact ne_mul (ne_mul h2 (ne_mul pz qz)) hD
 ·
  rw [eg, tau_sP _ _ (show aA p q < P from mP_lt _ _), hA, hB, px, py, qx, qy]
  exact add_e _ _ _ _ _ _ _ _ sx
 ·
  rw [ef, tau_aP, hA, hB, px, py, qx, qy]
  exact add_h _ _ _ _ _ _ _ _ sy
def dX (p : Pt) : Nat := mP p.x p.x
def dY (p : Pt) : Nat := mP p.y p.y
def dZ (p : Pt) : Nat := mP p.z p.z
def dS (p : Pt) : Nat := aP (dX p) (dY p)
def dD (p : Pt) : Nat := sP (dY p) (dX p)
def dC (p : Pt) : Nat := sP (mP (aP p.x p.y) (aP p.x p.y)) (dS p)
def dblP (p : Pt) : Pt := partsP (dC p) (sP (aP (dZ p) (dZ p)) (dD p)) (dD p) (dS p)
theorem tau_dD (p : Pt) : tau (dD p) = tau p.y * tau p.y - tau p.x * tau p.x := by
 unfold dD; rw [tau_sP _ _ (show dX p < P from mP_lt _ _)]; simp only [dX, dY, tau_mP]
theorem dbl_g (d x y z : Fin P) (h : y * y = 1 + x * x + d * (x * x) * (y * y)) : y * z * (y * z) - x * z * (x * z) = z * z * (1 + d * x * x * y * y) := by grind
theorem dbl_f (d x y z : Fin P) (h : y * y = 1 + x * x + d * (x * x) * (y * y)) : z * z + z * z - (y * z * (y * z) - x * z * (x * z)) = z * z * (1 - d * x * x * y * y) := by grind
theorem dbl_e (x y z X D : Fin P) (h : X * D = x * y + x * y) : (x * z + y * z) * (x * z + y * z) - (x * z * (x * z) + y * z * (y * z)) = X * (z * z * D) := by grind
theorem dbl_h (x y z Y E : Fin P) (h : Y * E = y * y + x * x) : (x * z * (x * z) + y * z * (y * z)) = Y * (z * z * E) := by grind
theorem RP_dbl {p : Pt} {a : G} (hp : RP p a) : RP (dblP p) (gAdd a a) := by
 obtain ⟨po, pz, px, py, pt⟩ := hp
 have hD := den_add a.on a.on
 have hE := den_sub a.on a.on
 have sx : (gAdd a a).x * _ = _ := sX_mul a a
 have sy : (gAdd a a).y * _ = _ := sY_mul a a
 have eg : tau (dD p) = tau p.z * tau p.z * (1 + dK * a.x * a.x * a.y * a.y) := by
  rw [tau_dD, px, py]; exact dbl_g _ _ _ _ a.on
 have ef : tau (sP (aP (dZ p) (dZ p)) (dD p)) = tau p.z * tau p.z * (1 - dK * a.x * a.x * a.y * a.y) := by
  rw [tau_sP _ _ (show dD p < P from sP_lt _ _), tau_dD, px, py, tau_aP]
  simp only [dZ, tau_mP]
  exact dbl_f _ _ _ _ a.on
 refine RP_parts ?_ ?_ ?_ ?_
 · rw [ef]; exact ne_mul (ne_mul pz pz) hE
 · rw [eg]; exact ne_mul (ne_mul pz pz) hD
 ·
  rw [eg]
  unfold dC
  rw [tau_sP _ _ (show dS p < P from aP_lt _ _)]
  simp only [dS, dX, dY, tau_aP, tau_mP, px, py]
  exact dbl_e _ _ _ _ _ sx
 ·
  rw [ef]
  simp only [dS, dX, dY, tau_aP, tau_mP, px, py]
  exact dbl_h _ _ _ _ _ sy
theorem code_val {x z : Nat} {X : Fin P} (hz : tau z ≠ 0) (h : tau x = X * tau z) (hl : z < P) : codeX x z = X.val := by
 have e : tau (codeX x z) = X := by
  unfold codeX
  rw [tau_mP, h]
  have hi : tau z * tau (invN z) = 1 := by
   rw [← tau_mP, mP_inv, tau_one]
   intro e
   rw [Nat.mod_eq_of_lt hl] at e
   exact hz ((tau_zero_iff hl).2 e)
  generalize tau (invN z) = i at *
  grind
 have := congrArg Fin.val e
 rw [tau_of_lt (show codeX x z < P from mP_lt _ _)] at this
 exact this
abbrev oPtMul7 : Oper := ⟨some 3, .alloc 80, 0, "point.go:90", #[], none⟩
abbrev oPtMul8 : Oper := ⟨some 4, .alloc 80, 0, "point.go:90", #[], none⟩
abbrev oPtMul9 : Oper := ⟨some 5, .alloc 80, 0, "point.go:90", #[], none⟩
abbrev oPtMul23 : Oper := ⟨some 8, .alloc 80, 0, "point.go:93", #[], none⟩
abbrev oPtMul24 : Oper := ⟨none, .store 80 (.tmp 8) (.tmp 31), 0, "point.go:93", #[zeD 8, zeD 7, zeC 7, zeP 0, zeP 1, zeP 2, zeP 3, zeP 4, zeP 5, zeP 6, zeP 7, zeP 8], none⟩
def pL (p : Pt) : List Value := nL p.x ++ (nL p.y ++ (nL p.z ++ nL p.t))
theorem pL_len (p : Pt) : (pL p).length = 16 := rfl
theorem pL_A (p : Pt) : (pL p).toArray = pA p := rfl
theorem pA_L (p : Pt) : (pA p).toList = pL p := rfl
theorem pA_len (p : Pt) : (pA p).size = 16 := rfl
theorem pL_size (p : Pt) : (Tryz.prog.info? 82).map (·.size) = some (pL p).length := pA_size p
structure Pts (w : World) (b n : Nat) (f : Nat → Pt) : Prop where
 rd : ∀ i, i < n → w.rangeAt b (16 * i) (pL (f i))
 wr : w.there b 0 (16 * n)
def upd (f : Nat → Pt) (i : Nat) (p : Pt) : Nat → Pt := fun j => if j = i then p else f j
theorem upd_same (f : Nat → Pt) (i : Nat) (p : Pt) : upd f i p i = p := by simp [upd]
theorem Pts.at' {w : World} {b n : Nat} {f : Nat → Pt} (h : Pts w b n f) {i : Nat} (hi : i < n) : w.there b (16 * i) 16 := fun j hj => by
 have := h.wr (16 * i + j) (by omega)
 rw [Nat.zero_add] at this
 exact this
theorem Pts.set {w : World} {b n : Nat} {f : Nat → Pt} (h : Pts w b n f) {i : Nat} (hi : i < n) (p : Pt) : Pts (w.setCells b (16 * i) (pL p)) b n (upd f i p) := by
 refine ⟨fun k hk => ?_, World.there_setCells h.wr _ _ _⟩
 unfold upd
 split
 · subst k; exact World.rangeAt_setCells_same _ _ _ _ (by rw [pL_len]; exact h.at' hi)
 ·
  refine World.rangeAt_setCells_apart (h.rd k hk) _ _ _ (Or.inr ?_)
  rw [pL_len, pL_len]; omega
theorem there_block {w v : World} {b o n : Nat} (h : w.there b o n) (hb : v.heap[b]? = w.heap[b]?) : v.there b o n := fun j hj =>
 ⟨by rw [World.cell?_of_block (w := w) hb]; exact (h j hj).1, by rw [World.frozen?_of_block (w := w) hb]; exact (h j hj).2⟩
theorem Pts.keep {w v : World} {b n : Nat} {f : Nat → Pt} (h : Pts w b n f) (hb : v.heap[b]? = w.heap[b]?) : Pts v b n f :=
 ⟨fun i hi j x hx => (World.cell?_of_block hb).trans (h.rd i hi j x hx), there_block h.wr hb⟩
theorem Pts.below {w v : World} {b n B : Nat} {f : Nat → Pt} (h : Pts w b n f) (hB : Below B w v) (hb : b < B) : Pts v b n f := h.keep (hB.block b hb)
theorem Pts.ext {w : World} {b n : Nat} {f g : Nat → Pt} (h : Pts w b n f) (e : ∀ i, i < n → f i = g i) : Pts w b n g :=
 ⟨fun i hi => by rw [← e i hi]; exact h.rd i hi, h.wr⟩
theorem Pts.size {w : World} {b n : Nat} {f : Nat → Pt} (h : Pts w b n f) (hn : 0 < n) : b < w.heap.size := by
 obtain ⟨v, hv⟩ := Option.isSome_iff_exists.1 (h.wr 0 (by omega)).1
 exact World.block_lt_of_cell? w _ hv
theorem heap_setCells (b : Nat) : ∀ (vs : List Value) (o : Nat) (w : World) (k : Nat), k ≠ b → (w.setCells b o vs).heap[k]? = w.heap[k]?
 | [], _, _, _, _ => rfl
 | v :: r, o, w, k, h => by
  rw [World.setCells, heap_setCells b r (o + 1) _ k h]
  exact Below.heap_setCell w ⟨b, o, none⟩ v k h
theorem below_setCells {B : Nat} {a : World} {b : Nat} (hb : B ≤ b) : ∀ (vs : List Value) (o : Nat) (w : World), Below B a w → Below B a (w.setCells b o vs)
 | [], _, _, h => h
 | v :: r, o, w, h => by
  rw [World.setCells]
  exact below_setCells hb r (o + 1) _ (h.setCell hb v)
def psL (f : Nat → Pt) : Nat → List Value
 | 0 => []
 | n + 1 => psL f n ++ pL (f n)
def psA (f : Nat → Pt) (n : Nat) : Array Value := (psL f n).toArray
theorem psL_len (f : Nat → Pt) : ∀ n, (psL f n).length = 16 * n
 | 0 => rfl
 | n + 1 => by rw [psL, List.length_append, psL_len f n, pL_len]; omega
theorem psL_at (f : Nat → Pt) : ∀ (n i j : Nat), i < n → j < 16 → (psL f n)[16 * i + j]? = (pL (f i))[j]?
 | 0, _, _, h, _ => absurd h (by omega)
 | n + 1, i, j, h, hj => by
  rw [psL]
  by_cases e : i < n
  ·
   rw [List.getElem?_append_left (by rw [psL_len]; omega)]
   exact psL_at f n i j e hj
  ·
   obtain rfl : i = n := by omega
   rw [List.getElem?_append_right (by rw [psL_len]; omega), psL_len, Nat.add_sub_cancel_left]
theorem psL_congr {f g : Nat → Pt} : ∀ n, (∀ i, i < n → f i = g i) → psL f n = psL g n
 | 0, _ => rfl
 | n + 1, h => by rw [psL, psL, psL_congr n (fun i hi => h i (by omega)), h n (by omega)]
theorem psL_cell (f : Nat → Pt) : ∀ n, ∀ v ∈ psL f n, v.oneCell' = true
 | 0, v, h => by simp [psL] at h
 | n + 1, v, h => by
  rw [psL] at h
  rcases List.mem_append.1 h with k | k
  · exact psL_cell f n v k
  ·
   have := Array.all_eq_true_iff_forall_mem.1 (pA_all (f n)) v (by rw [← pL_A]; simpa using k)
   exact this
theorem psA_all (f : Nat → Pt) (n : Nat) : (psA f n).all (·.oneCell') = true := all_oneCell_toArray (psL_cell f n)
theorem psA_len (f : Nat → Pt) (n : Nat) : (psA f n).size = 16 * n := by unfold psA; rw [List.size_toArray, psL_len]
theorem psA_old (f g : Nat → Pt) (n : Nat) : (psA f n).size = (psA g n).size := by rw [psA_len, psA_len]
theorem Pts.whole {w : World} {b n : Nat} {f : Nat → Pt} (h : Pts w b n f) : w.rangeAt b 0 (psL f n) := fun j v hv => by
 have hj := (List.getElem?_eq_some_iff.1 hv).1
 rw [psL_len] at hj
 rw [Nat.zero_add]
 have e : j = 16 * (j / 16) + j % 16 := by omega
 rw [e, psL_at f n (j / 16) (j % 16) (by omega) (by omega)] at hv
 have := h.rd (j / 16) (by omega) (j % 16) v hv
 rw [← e] at this
 exact this
theorem Pts.of_row {w : World} {b n : Nat} {f : Nat → Pt} {T : TypeId} (h : w.heap[b]? = some (.cells (psA f n) T (0, 0))) : Pts w b n f := by
 refine ⟨fun i hi j v hv => ?_, fun j hj => ⟨?_, frozen_of_row w b (0 + j) _ _ h⟩⟩
 ·
  have hj : j < 16 := by have := (List.getElem?_eq_some_iff.1 hv).1; rw [pL_len] at this; exact this
  rw [cell_of_row w b _ _ T _ h]
  unfold psA
  rw [List.getElem?_toArray, psL_at f n i j hi hj]; exact hv
 ·
  rw [cell_of_row w b _ _ T _ h, Nat.zero_add]
  unfold psA
  rw [List.getElem?_toArray, List.getElem?_eq_getElem (by rw [psL_len]; exact hj)]; rfl
theorem sizePw (f : Nat → Pt) : (Tryz.prog.info? 84).map (·.size) = some (psA f 4).size := by rw [psA_len]; kernel_rfl
theorem sizePwL (f : Nat → Pt) : (Tryz.prog.info? 84).map (·.size) = some (psL f 4).length := by rw [psL_len]; kernel_rfl
theorem size16P (f : Nat → Pt) : (Tryz.prog.info? 231).map (·.size) = some (psA f 16).size := by rw [psA_len]; kernel_rfl
theorem size16L (f : Nat → Pt) : (Tryz.prog.info? 231).map (·.size) = some (psL f 16).length := by rw [psL_len]; kernel_rfl
def noPt : Nat → Pt := fun _ => p0
theorem zeroPw (w : World) : (zeroValue 84).run Tryz.prog w = .ok (.agg (psA noPt 4)) w := by kernel_rfl
theorem zero16P (w : World) : (zeroValue 231).run Tryz.prog w = .ok (.agg (psA noPt 16)) w := by kernel_rfl
theorem builtPw_gen (a0 a1 a2 a3 a4 a5 a6 a7 a8 a9 a10 a11 a12 a13 a14 a15 : Value) :
  Tryz.prog.built 84 [(0, .agg #[a0, a1, a2, a3, a4, a5, a6, a7, a8, a9, a10, a11, a12, a13, a14, a15])] = some ([a0, a1, a2, a3, a4, a5, a6, a7, a8, a9, a10, a11, a12, a13, a14, a15] ++ pL p0 ++ pL p0 ++ pL p0).toArray := by kernel_rfl
theorem builtPw (p : Pt) : Tryz.prog.built 84 [(0, .agg (pA p))] = some (psA (upd noPt 0 p) 4) := by
 have e := builtPw_gen (nv (wd p.x 0)) (nv (wd p.x 1)) (nv (wd p.x 2)) (nv (wd p.x 3)) (nv (wd p.y 0)) (nv (wd p.y 1)) (nv (wd p.y 2)) (nv (wd p.y 3)) (nv (wd p.z 0)) (nv (wd p.z 1)) (nv (wd p.z 2)) (nv (wd p.z 3)) (nv (wd p.t 0)) (nv (wd p.t 1)) (nv (wd p.t 2)) (nv (wd p.t 3))
 exact e
def dblN : Nat → Pt → Pt
 | 0, p => p
 | k + 1, p => dblP (dblN k p)
theorem sizeP16 : (Tryz.prog.info? 82).map (·.size) = some 16 := by kernel_rfl
theorem underPw4 : Tryz.prog.underlying 84 = some (.array 4 82) := by kernel_rfl
theorem under16P : Tryz.prog.underlying 231 = some (.array 16 82) := by kernel_rfl
theorem idxPw (b i : Nat) (hi : i < 4) (w : World) : (Instr.indexAt 84 (.pointer (some ⟨b, 0, none⟩)) (.int .i64 i)).run Tryz.prog w = .ok (.pointer (some ⟨b, 16 * i, none⟩)) w := by
 cases hq : Tryz.prog.info? 82 with
 | none => have := sizeP16; rw [hq] at this; cases this
 | some inf =>
  have hs : inf.size = 16 := by have := sizeP16; rw [hq] at this; simpa using this
  simp [Instr.indexAt, asIntOf, run_underlying underPw4, sizeOf, typeInfo, hq, hs, Instr.sureAddr, Addr.add_mid, Nat.mul_comm]
  intro h; omega
theorem idx16 (k : IntKind) (b i : Nat) (hi : i < 16) (w : World) : (Instr.indexAt 231 (.pointer (some ⟨b, 0, none⟩)) (.int k i)).run Tryz.prog w = .ok (.pointer (some ⟨b, 16 * i, none⟩)) w := by
 cases hq : Tryz.prog.info? 82 with
 | none => have := sizeP16; rw [hq] at this; cases this
 | some inf =>
  have hs : inf.size = 16 := by have := sizeP16; rw [hq] at this; simpa using this
  simp [Instr.indexAt, asIntOf, run_underlying under16P, sizeOf, typeInfo, hq, hs, Instr.sureAddr, Addr.add_mid, Nat.mul_comm]
  intro h; omega
theorem psA_part (f : Nat → Pt) (n i : Nat) (hi : i < n) : (psA f n).extract (16 * i) (16 * i + 16) = pA (f i) := by
 apply Array.ext'
 apply List.ext_getElem?
 intro j
 rw [Array.getElem?_toList, Array.getElem?_extract, pA_L]
 unfold psA
 rw [List.size_toArray, psL_len]
 split
 ·
  rename_i h
  rw [List.getElem?_toArray, psL_at f n i j hi (by omega)]
 ·
  rename_i h
  rw [List.getElem?_eq_none (by rw [pL_len]; omega)]
theorem partP (xs : Array Value) (i : Nat) (w : World) : (part 82 xs i).run Tryz.prog w = .ok (.agg (xs.extract i (i + 16))) w := by
 cases hq : Tryz.prog.info? 82 with
 | none => have := sizeP16; rw [hq] at this; cases this
 | some inf =>
  have hs : inf.size = 16 := by have := sizeP16; rw [hq] at this; simpa using this
  simp [part, isAgg, run_underlying Tryz.underlying82, sizeOf, typeInfo, hq, hs]
theorem indexPw (f : Nat → Pt) (i : Nat) (hi : i < 4) (w : World) : (Instr.index 84 (.agg (psA f 4)) (.int .i64 i)).run Tryz.prog w = .ok (.agg (pA (f i))) w := by
 cases hq : Tryz.prog.info? 82 with
 | none => have := sizeP16; rw [hq] at this; cases this
 | some inf =>
  have hs : inf.size = 16 := by have := sizeP16; rw [hq] at this; simpa using this
  have e := psA_part f 4 i hi
  rw [Nat.mul_comm] at e
  simp [Instr.index, asIntOf, run_underlying underPw4, sizeOf, typeInfo, hq, hs, partP, e]
  intro h; omega
theorem dblN_ok {p : Pt} (hp : p.Ok) : ∀ k, (dblN k p).Ok
 | 0 => hp
 | _ + 1 => partsP_ok _ _ _ _
def pwN (p : Pt) (i : Nat) : Pt := dblN (64 * i) p
theorem dblN_add (p : Pt) (a : Nat) : ∀ b, dblN b (dblN a p) = dblN (a + b) p
 | 0 => rfl
 | b + 1 => by rw [dblN, dblN_add p a b]; rfl
theorem pwN_succ (p : Pt) (i : Nat) : dblN 64 (pwN p i) = pwN p (i + 1) := by
 unfold pwN; rw [dblN_add]; congr 1
def pwF (p : Pt) (i : Nat) : Nat → Pt := fun j => if j < i then pwN p j else p0
theorem hrunSquare {a : Act} {o : Oper} (x : Operand) (ho : o.op = .call { callee := .value (.func 161), args := #[x], argTypes := #[80] }) (v1 : Value) (hx : a.eval x = v1) (w : World) :
  (execOp a.eval o).run Tryz.prog w = .ok (.enter 161 #[v1]) w := by
 unfold execOp
 simp only [ho]
 subst hx
 go_simp
theorem feSquareA (a : Nat) (ha : a < P) (w : World) : Calls Tryz.prog 161 #[.agg (num4A a)] w fun e w' => e = .returned (.agg (num4A (mP a a))) ∧ Below w.heap.size w w' := feSquare a ha w
theorem wpAnyH_states {P : Program} {md : Region.Mode} {ops : Array Oper} {Q : Exit → Act → World → Prop} {S : World → Prop} (L : Nat → Array Bool) (F : Nat → Nat) (Inv : Nat → Act → World → Prop) (N : Nat)
  (h : ∀ s, s < N → (∀ t, s < t → t < N → ∀ fuel listed a w, fuel = F t → listed = L t → Inv t a w → wpAnyH P md ops Q S fuel listed a w) → ∀ a w, Inv s a w → wpAnyH P md ops Q S (F s) (L s) a w) :
  ∀ s, s < N → ∀ fuel listed a w, fuel = F s → listed = L s → Inv s a w → wpAnyH P md ops Q S fuel listed a w := by
 have key : ∀ k s, N - s ≤ k → s < N → ∀ fuel listed a w, fuel = F s → listed = L s → Inv s a w → wpAnyH P md ops Q S fuel listed a w := by
  intro k
  induction k with
  | zero => intro s hk hs; omega
  | succ k ihk =>
   intro s _ hs fuel listed a w hf hl hI
   subst hf hl
   exact h s hs (fun t hst ht => ihk t (by omega) ht) a w hI
 exact fun s hs => key (N - s) s (Nat.le_refl _) hs
abbrev ptD (w : World) (p : Pt) (t3 t4 t5 t11 t14 t17 : Value) : Act := { tmps := #[.agg (pA p), .pointer (some ⟨w.heap.size, 0, none⟩), .pointer (some ⟨w.heap.size + 1, 0, none⟩), t3, t4, t5, undef, undef, undef, .pointer (some ⟨w.heap.size, 0, none⟩), .agg (num4A p.x), t11, .pointer (some ⟨w.heap.size, 4, none⟩), .agg (num4A p.y), t14, .pointer (some ⟨w.heap.size, 8, none⟩), .agg (num4A p.z), t17, undef, undef, undef, undef, undef, undef, undef, undef, undef, undef, undef, undef, undef, undef, undef, undef, undef, undef, undef, undef, undef, undef, undef], defers := [] }
section
attribute [local irreducible] num4A nL pA
set_option maxRecDepth 100000 in
set_option maxHeartbeats 8000000 in
theorem ptDblA (p : Pt) (hp : p.Ok) (w : World) :
  Calls Tryz.prog 140 #[.agg (pA p)] w fun e w' => e = .returned (.agg (pA (dblP p))) ∧ Below w.heap.size w w' := by
 have hz := zeroE
 have hzp := zeroP
 have Hp := hide hp
 clear hp
 go_enter Tryz.func140, Tryz.ntmps140
 go_wp2_with fail
 obtain ⟨W0, hW0⟩ : ∃ W, W = (w.alloc (.cells (pA p) 82)).alloc (.cells (pA p0) 82) := ⟨_, rfl⟩
 have RP : Hid (W0.heap[w.heap.size]? = some (.cells (pA p) 82 (0, 0))) := by rw [hW0]; exact (heap_alloc_old _ _ (by simp)).trans (heap_alloc_new _ _)
 have RZ : Hid (W0.heap[w.heap.size + 1]? = some (.cells (pA p0) 82 (0, 0))) := by rw [hW0]; exact heap_alloc2_new _ _ _
 have BL : Hid (Below w.heap.size w W0) := by rw [hW0]; show Below _ _ _; go_grown
 rw [← hW0]
 clear hW0
 go_cut [3, 4, 5] from 9 to 17 (fun s3 s4 s5 wx => ∃ g3 g4 g5, s3 = .pointer (some ⟨g3, 0, none⟩) ∧ s4 = .pointer (some ⟨g4, 0, none⟩) ∧ s5 = .pointer (some ⟨g5, 0, none⟩) ∧ Hid (W0.heap.size ≤ g3) ∧ Hid (W0.heap.size ≤ g4) ∧ Hid (W0.heap.size ≤ g5) ∧ Hid (wx.heap[g3]? = some (.cells (num4A (mP p.x p.x)) 80 (0, 0))) ∧ Hid (wx.heap[g4]? = some (.cells (num4A (mP p.y p.y)) 80 (0, 0))) ∧ Hid (wx.heap[g5]? = some (.cells (num4A (mP p.z p.z)) 80 (0, 0))) ∧ Hid (Below W0.heap.size W0 wx))
 case first =>
  refine wp_region_held_drew (S := fun w' => w'.rangeAt (w.heap.size) 0 (nL p.x) ∧ w'.rangeAt (w.heap.size) 4 (nL p.y) ∧ w'.rangeAt (w.heap.size) 8 (nL p.z)) (by kernel_rfl) (by exact ⟨(rangeP RP.out).1, (rangeP RP.out).2.1, (rangeP RP.out).2.2.1⟩) (fun hHeld => ?_)
  obtain ⟨V1, hV1⟩ : ∃ V, V = W0.drew := ⟨_, rfl⟩
  rw [← hV1] at hHeld ⊢
  have KV1 : Hid (Below W0.heap.size W0 V1) := by rw [hV1]; exact (Below.refl _ _).drew
  clear hV1
  refine wpAnyH_take (i := 0) (oi := ⟨some 9, .fieldAddr 82 (.tmp 1) 0, 0, "point.go:90", #[], none⟩) (v := .pointer (some ⟨w.heap.size, 0, none⟩)) rfl (by kernel_rfl) (by kernel_rfl) (by kernel_rfl) (fun _ _ _ h => h) (Or.inl ⟨by rfl, fun w _ => by go_simp⟩) hHeld ?_
  simp only [zaP, zsT, zsZ, zsS]
  refine wpAnyH_take (i := 3) (oi := ⟨some 12, .fieldAddr 82 (.tmp 1) 1, 0, "point.go:90", #[], none⟩) (v := .pointer (some ⟨w.heap.size, 4, none⟩)) rfl (by kernel_rfl) (by kernel_rfl) (by kernel_rfl) (fun _ _ _ h => h) (Or.inl ⟨by rfl, fun w _ => by go_simp⟩) hHeld ?_
  simp only [zaP, zsT, zsZ, zsS]
  refine wpAnyH_take (i := 6) (oi := ⟨some 15, .fieldAddr 82 (.tmp 1) 2, 0, "point.go:90", #[], none⟩) (v := .pointer (some ⟨w.heap.size, 8, none⟩)) rfl (by kernel_rfl) (by kernel_rfl) (by kernel_rfl) (fun _ _ _ h => h) (Or.inl ⟨by rfl, fun w _ => by go_simp⟩) hHeld ?_
  simp only [zaP, zsT, zsZ, zsS]
  refine wpAnyH_take (i := 1) (oi := ⟨some 10, .load 80 (.tmp 9), 80, "point.go:90", #[zeD 0], none⟩) (v := .agg (num4A p.x)) rfl (by kernel_rfl) (by kernel_rfl) (by kernel_rfl) (fun _ _ _ h => h) (yldN (by rfl) _ rfl (w.heap.size) 0 p.x rfl (fun w h => h.1)) hHeld ?_
  simp only [zaP, zsT, zsZ, zsS]
  refine wpAnyH_take (i := 4) (oi := ⟨some 13, .load 80 (.tmp 12), 80, "point.go:90", #[zeD 3], none⟩) (v := .agg (num4A p.y)) rfl (by kernel_rfl) (by kernel_rfl) (by kernel_rfl) (fun _ _ _ h => h) (yldN (by rfl) _ rfl (w.heap.size) 4 p.y rfl (fun w h => h.2.1)) hHeld ?_
  simp only [zaP, zsT, zsZ, zsS]
  refine wpAnyH_take (i := 7) (oi := ⟨some 16, .load 80 (.tmp 15), 80, "point.go:90", #[zeD 6], none⟩) (v := .agg (num4A p.z)) rfl (by kernel_rfl) (by kernel_rfl) (by kernel_rfl) (fun _ _ _ h => h) (yldN (by rfl) _ rfl (w.heap.size) 8 p.z rfl (fun w h => h.2.2)) hHeld ?_
  simp only [zaP, zsT, zsZ, zsS]
  refine wpAnyH_states (fun s => match s with | 0 => #[true, true, false, true, true, false, true, true, false, false, false, false, false, false, false] | 1 => #[true, true, false, true, true, false, true, true, false, true, false, false, false, false, false] | 2 => #[true, true, false, true, true, false, true, true, false, false, true, false, false, false, false] | 3 => #[true, true, false, true, true, false, true, true, false, false, false, true, false, false, false] | 4 => #[true, true, true, true, true, false, true, true, false, false, false, false, false, false, false] | 5 => #[true, true, false, true, true, false, true, true, false, true, true, false, false, false, false] | 6 => #[true, true, false, true, true, false, true, true, false, true, false, true, false, false, false] | 7 => #[true, true, false, true, true, false, true, true, false, false, true, true, false, false, false] | 8 => #[true, true, true, true, true, false, true, true, false, true, false, false, false, false, false] | 9 => #[true, true, true, true, true, false, true, true, false, false, true, false, false, false, false] | 10 => #[true, true, true, true, true, false, true, true, false, false, false, true, false, false, false] | 11 => #[true, true, true, true, true, true, true, true, false, false, false, false, false, false, false] | 12 => #[true, true, false, true, true, false, true, true, false, true, true, true, false, false, false] | 13 => #[true, true, true, true, true, false, true, true, false, true, true, false, false, false, false] | 14 => #[true, true, true, true, true, false, true, true, false, true, false, true, false, false, false] | 15 => #[true, true, true, true, true, false, true, true, false, false, true, true, false, false, false] | 16 => #[true, true, true, true, true, true, true, true, false, true, false, false, false, false, false] | 17 => #[true, true, true, true, true, true, true, true, false, false, true, false, false, false, false] | 18 => #[true, true, true, true, true, true, true, true, false, false, false, true, false, false, false] | 19 => #[true, true, true, true, true, true, true, true, true, false, false, false, false, false, false] | 20 => #[true, true, true, true, true, false, true, true, false, true, true, true, false, false, false] | 21 => #[true, true, true, true, true, true, true, true, false, true, true, false, false, false, false] | 22 => #[true, true, true, true, true, true, true, true, false, true, false, true, false, false, false] | 23 => #[true, true, true, true, true, true, true, true, false, false, true, true, false, false, false] | 24 => #[true, true, true, true, true, true, true, true, true, true, false, false, false, false, false] | 25 => #[true, true, true, true, true, true, true, true, true, false, true, false, false, false, false] | 26 => #[true, true, true, true, true, true, true, true, true, false, false, true, false, false, false] | 27 => #[true, true, true, true, true, true, true, true, false, true, true, true, false, false, false] | 28 => #[true, true, true, true, true, true, true, true, true, true, true, false, false, false, false] | 29 => #[true, true, true, true, true, true, true, true, true, true, false, true, false, false, false] | 30 => #[true, true, true, true, true, true, true, true, true, false, true, true, false, false, false] | 31 => #[true, true, true, true, true, true, true, true, true, true, true, true, false, false, false] | _ => #[]) (fun s => match s with | 0 => 9 | 1 => 8 | 2 => 8 | 3 => 8 | 4 => 8 | 5 => 7 | 6 => 7 | 7 => 7 | 8 => 7 | 9 => 7 | 10 => 7 | 11 => 7 | 12 => 6 | 13 => 6 | 14 => 6 | 15 => 6 | 16 => 6 | 17 => 6 | 18 => 6 | 19 => 6 | 20 => 5 | 21 => 5 | 22 => 5 | 23 => 5 | 24 => 5 | 25 => 5 | 26 => 5 | 27 => 4 | 28 => 4 | 29 => 4 | 30 => 4 | 31 => 3 | _ => 0)
   (fun s a v => match s with | 0 => a = ptD w p undef undef undef undef undef undef ∧ Hid (Below W0.heap.size W0 v) | 1 => ∃ g3 : Nat, a = ptD w p (.pointer (some ⟨g3, 0, none⟩)) undef undef undef undef undef ∧ Hid (W0.heap.size ≤ g3) ∧ Hid (v.heap[g3]? = some (.cells (num4A 0) 80 (0, 0))) ∧ Hid (Below W0.heap.size W0 v) | 2 => ∃ g4 : Nat, a = ptD w p undef (.pointer (some ⟨g4, 0, none⟩)) undef undef undef undef ∧ Hid (W0.heap.size ≤ g4) ∧ Hid (v.heap[g4]? = some (.cells (num4A 0) 80 (0, 0))) ∧ Hid (Below W0.heap.size W0 v) | 3 => ∃ g5 : Nat, a = ptD w p undef undef (.pointer (some ⟨g5, 0, none⟩)) undef undef undef ∧ Hid (W0.heap.size ≤ g5) ∧ Hid (v.heap[g5]? = some (.cells (num4A 0) 80 (0, 0))) ∧ Hid (Below W0.heap.size W0 v) | 4 => a = ptD w p undef undef undef (.agg (num4A (mP p.x p.x))) undef undef ∧ Hid (Below W0.heap.size W0 v) | 5 => ∃ g3 : Nat, ∃ g4 : Nat, a = ptD w p (.pointer (some ⟨g3, 0, none⟩)) (.pointer (some ⟨g4, 0, none⟩)) undef undef undef undef ∧ Hid (W0.heap.size ≤ g3) ∧ Hid (W0.heap.size ≤ g4) ∧ Hid (v.heap[g3]? = some (.cells (num4A 0) 80 (0, 0))) ∧ Hid (v.heap[g4]? = some (.cells (num4A 0) 80 (0, 0))) ∧ g3 ≠ g4 ∧ Hid (Below W0.heap.size W0 v) | 6 => ∃ g3 : Nat, ∃ g5 : Nat, a = ptD w p (.pointer (some ⟨g3, 0, none⟩)) undef (.pointer (some ⟨g5, 0, none⟩)) undef undef undef ∧ Hid (W0.heap.size ≤ g3) ∧ Hid (W0.heap.size ≤ g5) ∧ Hid (v.heap[g3]? = some (.cells (num4A 0) 80 (0, 0))) ∧ Hid (v.heap[g5]? = some (.cells (num4A 0) 80 (0, 0))) ∧ g3 ≠ g5 ∧ Hid (Below W0.heap.size W0 v) | 7 => ∃ g4 : Nat, ∃ g5 : Nat, a = ptD w p undef (.pointer (some ⟨g4, 0, none⟩)) (.pointer (some ⟨g5, 0, none⟩)) undef undef undef ∧ Hid (W0.heap.size ≤ g4) ∧ Hid (W0.heap.size ≤ g5) ∧ Hid (v.heap[g4]? = some (.cells (num4A 0) 80 (0, 0))) ∧ Hid (v.heap[g5]? = some (.cells (num4A 0) 80 (0, 0))) ∧ g4 ≠ g5 ∧ Hid (Below W0.heap.size W0 v) | 8 => ∃ g3 : Nat, a = ptD w p (.pointer (some ⟨g3, 0, none⟩)) undef undef (.agg (num4A (mP p.x p.x))) undef undef ∧ Hid (W0.heap.size ≤ g3) ∧ Hid (v.heap[g3]? = some (.cells (num4A 0) 80 (0, 0))) ∧ Hid (Below W0.heap.size W0 v) | 9 => ∃ g4 : Nat, a = ptD w p undef (.pointer (some ⟨g4, 0, none⟩)) undef (.agg (num4A (mP p.x p.x))) undef undef ∧ Hid (W0.heap.size ≤ g4) ∧ Hid (v.heap[g4]? = some (.cells (num4A 0) 80 (0, 0))) ∧ Hid (Below W0.heap.size W0 v) | 10 => ∃ g5 : Nat, a = ptD w p undef undef (.pointer (some ⟨g5, 0, none⟩)) (.agg (num4A (mP p.x p.x))) undef undef ∧ Hid (W0.heap.size ≤ g5) ∧ Hid (v.heap[g5]? = some (.cells (num4A 0) 80 (0, 0))) ∧ Hid (Below W0.heap.size W0 v) | 11 => a = ptD w p undef undef undef (.agg (num4A (mP p.x p.x))) (.agg (num4A (mP p.y p.y))) undef ∧ Hid (Below W0.heap.size W0 v) | 12 => ∃ g3 : Nat, ∃ g4 : Nat, ∃ g5 : Nat, a = ptD w p (.pointer (some ⟨g3, 0, none⟩)) (.pointer (some ⟨g4, 0, none⟩)) (.pointer (some ⟨g5, 0, none⟩)) undef undef undef ∧ Hid (W0.heap.size ≤ g3) ∧ Hid (W0.heap.size ≤ g4) ∧ Hid (W0.heap.size ≤ g5) ∧ Hid (v.heap[g3]? = some (.cells (num4A 0) 80 (0, 0))) ∧ Hid (v.heap[g4]? = some (.cells (num4A 0) 80 (0, 0))) ∧ Hid (v.heap[g5]? = some (.cells (num4A 0) 80 (0, 0))) ∧ g3 ≠ g4 ∧ g3 ≠ g5 ∧ g4 ≠ g5 ∧ Hid (Below W0.heap.size W0 v) | 13 => ∃ g3 : Nat, ∃ g4 : Nat, a = ptD w p (.pointer (some ⟨g3, 0, none⟩)) (.pointer (some ⟨g4, 0, none⟩)) undef (.agg (num4A (mP p.x p.x))) undef undef ∧ Hid (W0.heap.size ≤ g3) ∧ Hid (W0.heap.size ≤ g4) ∧ Hid (v.heap[g3]? = some (.cells (num4A 0) 80 (0, 0))) ∧ Hid (v.heap[g4]? = some (.cells (num4A 0) 80 (0, 0))) ∧ g3 ≠ g4 ∧ Hid (Below W0.heap.size W0 v) | 14 => ∃ g3 : Nat, ∃ g5 : Nat, a = ptD w p (.pointer (some ⟨g3, 0, none⟩)) undef (.pointer (some ⟨g5, 0, none⟩)) (.agg (num4A (mP p.x p.x))) undef undef ∧ Hid (W0.heap.size ≤ g3) ∧ Hid (W0.heap.size ≤ g5) ∧ Hid (v.heap[g3]? = some (.cells (num4A 0) 80 (0, 0))) ∧ Hid (v.heap[g5]? = some (.cells (num4A 0) 80 (0, 0))) ∧ g3 ≠ g5 ∧ Hid (Below W0.heap.size W0 v) | 15 => ∃ g4 : Nat, ∃ g5 : Nat, a = ptD w p undef (.pointer (some ⟨g4, 0, none⟩)) (.pointer (some ⟨g5, 0, none⟩)) (.agg (num4A (mP p.x p.x))) undef undef ∧ Hid (W0.heap.size ≤ g4) ∧ Hid (W0.heap.size ≤ g5) ∧ Hid (v.heap[g4]? = some (.cells (num4A 0) 80 (0, 0))) ∧ Hid (v.heap[g5]? = some (.cells (num4A 0) 80 (0, 0))) ∧ g4 ≠ g5 ∧ Hid (Below W0.heap.size W0 v) | 16 => ∃ g3 : Nat, a = ptD w p (.pointer (some ⟨g3, 0, none⟩)) undef undef (.agg (num4A (mP p.x p.x))) (.agg (num4A (mP p.y p.y))) undef ∧ Hid (W0.heap.size ≤ g3) ∧ Hid (v.heap[g3]? = some (.cells (num4A 0) 80 (0, 0))) ∧ Hid (Below W0.heap.size W0 v) | 17 => ∃ g4 : Nat, a = ptD w p undef (.pointer (some ⟨g4, 0, none⟩)) undef (.agg (num4A (mP p.x p.x))) (.agg (num4A (mP p.y p.y))) undef ∧ Hid (W0.heap.size ≤ g4) ∧ Hid (v.heap[g4]? = some (.cells (num4A 0) 80 (0, 0))) ∧ Hid (Below W0.heap.size W0 v) | 18 => ∃ g5 : Nat, a = ptD w p undef undef (.pointer (some ⟨g5, 0, none⟩)) (.agg (num4A (mP p.x p.x))) (.agg (num4A (mP p.y p.y))) undef ∧ Hid (W0.heap.size ≤ g5) ∧ Hid (v.heap[g5]? = some (.cells (num4A 0) 80 (0, 0))) ∧ Hid (Below W0.heap.size W0 v) | 19 => a = ptD w p undef undef undef (.agg (num4A (mP p.x p.x))) (.agg (num4A (mP p.y p.y))) (.agg (num4A (mP p.z p.z))) ∧ Hid (Below W0.heap.size W0 v) | 20 => ∃ g3 : Nat, ∃ g4 : Nat, ∃ g5 : Nat, a = ptD w p (.pointer (some ⟨g3, 0, none⟩)) (.pointer (some ⟨g4, 0, none⟩)) (.pointer (some ⟨g5, 0, none⟩)) (.agg (num4A (mP p.x p.x))) undef undef ∧ Hid (W0.heap.size ≤ g3) ∧ Hid (W0.heap.size ≤ g4) ∧ Hid (W0.heap.size ≤ g5) ∧ Hid (v.heap[g3]? = some (.cells (num4A 0) 80 (0, 0))) ∧ Hid (v.heap[g4]? = some (.cells (num4A 0) 80 (0, 0))) ∧ Hid (v.heap[g5]? = some (.cells (num4A 0) 80 (0, 0))) ∧ g3 ≠ g4 ∧ g3 ≠ g5 ∧ g4 ≠ g5 ∧ Hid (Below W0.heap.size W0 v) | 21 => ∃ g3 : Nat, ∃ g4 : Nat, a = ptD w p (.pointer (some ⟨g3, 0, none⟩)) (.pointer (some ⟨g4, 0, none⟩)) undef (.agg (num4A (mP p.x p.x))) (.agg (num4A (mP p.y p.y))) undef ∧ Hid (W0.heap.size ≤ g3) ∧ Hid (W0.heap.size ≤ g4) ∧ Hid (v.heap[g3]? = some (.cells (num4A 0) 80 (0, 0))) ∧ Hid (v.heap[g4]? = some (.cells (num4A 0) 80 (0, 0))) ∧ g3 ≠ g4 ∧ Hid (Below W0.heap.size W0 v) | 22 => ∃ g3 : Nat, ∃ g5 : Nat, a = ptD w p (.pointer (some ⟨g3, 0, none⟩)) undef (.pointer (some ⟨g5, 0, none⟩)) (.agg (num4A (mP p.x p.x))) (.agg (num4A (mP p.y p.y))) undef ∧ Hid (W0.heap.size ≤ g3) ∧ Hid (W0.heap.size ≤ g5) ∧ Hid (v.heap[g3]? = some (.cells (num4A 0) 80 (0, 0))) ∧ Hid (v.heap[g5]? = some (.cells (num4A 0) 80 (0, 0))) ∧ g3 ≠ g5 ∧ Hid (Below W0.heap.size W0 v) | 23 => ∃ g4 : Nat, ∃ g5 : Nat, a = ptD w p undef (.pointer (some ⟨g4, 0, none⟩)) (.pointer (some ⟨g5, 0, none⟩)) (.agg (num4A (mP p.x p.x))) (.agg (num4A (mP p.y p.y))) undef ∧ Hid (W0.heap.size ≤ g4) ∧ Hid (W0.heap.size ≤ g5) ∧ Hid (v.heap[g4]? = some (.cells (num4A 0) 80 (0, 0))) ∧ Hid (v.heap[g5]? = some (.cells (num4A 0) 80 (0, 0))) ∧ g4 ≠ g5 ∧ Hid (Below W0.heap.size W0 v) | 24 => ∃ g3 : Nat, a = ptD w p (.pointer (some ⟨g3, 0, none⟩)) undef undef (.agg (num4A (mP p.x p.x))) (.agg (num4A (mP p.y p.y))) (.agg (num4A (mP p.z p.z))) ∧ Hid (W0.heap.size ≤ g3) ∧ Hid (v.heap[g3]? = some (.cells (num4A 0) 80 (0, 0))) ∧ Hid (Below W0.heap.size W0 v) | 25 => ∃ g4 : Nat, a = ptD w p undef (.pointer (some ⟨g4, 0, none⟩)) undef (.agg (num4A (mP p.x p.x))) (.agg (num4A (mP p.y p.y))) (.agg (num4A (mP p.z p.z))) ∧ Hid (W0.heap.size ≤ g4) ∧ Hid (v.heap[g4]? = some (.cells (num4A 0) 80 (0, 0))) ∧ Hid (Below W0.heap.size W0 v) | 26 => ∃ g5 : Nat, a = ptD w p undef undef (.pointer (some ⟨g5, 0, none⟩)) (.agg (num4A (mP p.x p.x))) (.agg (num4A (mP p.y p.y))) (.agg (num4A (mP p.z p.z))) ∧ Hid (W0.heap.size ≤ g5) ∧ Hid (v.heap[g5]? = some (.cells (num4A 0) 80 (0, 0))) ∧ Hid (Below W0.heap.size W0 v) | 27 => ∃ g3 : Nat, ∃ g4 : Nat, ∃ g5 : Nat, a = ptD w p (.pointer (some ⟨g3, 0, none⟩)) (.pointer (some ⟨g4, 0, none⟩)) (.pointer (some ⟨g5, 0, none⟩)) (.agg (num4A (mP p.x p.x))) (.agg (num4A (mP p.y p.y))) undef ∧ Hid (W0.heap.size ≤ g3) ∧ Hid (W0.heap.size ≤ g4) ∧ Hid (W0.heap.size ≤ g5) ∧ Hid (v.heap[g3]? = some (.cells (num4A 0) 80 (0, 0))) ∧ Hid (v.heap[g4]? = some (.cells (num4A 0) 80 (0, 0))) ∧ Hid (v.heap[g5]? = some (.cells (num4A 0) 80 (0, 0))) ∧ g3 ≠ g4 ∧ g3 ≠ g5 ∧ g4 ≠ g5 ∧ Hid (Below W0.heap.size W0 v) | 28 => ∃ g3 : Nat, ∃ g4 : Nat, a = ptD w p (.pointer (some ⟨g3, 0, none⟩)) (.pointer (some ⟨g4, 0, none⟩)) undef (.agg (num4A (mP p.x p.x))) (.agg (num4A (mP p.y p.y))) (.agg (num4A (mP p.z p.z))) ∧ Hid (W0.heap.size ≤ g3) ∧ Hid (W0.heap.size ≤ g4) ∧ Hid (v.heap[g3]? = some (.cells (num4A 0) 80 (0, 0))) ∧ Hid (v.heap[g4]? = some (.cells (num4A 0) 80 (0, 0))) ∧ g3 ≠ g4 ∧ Hid (Below W0.heap.size W0 v) | 29 => ∃ g3 : Nat, ∃ g5 : Nat, a = ptD w p (.pointer (some ⟨g3, 0, none⟩)) undef (.pointer (some ⟨g5, 0, none⟩)) (.agg (num4A (mP p.x p.x))) (.agg (num4A (mP p.y p.y))) (.agg (num4A (mP p.z p.z))) ∧ Hid (W0.heap.size ≤ g3) ∧ Hid (W0.heap.size ≤ g5) ∧ Hid (v.heap[g3]? = some (.cells (num4A 0) 80 (0, 0))) ∧ Hid (v.heap[g5]? = some (.cells (num4A 0) 80 (0, 0))) ∧ g3 ≠ g5 ∧ Hid (Below W0.heap.size W0 v) | 30 => ∃ g4 : Nat, ∃ g5 : Nat, a = ptD w p undef (.pointer (some ⟨g4, 0, none⟩)) (.pointer (some ⟨g5, 0, none⟩)) (.agg (num4A (mP p.x p.x))) (.agg (num4A (mP p.y p.y))) (.agg (num4A (mP p.z p.z))) ∧ Hid (W0.heap.size ≤ g4) ∧ Hid (W0.heap.size ≤ g5) ∧ Hid (v.heap[g4]? = some (.cells (num4A 0) 80 (0, 0))) ∧ Hid (v.heap[g5]? = some (.cells (num4A 0) 80 (0, 0))) ∧ g4 ≠ g5 ∧ Hid (Below W0.heap.size W0 v) | 31 => ∃ g3 : Nat, ∃ g4 : Nat, ∃ g5 : Nat, a = ptD w p (.pointer (some ⟨g3, 0, none⟩)) (.pointer (some ⟨g4, 0, none⟩)) (.pointer (some ⟨g5, 0, none⟩)) (.agg (num4A (mP p.x p.x))) (.agg (num4A (mP p.y p.y))) (.agg (num4A (mP p.z p.z))) ∧ Hid (W0.heap.size ≤ g3) ∧ Hid (W0.heap.size ≤ g4) ∧ Hid (W0.heap.size ≤ g5) ∧ Hid (v.heap[g3]? = some (.cells (num4A 0) 80 (0, 0))) ∧ Hid (v.heap[g4]? = some (.cells (num4A 0) 80 (0, 0))) ∧ Hid (v.heap[g5]? = some (.cells (num4A 0) 80 (0, 0))) ∧ g3 ≠ g4 ∧ g3 ≠ g5 ∧ g4 ≠ g5 ∧ Hid (Below W0.heap.size W0 v) | _ => False) 32 ?_ 0 (by decide) _ _ _ _ (by rfl) (by kernel_rfl) ⟨rfl, KV1⟩
  clear hHeld KV1
  intro s hs ih a v hI
  match s, hs, ih, hI with
  | 0, _, ih, hI =>
   dsimp only [ptD] at hI
   obtain ⟨rfl, KV⟩ := hI
   refine wpAnyH_ready (rs := [2, 9, 10, 11]) (by kernel_rfl) (by simp) ?_
   refine AllReadyH.cons (o := ⟨some 11, .call ⟨.value (.func 161), #[.tmp 10], #[80]⟩, 80, "point.go:90", #[zeD 1], none⟩) rfl (fun K hK => ?_) ?_
   ·
    refine step_callTo (by rfl) _ _ (hrunSquare _ rfl (.agg (num4A p.x)) rfl v) _ _ (feSquareA p.x Hp.out.x v) (fun V2 HBx => ?_)
    have KV2 := kTr KV HBx
    refine hK.out _ _ ?_ (fun _ => ?_)
    · exact ⟨kPx RP KV2, kPy RP KV2, kPz RP KV2⟩
    try simp only [zaP, zsT, zsZ, zsS]
    exact ih 4 (by decide) (by decide) _ _ _ _ (by rfl) (by kernel_rfl) ⟨rfl, KV2⟩
   refine AllReadyH.cons (o := oPtMul7) rfl (fun K hK => ?_) ?_
   ·
    refine step_runTo (w' := v.alloc (.cells (num4A 0) 80)) (by rfl) (.pointer (some ⟨v.heap.size, 0, none⟩)) (hrunAllocE rfl v) ?_
    have KV2 := kAl KV (.cells (num4A 0) 80)
    refine hK.out _ _ ?_ (fun _ => ?_)
    · exact ⟨kPx RP KV2, kPy RP KV2, kPz RP KV2⟩
    try simp only [zaP, zsT, zsZ, zsS]
    exact ih 1 (by decide) (by decide) _ _ _ _ (by rfl) (by kernel_rfl) ⟨v.heap.size, rfl, KV.out.size, heap_alloc_new _ _, KV2⟩
   refine AllReadyH.cons (o := oPtMul8) rfl (fun K hK => ?_) ?_
   ·
    refine step_runTo (w' := v.alloc (.cells (num4A 0) 80)) (by rfl) (.pointer (some ⟨v.heap.size, 0, none⟩)) (hrunAllocE rfl v) ?_
    have KV2 := kAl KV (.cells (num4A 0) 80)
    refine hK.out _ _ ?_ (fun _ => ?_)
    · exact ⟨kPx RP KV2, kPy RP KV2, kPz RP KV2⟩
    try simp only [zaP, zsT, zsZ, zsS]
    exact ih 2 (by decide) (by decide) _ _ _ _ (by rfl) (by kernel_rfl) ⟨v.heap.size, rfl, KV.out.size, heap_alloc_new _ _, KV2⟩
   refine AllReadyH.cons (o := oPtMul9) rfl (fun K hK => ?_) ?_
   ·
    refine step_runTo (w' := v.alloc (.cells (num4A 0) 80)) (by rfl) (.pointer (some ⟨v.heap.size, 0, none⟩)) (hrunAllocE rfl v) ?_
    have KV2 := kAl KV (.cells (num4A 0) 80)
    refine hK.out _ _ ?_ (fun _ => ?_)
    · exact ⟨kPx RP KV2, kPy RP KV2, kPz RP KV2⟩
    try simp only [zaP, zsT, zsZ, zsS]
    exact ih 3 (by decide) (by decide) _ _ _ _ (by rfl) (by kernel_rfl) ⟨v.heap.size, rfl, KV.out.size, heap_alloc_new _ _, KV2⟩
   exact AllReadyH.nil
  | 1, _, ih, hI =>
   dsimp only [ptD] at hI
   obtain ⟨g3, rfl, G3, Z3, KV⟩ := hI
   refine wpAnyH_ready (rs := [2, 10, 11]) (by kernel_rfl) (by simp) ?_
   refine AllReadyH.cons (o := ⟨some 11, .call ⟨.value (.func 161), #[.tmp 10], #[80]⟩, 80, "point.go:90", #[zeD 1], none⟩) rfl (fun K hK => ?_) ?_
   ·
    refine step_callTo (by rfl) _ _ (hrunSquare _ rfl (.agg (num4A p.x)) rfl v) _ _ (feSquareA p.x Hp.out.x v) (fun V2 HBx => ?_)
    have KV2 := kTr KV HBx
    have Z3 := hide (row_keep' Z3.out HBx)
    refine hK.out _ _ ?_ (fun _ => ?_)
    · exact ⟨kPx RP KV2, kPy RP KV2, kPz RP KV2⟩
    try simp only [zaP, zsT, zsZ, zsS]
    exact ih 8 (by decide) (by decide) _ _ _ _ (by rfl) (by kernel_rfl) ⟨g3, rfl, G3, Z3, KV2⟩
   refine AllReadyH.cons (o := oPtMul8) rfl (fun K hK => ?_) ?_
   ·
    refine step_runTo (w' := v.alloc (.cells (num4A 0) 80)) (by rfl) (.pointer (some ⟨v.heap.size, 0, none⟩)) (hrunAllocE rfl v) ?_
    have KV2 := kAl KV (.cells (num4A 0) 80)
    refine hK.out _ _ ?_ (fun _ => ?_)
    · exact ⟨kPx RP KV2, kPy RP KV2, kPz RP KV2⟩
    try simp only [zaP, zsT, zsZ, zsS]
    exact ih 5 (by decide) (by decide) _ _ _ _ (by rfl) (by kernel_rfl) ⟨g3, v.heap.size, rfl, G3, KV.out.size, (heap_alloc_old _ _ (lt_row Z3.out)).trans Z3.out, heap_alloc_new _ _, Nat.ne_of_lt (lt_row Z3.out), KV2⟩
   refine AllReadyH.cons (o := oPtMul9) rfl (fun K hK => ?_) ?_
   ·
    refine step_runTo (w' := v.alloc (.cells (num4A 0) 80)) (by rfl) (.pointer (some ⟨v.heap.size, 0, none⟩)) (hrunAllocE rfl v) ?_
    have KV2 := kAl KV (.cells (num4A 0) 80)
    refine hK.out _ _ ?_ (fun _ => ?_)
    · exact ⟨kPx RP KV2, kPy RP KV2, kPz RP KV2⟩
    try simp only [zaP, zsT, zsZ, zsS]
    exact ih 6 (by decide) (by decide) _ _ _ _ (by rfl) (by kernel_rfl) ⟨g3, v.heap.size, rfl, G3, KV.out.size, (heap_alloc_old _ _ (lt_row Z3.out)).trans Z3.out, heap_alloc_new _ _, Nat.ne_of_lt (lt_row Z3.out), KV2⟩
   exact AllReadyH.nil
  | 2, _, ih, hI =>
   dsimp only [ptD] at hI
   obtain ⟨g4, rfl, G4, Z4, KV⟩ := hI
   refine wpAnyH_ready (rs := [2, 9, 11]) (by kernel_rfl) (by simp) ?_
   refine AllReadyH.cons (o := ⟨some 11, .call ⟨.value (.func 161), #[.tmp 10], #[80]⟩, 80, "point.go:90", #[zeD 1], none⟩) rfl (fun K hK => ?_) ?_
   ·
    refine step_callTo (by rfl) _ _ (hrunSquare _ rfl (.agg (num4A p.x)) rfl v) _ _ (feSquareA p.x Hp.out.x v) (fun V2 HBx => ?_)
    have KV2 := kTr KV HBx
    have Z4 := hide (row_keep' Z4.out HBx)
    refine hK.out _ _ ?_ (fun _ => ?_)
    · exact ⟨kPx RP KV2, kPy RP KV2, kPz RP KV2⟩
    try simp only [zaP, zsT, zsZ, zsS]
    exact ih 9 (by decide) (by decide) _ _ _ _ (by rfl) (by kernel_rfl) ⟨g4, rfl, G4, Z4, KV2⟩
   refine AllReadyH.cons (o := oPtMul7) rfl (fun K hK => ?_) ?_
   ·
    refine step_runTo (w' := v.alloc (.cells (num4A 0) 80)) (by rfl) (.pointer (some ⟨v.heap.size, 0, none⟩)) (hrunAllocE rfl v) ?_
    have KV2 := kAl KV (.cells (num4A 0) 80)
    refine hK.out _ _ ?_ (fun _ => ?_)
    · exact ⟨kPx RP KV2, kPy RP KV2, kPz RP KV2⟩
    try simp only [zaP, zsT, zsZ, zsS]
    exact ih 5 (by decide) (by decide) _ _ _ _ (by rfl) (by kernel_rfl) ⟨v.heap.size, g4, rfl, KV.out.size, G4, heap_alloc_new _ _, (heap_alloc_old _ _ (lt_row Z4.out)).trans Z4.out, Nat.ne_of_gt (lt_row Z4.out), KV2⟩
   refine AllReadyH.cons (o := oPtMul9) rfl (fun K hK => ?_) ?_
   ·
    refine step_runTo (w' := v.alloc (.cells (num4A 0) 80)) (by rfl) (.pointer (some ⟨v.heap.size, 0, none⟩)) (hrunAllocE rfl v) ?_
    have KV2 := kAl KV (.cells (num4A 0) 80)
    refine hK.out _ _ ?_ (fun _ => ?_)
    · exact ⟨kPx RP KV2, kPy RP KV2, kPz RP KV2⟩
    try simp only [zaP, zsT, zsZ, zsS]
    exact ih 7 (by decide) (by decide) _ _ _ _ (by rfl) (by kernel_rfl) ⟨g4, v.heap.size, rfl, G4, KV.out.size, (heap_alloc_old _ _ (lt_row Z4.out)).trans Z4.out, heap_alloc_new _ _, Nat.ne_of_lt (lt_row Z4.out), KV2⟩
   exact AllReadyH.nil
  | 3, _, ih, hI =>
   dsimp only [ptD] at hI
   obtain ⟨g5, rfl, G5, Z5, KV⟩ := hI
   refine wpAnyH_ready (rs := [2, 9, 10]) (by kernel_rfl) (by simp) ?_
   refine AllReadyH.cons (o := ⟨some 11, .call ⟨.value (.func 161), #[.tmp 10], #[80]⟩, 80, "point.go:90", #[zeD 1], none⟩) rfl (fun K hK => ?_) ?_
   ·
    refine step_callTo (by rfl) _ _ (hrunSquare _ rfl (.agg (num4A p.x)) rfl v) _ _ (feSquareA p.x Hp.out.x v) (fun V2 HBx => ?_)
    have KV2 := kTr KV HBx
    have Z5 := hide (row_keep' Z5.out HBx)
    refine hK.out _ _ ?_ (fun _ => ?_)
    · exact ⟨kPx RP KV2, kPy RP KV2, kPz RP KV2⟩
    try simp only [zaP, zsT, zsZ, zsS]
    exact ih 10 (by decide) (by decide) _ _ _ _ (by rfl) (by kernel_rfl) ⟨g5, rfl, G5, Z5, KV2⟩
   refine AllReadyH.cons (o := oPtMul7) rfl (fun K hK => ?_) ?_
   ·
    refine step_runTo (w' := v.alloc (.cells (num4A 0) 80)) (by rfl) (.pointer (some ⟨v.heap.size, 0, none⟩)) (hrunAllocE rfl v) ?_
    have KV2 := kAl KV (.cells (num4A 0) 80)
    refine hK.out _ _ ?_ (fun _ => ?_)
    · exact ⟨kPx RP KV2, kPy RP KV2, kPz RP KV2⟩
    try simp only [zaP, zsT, zsZ, zsS]
    exact ih 6 (by decide) (by decide) _ _ _ _ (by rfl) (by kernel_rfl) ⟨v.heap.size, g5, rfl, KV.out.size, G5, heap_alloc_new _ _, (heap_alloc_old _ _ (lt_row Z5.out)).trans Z5.out, Nat.ne_of_gt (lt_row Z5.out), KV2⟩
   refine AllReadyH.cons (o := oPtMul8) rfl (fun K hK => ?_) ?_
   ·
    refine step_runTo (w' := v.alloc (.cells (num4A 0) 80)) (by rfl) (.pointer (some ⟨v.heap.size, 0, none⟩)) (hrunAllocE rfl v) ?_
    have KV2 := kAl KV (.cells (num4A 0) 80)
    refine hK.out _ _ ?_ (fun _ => ?_)
    · exact ⟨kPx RP KV2, kPy RP KV2, kPz RP KV2⟩
    try simp only [zaP, zsT, zsZ, zsS]
    exact ih 7 (by decide) (by decide) _ _ _ _ (by rfl) (by kernel_rfl) ⟨v.heap.size, g5, rfl, KV.out.size, G5, heap_alloc_new _ _, (heap_alloc_old _ _ (lt_row Z5.out)).trans Z5.out, Nat.ne_of_gt (lt_row Z5.out), KV2⟩
   exact AllReadyH.nil
  | 4, _, ih, hI =>
   dsimp only [ptD] at hI
   obtain ⟨rfl, KV⟩ := hI
   refine wpAnyH_ready (rs := [5, 9, 10, 11]) (by kernel_rfl) (by simp) ?_
   refine AllReadyH.cons (o := ⟨some 14, .call ⟨.value (.func 161), #[.tmp 13], #[80]⟩, 80, "point.go:90", #[zeD 4, zeC 2], none⟩) rfl (fun K hK => ?_) ?_
   ·
    refine step_callTo (by rfl) _ _ (hrunSquare _ rfl (.agg (num4A p.y)) rfl v) _ _ (feSquareA p.y Hp.out.y v) (fun V2 HBx => ?_)
    have KV2 := kTr KV HBx
    refine hK.out _ _ ?_ (fun _ => ?_)
    · exact ⟨kPx RP KV2, kPy RP KV2, kPz RP KV2⟩
    try simp only [zaP, zsT, zsZ, zsS]
    exact ih 11 (by decide) (by decide) _ _ _ _ (by rfl) (by kernel_rfl) ⟨rfl, KV2⟩
   refine AllReadyH.cons (o := oPtMul7) rfl (fun K hK => ?_) ?_
   ·
    refine step_runTo (w' := v.alloc (.cells (num4A 0) 80)) (by rfl) (.pointer (some ⟨v.heap.size, 0, none⟩)) (hrunAllocE rfl v) ?_
    have KV2 := kAl KV (.cells (num4A 0) 80)
    refine hK.out _ _ ?_ (fun _ => ?_)
    · exact ⟨kPx RP KV2, kPy RP KV2, kPz RP KV2⟩
    try simp only [zaP, zsT, zsZ, zsS]
    exact ih 8 (by decide) (by decide) _ _ _ _ (by rfl) (by kernel_rfl) ⟨v.heap.size, rfl, KV.out.size, heap_alloc_new _ _, KV2⟩
   refine AllReadyH.cons (o := oPtMul8) rfl (fun K hK => ?_) ?_
   ·
    refine step_runTo (w' := v.alloc (.cells (num4A 0) 80)) (by rfl) (.pointer (some ⟨v.heap.size, 0, none⟩)) (hrunAllocE rfl v) ?_
    have KV2 := kAl KV (.cells (num4A 0) 80)
    refine hK.out _ _ ?_ (fun _ => ?_)
    · exact ⟨kPx RP KV2, kPy RP KV2, kPz RP KV2⟩
    try simp only [zaP, zsT, zsZ, zsS]
    exact ih 9 (by decide) (by decide) _ _ _ _ (by rfl) (by kernel_rfl) ⟨v.heap.size, rfl, KV.out.size, heap_alloc_new _ _, KV2⟩
   refine AllReadyH.cons (o := oPtMul9) rfl (fun K hK => ?_) ?_
   ·
    refine step_runTo (w' := v.alloc (.cells (num4A 0) 80)) (by rfl) (.pointer (some ⟨v.heap.size, 0, none⟩)) (hrunAllocE rfl v) ?_
    have KV2 := kAl KV (.cells (num4A 0) 80)
    refine hK.out _ _ ?_ (fun _ => ?_)
    · exact ⟨kPx RP KV2, kPy RP KV2, kPz RP KV2⟩
    try simp only [zaP, zsT, zsZ, zsS]
    exact ih 10 (by decide) (by decide) _ _ _ _ (by rfl) (by kernel_rfl) ⟨v.heap.size, rfl, KV.out.size, heap_alloc_new _ _, KV2⟩
   exact AllReadyH.nil
  | 5, _, ih, hI =>
   dsimp only [ptD] at hI
   obtain ⟨g3, g4, rfl, G3, G4, Z3, Z4, D34, KV⟩ := hI
   refine wpAnyH_ready (rs := [2, 11]) (by kernel_rfl) (by simp) ?_
   refine AllReadyH.cons (o := ⟨some 11, .call ⟨.value (.func 161), #[.tmp 10], #[80]⟩, 80, "point.go:90", #[zeD 1], none⟩) rfl (fun K hK => ?_) ?_
   ·
    refine step_callTo (by rfl) _ _ (hrunSquare _ rfl (.agg (num4A p.x)) rfl v) _ _ (feSquareA p.x Hp.out.x v) (fun V2 HBx => ?_)
    have KV2 := kTr KV HBx
    have Z3 := hide (row_keep' Z3.out HBx)
    have Z4 := hide (row_keep' Z4.out HBx)
    refine hK.out _ _ ?_ (fun _ => ?_)
    · exact ⟨kPx RP KV2, kPy RP KV2, kPz RP KV2⟩
    try simp only [zaP, zsT, zsZ, zsS]
    exact ih 13 (by decide) (by decide) _ _ _ _ (by rfl) (by kernel_rfl) ⟨g3, g4, rfl, G3, G4, Z3, Z4, D34, KV2⟩
   refine AllReadyH.cons (o := oPtMul9) rfl (fun K hK => ?_) ?_
   ·
    refine step_runTo (w' := v.alloc (.cells (num4A 0) 80)) (by rfl) (.pointer (some ⟨v.heap.size, 0, none⟩)) (hrunAllocE rfl v) ?_
    have KV2 := kAl KV (.cells (num4A 0) 80)
    refine hK.out _ _ ?_ (fun _ => ?_)
    · exact ⟨kPx RP KV2, kPy RP KV2, kPz RP KV2⟩
    try simp only [zaP, zsT, zsZ, zsS]
    exact ih 12 (by decide) (by decide) _ _ _ _ (by rfl) (by kernel_rfl) ⟨g3, g4, v.heap.size, rfl, G3, G4, KV.out.size, (heap_alloc_old _ _ (lt_row Z3.out)).trans Z3.out, (heap_alloc_old _ _ (lt_row Z4.out)).trans Z4.out, heap_alloc_new _ _, D34, Nat.ne_of_lt (lt_row Z3.out), Nat.ne_of_lt (lt_row Z4.out), KV2⟩
   exact AllReadyH.nil
  | 6, _, ih, hI =>
   dsimp only [ptD] at hI
   obtain ⟨g3, g5, rfl, G3, G5, Z3, Z5, D35, KV⟩ := hI
   refine wpAnyH_ready (rs := [2, 10]) (by kernel_rfl) (by simp) ?_
   refine AllReadyH.cons (o := ⟨some 11, .call ⟨.value (.func 161), #[.tmp 10], #[80]⟩, 80, "point.go:90", #[zeD 1], none⟩) rfl (fun K hK => ?_) ?_
   ·
    refine step_callTo (by rfl) _ _ (hrunSquare _ rfl (.agg (num4A p.x)) rfl v) _ _ (feSquareA p.x Hp.out.x v) (fun V2 HBx => ?_)
    have KV2 := kTr KV HBx
    have Z3 := hide (row_keep' Z3.out HBx)
    have Z5 := hide (row_keep' Z5.out HBx)
    refine hK.out _ _ ?_ (fun _ => ?_)
    · exact ⟨kPx RP KV2, kPy RP KV2, kPz RP KV2⟩
    try simp only [zaP, zsT, zsZ, zsS]
    exact ih 14 (by decide) (by decide) _ _ _ _ (by rfl) (by kernel_rfl) ⟨g3, g5, rfl, G3, G5, Z3, Z5, D35, KV2⟩
   refine AllReadyH.cons (o := oPtMul8) rfl (fun K hK => ?_) ?_
   ·
    refine step_runTo (w' := v.alloc (.cells (num4A 0) 80)) (by rfl) (.pointer (some ⟨v.heap.size, 0, none⟩)) (hrunAllocE rfl v) ?_
    have KV2 := kAl KV (.cells (num4A 0) 80)
    refine hK.out _ _ ?_ (fun _ => ?_)
    · exact ⟨kPx RP KV2, kPy RP KV2, kPz RP KV2⟩
    try simp only [zaP, zsT, zsZ, zsS]
    exact ih 12 (by decide) (by decide) _ _ _ _ (by rfl) (by kernel_rfl) ⟨g3, v.heap.size, g5, rfl, G3, KV.out.size, G5, (heap_alloc_old _ _ (lt_row Z3.out)).trans Z3.out, heap_alloc_new _ _, (heap_alloc_old _ _ (lt_row Z5.out)).trans Z5.out, Nat.ne_of_lt (lt_row Z3.out), D35, Nat.ne_of_gt (lt_row Z5.out), KV2⟩
   exact AllReadyH.nil
  | 7, _, ih, hI =>
   dsimp only [ptD] at hI
   obtain ⟨g4, g5, rfl, G4, G5, Z4, Z5, D45, KV⟩ := hI
   refine wpAnyH_ready (rs := [2, 9]) (by kernel_rfl) (by simp) ?_
   refine AllReadyH.cons (o := ⟨some 11, .call ⟨.value (.func 161), #[.tmp 10], #[80]⟩, 80, "point.go:90", #[zeD 1], none⟩) rfl (fun K hK => ?_) ?_
   ·
    refine step_callTo (by rfl) _ _ (hrunSquare _ rfl (.agg (num4A p.x)) rfl v) _ _ (feSquareA p.x Hp.out.x v) (fun V2 HBx => ?_)
    have KV2 := kTr KV HBx
    have Z4 := hide (row_keep' Z4.out HBx)
    have Z5 := hide (row_keep' Z5.out HBx)
    refine hK.out _ _ ?_ (fun _ => ?_)
    · exact ⟨kPx RP KV2, kPy RP KV2, kPz RP KV2⟩
    try simp only [zaP, zsT, zsZ, zsS]
    exact ih 15 (by decide) (by decide) _ _ _ _ (by rfl) (by kernel_rfl) ⟨g4, g5, rfl, G4, G5, Z4, Z5, D45, KV2⟩
   refine AllReadyH.cons (o := oPtMul7) rfl (fun K hK => ?_) ?_
   ·
    refine step_runTo (w' := v.alloc (.cells (num4A 0) 80)) (by rfl) (.pointer (some ⟨v.heap.size, 0, none⟩)) (hrunAllocE rfl v) ?_
    have KV2 := kAl KV (.cells (num4A 0) 80)
    refine hK.out _ _ ?_ (fun _ => ?_)
    · exact ⟨kPx RP KV2, kPy RP KV2, kPz RP KV2⟩
    try simp only [zaP, zsT, zsZ, zsS]
    exact ih 12 (by decide) (by decide) _ _ _ _ (by rfl) (by kernel_rfl) ⟨v.heap.size, g4, g5, rfl, KV.out.size, G4, G5, heap_alloc_new _ _, (heap_alloc_old _ _ (lt_row Z4.out)).trans Z4.out, (heap_alloc_old _ _ (lt_row Z5.out)).trans Z5.out, Nat.ne_of_gt (lt_row Z4.out), Nat.ne_of_gt (lt_row Z5.out), D45, KV2⟩
   exact AllReadyH.nil
  | 8, _, ih, hI =>
   dsimp only [ptD] at hI
   obtain ⟨g3, rfl, G3, Z3, KV⟩ := hI
   refine wpAnyH_ready (rs := [5, 10, 11]) (by kernel_rfl) (by simp) ?_
   refine AllReadyH.cons (o := ⟨some 14, .call ⟨.value (.func 161), #[.tmp 13], #[80]⟩, 80, "point.go:90", #[zeD 4, zeC 2], none⟩) rfl (fun K hK => ?_) ?_
   ·
    refine step_callTo (by rfl) _ _ (hrunSquare _ rfl (.agg (num4A p.y)) rfl v) _ _ (feSquareA p.y Hp.out.y v) (fun V2 HBx => ?_)
    have KV2 := kTr KV HBx
    have Z3 := hide (row_keep' Z3.out HBx)
    refine hK.out _ _ ?_ (fun _ => ?_)
    · exact ⟨kPx RP KV2, kPy RP KV2, kPz RP KV2⟩
    try simp only [zaP, zsT, zsZ, zsS]
    exact ih 16 (by decide) (by decide) _ _ _ _ (by rfl) (by kernel_rfl) ⟨g3, rfl, G3, Z3, KV2⟩
   refine AllReadyH.cons (o := oPtMul8) rfl (fun K hK => ?_) ?_
   ·
    refine step_runTo (w' := v.alloc (.cells (num4A 0) 80)) (by rfl) (.pointer (some ⟨v.heap.size, 0, none⟩)) (hrunAllocE rfl v) ?_
    have KV2 := kAl KV (.cells (num4A 0) 80)
    refine hK.out _ _ ?_ (fun _ => ?_)
    · exact ⟨kPx RP KV2, kPy RP KV2, kPz RP KV2⟩
    try simp only [zaP, zsT, zsZ, zsS]
    exact ih 13 (by decide) (by decide) _ _ _ _ (by rfl) (by kernel_rfl) ⟨g3, v.heap.size, rfl, G3, KV.out.size, (heap_alloc_old _ _ (lt_row Z3.out)).trans Z3.out, heap_alloc_new _ _, Nat.ne_of_lt (lt_row Z3.out), KV2⟩
   refine AllReadyH.cons (o := oPtMul9) rfl (fun K hK => ?_) ?_
   ·
    refine step_runTo (w' := v.alloc (.cells (num4A 0) 80)) (by rfl) (.pointer (some ⟨v.heap.size, 0, none⟩)) (hrunAllocE rfl v) ?_
    have KV2 := kAl KV (.cells (num4A 0) 80)
    refine hK.out _ _ ?_ (fun _ => ?_)
    · exact ⟨kPx RP KV2, kPy RP KV2, kPz RP KV2⟩
    try simp only [zaP, zsT, zsZ, zsS]
    exact ih 14 (by decide) (by decide) _ _ _ _ (by rfl) (by kernel_rfl) ⟨g3, v.heap.size, rfl, G3, KV.out.size, (heap_alloc_old _ _ (lt_row Z3.out)).trans Z3.out, heap_alloc_new _ _, Nat.ne_of_lt (lt_row Z3.out), KV2⟩
   exact AllReadyH.nil
  | 9, _, ih, hI =>
   dsimp only [ptD] at hI
   obtain ⟨g4, rfl, G4, Z4, KV⟩ := hI
   refine wpAnyH_ready (rs := [5, 9, 11]) (by kernel_rfl) (by simp) ?_
   refine AllReadyH.cons (o := ⟨some 14, .call ⟨.value (.func 161), #[.tmp 13], #[80]⟩, 80, "point.go:90", #[zeD 4, zeC 2], none⟩) rfl (fun K hK => ?_) ?_
   ·
    refine step_callTo (by rfl) _ _ (hrunSquare _ rfl (.agg (num4A p.y)) rfl v) _ _ (feSquareA p.y Hp.out.y v) (fun V2 HBx => ?_)
    have KV2 := kTr KV HBx
    have Z4 := hide (row_keep' Z4.out HBx)
    refine hK.out _ _ ?_ (fun _ => ?_)
    · exact ⟨kPx RP KV2, kPy RP KV2, kPz RP KV2⟩
    try simp only [zaP, zsT, zsZ, zsS]
    exact ih 17 (by decide) (by decide) _ _ _ _ (by rfl) (by kernel_rfl) ⟨g4, rfl, G4, Z4, KV2⟩
   refine AllReadyH.cons (o := oPtMul7) rfl (fun K hK => ?_) ?_
   ·
    refine step_runTo (w' := v.alloc (.cells (num4A 0) 80)) (by rfl) (.pointer (some ⟨v.heap.size, 0, none⟩)) (hrunAllocE rfl v) ?_
    have KV2 := kAl KV (.cells (num4A 0) 80)
    refine hK.out _ _ ?_ (fun _ => ?_)
    · exact ⟨kPx RP KV2, kPy RP KV2, kPz RP KV2⟩
    try simp only [zaP, zsT, zsZ, zsS]
    exact ih 13 (by decide) (by decide) _ _ _ _ (by rfl) (by kernel_rfl) ⟨v.heap.size, g4, rfl, KV.out.size, G4, heap_alloc_new _ _, (heap_alloc_old _ _ (lt_row Z4.out)).trans Z4.out, Nat.ne_of_gt (lt_row Z4.out), KV2⟩
   refine AllReadyH.cons (o := oPtMul9) rfl (fun K hK => ?_) ?_
   ·
    refine step_runTo (w' := v.alloc (.cells (num4A 0) 80)) (by rfl) (.pointer (some ⟨v.heap.size, 0, none⟩)) (hrunAllocE rfl v) ?_
    have KV2 := kAl KV (.cells (num4A 0) 80)
    refine hK.out _ _ ?_ (fun _ => ?_)
    · exact ⟨kPx RP KV2, kPy RP KV2, kPz RP KV2⟩
    try simp only [zaP, zsT, zsZ, zsS]
    exact ih 15 (by decide) (by decide) _ _ _ _ (by rfl) (by kernel_rfl) ⟨g4, v.heap.size, rfl, G4, KV.out.size, (heap_alloc_old _ _ (lt_row Z4.out)).trans Z4.out, heap_alloc_new _ _, Nat.ne_of_lt (lt_row Z4.out), KV2⟩
   exact AllReadyH.nil
  | 10, _, ih, hI =>
   dsimp only [ptD] at hI
   obtain ⟨g5, rfl, G5, Z5, KV⟩ := hI
   refine wpAnyH_ready (rs := [5, 9, 10]) (by kernel_rfl) (by simp) ?_
   refine AllReadyH.cons (o := ⟨some 14, .call ⟨.value (.func 161), #[.tmp 13], #[80]⟩, 80, "point.go:90", #[zeD 4, zeC 2], none⟩) rfl (fun K hK => ?_) ?_
   ·
    refine step_callTo (by rfl) _ _ (hrunSquare _ rfl (.agg (num4A p.y)) rfl v) _ _ (feSquareA p.y Hp.out.y v) (fun V2 HBx => ?_)
    have KV2 := kTr KV HBx
    have Z5 := hide (row_keep' Z5.out HBx)
    refine hK.out _ _ ?_ (fun _ => ?_)
    · exact ⟨kPx RP KV2, kPy RP KV2, kPz RP KV2⟩
    try simp only [zaP, zsT, zsZ, zsS]
    exact ih 18 (by decide) (by decide) _ _ _ _ (by rfl) (by kernel_rfl) ⟨g5, rfl, G5, Z5, KV2⟩
   refine AllReadyH.cons (o := oPtMul7) rfl (fun K hK => ?_) ?_
   ·
    refine step_runTo (w' := v.alloc (.cells (num4A 0) 80)) (by rfl) (.pointer (some ⟨v.heap.size, 0, none⟩)) (hrunAllocE rfl v) ?_
    have KV2 := kAl KV (.cells (num4A 0) 80)
    refine hK.out _ _ ?_ (fun _ => ?_)
    · exact ⟨kPx RP KV2, kPy RP KV2, kPz RP KV2⟩
    try simp only [zaP, zsT, zsZ, zsS]
    exact ih 14 (by decide) (by decide) _ _ _ _ (by rfl) (by kernel_rfl) ⟨v.heap.size, g5, rfl, KV.out.size, G5, heap_alloc_new _ _, (heap_alloc_old _ _ (lt_row Z5.out)).trans Z5.out, Nat.ne_of_gt (lt_row Z5.out), KV2⟩
   refine AllReadyH.cons (o := oPtMul8) rfl (fun K hK => ?_) ?_
   ·
    refine step_runTo (w' := v.alloc (.cells (num4A 0) 80)) (by rfl) (.pointer (some ⟨v.heap.size, 0, none⟩)) (hrunAllocE rfl v) ?_
    have KV2 := kAl KV (.cells (num4A 0) 80)
    refine hK.out _ _ ?_ (fun _ => ?_)
    · exact ⟨kPx RP KV2, kPy RP KV2, kPz RP KV2⟩
    try simp only [zaP, zsT, zsZ, zsS]
    exact ih 15 (by decide) (by decide) _ _ _ _ (by rfl) (by kernel_rfl) ⟨v.heap.size, g5, rfl, KV.out.size, G5, heap_alloc_new _ _, (heap_alloc_old _ _ (lt_row Z5.out)).trans Z5.out, Nat.ne_of_gt (lt_row Z5.out), KV2⟩
   exact AllReadyH.nil
  | 11, _, ih, hI =>
   dsimp only [ptD] at hI
   obtain ⟨rfl, KV⟩ := hI
   refine wpAnyH_ready (rs := [8, 9, 10, 11]) (by kernel_rfl) (by simp) ?_
   refine AllReadyH.cons (o := ⟨some 17, .call ⟨.value (.func 161), #[.tmp 16], #[80]⟩, 80, "point.go:90", #[zeD 7, zeC 5], none⟩) rfl (fun K hK => ?_) ?_
   ·
    refine step_callTo (by rfl) _ _ (hrunSquare _ rfl (.agg (num4A p.z)) rfl v) _ _ (feSquareA p.z Hp.out.z v) (fun V2 HBx => ?_)
    have KV2 := kTr KV HBx
    refine hK.out _ _ ?_ (fun _ => ?_)
    · exact ⟨kPx RP KV2, kPy RP KV2, kPz RP KV2⟩
    try simp only [zaP, zsT, zsZ, zsS]
    exact ih 19 (by decide) (by decide) _ _ _ _ (by rfl) (by kernel_rfl) ⟨rfl, KV2⟩
   refine AllReadyH.cons (o := oPtMul7) rfl (fun K hK => ?_) ?_
   ·
    refine step_runTo (w' := v.alloc (.cells (num4A 0) 80)) (by rfl) (.pointer (some ⟨v.heap.size, 0, none⟩)) (hrunAllocE rfl v) ?_
    have KV2 := kAl KV (.cells (num4A 0) 80)
    refine hK.out _ _ ?_ (fun _ => ?_)
    · exact ⟨kPx RP KV2, kPy RP KV2, kPz RP KV2⟩
    try simp only [zaP, zsT, zsZ, zsS]
    exact ih 16 (by decide) (by decide) _ _ _ _ (by rfl) (by kernel_rfl) ⟨v.heap.size, rfl, KV.out.size, heap_alloc_new _ _, KV2⟩
   refine AllReadyH.cons (o := oPtMul8) rfl (fun K hK => ?_) ?_
   ·
    refine step_runTo (w' := v.alloc (.cells (num4A 0) 80)) (by rfl) (.pointer (some ⟨v.heap.size, 0, none⟩)) (hrunAllocE rfl v) ?_
    have KV2 := kAl KV (.cells (num4A 0) 80)
    refine hK.out _ _ ?_ (fun _ => ?_)
    · exact ⟨kPx RP KV2, kPy RP KV2, kPz RP KV2⟩
    try simp only [zaP, zsT, zsZ, zsS]
    exact ih 17 (by decide) (by decide) _ _ _ _ (by rfl) (by kernel_rfl) ⟨v.heap.size, rfl, KV.out.size, heap_alloc_new _ _, KV2⟩
   refine AllReadyH.cons (o := oPtMul9) rfl (fun K hK => ?_) ?_
   ·
    refine step_runTo (w' := v.alloc (.cells (num4A 0) 80)) (by rfl) (.pointer (some ⟨v.heap.size, 0, none⟩)) (hrunAllocE rfl v) ?_
    have KV2 := kAl KV (.cells (num4A 0) 80)
    refine hK.out _ _ ?_ (fun _ => ?_)
    · exact ⟨kPx RP KV2, kPy RP KV2, kPz RP KV2⟩
    try simp only [zaP, zsT, zsZ, zsS]
    exact ih 18 (by decide) (by decide) _ _ _ _ (by rfl) (by kernel_rfl) ⟨v.heap.size, rfl, KV.out.size, heap_alloc_new _ _, KV2⟩
   exact AllReadyH.nil
  | 12, _, ih, hI =>
   dsimp only [ptD] at hI
   obtain ⟨g3, g4, g5, rfl, G3, G4, G5, Z3, Z4, Z5, D34, D35, D45, KV⟩ := hI
   refine wpAnyH_ready (rs := [2]) (by kernel_rfl) (by simp) ?_
   refine AllReadyH.cons (o := ⟨some 11, .call ⟨.value (.func 161), #[.tmp 10], #[80]⟩, 80, "point.go:90", #[zeD 1], none⟩) rfl (fun K hK => ?_) ?_
   ·
    refine step_callTo (by rfl) _ _ (hrunSquare _ rfl (.agg (num4A p.x)) rfl v) _ _ (feSquareA p.x Hp.out.x v) (fun V2 HBx => ?_)
    have KV2 := kTr KV HBx
    have Z3 := hide (row_keep' Z3.out HBx)
    have Z4 := hide (row_keep' Z4.out HBx)
    have Z5 := hide (row_keep' Z5.out HBx)
    refine hK.out _ _ ?_ (fun _ => ?_)
    · exact ⟨kPx RP KV2, kPy RP KV2, kPz RP KV2⟩
    try simp only [zaP, zsT, zsZ, zsS]
    exact ih 20 (by decide) (by decide) _ _ _ _ (by rfl) (by kernel_rfl) ⟨g3, g4, g5, rfl, G3, G4, G5, Z3, Z4, Z5, D34, D35, D45, KV2⟩
   exact AllReadyH.nil
  | 13, _, ih, hI =>
   dsimp only [ptD] at hI
   obtain ⟨g3, g4, rfl, G3, G4, Z3, Z4, D34, KV⟩ := hI
   refine wpAnyH_ready (rs := [5, 11]) (by kernel_rfl) (by simp) ?_
   refine AllReadyH.cons (o := ⟨some 14, .call ⟨.value (.func 161), #[.tmp 13], #[80]⟩, 80, "point.go:90", #[zeD 4, zeC 2], none⟩) rfl (fun K hK => ?_) ?_
   ·
    refine step_callTo (by rfl) _ _ (hrunSquare _ rfl (.agg (num4A p.y)) rfl v) _ _ (feSquareA p.y Hp.out.y v) (fun V2 HBx => ?_)
    have KV2 := kTr KV HBx
    have Z3 := hide (row_keep' Z3.out HBx)
    have Z4 := hide (row_keep' Z4.out HBx)
    refine hK.out _ _ ?_ (fun _ => ?_)
    · exact ⟨kPx RP KV2, kPy RP KV2, kPz RP KV2⟩
    try simp only [zaP, zsT, zsZ, zsS]
    exact ih 21 (by decide) (by decide) _ _ _ _ (by rfl) (by kernel_rfl) ⟨g3, g4, rfl, G3, G4, Z3, Z4, D34, KV2⟩
   refine AllReadyH.cons (o := oPtMul9) rfl (fun K hK => ?_) ?_
   ·
    refine step_runTo (w' := v.alloc (.cells (num4A 0) 80)) (by rfl) (.pointer (some ⟨v.heap.size, 0, none⟩)) (hrunAllocE rfl v) ?_
    have KV2 := kAl KV (.cells (num4A 0) 80)
    refine hK.out _ _ ?_ (fun _ => ?_)
    · exact ⟨kPx RP KV2, kPy RP KV2, kPz RP KV2⟩
    try simp only [zaP, zsT, zsZ, zsS]
    exact ih 20 (by decide) (by decide) _ _ _ _ (by rfl) (by kernel_rfl) ⟨g3, g4, v.heap.size, rfl, G3, G4, KV.out.size, (heap_alloc_old _ _ (lt_row Z3.out)).trans Z3.out, (heap_alloc_old _ _ (lt_row Z4.out)).trans Z4.out, heap_alloc_new _ _, D34, Nat.ne_of_lt (lt_row Z3.out), Nat.ne_of_lt (lt_row Z4.out), KV2⟩
   exact AllReadyH.nil
  | 14, _, ih, hI =>
   dsimp only [ptD] at hI
   obtain ⟨g3, g5, rfl, G3, G5, Z3, Z5, D35, KV⟩ := hI
   refine wpAnyH_ready (rs := [5, 10]) (by kernel_rfl) (by simp) ?_
   refine AllReadyH.cons (o := ⟨some 14, .call ⟨.value (.func 161), #[.tmp 13], #[80]⟩, 80, "point.go:90", #[zeD 4, zeC 2], none⟩) rfl (fun K hK => ?_) ?_
   ·
    refine step_callTo (by rfl) _ _ (hrunSquare _ rfl (.agg (num4A p.y)) rfl v) _ _ (feSquareA p.y Hp.out.y v) (fun V2 HBx => ?_)
    have KV2 := kTr KV HBx
    have Z3 := hide (row_keep' Z3.out HBx)
    have Z5 := hide (row_keep' Z5.out HBx)
    refine hK.out _ _ ?_ (fun _ => ?_)
    · exact ⟨kPx RP KV2, kPy RP KV2, kPz RP KV2⟩
    try simp only [zaP, zsT, zsZ, zsS]
    exact ih 22 (by decide) (by decide) _ _ _ _ (by rfl) (by kernel_rfl) ⟨g3, g5, rfl, G3, G5, Z3, Z5, D35, KV2⟩
   refine AllReadyH.cons (o := oPtMul8) rfl (fun K hK => ?_) ?_
   ·
    refine step_runTo (w' := v.alloc (.cells (num4A 0) 80)) (by rfl) (.pointer (some ⟨v.heap.size, 0, none⟩)) (hrunAllocE rfl v) ?_
    have KV2 := kAl KV (.cells (num4A 0) 80)
    refine hK.out _ _ ?_ (fun _ => ?_)
    · exact ⟨kPx RP KV2, kPy RP KV2, kPz RP KV2⟩
    try simp only [zaP, zsT, zsZ, zsS]
    exact ih 20 (by decide) (by decide) _ _ _ _ (by rfl) (by kernel_rfl) ⟨g3, v.heap.size, g5, rfl, G3, KV.out.size, G5, (heap_alloc_old _ _ (lt_row Z3.out)).trans Z3.out, heap_alloc_new _ _, (heap_alloc_old _ _ (lt_row Z5.out)).trans Z5.out, Nat.ne_of_lt (lt_row Z3.out), D35, Nat.ne_of_gt (lt_row Z5.out), KV2⟩
   exact AllReadyH.nil
  | 15, _, ih, hI =>
   dsimp only [ptD] at hI
   obtain ⟨g4, g5, rfl, G4, G5, Z4, Z5, D45, KV⟩ := hI
   refine wpAnyH_ready (rs := [5, 9]) (by kernel_rfl) (by simp) ?_
   refine AllReadyH.cons (o := ⟨some 14, .call ⟨.value (.func 161), #[.tmp 13], #[80]⟩, 80, "point.go:90", #[zeD 4, zeC 2], none⟩) rfl (fun K hK => ?_) ?_
   ·
    refine step_callTo (by rfl) _ _ (hrunSquare _ rfl (.agg (num4A p.y)) rfl v) _ _ (feSquareA p.y Hp.out.y v) (fun V2 HBx => ?_)
    have KV2 := kTr KV HBx
    have Z4 := hide (row_keep' Z4.out HBx)
    have Z5 := hide (row_keep' Z5.out HBx)
    refine hK.out _ _ ?_ (fun _ => ?_)
    · exact ⟨kPx RP KV2, kPy RP KV2, kPz RP KV2⟩
    try simp only [zaP, zsT, zsZ, zsS]
    exact ih 23 (by decide) (by decide) _ _ _ _ (by rfl) (by kernel_rfl) ⟨g4, g5, rfl, G4, G5, Z4, Z5, D45, KV2⟩
   refine AllReadyH.cons (o := oPtMul7) rfl (fun K hK => ?_) ?_
   ·
    refine step_runTo (w' := v.alloc (.cells (num4A 0) 80)) (by rfl) (.pointer (some ⟨v.heap.size, 0, none⟩)) (hrunAllocE rfl v) ?_
    have KV2 := kAl KV (.cells (num4A 0) 80)
    refine hK.out _ _ ?_ (fun _ => ?_)
    · exact ⟨kPx RP KV2, kPy RP KV2, kPz RP KV2⟩
    try simp only [zaP, zsT, zsZ, zsS]
    exact ih 20 (by decide) (by decide) _ _ _ _ (by rfl) (by kernel_rfl) ⟨v.heap.size, g4, g5, rfl, KV.out.size, G4, G5, heap_alloc_new _ _, (heap_alloc_old _ _ (lt_row Z4.out)).trans Z4.out, (heap_alloc_old _ _ (lt_row Z5.out)).trans Z5.out, Nat.ne_of_gt (lt_row Z4.out), Nat.ne_of_gt (lt_row Z5.out), D45, KV2⟩
   exact AllReadyH.nil
  | 16, _, ih, hI =>
   dsimp only [ptD] at hI
   obtain ⟨g3, rfl, G3, Z3, KV⟩ := hI
   refine wpAnyH_ready (rs := [8, 10, 11]) (by kernel_rfl) (by simp) ?_
   refine AllReadyH.cons (o := ⟨some 17, .call ⟨.value (.func 161), #[.tmp 16], #[80]⟩, 80, "point.go:90", #[zeD 7, zeC 5], none⟩) rfl (fun K hK => ?_) ?_
   ·
    refine step_callTo (by rfl) _ _ (hrunSquare _ rfl (.agg (num4A p.z)) rfl v) _ _ (feSquareA p.z Hp.out.z v) (fun V2 HBx => ?_)
    have KV2 := kTr KV HBx
    have Z3 := hide (row_keep' Z3.out HBx)
    refine hK.out _ _ ?_ (fun _ => ?_)
    · exact ⟨kPx RP KV2, kPy RP KV2, kPz RP KV2⟩
    try simp only [zaP, zsT, zsZ, zsS]
    exact ih 24 (by decide) (by decide) _ _ _ _ (by rfl) (by kernel_rfl) ⟨g3, rfl, G3, Z3, KV2⟩
   refine AllReadyH.cons (o := oPtMul8) rfl (fun K hK => ?_) ?_
   ·
    refine step_runTo (w' := v.alloc (.cells (num4A 0) 80)) (by rfl) (.pointer (some ⟨v.heap.size, 0, none⟩)) (hrunAllocE rfl v) ?_
    have KV2 := kAl KV (.cells (num4A 0) 80)
    refine hK.out _ _ ?_ (fun _ => ?_)
    · exact ⟨kPx RP KV2, kPy RP KV2, kPz RP KV2⟩
    try simp only [zaP, zsT, zsZ, zsS]
    exact ih 21 (by decide) (by decide) _ _ _ _ (by rfl) (by kernel_rfl) ⟨g3, v.heap.size, rfl, G3, KV.out.size, (heap_alloc_old _ _ (lt_row Z3.out)).trans Z3.out, heap_alloc_new _ _, Nat.ne_of_lt (lt_row Z3.out), KV2⟩
   refine AllReadyH.cons (o := oPtMul9) rfl (fun K hK => ?_) ?_
   ·
    refine step_runTo (w' := v.alloc (.cells (num4A 0) 80)) (by rfl) (.pointer (some ⟨v.heap.size, 0, none⟩)) (hrunAllocE rfl v) ?_
    have KV2 := kAl KV (.cells (num4A 0) 80)
    refine hK.out _ _ ?_ (fun _ => ?_)
    · exact ⟨kPx RP KV2, kPy RP KV2, kPz RP KV2⟩
    try simp only [zaP, zsT, zsZ, zsS]
    exact ih 22 (by decide) (by decide) _ _ _ _ (by rfl) (by kernel_rfl) ⟨g3, v.heap.size, rfl, G3, KV.out.size, (heap_alloc_old _ _ (lt_row Z3.out)).trans Z3.out, heap_alloc_new _ _, Nat.ne_of_lt (lt_row Z3.out), KV2⟩
   exact AllReadyH.nil
  | 17, _, ih, hI =>
   dsimp only [ptD] at hI
   obtain ⟨g4, rfl, G4, Z4, KV⟩ := hI
   refine wpAnyH_ready (rs := [8, 9, 11]) (by kernel_rfl) (by simp) ?_
   refine AllReadyH.cons (o := ⟨some 17, .call ⟨.value (.func 161), #[.tmp 16], #[80]⟩, 80, "point.go:90", #[zeD 7, zeC 5], none⟩) rfl (fun K hK => ?_) ?_
   ·
    refine step_callTo (by rfl) _ _ (hrunSquare _ rfl (.agg (num4A p.z)) rfl v) _ _ (feSquareA p.z Hp.out.z v) (fun V2 HBx => ?_)
    have KV2 := kTr KV HBx
    have Z4 := hide (row_keep' Z4.out HBx)
    refine hK.out _ _ ?_ (fun _ => ?_)
    · exact ⟨kPx RP KV2, kPy RP KV2, kPz RP KV2⟩
    try simp only [zaP, zsT, zsZ, zsS]
    exact ih 25 (by decide) (by decide) _ _ _ _ (by rfl) (by kernel_rfl) ⟨g4, rfl, G4, Z4, KV2⟩
   refine AllReadyH.cons (o := oPtMul7) rfl (fun K hK => ?_) ?_
   ·
    refine step_runTo (w' := v.alloc (.cells (num4A 0) 80)) (by rfl) (.pointer (some ⟨v.heap.size, 0, none⟩)) (hrunAllocE rfl v) ?_
    have KV2 := kAl KV (.cells (num4A 0) 80)
    refine hK.out _ _ ?_ (fun _ => ?_)
    · exact ⟨kPx RP KV2, kPy RP KV2, kPz RP KV2⟩
    try simp only [zaP, zsT, zsZ, zsS]
    exact ih 21 (by decide) (by decide) _ _ _ _ (by rfl) (by kernel_rfl) ⟨v.heap.size, g4, rfl, KV.out.size, G4, heap_alloc_new _ _, (heap_alloc_old _ _ (lt_row Z4.out)).trans Z4.out, Nat.ne_of_gt (lt_row Z4.out), KV2⟩
   refine AllReadyH.cons (o := oPtMul9) rfl (fun K hK => ?_) ?_
   ·
    refine step_runTo (w' := v.alloc (.cells (num4A 0) 80)) (by rfl) (.pointer (some ⟨v.heap.size, 0, none⟩)) (hrunAllocE rfl v) ?_
    have KV2 := kAl KV (.cells (num4A 0) 80)
    refine hK.out _ _ ?_ (fun _ => ?_)
    · exact ⟨kPx RP KV2, kPy RP KV2, kPz RP KV2⟩
    try simp only [zaP, zsT, zsZ, zsS]
    exact ih 23 (by decide) (by decide) _ _ _ _ (by rfl) (by kernel_rfl) ⟨g4, v.heap.size, rfl, G4, KV.out.size, (heap_alloc_old _ _ (lt_row Z4.out)).trans Z4.out, heap_alloc_new _ _, Nat.ne_of_lt (lt_row Z4.out), KV2⟩
   exact AllReadyH.nil
  | 18, _, ih, hI =>
   dsimp only [ptD] at hI
   obtain ⟨g5, rfl, G5, Z5, KV⟩ := hI
   refine wpAnyH_ready (rs := [8, 9, 10]) (by kernel_rfl) (by simp) ?_
   refine AllReadyH.cons (o := ⟨some 17, .call ⟨.value (.func 161), #[.tmp 16], #[80]⟩, 80, "point.go:90", #[zeD 7, zeC 5], none⟩) rfl (fun K hK => ?_) ?_
   ·
    refine step_callTo (by rfl) _ _ (hrunSquare _ rfl (.agg (num4A p.z)) rfl v) _ _ (feSquareA p.z Hp.out.z v) (fun V2 HBx => ?_)
    have KV2 := kTr KV HBx
    have Z5 := hide (row_keep' Z5.out HBx)
    refine hK.out _ _ ?_ (fun _ => ?_)
    · exact ⟨kPx RP KV2, kPy RP KV2, kPz RP KV2⟩
    try simp only [zaP, zsT, zsZ, zsS]
    exact ih 26 (by decide) (by decide) _ _ _ _ (by rfl) (by kernel_rfl) ⟨g5, rfl, G5, Z5, KV2⟩
   refine AllReadyH.cons (o := oPtMul7) rfl (fun K hK => ?_) ?_
   ·
    refine step_runTo (w' := v.alloc (.cells (num4A 0) 80)) (by rfl) (.pointer (some ⟨v.heap.size, 0, none⟩)) (hrunAllocE rfl v) ?_
    have KV2 := kAl KV (.cells (num4A 0) 80)
    refine hK.out _ _ ?_ (fun _ => ?_)
    · exact ⟨kPx RP KV2, kPy RP KV2, kPz RP KV2⟩
    try simp only [zaP, zsT, zsZ, zsS]
    exact ih 22 (by decide) (by decide) _ _ _ _ (by rfl) (by kernel_rfl) ⟨v.heap.size, g5, rfl, KV.out.size, G5, heap_alloc_new _ _, (heap_alloc_old _ _ (lt_row Z5.out)).trans Z5.out, Nat.ne_of_gt (lt_row Z5.out), KV2⟩
   refine AllReadyH.cons (o := oPtMul8) rfl (fun K hK => ?_) ?_
   ·
    refine step_runTo (w' := v.alloc (.cells (num4A 0) 80)) (by rfl) (.pointer (some ⟨v.heap.size, 0, none⟩)) (hrunAllocE rfl v) ?_
    have KV2 := kAl KV (.cells (num4A 0) 80)
    refine hK.out _ _ ?_ (fun _ => ?_)
    · exact ⟨kPx RP KV2, kPy RP KV2, kPz RP KV2⟩
    try simp only [zaP, zsT, zsZ, zsS]
    exact ih 23 (by decide) (by decide) _ _ _ _ (by rfl) (by kernel_rfl) ⟨v.heap.size, g5, rfl, KV.out.size, G5, heap_alloc_new _ _, (heap_alloc_old _ _ (lt_row Z5.out)).trans Z5.out, Nat.ne_of_gt (lt_row Z5.out), KV2⟩
   exact AllReadyH.nil
  | 19, _, ih, hI =>
   dsimp only [ptD] at hI
   obtain ⟨rfl, KV⟩ := hI
   refine wpAnyH_ready (rs := [9, 10, 11]) (by kernel_rfl) (by simp) ?_
   refine AllReadyH.cons (o := oPtMul7) rfl (fun K hK => ?_) ?_
   ·
    refine step_runTo (w' := v.alloc (.cells (num4A 0) 80)) (by rfl) (.pointer (some ⟨v.heap.size, 0, none⟩)) (hrunAllocE rfl v) ?_
    have KV2 := kAl KV (.cells (num4A 0) 80)
    refine hK.out _ _ ?_ (fun _ => ?_)
    · exact ⟨kPx RP KV2, kPy RP KV2, kPz RP KV2⟩
    try simp only [zaP, zsT, zsZ, zsS]
    exact ih 24 (by decide) (by decide) _ _ _ _ (by rfl) (by kernel_rfl) ⟨v.heap.size, rfl, KV.out.size, heap_alloc_new _ _, KV2⟩
   refine AllReadyH.cons (o := oPtMul8) rfl (fun K hK => ?_) ?_
   ·
    refine step_runTo (w' := v.alloc (.cells (num4A 0) 80)) (by rfl) (.pointer (some ⟨v.heap.size, 0, none⟩)) (hrunAllocE rfl v) ?_
    have KV2 := kAl KV (.cells (num4A 0) 80)
    refine hK.out _ _ ?_ (fun _ => ?_)
    · exact ⟨kPx RP KV2, kPy RP KV2, kPz RP KV2⟩
    try simp only [zaP, zsT, zsZ, zsS]
    exact ih 25 (by decide) (by decide) _ _ _ _ (by rfl) (by kernel_rfl) ⟨v.heap.size, rfl, KV.out.size, heap_alloc_new _ _, KV2⟩
   refine AllReadyH.cons (o := oPtMul9) rfl (fun K hK => ?_) ?_
   ·
    refine step_runTo (w' := v.alloc (.cells (num4A 0) 80)) (by rfl) (.pointer (some ⟨v.heap.size, 0, none⟩)) (hrunAllocE rfl v) ?_
    have KV2 := kAl KV (.cells (num4A 0) 80)
    refine hK.out _ _ ?_ (fun _ => ?_)
    · exact ⟨kPx RP KV2, kPy RP KV2, kPz RP KV2⟩
    try simp only [zaP, zsT, zsZ, zsS]
    exact ih 26 (by decide) (by decide) _ _ _ _ (by rfl) (by kernel_rfl) ⟨v.heap.size, rfl, KV.out.size, heap_alloc_new _ _, KV2⟩
   exact AllReadyH.nil
  | 20, _, ih, hI =>
   dsimp only [ptD] at hI
   obtain ⟨g3, g4, g5, rfl, G3, G4, G5, Z3, Z4, Z5, D34, D35, D45, KV⟩ := hI
   refine wpAnyH_ready (rs := [5]) (by kernel_rfl) (by simp) ?_
   refine AllReadyH.cons (o := ⟨some 14, .call ⟨.value (.func 161), #[.tmp 13], #[80]⟩, 80, "point.go:90", #[zeD 4, zeC 2], none⟩) rfl (fun K hK => ?_) ?_
   ·
    refine step_callTo (by rfl) _ _ (hrunSquare _ rfl (.agg (num4A p.y)) rfl v) _ _ (feSquareA p.y Hp.out.y v) (fun V2 HBx => ?_)
    have KV2 := kTr KV HBx
    have Z3 := hide (row_keep' Z3.out HBx)
    have Z4 := hide (row_keep' Z4.out HBx)
    have Z5 := hide (row_keep' Z5.out HBx)
    refine hK.out _ _ ?_ (fun _ => ?_)
    · exact ⟨kPx RP KV2, kPy RP KV2, kPz RP KV2⟩
    try simp only [zaP, zsT, zsZ, zsS]
    exact ih 27 (by decide) (by decide) _ _ _ _ (by rfl) (by kernel_rfl) ⟨g3, g4, g5, rfl, G3, G4, G5, Z3, Z4, Z5, D34, D35, D45, KV2⟩
   exact AllReadyH.nil
  | 21, _, ih, hI =>
   dsimp only [ptD] at hI
   obtain ⟨g3, g4, rfl, G3, G4, Z3, Z4, D34, KV⟩ := hI
   refine wpAnyH_ready (rs := [8, 11]) (by kernel_rfl) (by simp) ?_
   refine AllReadyH.cons (o := ⟨some 17, .call ⟨.value (.func 161), #[.tmp 16], #[80]⟩, 80, "point.go:90", #[zeD 7, zeC 5], none⟩) rfl (fun K hK => ?_) ?_
   ·
    refine step_callTo (by rfl) _ _ (hrunSquare _ rfl (.agg (num4A p.z)) rfl v) _ _ (feSquareA p.z Hp.out.z v) (fun V2 HBx => ?_)
    have KV2 := kTr KV HBx
    have Z3 := hide (row_keep' Z3.out HBx)
    have Z4 := hide (row_keep' Z4.out HBx)
    refine hK.out _ _ ?_ (fun _ => ?_)
    · exact ⟨kPx RP KV2, kPy RP KV2, kPz RP KV2⟩
    try simp only [zaP, zsT, zsZ, zsS]
    exact ih 28 (by decide) (by decide) _ _ _ _ (by rfl) (by kernel_rfl) ⟨g3, g4, rfl, G3, G4, Z3, Z4, D34, KV2⟩
   refine AllReadyH.cons (o := oPtMul9) rfl (fun K hK => ?_) ?_
   ·
    refine step_runTo (w' := v.alloc (.cells (num4A 0) 80)) (by rfl) (.pointer (some ⟨v.heap.size, 0, none⟩)) (hrunAllocE rfl v) ?_
    have KV2 := kAl KV (.cells (num4A 0) 80)
    refine hK.out _ _ ?_ (fun _ => ?_)
    · exact ⟨kPx RP KV2, kPy RP KV2, kPz RP KV2⟩
    try simp only [zaP, zsT, zsZ, zsS]
    exact ih 27 (by decide) (by decide) _ _ _ _ (by rfl) (by kernel_rfl) ⟨g3, g4, v.heap.size, rfl, G3, G4, KV.out.size, (heap_alloc_old _ _ (lt_row Z3.out)).trans Z3.out, (heap_alloc_old _ _ (lt_row Z4.out)).trans Z4.out, heap_alloc_new _ _, D34, Nat.ne_of_lt (lt_row Z3.out), Nat.ne_of_lt (lt_row Z4.out), KV2⟩
   exact AllReadyH.nil
  | 22, _, ih, hI =>
   dsimp only [ptD] at hI
   obtain ⟨g3, g5, rfl, G3, G5, Z3, Z5, D35, KV⟩ := hI
   refine wpAnyH_ready (rs := [8, 10]) (by kernel_rfl) (by simp) ?_
   refine AllReadyH.cons (o := ⟨some 17, .call ⟨.value (.func 161), #[.tmp 16], #[80]⟩, 80, "point.go:90", #[zeD 7, zeC 5], none⟩) rfl (fun K hK => ?_) ?_
   ·
    refine step_callTo (by rfl) _ _ (hrunSquare _ rfl (.agg (num4A p.z)) rfl v) _ _ (feSquareA p.z Hp.out.z v) (fun V2 HBx => ?_)
    have KV2 := kTr KV HBx
    have Z3 := hide (row_keep' Z3.out HBx)
    have Z5 := hide (row_keep' Z5.out HBx)
    refine hK.out _ _ ?_ (fun _ => ?_)
    · exact ⟨kPx RP KV2, kPy RP KV2, kPz RP KV2⟩
    try simp only [zaP, zsT, zsZ, zsS]
    exact ih 29 (by decide) (by decide) _ _ _ _ (by rfl) (by kernel_rfl) ⟨g3, g5, rfl, G3, G5, Z3, Z5, D35, KV2⟩
   refine AllReadyH.cons (o := oPtMul8) rfl (fun K hK => ?_) ?_
   ·
    refine step_runTo (w' := v.alloc (.cells (num4A 0) 80)) (by rfl) (.pointer (some ⟨v.heap.size, 0, none⟩)) (hrunAllocE rfl v) ?_
    have KV2 := kAl KV (.cells (num4A 0) 80)
    refine hK.out _ _ ?_ (fun _ => ?_)
    · exact ⟨kPx RP KV2, kPy RP KV2, kPz RP KV2⟩
    try simp only [zaP, zsT, zsZ, zsS]
    exact ih 27 (by decide) (by decide) _ _ _ _ (by rfl) (by kernel_rfl) ⟨g3, v.heap.size, g5, rfl, G3, KV.out.size, G5, (heap_alloc_old _ _ (lt_row Z3.out)).trans Z3.out, heap_alloc_new _ _, (heap_alloc_old _ _ (lt_row Z5.out)).trans Z5.out, Nat.ne_of_lt (lt_row Z3.out), D35, Nat.ne_of_gt (lt_row Z5.out), KV2⟩
   exact AllReadyH.nil
  | 23, _, ih, hI =>
   dsimp only [ptD] at hI
   obtain ⟨g4, g5, rfl, G4, G5, Z4, Z5, D45, KV⟩ := hI
   refine wpAnyH_ready (rs := [8, 9]) (by kernel_rfl) (by simp) ?_
   refine AllReadyH.cons (o := ⟨some 17, .call ⟨.value (.func 161), #[.tmp 16], #[80]⟩, 80, "point.go:90", #[zeD 7, zeC 5], none⟩) rfl (fun K hK => ?_) ?_
   ·
    refine step_callTo (by rfl) _ _ (hrunSquare _ rfl (.agg (num4A p.z)) rfl v) _ _ (feSquareA p.z Hp.out.z v) (fun V2 HBx => ?_)
    have KV2 := kTr KV HBx
    have Z4 := hide (row_keep' Z4.out HBx)
    have Z5 := hide (row_keep' Z5.out HBx)
    refine hK.out _ _ ?_ (fun _ => ?_)
    · exact ⟨kPx RP KV2, kPy RP KV2, kPz RP KV2⟩
    try simp only [zaP, zsT, zsZ, zsS]
    exact ih 30 (by decide) (by decide) _ _ _ _ (by rfl) (by kernel_rfl) ⟨g4, g5, rfl, G4, G5, Z4, Z5, D45, KV2⟩
   refine AllReadyH.cons (o := oPtMul7) rfl (fun K hK => ?_) ?_
   ·
    refine step_runTo (w' := v.alloc (.cells (num4A 0) 80)) (by rfl) (.pointer (some ⟨v.heap.size, 0, none⟩)) (hrunAllocE rfl v) ?_
    have KV2 := kAl KV (.cells (num4A 0) 80)
    refine hK.out _ _ ?_ (fun _ => ?_)
    · exact ⟨kPx RP KV2, kPy RP KV2, kPz RP KV2⟩
    try simp only [zaP, zsT, zsZ, zsS]
    exact ih 27 (by decide) (by decide) _ _ _ _ (by rfl) (by kernel_rfl) ⟨v.heap.size, g4, g5, rfl, KV.out.size, G4, G5, heap_alloc_new _ _, (heap_alloc_old _ _ (lt_row Z4.out)).trans Z4.out, (heap_alloc_old _ _ (lt_row Z5.out)).trans Z5.out, Nat.ne_of_gt (lt_row Z4.out), Nat.ne_of_gt (lt_row Z5.out), D45, KV2⟩
   exact AllReadyH.nil
  | 24, _, ih, hI =>
   dsimp only [ptD] at hI
   obtain ⟨g3, rfl, G3, Z3, KV⟩ := hI
   refine wpAnyH_ready (rs := [10, 11]) (by kernel_rfl) (by simp) ?_
   refine AllReadyH.cons (o := oPtMul8) rfl (fun K hK => ?_) ?_
   ·
    refine step_runTo (w' := v.alloc (.cells (num4A 0) 80)) (by rfl) (.pointer (some ⟨v.heap.size, 0, none⟩)) (hrunAllocE rfl v) ?_
    have KV2 := kAl KV (.cells (num4A 0) 80)
    refine hK.out _ _ ?_ (fun _ => ?_)
    · exact ⟨kPx RP KV2, kPy RP KV2, kPz RP KV2⟩
    try simp only [zaP, zsT, zsZ, zsS]
    exact ih 28 (by decide) (by decide) _ _ _ _ (by rfl) (by kernel_rfl) ⟨g3, v.heap.size, rfl, G3, KV.out.size, (heap_alloc_old _ _ (lt_row Z3.out)).trans Z3.out, heap_alloc_new _ _, Nat.ne_of_lt (lt_row Z3.out), KV2⟩
   refine AllReadyH.cons (o := oPtMul9) rfl (fun K hK => ?_) ?_
   ·
    refine step_runTo (w' := v.alloc (.cells (num4A 0) 80)) (by rfl) (.pointer (some ⟨v.heap.size, 0, none⟩)) (hrunAllocE rfl v) ?_
    have KV2 := kAl KV (.cells (num4A 0) 80)
    refine hK.out _ _ ?_ (fun _ => ?_)
    · exact ⟨kPx RP KV2, kPy RP KV2, kPz RP KV2⟩
    try simp only [zaP, zsT, zsZ, zsS]
    exact ih 29 (by decide) (by decide) _ _ _ _ (by rfl) (by kernel_rfl) ⟨g3, v.heap.size, rfl, G3, KV.out.size, (heap_alloc_old _ _ (lt_row Z3.out)).trans Z3.out, heap_alloc_new _ _, Nat.ne_of_lt (lt_row Z3.out), KV2⟩
   exact AllReadyH.nil
  | 25, _, ih, hI =>
   dsimp only [ptD] at hI
   obtain ⟨g4, rfl, G4, Z4, KV⟩ := hI
   refine wpAnyH_ready (rs := [9, 11]) (by kernel_rfl) (by simp) ?_
   refine AllReadyH.cons (o := oPtMul7) rfl (fun K hK => ?_) ?_
   ·
    refine step_runTo (w' := v.alloc (.cells (num4A 0) 80)) (by rfl) (.pointer (some ⟨v.heap.size, 0, none⟩)) (hrunAllocE rfl v) ?_
    have KV2 := kAl KV (.cells (num4A 0) 80)
    refine hK.out _ _ ?_ (fun _ => ?_)
    · exact ⟨kPx RP KV2, kPy RP KV2, kPz RP KV2⟩
    try simp only [zaP, zsT, zsZ, zsS]
    exact ih 28 (by decide) (by decide) _ _ _ _ (by rfl) (by kernel_rfl) ⟨v.heap.size, g4, rfl, KV.out.size, G4, heap_alloc_new _ _, (heap_alloc_old _ _ (lt_row Z4.out)).trans Z4.out, Nat.ne_of_gt (lt_row Z4.out), KV2⟩
   refine AllReadyH.cons (o := oPtMul9) rfl (fun K hK => ?_) ?_
   ·
    refine step_runTo (w' := v.alloc (.cells (num4A 0) 80)) (by rfl) (.pointer (some ⟨v.heap.size, 0, none⟩)) (hrunAllocE rfl v) ?_
    have KV2 := kAl KV (.cells (num4A 0) 80)
    refine hK.out _ _ ?_ (fun _ => ?_)
    · exact ⟨kPx RP KV2, kPy RP KV2, kPz RP KV2⟩
    try simp only [zaP, zsT, zsZ, zsS]
    exact ih 30 (by decide) (by decide) _ _ _ _ (by rfl) (by kernel_rfl) ⟨g4, v.heap.size, rfl, G4, KV.out.size, (heap_alloc_old _ _ (lt_row Z4.out)).trans Z4.out, heap_alloc_new _ _, Nat.ne_of_lt (lt_row Z4.out), KV2⟩
   exact AllReadyH.nil
  | 26, _, ih, hI =>
   dsimp only [ptD] at hI
   obtain ⟨g5, rfl, G5, Z5, KV⟩ := hI
   refine wpAnyH_ready (rs := [9, 10]) (by kernel_rfl) (by simp) ?_
   refine AllReadyH.cons (o := oPtMul7) rfl (fun K hK => ?_) ?_
   ·
    refine step_runTo (w' := v.alloc (.cells (num4A 0) 80)) (by rfl) (.pointer (some ⟨v.heap.size, 0, none⟩)) (hrunAllocE rfl v) ?_
    have KV2 := kAl KV (.cells (num4A 0) 80)
    refine hK.out _ _ ?_ (fun _ => ?_)
    · exact ⟨kPx RP KV2, kPy RP KV2, kPz RP KV2⟩
    try simp only [zaP, zsT, zsZ, zsS]
    exact ih 29 (by decide) (by decide) _ _ _ _ (by rfl) (by kernel_rfl) ⟨v.heap.size, g5, rfl, KV.out.size, G5, heap_alloc_new _ _, (heap_alloc_old _ _ (lt_row Z5.out)).trans Z5.out, Nat.ne_of_gt (lt_row Z5.out), KV2⟩
   refine AllReadyH.cons (o := oPtMul8) rfl (fun K hK => ?_) ?_
   ·
    refine step_runTo (w' := v.alloc (.cells (num4A 0) 80)) (by rfl) (.pointer (some ⟨v.heap.size, 0, none⟩)) (hrunAllocE rfl v) ?_
    have KV2 := kAl KV (.cells (num4A 0) 80)
    refine hK.out _ _ ?_ (fun _ => ?_)
    · exact ⟨kPx RP KV2, kPy RP KV2, kPz RP KV2⟩
    try simp only [zaP, zsT, zsZ, zsS]
    exact ih 30 (by decide) (by decide) _ _ _ _ (by rfl) (by kernel_rfl) ⟨v.heap.size, g5, rfl, KV.out.size, G5, heap_alloc_new _ _, (heap_alloc_old _ _ (lt_row Z5.out)).trans Z5.out, Nat.ne_of_gt (lt_row Z5.out), KV2⟩
   exact AllReadyH.nil
  | 27, _, ih, hI =>
   dsimp only [ptD] at hI
   obtain ⟨g3, g4, g5, rfl, G3, G4, G5, Z3, Z4, Z5, D34, D35, D45, KV⟩ := hI
   refine wpAnyH_ready (rs := [8]) (by kernel_rfl) (by simp) ?_
   refine AllReadyH.cons (o := ⟨some 17, .call ⟨.value (.func 161), #[.tmp 16], #[80]⟩, 80, "point.go:90", #[zeD 7, zeC 5], none⟩) rfl (fun K hK => ?_) ?_
   ·
    refine step_callTo (by rfl) _ _ (hrunSquare _ rfl (.agg (num4A p.z)) rfl v) _ _ (feSquareA p.z Hp.out.z v) (fun V2 HBx => ?_)
    have KV2 := kTr KV HBx
    have Z3 := hide (row_keep' Z3.out HBx)
    have Z4 := hide (row_keep' Z4.out HBx)
    have Z5 := hide (row_keep' Z5.out HBx)
    refine hK.out _ _ ?_ (fun _ => ?_)
    · exact ⟨kPx RP KV2, kPy RP KV2, kPz RP KV2⟩
    try simp only [zaP, zsT, zsZ, zsS]
    exact ih 31 (by decide) (by decide) _ _ _ _ (by rfl) (by kernel_rfl) ⟨g3, g4, g5, rfl, G3, G4, G5, Z3, Z4, Z5, D34, D35, D45, KV2⟩
   exact AllReadyH.nil
  | 28, _, ih, hI =>
   dsimp only [ptD] at hI
   obtain ⟨g3, g4, rfl, G3, G4, Z3, Z4, D34, KV⟩ := hI
   refine wpAnyH_ready (rs := [11]) (by kernel_rfl) (by simp) ?_
   refine AllReadyH.cons (o := oPtMul9) rfl (fun K hK => ?_) ?_
   ·
    refine step_runTo (w' := v.alloc (.cells (num4A 0) 80)) (by rfl) (.pointer (some ⟨v.heap.size, 0, none⟩)) (hrunAllocE rfl v) ?_
    have KV2 := kAl KV (.cells (num4A 0) 80)
    refine hK.out _ _ ?_ (fun _ => ?_)
    · exact ⟨kPx RP KV2, kPy RP KV2, kPz RP KV2⟩
    try simp only [zaP, zsT, zsZ, zsS]
    exact ih 31 (by decide) (by decide) _ _ _ _ (by rfl) (by kernel_rfl) ⟨g3, g4, v.heap.size, rfl, G3, G4, KV.out.size, (heap_alloc_old _ _ (lt_row Z3.out)).trans Z3.out, (heap_alloc_old _ _ (lt_row Z4.out)).trans Z4.out, heap_alloc_new _ _, D34, Nat.ne_of_lt (lt_row Z3.out), Nat.ne_of_lt (lt_row Z4.out), KV2⟩
   exact AllReadyH.nil
  | 29, _, ih, hI =>
   dsimp only [ptD] at hI
   obtain ⟨g3, g5, rfl, G3, G5, Z3, Z5, D35, KV⟩ := hI
   refine wpAnyH_ready (rs := [10]) (by kernel_rfl) (by simp) ?_
   refine AllReadyH.cons (o := oPtMul8) rfl (fun K hK => ?_) ?_
   ·
    refine step_runTo (w' := v.alloc (.cells (num4A 0) 80)) (by rfl) (.pointer (some ⟨v.heap.size, 0, none⟩)) (hrunAllocE rfl v) ?_
    have KV2 := kAl KV (.cells (num4A 0) 80)
    refine hK.out _ _ ?_ (fun _ => ?_)
    · exact ⟨kPx RP KV2, kPy RP KV2, kPz RP KV2⟩
    try simp only [zaP, zsT, zsZ, zsS]
    exact ih 31 (by decide) (by decide) _ _ _ _ (by rfl) (by kernel_rfl) ⟨g3, v.heap.size, g5, rfl, G3, KV.out.size, G5, (heap_alloc_old _ _ (lt_row Z3.out)).trans Z3.out, heap_alloc_new _ _, (heap_alloc_old _ _ (lt_row Z5.out)).trans Z5.out, Nat.ne_of_lt (lt_row Z3.out), D35, Nat.ne_of_gt (lt_row Z5.out), KV2⟩
   exact AllReadyH.nil
  | 30, _, ih, hI =>
   dsimp only [ptD] at hI
   obtain ⟨g4, g5, rfl, G4, G5, Z4, Z5, D45, KV⟩ := hI
   refine wpAnyH_ready (rs := [9]) (by kernel_rfl) (by simp) ?_
   refine AllReadyH.cons (o := oPtMul7) rfl (fun K hK => ?_) ?_
   ·
    refine step_runTo (w' := v.alloc (.cells (num4A 0) 80)) (by rfl) (.pointer (some ⟨v.heap.size, 0, none⟩)) (hrunAllocE rfl v) ?_
    have KV2 := kAl KV (.cells (num4A 0) 80)
    refine hK.out _ _ ?_ (fun _ => ?_)
    · exact ⟨kPx RP KV2, kPy RP KV2, kPz RP KV2⟩
    try simp only [zaP, zsT, zsZ, zsS]
    exact ih 31 (by decide) (by decide) _ _ _ _ (by rfl) (by kernel_rfl) ⟨v.heap.size, g4, g5, rfl, KV.out.size, G4, G5, heap_alloc_new _ _, (heap_alloc_old _ _ (lt_row Z4.out)).trans Z4.out, (heap_alloc_old _ _ (lt_row Z5.out)).trans Z5.out, Nat.ne_of_gt (lt_row Z4.out), Nat.ne_of_gt (lt_row Z5.out), D45, KV2⟩
   exact AllReadyH.nil
  | 31, _, ih, hI =>
   dsimp only [ptD] at hI
   obtain ⟨g3, g4, g5, rfl, G3, G4, G5, Z3, Z4, Z5, D34, D35, D45, KV⟩ := hI
   clear ih
   refine wpAnyH_ready (rs := [12]) (by kernel_rfl) (by simp) ?_
   refine AllReadyH.cons (o := ⟨none, .store 80 (.tmp 3) (.tmp 11), 0, "point.go:90", #[zeD 9, zeD 2, zeC 8, zeP 0, zeP 1, zeP 2, ⟨3, .textOnly .lateStores⟩, ⟨4, .textOnly .lateStores⟩, ⟨5, .textOnly .lateStoresUnsure⟩, ⟨6, .textOnly .lateStores⟩, ⟨7, .textOnly .lateStores⟩, ⟨8, .textOnly .lateStoresUnsure⟩, zeP 9, zeP 10, zeP 11], none⟩) rfl (fun K hK => ?_) AllReadyH.nil
   refine step_store_row _ (by rfl) 80 (.tmp 3) (.tmp 11) (by rfl) (g3) (num4A (mP p.x p.x)) (by rfl) (by rfl) 80 _ Z3.out (feSize _) (n4_old _ _) (num4A_all _) ?_
   rw [put_none']
   obtain ⟨U0, hU0⟩ : ∃ V, V = v.setRow g3 (num4A (mP p.x p.x)) := ⟨_, rfl⟩
   have T3 : Hid (U0.heap[g3]? = some (.cells (num4A (mP p.x p.x)) 80 (0, 0))) := by rw [hU0]; exact setRow_heap _ _ _ _ _ _ Z3.out
   have T4 : Hid (U0.heap[g4]? = some (.cells (num4A 0) 80 (0, 0))) := by rw [hU0]; exact (setRow_other _ _ _ _ (by omega)).trans Z4.out
   have T5 : Hid (U0.heap[g5]? = some (.cells (num4A 0) 80 (0, 0))) := by rw [hU0]; exact (setRow_other _ _ _ _ (by omega)).trans Z5.out
   have KU0 : Hid (Below W0.heap.size W0 U0) := by rw [hU0]; exact below_setRow KV.out G3.out _
   rw [← hU0]
   clear hU0 Z3 Z4 Z5
   have Z3 := T3
   have Z4 := T4
   have Z5 := T5
   clear T3 T4 T5
   refine hK.out _ _ ?_ (fun _ => ?_)
   · exact ⟨kPx RP KU0, kPy RP KU0, kPz RP KU0⟩
   clear hK K
   try simp only [List.setIfInBounds_toArray, List.set_cons_zero, List.set_cons_succ]
   refine wpAnyH_ready (rs := [13]) (by kernel_rfl) (by simp) ?_
   refine AllReadyH.cons (o := ⟨none, .store 80 (.tmp 4) (.tmp 14), 0, "point.go:90", #[zeD 10, zeD 5, zeC 12, zeP 0, zeP 1, zeP 2, zeP 3, zeP 4, zeP 5, ⟨6, .textOnly .lateStores⟩, ⟨7, .textOnly .lateStores⟩, ⟨8, .textOnly .lateStoresUnsure⟩, zeP 9, zeP 10, zeP 11, zeP 12], none⟩) rfl (fun K hK => ?_) AllReadyH.nil
   refine step_store_row _ (by rfl) 80 (.tmp 4) (.tmp 14) (by rfl) (g4) (num4A (mP p.y p.y)) (by rfl) (by rfl) 80 _ Z4.out (feSize _) (n4_old _ _) (num4A_all _) ?_
   rw [put_none']
   obtain ⟨U1, hU1⟩ : ∃ V, V = U0.setRow g4 (num4A (mP p.y p.y)) := ⟨_, rfl⟩
   have T4 : Hid (U1.heap[g4]? = some (.cells (num4A (mP p.y p.y)) 80 (0, 0))) := by rw [hU1]; exact setRow_heap _ _ _ _ _ _ Z4.out
   have T3 : Hid (U1.heap[g3]? = some (.cells (num4A (mP p.x p.x)) 80 (0, 0))) := by rw [hU1]; exact (setRow_other _ _ _ _ (by omega)).trans Z3.out
   have T5 : Hid (U1.heap[g5]? = some (.cells (num4A 0) 80 (0, 0))) := by rw [hU1]; exact (setRow_other _ _ _ _ (by omega)).trans Z5.out
   have KU1 : Hid (Below W0.heap.size W0 U1) := by rw [hU1]; exact below_setRow KU0.out G4.out _
   rw [← hU1]
   clear hU1 Z3 Z4 Z5
   have Z3 := T3
   have Z4 := T4
   have Z5 := T5
   clear T3 T4 T5
   refine hK.out _ _ ?_ (fun _ => ?_)
   · exact ⟨kPx RP KU1, kPy RP KU1, kPz RP KU1⟩
   clear hK K
   try simp only [List.setIfInBounds_toArray, List.set_cons_zero, List.set_cons_succ]
   refine wpAnyH_ready (rs := [14]) (by kernel_rfl) (by simp) ?_
   refine AllReadyH.cons (o := ⟨none, .store 80 (.tmp 5) (.tmp 17), 0, "point.go:90", #[zeD 11, zeD 8, zeC 13, zeP 0, zeP 1, zeP 2, zeP 3, zeP 4, zeP 5, zeP 6, zeP 7, zeP 8, zeP 9, zeP 10, zeP 11, zeP 12, zeP 13], none⟩) rfl (fun K hK => ?_) AllReadyH.nil
   refine step_store_row _ (by rfl) 80 (.tmp 5) (.tmp 17) (by rfl) (g5) (num4A (mP p.z p.z)) (by rfl) (by rfl) 80 _ Z5.out (feSize _) (n4_old _ _) (num4A_all _) ?_
   rw [put_none']
   obtain ⟨U2, hU2⟩ : ∃ V, V = U1.setRow g5 (num4A (mP p.z p.z)) := ⟨_, rfl⟩
   have T5 : Hid (U2.heap[g5]? = some (.cells (num4A (mP p.z p.z)) 80 (0, 0))) := by rw [hU2]; exact setRow_heap _ _ _ _ _ _ Z5.out
   have T3 : Hid (U2.heap[g3]? = some (.cells (num4A (mP p.x p.x)) 80 (0, 0))) := by rw [hU2]; exact (setRow_other _ _ _ _ (by omega)).trans Z3.out
   have T4 : Hid (U2.heap[g4]? = some (.cells (num4A (mP p.y p.y)) 80 (0, 0))) := by rw [hU2]; exact (setRow_other _ _ _ _ (by omega)).trans Z4.out
   have KU2 : Hid (Below W0.heap.size W0 U2) := by rw [hU2]; exact below_setRow KU1.out G5.out _
   rw [← hU2]
   clear hU2 Z3 Z4 Z5
   have Z3 := T3
   have Z4 := T4
   have Z5 := T5
   clear T3 T4 T5
   refine hK.out _ _ ?_ (fun _ => ?_)
   · exact ⟨kPx RP KU2, kPy RP KU2, kPz RP KU2⟩
   clear hK K
   try simp only [List.setIfInBounds_toArray, List.set_cons_zero, List.set_cons_succ]
   refine wpAnyH_done (by kernel_rfl) ?_ _
   go_wp2_with fail
   go_meet
   case rel => exact ⟨g3, g4, g5, rfl, rfl, rfl, G3, G4, G5, Z3, Z4, Z5, KU2⟩
  | n + 32, hs, _, _ => exact absurd hs (by omega)
 case rest =>
 obtain ⟨g3, g4, g5, rfl, rfl, rfl, G3, G4, G5, R3, R4, R5, X3⟩ := hcut
 obtain ⟨W1, hW⟩ : ∃ W, W = wc := ⟨_, rfl⟩
 subst hW
 have lRP3 : w.heap.size < g3 := Nat.lt_of_lt_of_le (lt_row RP.out) G3.out
 have lRP4 : w.heap.size < g4 := Nat.lt_of_lt_of_le (lt_row RP.out) G4.out
 have lRP5 : w.heap.size < g5 := Nat.lt_of_lt_of_le (lt_row RP.out) G5.out
 have lRZ3 : w.heap.size + 1 < g3 := Nat.lt_of_lt_of_le (lt_row RZ.out) G3.out
 have lRZ4 : w.heap.size + 1 < g4 := Nat.lt_of_lt_of_le (lt_row RZ.out) G4.out
 have lRZ5 : w.heap.size + 1 < g5 := Nat.lt_of_lt_of_le (lt_row RZ.out) G5.out
 have RP := hide (row_below RP.out X3.out (lt_row RP.out))
 have RZ := hide (row_below RZ.out X3.out (lt_row RZ.out))
 have BL : Hid (Below w.heap.size w W1) := BL.out.trans (X3.out.mono BL.out.size)
 clear X3 G3 G4 G5
 obtain ⟨xx, Exx⟩ : ∃ x, Hid (x = mP p.x p.x) := ⟨_, rfl⟩
 have Hxx : Hid (xx < P) := by rw [Exx.out]; exact mP_lt _ _
 rw [← Exx.out] at R3
 obtain ⟨yy, Eyy⟩ : ∃ x, Hid (x = mP p.y p.y) := ⟨_, rfl⟩
 have Hyy : Hid (yy < P) := by rw [Eyy.out]; exact mP_lt _ _
 rw [← Eyy.out] at R4
 obtain ⟨zz, Ezz⟩ : ∃ x, Hid (x = mP p.z p.z) := ⟨_, rfl⟩
 have Hzz : Hid (zz < P) := by rw [Ezz.out]; exact mP_lt _ _
 rw [← Ezz.out] at R5
 go_wp2_with (first | (refine wpList_load_row (by rfl) 80 (.tmp 3) (by rfl) (g3) (by rfl) 80 (num4A xx) (0, 0) _ R3.out under33 rfl (feSize _) ?_) | (refine wpList_load_row (by rfl) 80 (.tmp 4) (by rfl) (g4) (by rfl) 80 (num4A yy) (0, 0) _ R4.out under33 rfl (feSize _) ?_))
 refine (fePlus xx yy Hxx.out Hyy.out _).mono ?_
 rintro e W2 ⟨rfl, hB2⟩
 have RP := hide (row_keep' RP.out hB2)
 have RZ := hide (row_keep' RZ.out hB2)
 have R3 := hide (row_keep' R3.out hB2)
 have R4 := hide (row_keep' R4.out hB2)
 have R5 := hide (row_keep' R5.out hB2)
 have BL := kTr BL hB2
 clear hB2
 obtain ⟨su, Esu⟩ : ∃ x, Hid (x = aP xx yy) := ⟨_, rfl⟩
 have Hsu : Hid (su < P) := by rw [Esu.out]; exact aP_lt _ _
 rw [← Esu.out]
 go_upto_region 3 with (first | (refine wpList_store_row (by rfl) 80 (.tmp 6) (.tmp 20) (by rfl) W2.heap.size (num4A su) (by rfl) (by rfl) 80 _ (heap_alloc_new _ _) (feSize _) (n4_old _ _) (num4A_all _) ?_))
 try rw [put_none']
 obtain ⟨g6, hg6⟩ : ∃ q, q = W2.heap.size := ⟨_, rfl⟩
 obtain ⟨W3, hW3⟩ : ∃ W, W = (W2.alloc (.cells (num4A 0) 80)).setRow W2.heap.size (num4A su) := ⟨_, rfl⟩
 have lRPg6 : w.heap.size < g6 := by rw [hg6]; exact lt_row RP.out
 have lRZg6 : w.heap.size + 1 < g6 := by rw [hg6]; exact lt_row RZ.out
 have lR3g6 : g3 < g6 := by rw [hg6]; exact lt_row R3.out
 have lR4g6 : g4 < g6 := by rw [hg6]; exact lt_row R4.out
 have lR5g6 : g5 < g6 := by rw [hg6]; exact lt_row R5.out
 have RP' : Hid (W3.heap[w.heap.size]? = some (.cells (pA p) 82 (0, 0))) := by rw [hW3]; exact (setRow_other _ _ _ _ (by omega)).trans ((heap_alloc_old _ _ (by omega)).trans RP.out)
 have RZ' : Hid (W3.heap[w.heap.size + 1]? = some (.cells (pA p0) 82 (0, 0))) := by rw [hW3]; exact (setRow_other _ _ _ _ (by omega)).trans ((heap_alloc_old _ _ (by omega)).trans RZ.out)
 have R3' : Hid (W3.heap[g3]? = some (.cells (num4A xx) 80 (0, 0))) := by rw [hW3]; exact (setRow_other _ _ _ _ (by omega)).trans ((heap_alloc_old _ _ (by omega)).trans R3.out)
 have R4' : Hid (W3.heap[g4]? = some (.cells (num4A yy) 80 (0, 0))) := by rw [hW3]; exact (setRow_other _ _ _ _ (by omega)).trans ((heap_alloc_old _ _ (by omega)).trans R4.out)
 have R5' : Hid (W3.heap[g5]? = some (.cells (num4A zz) 80 (0, 0))) := by rw [hW3]; exact (setRow_other _ _ _ _ (by omega)).trans ((heap_alloc_old _ _ (by omega)).trans R5.out)
 have R6 : Hid (W3.heap[g6]? = some (.cells (num4A su) 80 (0, 0))) := by rw [hW3, hg6]; exact setRow_heap _ _ _ _ _ _ (heap_alloc_new _ _)
 have BL' : Hid (Below w.heap.size w W3) := by rw [hW3]; exact below_setRow (BL.out.alloc BL.out.size _) BL.out.size _
 rw [← hW3, ← hg6]
 clear hW3 hg6 BL RP RZ R3 R4 R5
 have RP := RP'
 have RZ := RZ'
 have R3 := R3'
 have R4 := R4'
 have R5 := R5'
 have BL := BL'
 clear RP' RZ' R3' R4' R5' BL'
 go_wp2_with (first | (refine wpList_load_row (by rfl) 80 (.tmp 3) (by rfl) (g3) (by rfl) 80 (num4A xx) (0, 0) _ R3.out under33 rfl (feSize _) ?_) | (refine wpList_load_row (by rfl) 80 (.tmp 4) (by rfl) (g4) (by rfl) 80 (num4A yy) (0, 0) _ R4.out under33 rfl (feSize _) ?_))
 refine (feMinus yy xx Hyy.out Hxx.out _).mono ?_
 rintro e W4 ⟨rfl, hB4⟩
 have RP := hide (row_keep' RP.out hB4)
 have RZ := hide (row_keep' RZ.out hB4)
 have R3 := hide (row_keep' R3.out hB4)
 have R4 := hide (row_keep' R4.out hB4)
 have R5 := hide (row_keep' R5.out hB4)
 have R6 := hide (row_keep' R6.out hB4)
 have BL := kTr BL hB4
 clear hB4
 obtain ⟨df, Edf⟩ : ∃ x, Hid (x = sP yy xx) := ⟨_, rfl⟩
 have Hdf : Hid (df < P) := by rw [Edf.out]; exact sP_lt _ _
 rw [← Edf.out]
 go_wp2_with (first | (refine wpList_store_row (by rfl) 80 (.tmp 7) (.tmp 23) (by rfl) W4.heap.size (num4A df) (by rfl) (by rfl) 80 _ (heap_alloc_new _ _) (feSize _) (n4_old _ _) (num4A_all _) ?_))
 obtain ⟨g7, hg7⟩ : ∃ q, q = W4.heap.size := ⟨_, rfl⟩
 obtain ⟨W5, hW5⟩ : ∃ W, W = (W4.alloc (.cells (num4A 0) 80)).setRow W4.heap.size (num4A df) := ⟨_, rfl⟩
 have lRPg7 : w.heap.size < g7 := by rw [hg7]; exact lt_row RP.out
 have lRZg7 : w.heap.size + 1 < g7 := by rw [hg7]; exact lt_row RZ.out
 have lR3g7 : g3 < g7 := by rw [hg7]; exact lt_row R3.out
 have lR4g7 : g4 < g7 := by rw [hg7]; exact lt_row R4.out
 have lR5g7 : g5 < g7 := by rw [hg7]; exact lt_row R5.out
 have lR6g7 : g6 < g7 := by rw [hg7]; exact lt_row R6.out
 have RP' : Hid (W5.heap[w.heap.size]? = some (.cells (pA p) 82 (0, 0))) := by rw [hW5]; exact (setRow_other _ _ _ _ (by omega)).trans ((heap_alloc_old _ _ (by omega)).trans RP.out)
 have RZ' : Hid (W5.heap[w.heap.size + 1]? = some (.cells (pA p0) 82 (0, 0))) := by rw [hW5]; exact (setRow_other _ _ _ _ (by omega)).trans ((heap_alloc_old _ _ (by omega)).trans RZ.out)
 have R3' : Hid (W5.heap[g3]? = some (.cells (num4A xx) 80 (0, 0))) := by rw [hW5]; exact (setRow_other _ _ _ _ (by omega)).trans ((heap_alloc_old _ _ (by omega)).trans R3.out)
 have R4' : Hid (W5.heap[g4]? = some (.cells (num4A yy) 80 (0, 0))) := by rw [hW5]; exact (setRow_other _ _ _ _ (by omega)).trans ((heap_alloc_old _ _ (by omega)).trans R4.out)
 have R5' : Hid (W5.heap[g5]? = some (.cells (num4A zz) 80 (0, 0))) := by rw [hW5]; exact (setRow_other _ _ _ _ (by omega)).trans ((heap_alloc_old _ _ (by omega)).trans R5.out)
 have R6' : Hid (W5.heap[g6]? = some (.cells (num4A su) 80 (0, 0))) := by rw [hW5]; exact (setRow_other _ _ _ _ (by omega)).trans ((heap_alloc_old _ _ (by omega)).trans R6.out)
 have R7 : Hid (W5.heap[g7]? = some (.cells (num4A df) 80 (0, 0))) := by rw [hW5, hg7]; exact setRow_heap _ _ _ _ _ _ (heap_alloc_new _ _)
 have BL' : Hid (Below w.heap.size w W5) := by rw [hW5]; exact below_setRow (BL.out.alloc BL.out.size _) BL.out.size _
 rw [put_none', ← hW5, ← hg7]
 clear hW5 hg7 BL RP RZ R3 R4 R5 R6
 have RP := RP'
 have RZ := RZ'
 have R3 := R3'
 have R4 := R4'
 have R5 := R5'
 have R6 := R6'
 have BL := BL'
 clear RP' RZ' R3' R4' R5' R6' BL'
 go_cut [8] from 24 to 31 (fun s wx => ∃ g, s = .pointer (some ⟨g, 0, none⟩) ∧ Hid (W5.heap.size ≤ g) ∧ Hid (wx.heap[g]? = some (.cells (num4A (sP (mP (aP p.x p.y) (aP p.x p.y)) su)) 80 (0, 0))) ∧ Hid (Below W5.heap.size W5 wx))
 case first =>
  refine wp_region_held_drew (S := fun w' => w'.rangeAt (w.heap.size) 0 (nL p.x) ∧ w'.rangeAt (w.heap.size) 4 (nL p.y) ∧ w'.rangeAt (g6) 0 (nL su)) (by kernel_rfl) (by exact ⟨(rangeP RP.out).1, (rangeP RP.out).2.1, rangeN R6.out⟩) (fun hHeld => ?_)
  obtain ⟨V1, hV1⟩ : ∃ V, V = W5.drew := ⟨_, rfl⟩
  rw [← hV1] at hHeld ⊢
  have KV1 : Hid (Below W5.heap.size W5 V1) := by rw [hV1]; exact (Below.refl _ _).drew
  clear hV1
  refine wpAnyH_take (i := 0) (oi := ⟨some 24, .fieldAddr 82 (.tmp 1) 0, 0, "point.go:93", #[], none⟩) (v := .pointer (some ⟨w.heap.size, 0, none⟩)) rfl (by kernel_rfl) (by kernel_rfl) (by kernel_rfl) (fun _ _ _ h => h) (Or.inl ⟨by rfl, fun w _ => by go_simp⟩) hHeld ?_
  simp only [zaP, zsT, zsZ, zsS]
  refine wpAnyH_take (i := 1) (oi := ⟨some 25, .load 80 (.tmp 24), 80, "point.go:93", #[zeD 0], none⟩) (v := .agg (num4A p.x)) rfl (by kernel_rfl) (by kernel_rfl) (by kernel_rfl) (fun _ _ _ h => h) (yldN (by rfl) _ rfl (w.heap.size) 0 p.x rfl (fun w h => h.1)) hHeld ?_
  simp only [zaP, zsT, zsZ, zsS]
  refine wpAnyH_take (i := 2) (oi := ⟨some 26, .fieldAddr 82 (.tmp 1) 1, 0, "point.go:93", #[], none⟩) (v := .pointer (some ⟨w.heap.size, 4, none⟩)) rfl (by kernel_rfl) (by kernel_rfl) (by kernel_rfl) (fun _ _ _ h => h) (Or.inl ⟨by rfl, fun w _ => by go_simp⟩) hHeld ?_
  simp only [zaP, zsT, zsZ, zsS]
  refine wpAnyH_take (i := 3) (oi := ⟨some 27, .load 80 (.tmp 26), 80, "point.go:93", #[zeD 2], none⟩) (v := .agg (num4A p.y)) rfl (by kernel_rfl) (by kernel_rfl) (by kernel_rfl) (fun _ _ _ h => h) (yldN (by rfl) _ rfl (w.heap.size) 4 p.y rfl (fun w h => h.2.1)) hHeld ?_
  simp only [zaP, zsT, zsZ, zsS]
  refine wpAnyH_take (i := 6) (oi := ⟨some 30, .load 80 (.tmp 6), 80, "point.go:93", #[], none⟩) (v := .agg (num4A su)) rfl (by kernel_rfl) (by kernel_rfl) (by kernel_rfl) (fun _ _ _ h => h) (yldN (by rfl) _ rfl (g6) 0 su rfl (fun w h => h.2.2)) hHeld ?_
  simp only [zaP, zsT, zsZ, zsS]
  refine wpAnyH_ready (rs := [4, 8]) (by kernel_rfl) (by simp) ?_
  refine AllReadyH.cons (o := ⟨some 28, .call ⟨.value (.func 120), #[.tmp 25, .tmp 27], #[80, 80]⟩, 80, "point.go:93", #[zeD 1, zeD 3], none⟩) rfl (fun K hK => ?_) ?_
  ·
   refine step_callTo (by rfl) _ _ (hrunPlus _ _ rfl (.agg (num4A p.x)) (.agg (num4A p.y)) rfl rfl V1) _ _ (fePlus p.x p.y Hp.out.x Hp.out.y V1) (fun V2 HBx => ?_)
   have KV2 := kTr KV1 HBx
   clear HBx
   refine hK.out _ _ ?_ (fun hHeld => ?_)
   · exact ⟨kPx RP KV2, kPy RP KV2, kNm R6 KV2⟩
   clear hK K
   try simp only [zaP, zsT, zsZ, zsS]
   refine wpAnyH_ready (rs := [5, 8]) (by kernel_rfl) (by simp) ?_
   refine AllReadyH.cons (o := ⟨some 29, .call ⟨.value (.func 161), #[.tmp 28], #[80]⟩, 80, "point.go:93", #[zeD 4, zeC 4], none⟩) rfl (fun K hK => ?_) ?_
   ·
    refine step_callTo (by rfl) _ _ (hrunSquare _ rfl (.agg (num4A (aP p.x p.y))) rfl V2) _ _ (feSquareA (aP p.x p.y) (aP_lt _ _) V2) (fun V3 HBx => ?_)
    have KV3 := kTr KV2 HBx
    clear HBx
    refine hK.out _ _ ?_ (fun hHeld => ?_)
    · exact ⟨kPx RP KV3, kPy RP KV3, kNm R6 KV3⟩
    clear hK K
    try simp only [zaP, zsT, zsZ, zsS]
    refine wpAnyH_ready (rs := [7, 8]) (by kernel_rfl) (by simp) ?_
    refine AllReadyH.cons (o := ⟨some 31, .call ⟨.value (.func 119), #[.tmp 29, .tmp 30], #[80, 80]⟩, 80, "point.go:93", #[zeD 5, zeD 6, zeC 5], none⟩) rfl (fun K hK => ?_) ?_
    ·
     refine step_callTo (by rfl) _ _ (hrunMinus _ _ rfl (.agg (num4A (mP (aP p.x p.y) (aP p.x p.y)))) (.agg (num4A su)) rfl rfl V3) _ _ (feMinus (mP (aP p.x p.y) (aP p.x p.y)) su (mP_lt _ _) Hsu.out V3) (fun V4 HBx => ?_)
     have KV4 := kTr KV3 HBx
     clear HBx
     refine hK.out _ _ ?_ (fun hHeld => ?_)
     · exact ⟨kPx RP KV4, kPy RP KV4, kNm R6 KV4⟩
     clear hK K
     try simp only [zaP, zsT, zsZ, zsS]
     refine wpAnyH_ready (rs := [8]) (by kernel_rfl) (by simp) ?_
     refine AllReadyH.cons (o := oPtMul23) rfl (fun K hK => ?_) ?_
     ·
      refine step_runTo (w' := V4.alloc (.cells (num4A 0) 80)) (by rfl) (.pointer (some ⟨V4.heap.size, 0, none⟩)) (hrunAllocE rfl V4) ?_
      obtain ⟨g5, hg5⟩ : ∃ g, g = V4.heap.size := ⟨_, rfl⟩
      have ZN : Hid ((V4.alloc (.cells (num4A 0) 80)).heap[g5]? = some (.cells (num4A 0) 80 (0, 0))) := by rw [hg5]; exact heap_alloc_new _ _
      have KV5 := kAl KV4 (.cells (num4A 0) 80)
      have GG : Hid (W5.heap.size ≤ g5) := by rw [hg5]; exact KV4.out.size
      rw [← hg5]
      obtain ⟨V5, hV5⟩ : ∃ V, V = V4.alloc (.cells (num4A 0) 80) := ⟨_, rfl⟩
      rw [← hV5] at ZN KV5 ⊢
      clear hV5 hg5
      refine hK.out _ _ ?_ (fun hHeld => ?_)
      · exact ⟨kPx RP KV5, kPy RP KV5, kNm R6 KV5⟩
      clear hK K
      try simp only [zaP, zsT, zsZ, zsS]
      refine wpAnyH_ready (rs := [9]) (by kernel_rfl) (by simp) ?_
      refine AllReadyH.cons (o := oPtMul24) rfl (fun K hK => ?_) ?_
      ·
       refine step_store_row _ (by rfl) 80 (.tmp 8) (.tmp 31) (by rfl) (g5) (num4A (sP (mP (aP p.x p.y) (aP p.x p.y)) su)) (by rfl) (by rfl) 80 _ ZN.out (feSize _) (n4_old _ _) (num4A_all _) ?_
       rw [put_none']
       refine hK.out _ _ ?_ (fun hHeld => ?_)
       · exact ⟨range_set (kPx RP KV5) (Nat.ne_of_lt (Nat.lt_of_lt_of_le (lt_row RP.out) GG.out)), range_set (kPy RP KV5) (Nat.ne_of_lt (Nat.lt_of_lt_of_le (lt_row RP.out) GG.out)), range_set (kNm R6 KV5) (Nat.ne_of_lt (Nat.lt_of_lt_of_le (lt_row R6.out) GG.out))⟩
       clear hK K
       try simp only [zaP, zsT, zsZ, zsS]
       refine wpAnyH_done (by kernel_rfl) ?_ _
       go_wp2_with fail
       go_meet
       case rel => exact ⟨g5, rfl, GG, hide (setRow_heap _ _ _ _ _ _ ZN.out), hide (below_setRow KV5.out GG.out _)⟩
      exact AllReadyH.nil
     exact AllReadyH.nil
    refine AllReadyH.cons (o := oPtMul23) rfl (fun K hK => ?_) ?_
    ·
     refine step_runTo (w' := V3.alloc (.cells (num4A 0) 80)) (by rfl) (.pointer (some ⟨V3.heap.size, 0, none⟩)) (hrunAllocE rfl V3) ?_
     obtain ⟨g6, hg6⟩ : ∃ g, g = V3.heap.size := ⟨_, rfl⟩
     have ZN : Hid ((V3.alloc (.cells (num4A 0) 80)).heap[g6]? = some (.cells (num4A 0) 80 (0, 0))) := by rw [hg6]; exact heap_alloc_new _ _
     have KV6 := kAl KV3 (.cells (num4A 0) 80)
     have GG : Hid (W5.heap.size ≤ g6) := by rw [hg6]; exact KV3.out.size
     rw [← hg6]
     obtain ⟨V6, hV6⟩ : ∃ V, V = V3.alloc (.cells (num4A 0) 80) := ⟨_, rfl⟩
     rw [← hV6] at ZN KV6 ⊢
     clear hV6 hg6
     refine hK.out _ _ ?_ (fun hHeld => ?_)
     · exact ⟨kPx RP KV6, kPy RP KV6, kNm R6 KV6⟩
     clear hK K
     try simp only [zaP, zsT, zsZ, zsS]
     refine wpAnyH_ready (rs := [7]) (by kernel_rfl) (by simp) ?_
     refine AllReadyH.cons (o := ⟨some 31, .call ⟨.value (.func 119), #[.tmp 29, .tmp 30], #[80, 80]⟩, 80, "point.go:93", #[zeD 5, zeD 6, zeC 5], none⟩) rfl (fun K hK => ?_) ?_
     ·
      refine step_callTo (by rfl) _ _ (hrunMinus _ _ rfl (.agg (num4A (mP (aP p.x p.y) (aP p.x p.y)))) (.agg (num4A su)) rfl rfl V6) _ _ (feMinus (mP (aP p.x p.y) (aP p.x p.y)) su (mP_lt _ _) Hsu.out V6) (fun V7 HBx => ?_)
      have KV7 := kTr KV6 HBx
      have ZN := hide (row_keep' ZN.out HBx)
      clear HBx
      refine hK.out _ _ ?_ (fun hHeld => ?_)
      · exact ⟨kPx RP KV7, kPy RP KV7, kNm R6 KV7⟩
      clear hK K
      try simp only [zaP, zsT, zsZ, zsS]
      refine wpAnyH_ready (rs := [9]) (by kernel_rfl) (by simp) ?_
      refine AllReadyH.cons (o := oPtMul24) rfl (fun K hK => ?_) ?_
      ·
       refine step_store_row _ (by rfl) 80 (.tmp 8) (.tmp 31) (by rfl) (g6) (num4A (sP (mP (aP p.x p.y) (aP p.x p.y)) su)) (by rfl) (by rfl) 80 _ ZN.out (feSize _) (n4_old _ _) (num4A_all _) ?_
       rw [put_none']
       refine hK.out _ _ ?_ (fun hHeld => ?_)
       · exact ⟨range_set (kPx RP KV7) (Nat.ne_of_lt (Nat.lt_of_lt_of_le (lt_row RP.out) GG.out)), range_set (kPy RP KV7) (Nat.ne_of_lt (Nat.lt_of_lt_of_le (lt_row RP.out) GG.out)), range_set (kNm R6 KV7) (Nat.ne_of_lt (Nat.lt_of_lt_of_le (lt_row R6.out) GG.out))⟩
       clear hK K
       try simp only [zaP, zsT, zsZ, zsS]
       refine wpAnyH_done (by kernel_rfl) ?_ _
       go_wp2_with fail
       go_meet
       case rel => exact ⟨g6, rfl, GG, hide (setRow_heap _ _ _ _ _ _ ZN.out), hide (below_setRow KV7.out GG.out _)⟩
      exact AllReadyH.nil
     exact AllReadyH.nil
    exact AllReadyH.nil
   refine AllReadyH.cons (o := oPtMul23) rfl (fun K hK => ?_) ?_
   ·
    refine step_runTo (w' := V2.alloc (.cells (num4A 0) 80)) (by rfl) (.pointer (some ⟨V2.heap.size, 0, none⟩)) (hrunAllocE rfl V2) ?_
    obtain ⟨g8, hg8⟩ : ∃ g, g = V2.heap.size := ⟨_, rfl⟩
    have ZN : Hid ((V2.alloc (.cells (num4A 0) 80)).heap[g8]? = some (.cells (num4A 0) 80 (0, 0))) := by rw [hg8]; exact heap_alloc_new _ _
    have KV8 := kAl KV2 (.cells (num4A 0) 80)
    have GG : Hid (W5.heap.size ≤ g8) := by rw [hg8]; exact KV2.out.size
    rw [← hg8]
    obtain ⟨V8, hV8⟩ : ∃ V, V = V2.alloc (.cells (num4A 0) 80) := ⟨_, rfl⟩
    rw [← hV8] at ZN KV8 ⊢
    clear hV8 hg8
    refine hK.out _ _ ?_ (fun hHeld => ?_)
    · exact ⟨kPx RP KV8, kPy RP KV8, kNm R6 KV8⟩
    clear hK K
    try simp only [zaP, zsT, zsZ, zsS]
    refine wpAnyH_ready (rs := [5]) (by kernel_rfl) (by simp) ?_
    refine AllReadyH.cons (o := ⟨some 29, .call ⟨.value (.func 161), #[.tmp 28], #[80]⟩, 80, "point.go:93", #[zeD 4, zeC 4], none⟩) rfl (fun K hK => ?_) ?_
    ·
     refine step_callTo (by rfl) _ _ (hrunSquare _ rfl (.agg (num4A (aP p.x p.y))) rfl V8) _ _ (feSquareA (aP p.x p.y) (aP_lt _ _) V8) (fun V9 HBx => ?_)
     have KV9 := kTr KV8 HBx
     have ZN := hide (row_keep' ZN.out HBx)
     clear HBx
     refine hK.out _ _ ?_ (fun hHeld => ?_)
     · exact ⟨kPx RP KV9, kPy RP KV9, kNm R6 KV9⟩
     clear hK K
     try simp only [zaP, zsT, zsZ, zsS]
     refine wpAnyH_ready (rs := [7]) (by kernel_rfl) (by simp) ?_
     refine AllReadyH.cons (o := ⟨some 31, .call ⟨.value (.func 119), #[.tmp 29, .tmp 30], #[80, 80]⟩, 80, "point.go:93", #[zeD 5, zeD 6, zeC 5], none⟩) rfl (fun K hK => ?_) ?_
     ·
      refine step_callTo (by rfl) _ _ (hrunMinus _ _ rfl (.agg (num4A (mP (aP p.x p.y) (aP p.x p.y)))) (.agg (num4A su)) rfl rfl V9) _ _ (feMinus (mP (aP p.x p.y) (aP p.x p.y)) su (mP_lt _ _) Hsu.out V9) (fun V10 HBx => ?_)
      have KV10 := kTr KV9 HBx
      have ZN := hide (row_keep' ZN.out HBx)
      clear HBx
      refine hK.out _ _ ?_ (fun hHeld => ?_)
      · exact ⟨kPx RP KV10, kPy RP KV10, kNm R6 KV10⟩
      clear hK K
      try simp only [zaP, zsT, zsZ, zsS]
      refine wpAnyH_ready (rs := [9]) (by kernel_rfl) (by simp) ?_
      refine AllReadyH.cons (o := oPtMul24) rfl (fun K hK => ?_) ?_
      ·
       refine step_store_row _ (by rfl) 80 (.tmp 8) (.tmp 31) (by rfl) (g8) (num4A (sP (mP (aP p.x p.y) (aP p.x p.y)) su)) (by rfl) (by rfl) 80 _ ZN.out (feSize _) (n4_old _ _) (num4A_all _) ?_
       rw [put_none']
       refine hK.out _ _ ?_ (fun hHeld => ?_)
       · exact ⟨range_set (kPx RP KV10) (Nat.ne_of_lt (Nat.lt_of_lt_of_le (lt_row RP.out) GG.out)), range_set (kPy RP KV10) (Nat.ne_of_lt (Nat.lt_of_lt_of_le (lt_row RP.out) GG.out)), range_set (kNm R6 KV10) (Nat.ne_of_lt (Nat.lt_of_lt_of_le (lt_row R6.out) GG.out))⟩
       clear hK K
       try simp only [zaP, zsT, zsZ, zsS]
       refine wpAnyH_done (by kernel_rfl) ?_ _
       go_wp2_with fail
       go_meet
       case rel => exact ⟨g8, rfl, GG, hide (setRow_heap _ _ _ _ _ _ ZN.out), hide (below_setRow KV10.out GG.out _)⟩
      exact AllReadyH.nil
     exact AllReadyH.nil
    exact AllReadyH.nil
   exact AllReadyH.nil
  refine AllReadyH.cons (o := oPtMul23) rfl (fun K hK => ?_) ?_
  ·
   refine step_runTo (w' := V1.alloc (.cells (num4A 0) 80)) (by rfl) (.pointer (some ⟨V1.heap.size, 0, none⟩)) (hrunAllocE rfl V1) ?_
   obtain ⟨g11, hg11⟩ : ∃ g, g = V1.heap.size := ⟨_, rfl⟩
   have ZN : Hid ((V1.alloc (.cells (num4A 0) 80)).heap[g11]? = some (.cells (num4A 0) 80 (0, 0))) := by rw [hg11]; exact heap_alloc_new _ _
   have KV11 := kAl KV1 (.cells (num4A 0) 80)
   have GG : Hid (W5.heap.size ≤ g11) := by rw [hg11]; exact KV1.out.size
   rw [← hg11]
   obtain ⟨V11, hV11⟩ : ∃ V, V = V1.alloc (.cells (num4A 0) 80) := ⟨_, rfl⟩
   rw [← hV11] at ZN KV11 ⊢
   clear hV11 hg11
   refine hK.out _ _ ?_ (fun hHeld => ?_)
   · exact ⟨kPx RP KV11, kPy RP KV11, kNm R6 KV11⟩
   clear hK K
   try simp only [zaP, zsT, zsZ, zsS]
   refine wpAnyH_ready (rs := [4]) (by kernel_rfl) (by simp) ?_
   refine AllReadyH.cons (o := ⟨some 28, .call ⟨.value (.func 120), #[.tmp 25, .tmp 27], #[80, 80]⟩, 80, "point.go:93", #[zeD 1, zeD 3], none⟩) rfl (fun K hK => ?_) ?_
   ·
    refine step_callTo (by rfl) _ _ (hrunPlus _ _ rfl (.agg (num4A p.x)) (.agg (num4A p.y)) rfl rfl V11) _ _ (fePlus p.x p.y Hp.out.x Hp.out.y V11) (fun V12 HBx => ?_)
    have KV12 := kTr KV11 HBx
    have ZN := hide (row_keep' ZN.out HBx)
    clear HBx
    refine hK.out _ _ ?_ (fun hHeld => ?_)
    · exact ⟨kPx RP KV12, kPy RP KV12, kNm R6 KV12⟩
    clear hK K
    try simp only [zaP, zsT, zsZ, zsS]
    refine wpAnyH_ready (rs := [5]) (by kernel_rfl) (by simp) ?_
    refine AllReadyH.cons (o := ⟨some 29, .call ⟨.value (.func 161), #[.tmp 28], #[80]⟩, 80, "point.go:93", #[zeD 4, zeC 4], none⟩) rfl (fun K hK => ?_) ?_
    ·
     refine step_callTo (by rfl) _ _ (hrunSquare _ rfl (.agg (num4A (aP p.x p.y))) rfl V12) _ _ (feSquareA (aP p.x p.y) (aP_lt _ _) V12) (fun V13 HBx => ?_)
     have KV13 := kTr KV12 HBx
     have ZN := hide (row_keep' ZN.out HBx)
     clear HBx
     refine hK.out _ _ ?_ (fun hHeld => ?_)
     · exact ⟨kPx RP KV13, kPy RP KV13, kNm R6 KV13⟩
     clear hK K
     try simp only [zaP, zsT, zsZ, zsS]
     refine wpAnyH_ready (rs := [7]) (by kernel_rfl) (by simp) ?_
     refine AllReadyH.cons (o := ⟨some 31, .call ⟨.value (.func 119), #[.tmp 29, .tmp 30], #[80, 80]⟩, 80, "point.go:93", #[zeD 5, zeD 6, zeC 5], none⟩) rfl (fun K hK => ?_) ?_
     ·
      refine step_callTo (by rfl) _ _ (hrunMinus _ _ rfl (.agg (num4A (mP (aP p.x p.y) (aP p.x p.y)))) (.agg (num4A su)) rfl rfl V13) _ _ (feMinus (mP (aP p.x p.y) (aP p.x p.y)) su (mP_lt _ _) Hsu.out V13) (fun V14 HBx => ?_)
      have KV14 := kTr KV13 HBx
      have ZN := hide (row_keep' ZN.out HBx)
      clear HBx
      refine hK.out _ _ ?_ (fun hHeld => ?_)
      · exact ⟨kPx RP KV14, kPy RP KV14, kNm R6 KV14⟩
      clear hK K
      try simp only [zaP, zsT, zsZ, zsS]
      refine wpAnyH_ready (rs := [9]) (by kernel_rfl) (by simp) ?_
      refine AllReadyH.cons (o := oPtMul24) rfl (fun K hK => ?_) ?_
      ·
       refine step_store_row _ (by rfl) 80 (.tmp 8) (.tmp 31) (by rfl) (g11) (num4A (sP (mP (aP p.x p.y) (aP p.x p.y)) su)) (by rfl) (by rfl) 80 _ ZN.out (feSize _) (n4_old _ _) (num4A_all _) ?_
       rw [put_none']
       refine hK.out _ _ ?_ (fun hHeld => ?_)
       · exact ⟨range_set (kPx RP KV14) (Nat.ne_of_lt (Nat.lt_of_lt_of_le (lt_row RP.out) GG.out)), range_set (kPy RP KV14) (Nat.ne_of_lt (Nat.lt_of_lt_of_le (lt_row RP.out) GG.out)), range_set (kNm R6 KV14) (Nat.ne_of_lt (Nat.lt_of_lt_of_le (lt_row R6.out) GG.out))⟩
       clear hK K
       try simp only [zaP, zsT, zsZ, zsS]
       refine wpAnyH_done (by kernel_rfl) ?_ _
       go_wp2_with fail
       go_meet
       case rel => exact ⟨g11, rfl, GG, hide (setRow_heap _ _ _ _ _ _ ZN.out), hide (below_setRow KV14.out GG.out _)⟩
      exact AllReadyH.nil
     exact AllReadyH.nil
    exact AllReadyH.nil
   exact AllReadyH.nil
  exact AllReadyH.nil
 case rest =>
 obtain ⟨g8, rfl, G8, R8, X8⟩ := hcut
 obtain ⟨W6, hW⟩ : ∃ W, W = wc := ⟨_, rfl⟩
 subst hW
 have lRP8 : w.heap.size < g8 := Nat.lt_of_lt_of_le (lt_row RP.out) G8.out
 have lRZ8 : w.heap.size + 1 < g8 := Nat.lt_of_lt_of_le (lt_row RZ.out) G8.out
 have lR38 : g3 < g8 := Nat.lt_of_lt_of_le (lt_row R3.out) G8.out
 have lR48 : g4 < g8 := Nat.lt_of_lt_of_le (lt_row R4.out) G8.out
 have lR58 : g5 < g8 := Nat.lt_of_lt_of_le (lt_row R5.out) G8.out
 have lR68 : g6 < g8 := Nat.lt_of_lt_of_le (lt_row R6.out) G8.out
 have lR78 : g7 < g8 := Nat.lt_of_lt_of_le (lt_row R7.out) G8.out
 have RP := hide (row_below RP.out X8.out (lt_row RP.out))
 have RZ := hide (row_below RZ.out X8.out (lt_row RZ.out))
 have R3 := hide (row_below R3.out X8.out (lt_row R3.out))
 have R4 := hide (row_below R4.out X8.out (lt_row R4.out))
 have R5 := hide (row_below R5.out X8.out (lt_row R5.out))
 have R6 := hide (row_below R6.out X8.out (lt_row R6.out))
 have R7 := hide (row_below R7.out X8.out (lt_row R7.out))
 have BL : Hid (Below w.heap.size w W6) := BL.out.trans (X8.out.mono BL.out.size)
 clear X8 G8
 obtain ⟨cr, Ecr⟩ : ∃ x, Hid (x = sP (mP (aP p.x p.y) (aP p.x p.y)) su) := ⟨_, rfl⟩
 have Hcr : Hid (cr < P) := by rw [Ecr.out]; exact sP_lt _ _
 rw [← Ecr.out] at R8
 go_wp2_with fail
 refine wp_region_held_drew (S := fun w' => w'.rangeAt (g8) 0 (nL cr) ∧ w'.rangeAt (g5) 0 (nL zz) ∧ w'.rangeAt (g7) 0 (nL df) ∧ w'.rangeAt (g6) 0 (nL su)) (by kernel_rfl) (by exact ⟨rangeN R8.out, rangeN R5.out, rangeN R7.out, rangeN R6.out⟩) (fun hHeld => ?_)
 obtain ⟨V15, hV15⟩ : ∃ V, V = W6.drew := ⟨_, rfl⟩
 rw [← hV15] at hHeld ⊢
 have KV15 : Hid (Below W6.heap.size W6 V15) := by rw [hV15]; exact (Below.refl _ _).drew
 clear hV15
 refine wpAnyH_take (i := 0) (oi := ⟨some 32, .load 80 (.tmp 8), 80, "point.go:94", #[], none⟩) (v := .agg (num4A cr)) rfl (by kernel_rfl) (by kernel_rfl) (by kernel_rfl) (fun _ _ _ h => h) (yldN (by rfl) _ rfl (g8) 0 cr rfl (fun w h => h.1)) hHeld ?_
 simp only [zaP, zsT, zsZ, zsS]
 refine wpAnyH_take (i := 1) (oi := ⟨some 33, .load 80 (.tmp 5), 80, "point.go:94", #[], none⟩) (v := .agg (num4A zz)) rfl (by kernel_rfl) (by kernel_rfl) (by kernel_rfl) (fun _ _ _ h => h) (yldN (by rfl) _ rfl (g5) 0 zz rfl (fun w h => h.2.1)) hHeld ?_
 simp only [zaP, zsT, zsZ, zsS]
 refine wpAnyH_take (i := 2) (oi := ⟨some 34, .load 80 (.tmp 5), 80, "point.go:94", #[], none⟩) (v := .agg (num4A zz)) rfl (by kernel_rfl) (by kernel_rfl) (by kernel_rfl) (fun _ _ _ h => h) (yldN (by rfl) _ rfl (g5) 0 zz rfl (fun w h => h.2.1)) hHeld ?_
 simp only [zaP, zsT, zsZ, zsS]
 refine wpAnyH_take (i := 4) (oi := ⟨some 36, .load 80 (.tmp 7), 80, "point.go:94", #[], none⟩) (v := .agg (num4A df)) rfl (by kernel_rfl) (by kernel_rfl) (by kernel_rfl) (fun _ _ _ h => h) (yldN (by rfl) _ rfl (g7) 0 df rfl (fun w h => h.2.2.1)) hHeld ?_
 simp only [zaP, zsT, zsZ, zsS]
 refine wpAnyH_take (i := 6) (oi := ⟨some 38, .load 80 (.tmp 7), 80, "point.go:94", #[], none⟩) (v := .agg (num4A df)) rfl (by kernel_rfl) (by kernel_rfl) (by kernel_rfl) (fun _ _ _ h => h) (yldN (by rfl) _ rfl (g7) 0 df rfl (fun w h => h.2.2.1)) hHeld ?_
 simp only [zaP, zsT, zsZ, zsS]
 refine wpAnyH_take (i := 7) (oi := ⟨some 39, .load 80 (.tmp 6), 80, "point.go:94", #[], none⟩) (v := .agg (num4A su)) rfl (by kernel_rfl) (by kernel_rfl) (by kernel_rfl) (fun _ _ _ h => h) (yldN (by rfl) _ rfl (g6) 0 su rfl (fun w h => h.2.2.2)) hHeld ?_
 simp only [zaP, zsT, zsZ, zsS]
 refine wpAnyH_ready (rs := [3]) (by kernel_rfl) (by simp) ?_
 refine AllReadyH.cons (o := ⟨some 35, .call ⟨.value (.func 120), #[.tmp 33, .tmp 34], #[80, 80]⟩, 80, "point.go:94", #[zeD 1, zeD 2], none⟩) rfl (fun K hK => ?_) ?_
 ·
  refine step_callTo (by rfl) _ _ (hrunPlus _ _ rfl (.agg (num4A zz)) (.agg (num4A zz)) rfl rfl V15) _ _ (fePlus zz zz Hzz.out Hzz.out V15) (fun V16 HBx => ?_)
  have KV16 := kTr KV15 HBx
  clear HBx
  refine hK.out _ _ ?_ (fun hHeld => ?_)
  · exact ⟨kNm R8 KV16, kNm R5 KV16, kNm R7 KV16, kNm R6 KV16⟩
  clear hK K
  try simp only [zaP, zsT, zsZ, zsS]
  refine wpAnyH_ready (rs := [5]) (by kernel_rfl) (by simp) ?_
  refine AllReadyH.cons (o := ⟨some 37, .call ⟨.value (.func 119), #[.tmp 35, .tmp 36], #[80, 80]⟩, 80, "point.go:94", #[zeD 3, zeD 4, zeC 3], none⟩) rfl (fun K hK => ?_) ?_
  ·
   refine step_callTo (by rfl) _ _ (hrunMinus _ _ rfl (.agg (num4A (aP zz zz))) (.agg (num4A df)) rfl rfl V16) _ _ (feMinus (aP zz zz) df (aP_lt _ _) Hdf.out V16) (fun V17 HBx => ?_)
   have KV17 := kTr KV16 HBx
   clear HBx
   refine hK.out _ _ ?_ (fun hHeld => ?_)
   · exact ⟨kNm R8 KV17, kNm R5 KV17, kNm R7 KV17, kNm R6 KV17⟩
   clear hK K
   try simp only [zaP, zsT, zsZ, zsS]
   refine wpAnyH_ready (rs := [8]) (by kernel_rfl) (by simp) ?_
   refine AllReadyH.cons (o := ⟨some 40, .call ⟨.value (.func 121), #[.tmp 32, .tmp 37, .tmp 38, .tmp 39], #[80, 80, 80, 80]⟩, 82, "point.go:94", #[zeD 0, zeD 5, zeD 6, zeD 7, zeC 5], none⟩) rfl (fun K hK => ?_) ?_
   ·
    refine step_callTo (by rfl) _ _ (hrunParts _ _ _ _ rfl (.agg (num4A cr)) (.agg (num4A (sP (aP zz zz) df))) (.agg (num4A df)) (.agg (num4A su)) rfl rfl rfl rfl V17) _ _ (partsA cr (sP (aP zz zz) df) df su Hcr.out (sP_lt _ _) Hdf.out Hsu.out V17) (fun V18 HBx => ?_)
    have KV18 := kTr KV17 HBx
    clear HBx
    refine hK.out _ _ ?_ (fun hHeld => ?_)
    · exact ⟨kNm R8 KV18, kNm R5 KV18, kNm R7 KV18, kNm R6 KV18⟩
    clear hK K
    try simp only [zaP, zsT, zsZ, zsS]
    refine wpAnyH_ready (rs := [9]) (by kernel_rfl) (by simp) ?_
    refine AllReadyH.cons (o := ⟨none, .store 82 (.tmp 2) (.tmp 40), 0, "point.go:94", #[zeD 8, zeC 8, zeP 0, zeP 1, zeP 2, zeP 3, zeP 4, zeP 5, zeP 6, zeP 7, zeP 8], none⟩) rfl (fun K hK => ?_) ?_
    ·
     refine step_store_row _ (by rfl) 82 (.tmp 2) (.tmp 40) (by rfl) (w.heap.size + 1) (pA (partsP cr (sP (aP zz zz) df) df su)) (by rfl) (by rfl) 82 _ (hide (row_below RZ.out KV18.out (lt_row RZ.out))).out (pA_size _) (pA_old _ _) (pA_all _) ?_
     rw [put_none']
     refine hK.out _ _ ?_ (fun hHeld => ?_)
     · exact ⟨range_set (kNm R8 KV18) (by omega), range_set (kNm R5 KV18) (by omega), range_set (kNm R7 KV18) (by omega), range_set (kNm R6 KV18) (by omega)⟩
     clear hK K
     try simp only [zaP, zsT, zsZ, zsS]
     refine wpAnyH_done (by kernel_rfl) ?_ _
     go_wp2_with fail
     have RZ9 := hide (row_below RZ.out KV18.out (lt_row RZ.out))
     have BL9 := hide (BL.out.trans (KV18.out.mono BL.out.size))
     refine bodyPost_ret (v := .agg (pA (partsP cr (sP (aP zz zz) df) df su))) (results_cell_row Tryz.results140 _ _ (w.heap.size + 1) 82 _ (0, 0) _ (by rfl) (setRow_heap _ _ _ _ _ _ RZ9.out) Tryz.underlying82 rfl (pA_size _)) rfl ⟨?_, below_setRow BL9.out (by omega) _⟩
     rw [Ecr.out, Edf.out, Esu.out, Exx.out, Eyy.out, Ezz.out]; rfl
    exact AllReadyH.nil
   exact AllReadyH.nil
  exact AllReadyH.nil
 exact AllReadyH.nil
end
theorem wpList_build_to' {P : Program} {ops : Array Oper} {rest : List Oper} {o : Oper} {a : Act} {w : World} {Q : Exit → Act → World → Prop} (hg : o.guard = none) (t : TypeId) (parts : Array (Nat × Operand)) (ho : o.op = .build t parts) (cells : Array Value) (ps : List (Nat × Value))
  (hp : (parts.map fun (i, x) => (i, a.eval x)).toList = ps) (hb : P.built t ps = some cells) (h : wpList P ops Q rest (a.put o.dst (.agg cells)) w) : wpList P ops Q (o :: rest) a w :=
 wpList_build hg t parts ho (by rw [hp, hb]; rfl) (by rw [hp, hb]; exact h)
theorem pwF_one (p : Pt) (i : Nat) : upd noPt 0 p i = pwF p 1 i := by
 unfold upd pwF noPt
 by_cases h : i = 0
 · subst h; rfl
 · rw [if_neg h, if_neg (by omega)]
theorem pwF_succ (p : Pt) (i j : Nat) (hi : 1 ≤ i) : upd (pwF p i) i (dblN 64 (pwN p (i - 1))) j = pwF p (i + 1) j := by
 rw [pwN_succ, Nat.sub_add_cancel hi]
 unfold upd pwF
 by_cases h : j = i
 · subst h; rw [if_pos rfl, if_pos (by omega)]
 ·
  rw [if_neg h]
  by_cases h2 : j < i
  · rw [if_pos h2, if_pos (by omega)]
  · rw [if_neg h2, if_neg (by omega)]
theorem upd_upd (f : Nat → Pt) (i : Nat) (p q : Pt) (j : Nat) : upd (upd f i p) i q j = upd f i q j := by
 unfold upd; split <;> rfl
theorem pLa_size (p : Pt) : (Tryz.prog.info? 82).map (·.size) = some (pL p).toArray.size := pA_size p
theorem pLa_all (p : Pt) : (pL p).toArray.all (·.oneCell') = true := pA_all p
theorem psLa_size (f : Nat → Pt) : (Tryz.prog.info? 84).map (·.size) = some (psL f 4).toArray.size := sizePw f
theorem psLa_old (f g : Nat → Pt) : (psA f 4).size = (psL g 4).toArray.size := psA_old f g 4
theorem psLa_all (f : Nat → Pt) (n : Nat) : (psL f n).toArray.all (·.oneCell') = true := psA_all f n
theorem psA_eq (f : Nat → Pt) (n : Nat) : psA f n = (psL f n).toArray := rfl
section
attribute [local irreducible] num4A nL pA psA psL pL
set_option maxRecDepth 100000 in
set_option maxHeartbeats 4000000 in
theorem ptPowA (p : Pt) (hp : p.Ok) (w : World) :
  Calls Tryz.prog 137 #[.agg (pA p)] w fun e w' => e = .returned (.agg (psA (pwN p) 4)) ∧ Below w.heap.size w w' := by
 have hz := zeroPw
 have hzp := zeroP
 have Hp := hide hp
 clear hp
 go_enter Tryz.func137, Tryz.ntmps137
 go_upto_region 1 with fail
 go_wp2_with (first
  | (refine wpList_load_row (by rfl) 82 (.tmp 1) (by rfl) w.heap.size (by rfl) 82 (pA p) (0, 0) _ ((heap_alloc_old _ _ (by simp)).trans (heap_alloc_new _ _)) Tryz.underlying82 rfl (pA_size _) ?_)
  | (refine wpList_build_to' (by rfl) 84 _ (by rfl) (psA (upd noPt 0 p) 4) [(0, .agg (pA p))] (by kernel_rfl) (builtPw p) ?_)
  | (refine wpList_store_row (by rfl) 84 (.tmp 3) (.tmp 6) (by rfl) (w.heap.size + 2) (psA (upd noPt 0 p) 4) (by rfl) (by rfl) 84 _ (heap3_2 _ _ _ _) (sizePw _) (psA_old _ _ _) (psA_all _ _) ?_))
 try rw [put_none']
 generalize hW0 : World.setRow _ _ _ = W0
 have H0 : Hid (Pts W0 (w.heap.size + 1 + 1) 4 (pwF p 1)) := by
  refine (Pts.of_row (T := 84) (f := upd noPt 0 p) ?_).ext (fun i _ => pwF_one p i)
  rw [← hW0]; exact setRow_heap _ _ _ _ _ _ (heap3_2 _ _ _ _)
 have HZ : Hid (W0.heap[w.heap.size + 1]? = some (.cells (psA noPt 4) 84 (0, 0))) := by
  rw [← hW0]; exact (setRow_other _ _ _ _ (by omega)).trans (heap3_1 _ _ _ _)
 have HB : Hid (Below w.heap.size w W0) := by
  rw [← hW0]; exact below_setRow (by show Below _ _ _; go_grown) (by omega) _
 clear hW0
 obtain ⟨b, hb⟩ : ∃ b, b = w.heap.size + 1 + 1 := ⟨_, rfl⟩
 rw [← hb] at H0 ⊢
 have lb : w.heap.size + 1 < b := by omega
 clear hb
 go_loopw [4] (fun i wr => ∃ k : Nat, 1 ≤ k ∧ k ≤ 4 ∧ i = .int .i64 k ∧ Hid (Pts wr b 4 (pwF p k)) ∧ Hid (wr.heap[w.heap.size + 1]? = some (.cells (psA noPt 4) 84 (0, 0))) ∧ Hid (Below w.heap.size w wr)) (fun i _ => 4 - (intOf i).toNat)
 case atStart => exact ⟨1, by omega, by omega, rfl, H0, HZ, HB⟩
 case round =>
  clear H0 HZ HB
  obtain ⟨k, hk1, hk4, rfl, H0, HZ, HB⟩ := hrel
  by_cases hlt : k < 4
  ·
   obtain ⟨m, hm⟩ : ∃ m, Hid (k = m + 1) := ⟨k - 1, by show _ = _; omega⟩
   have e1 : (k : Int) - 1 = (m : Int) := by have := hm.out; omega
   have bk : (k : Int) < 4 := by omega
   have hi1 := idxPw b k hlt
   have hi2 := idxPw b m (by have := hm.out; omega)
   have RD : Hid (wr.rangeAt b (16 * m) (pL (pwN p m))) := by
    have := H0.out.rd m (by have := hm.out; omega)
    have e : pwF p k m = pwN p m := if_pos (by have := hm.out; omega)
    rw [e] at this
    exact this
   have TH : Hid (wr.there b (16 * k) (pL (pwN p m)).toArray.size) := by
    show World.there _ _ _ _
    rw [List.size_toArray, pL_len]; exact H0.out.at' hlt
   go_upto_region 6 with (first
    | (refine wpList_load_mid (by rfl) 82 (.tmp 14) (by rfl) b (16 * m) (by rfl) (pL (pwN p m)) _ RD.out Tryz.underlying82 rfl (pL_size _) ?_)
    | (refine wpList_store_mid (by rfl) 82 (.tmp 16) (.tmp 15) (by rfl) b (16 * k) (pL (pwN p m)).toArray (by rfl) (by rfl) TH.out (pLa_size _) (pLa_all _) ?_))
   try rw [put_none']
   generalize hW1 : World.setCells _ _ _ _ = W1
   have G0 : Hid (Pts W1 b 4 (upd (pwF p k) k (dblN 0 (pwN p m)))) := by rw [← hW1]; exact H0.out.set hlt _
   have GZ : Hid (W1.heap[w.heap.size + 1]? = some (.cells (psA noPt 4) 84 (0, 0))) := by rw [← hW1]; exact (heap_setCells _ _ _ _ _ (by omega)).trans HZ.out
   have GB : Hid (Below w.heap.size w W1) := by rw [← hW1]; exact below_setCells (by omega) _ _ _ HB.out
   clear hW1 H0 HZ HB RD TH hi2 e1
   go_wp2_with fail
   simp only [pL_A]
   go_loopw [17] (fun i wr => ∃ j : Nat, j ≤ 64 ∧ i = .int .i64 j ∧ Hid (Pts wr b 4 (upd (pwF p k) k (dblN j (pwN p m)))) ∧ Hid (wr.heap[w.heap.size + 1]? = some (.cells (psA noPt 4) 84 (0, 0))) ∧ Hid (Below w.heap.size w wr)) (fun i _ => 64 - (intOf i).toNat)
   case atStart => exact ⟨0, by omega, rfl, G0, GZ, GB⟩
   case round =>
    clear G0 GZ GB
    obtain ⟨j, hj, rfl, H0, HZ, HB⟩ := hrel
    by_cases hl2 : j < 64
    ·
     have bj : (j : Int) < 64 := by omega
     have RD := hide (H0.out.rd k hlt)
     rw [upd_same] at RD
     go_upto_region 9 with (first
      | (refine wpList_load_mid (by rfl) 82 (.tmp 21) (by rfl) b (16 * k) (by rfl) (pL (dblN j (pwN p m))) _ RD.out Tryz.underlying82 rfl (pL_size _) ?_))
     simp only [pL_A]
     refine (ptDblA (dblN j (pwN p m)) (dblN_ok (dblN_ok Hp.out _) _) _).mono ?_
     rintro e W2 ⟨rfl, hB⟩
     rw [show dblP (dblN j (pwN p m)) = dblN (j + 1) (pwN p m) from rfl]
     have lz := lt_row HZ.out
     have ls := H0.out.size (by omega)
     have G0 := hide (H0.out.below hB ls)
     have GZ : Hid (W2.heap[w.heap.size + 1]? = some (.cells (psA noPt 4) 84 (0, 0))) := row_keep' HZ.out hB
     have GB : Hid (Below w.heap.size w W2) := HB.out.trans (hB.mono (by omega))
     have TH : Hid (W2.there b (16 * k) (pA (dblN (j + 1) (pwN p m))).size) := by
      show World.there _ _ _ _
      rw [pA_len]; exact G0.out.at' hlt
     clear hB H0 HZ HB RD
     go_upto_region 9 with (first
      | (refine wpList_store_mid (by rfl) 82 (.tmp 24) (.tmp 23) (by rfl) b (16 * k) (pA (dblN (j + 1) (pwN p m))) (by rfl) (by rfl) TH.out (pA_size _) (pA_all _) ?_))
     try rw [put_none']
     generalize hW1 : World.setCells _ _ _ _ = W3
     have F0 : Hid (Pts W3 b 4 (upd (pwF p k) k (dblN (j + 1) (pwN p m)))) := by
      rw [← hW1, pA_L]; exact (G0.out.set hlt _).ext (fun i _ => upd_upd _ _ _ _ i)
     have FZ : Hid (W3.heap[w.heap.size + 1]? = some (.cells (psA noPt 4) 84 (0, 0))) := by rw [← hW1]; exact (heap_setCells _ _ _ _ _ (by omega)).trans GZ.out
     have FB : Hid (Below w.heap.size w W3) := by rw [← hW1]; exact below_setCells (by omega) _ _ _ GB.out
     clear hW1 G0 GZ GB TH
     go_wp2_with fail
     exact ⟨⟨j + 1, by omega, by go_num, F0, FZ, FB⟩, by simp [intOf]; omega⟩
    ·
     obtain rfl : j = 64 := by omega
     have bj : (64 : Int) ≤ ((64 : Nat) : Int) := by omega
     have F0 : Hid (Pts wr b 4 (pwF p (k + 1))) := by
      have e : m = k - 1 := by have := hm.out; omega
      have := H0.out
      rw [e] at this
      exact this.ext (fun i _ => pwF_succ p k i hk1)
     clear H0 hl2 hj
     go_wp2_with fail
     exact ⟨⟨k + 1, by omega, by omega, by go_num, F0, HZ, HB⟩, by simp [intOf]; omega⟩
  ·
   obtain rfl : k = 4 := by omega
   have bk : (4 : Int) ≤ ((4 : Nat) : Int) := by omega
   have F0 : Hid (Pts wr b 4 (pwN p)) := H0.out.ext (fun i hi => if_pos hi)
   have WH := hide F0.out.whole
   clear H0 hlt hk1 hk4
   go_wp2_with (first
    | (refine wpList_load_mid (by rfl) 84 (.tmp 3) (by rfl) b 0 (by rfl) (psL (pwN p) 4) _ WH.out underPw4 rfl (sizePwL _) ?_)
    | (refine wpList_store_row (by rfl) 84 (.tmp 2) (.tmp 26) (by rfl) (w.heap.size + 1) (psL (pwN p) 4).toArray (by rfl) (by rfl) 84 _ HZ.out (psLa_size _) (psLa_old _ _) (psLa_all _ _) ?_))
   refine bodyPost_ret (v := .agg (psL (pwN p) 4).toArray) (results_cell_row Tryz.results137 _ _ (w.heap.size + 1) 84 _ (0, 0) _ (by rfl) (setRow_heap _ _ _ _ _ _ HZ.out) underPw4 rfl (psLa_size _)) rfl ⟨by rw [psA_eq], below_setRow HB.out (by omega) _⟩
end
def zeroPt : Pt := ⟨0, 1, 1, 0⟩
theorem zeroPt_ok : zeroPt.Ok := ⟨P_pos, one_lt, one_lt, P_pos⟩
theorem builtZ_gen (a0 a1 a2 a3 b0 b1 b2 b3 : Value) : Tryz.prog.built 82 [(1, .agg #[a0, a1, a2, a3]), (2, .agg #[b0, b1, b2, b3])] = some (nL 0 ++ ([a0, a1, a2, a3] ++ ([b0, b1, b2, b3] ++ nL 0))).toArray := by kernel_rfl
theorem builtZ : Tryz.prog.built 82 [(1, .agg (num4A 1)), (2, .agg (num4A 1))] = some (pA zeroPt) := builtZ_gen _ _ _ _ _ _ _ _
theorem ptAddG (p q : Pt) (hp : p.Ok) (hq : q.Ok) (w : World) (hG : Gl w) : Calls Tryz.prog 79 #[.agg (pA p), .agg (pA q)] w fun e w' => e = .returned (.agg (pA (addP p q))) ∧ Below w.heap.size w w' := by
 obtain ⟨TT, frr, hg0⟩ := hG.g0
 rw [← td_mP] at hg0
 exact ptAddA p q hp hq w TT frr hg0
section
attribute [local irreducible] num4A nL pA psA psL pL
set_option maxRecDepth 100000 in
theorem zeroPtA (w : World) (hG : Gl w) : Calls Tryz.prog 139 #[] w fun e w' => e = .returned (.agg (pA zeroPt)) ∧ Below w.heap.size w w' := by
 have hzp := zeroP
 obtain ⟨TT, frr, hg1⟩ := hG.g1
 have HG := hide hg1
 have lG := lt_row hg1
 clear hg1 hG
 go_enter Tryz.func139, Tryz.ntmps139
 go_upto_region 1 with fail
 have HR : Hid ((w.alloc (.cells (pA p0) 82)).heap[8]? = some (.cells (num4A 1) TT frr)) := (heap_alloc_old _ _ lG).trans HG.out
 go_wp2_with (first
  | (refine wpList_load_row (by rfl) 80 (.global 8) (by rfl) 8 (by rfl) TT (num4A 1) frr _ HR.out under33 rfl (feSize _) ?_)
  | (refine wpList_build_to' (by rfl) 82 _ (by rfl) (pA zeroPt) [(1, .agg (num4A 1)), (2, .agg (num4A 1))] (by kernel_rfl) builtZ ?_)
  | (refine wpList_store_row (by rfl) 82 (.tmp 0) (.tmp 3) (by rfl) w.heap.size (pA zeroPt) (by rfl) (by rfl) 82 _ (heap_alloc_new _ _) (pA_size _) (pA_old _ _) (pA_all _) ?_))
 refine bodyPost_ret (v := .agg (pA zeroPt)) (results_cell_row Tryz.results139 _ _ w.heap.size 82 _ (0, 0) _ (by rfl) (setRow_heap _ _ _ _ _ _ (heap_alloc_new _ _)) Tryz.underlying82 rfl (pA_size _)) rfl ⟨rfl, below_setRow (by show Below _ _ _; go_grown) (Nat.le_refl _) _⟩
end
def smB (f : Nat → Pt) : Nat → Nat → Pt
 | 0, _ => zeroPt
 | i + 1, c => if c < 2 ^ i then smB f i c else addP (smB f i (c - 2 ^ i)) (f i)
theorem smB_ok (f : Nat → Pt) : ∀ i c, (smB f i c).Ok
 | 0, _ => zeroPt_ok
 | i + 1, c => by
  rw [smB]; split
  · exact smB_ok f i c
  · exact partsP_ok _ _ _ _
def smF (f : Nat → Pt) (i j : Nat) : Nat → Pt := fun c => if c < 2 ^ i then smB f i c else if c < 2 ^ i + j then smB f (i + 1) c else p0
theorem smF_start (f : Nat → Pt) (c : Nat) : upd noPt 0 zeroPt c = smF f 0 0 c := by
 unfold upd noPt smF
 by_cases h : c = 0
 · subst h; rfl
 · rw [if_neg h, if_neg (by simp; omega), if_neg (by simp; omega)]
theorem smF_at (f : Nat → Pt) (i j c : Nat) (h : c < 2 ^ i) : smF f i j c = smB f i c := if_pos h
theorem smF_step (f : Nat → Pt) (i j c : Nat) (_ : j < 2 ^ i) : upd (smF f i j) (2 ^ i + j) (addP (smB f i j) (f i)) c = smF f i (j + 1) c := by
 unfold upd smF
 by_cases h : c = 2 ^ i + j
 ·
  subst h
  rw [if_pos rfl, if_neg (by omega), if_pos (by omega), smB, if_neg (by omega), Nat.add_sub_cancel_left]
 ·
  rw [if_neg h]
  by_cases h1 : c < 2 ^ i
  · rw [if_pos h1, if_pos h1]
  ·
   rw [if_neg h1, if_neg h1]
   by_cases h2 : c < 2 ^ i + j
   · rw [if_pos h2, if_pos (by omega)]
   · rw [if_neg h2, if_neg (by omega)]
theorem smF_next (f : Nat → Pt) (i c : Nat) : smF f i (2 ^ i) c = smF f (i + 1) 0 c := by
 unfold smF
 have e : 2 ^ (i + 1) = 2 ^ i + 2 ^ i := by rw [Nat.pow_succ]; omega
 rw [e, Nat.add_zero]
 by_cases h1 : c < 2 ^ i
 · rw [if_pos h1, if_pos (by omega), smB, if_pos h1]
 ·
  rw [if_neg h1]
  by_cases h2 : c < 2 ^ i + 2 ^ i
  · rw [if_pos h2, if_pos h2]
  · rw [if_neg h2, if_neg h2, if_neg (by omega)]
theorem hrunPtAdd {a : Act} {o : Oper} (x y : Operand) (ho : o.op = .call { callee := .value (.func 79), args := #[x, y], argTypes := #[82, 82] }) (v1 v2 : Value) (hx : a.eval x = v1) (hy : a.eval y = v2) (w : World) :
  (execOp a.eval o).run Tryz.prog w = .ok (.enter 79 #[v1, v2]) w := by
 unfold execOp
 simp only [ho]
 subst hx hy
 go_simp
theorem yldP {ops : Array Oper} {S : World → Prop} {op : Oper} {a : Act} (hw : Region.wanted op (yielded ops a.tmps) = true) (x : Operand) (ho : op.op = .load 82 x)
  (b o : Nat) (p : Pt) (hx : a.eval x = .pointer (some ⟨b, o, none⟩)) (hS : ∀ w, S w → w.rangeAt b o (pL p)) : YieldsIf Tryz.prog ops S op (.agg (pA p)) a :=
 yld_load hw _ x ho b o hx (pL p) (pA p) rfl _ hS Tryz.underlying82 rfl (pL_size p)
theorem step_store_mid {P : Program} {w : World} {ops : Array Oper} {o : Oper} {a : Act} {K : Act → World → Prop} {Q : Exit → Act → World → Prop} {E : Prop} (hgd : o.guard = none) (ty : TypeId) (x y : Operand) (ho : o.op = .store ty x y)
  (b off : Nat) (cells : Array Value) (hx : a.eval x = .pointer (some ⟨b, off, none⟩)) (hy : a.eval y = .agg cells)
  (ht : w.there b off cells.size) (hi : (P.info? ty).map (·.size) = some cells.size) (h1 : cells.all (·.oneCell') = true) (h : K (a.put o.dst undef) (w.setCells b off cells.toList)) :
  if Region.wanted o (yielded ops a.tmps) = true then Oper.wp P o a w K Q else E := by
 rw [if_pos (by simp [Region.wanted, hgd])]
 exact wp_store_mid ty x y ho b off cells hx hy ht hi h1 h
theorem psLa_size16 (f : Nat → Pt) : (Tryz.prog.info? 231).map (·.size) = some (psL f 16).toArray.size := size16P f
theorem psLa_old16 (f g : Nat → Pt) : (psA f 16).size = (psL g 16).toArray.size := psA_old f g 16
theorem rangePt {w : World} {b : Nat} {p : Pt} {T : TypeId} {fr : Nat × Nat} (h : w.heap[b]? = some (.cells (pA p) T fr)) : w.rangeAt b 0 (pL p) := by
 intro j v hv
 rw [Nat.zero_add, cell_of_row w b j _ T _ h, ← pL_A, List.getElem?_toArray]
 exact hv
theorem Pts.rdB {w v : World} {b n : Nat} {f : Nat → Pt} (_ : Pts v b n f) (j : Nat) (_ : j < n) {p : Pt} (h : w.rangeAt b (16 * j) (pL p)) {B : Nat} (hB : Below B w v) (hb : b < B) : v.rangeAt b (16 * j) (pL p) := range_below h hB hb
theorem wrap_pow {k q : Nat} (hk : k < 4) (hq : q = 2 ^ k) : wrap64 (2 ^ k) = (q : Int) := by
 have h4 : k = 0 ∨ k = 1 ∨ k = 2 ∨ k = 3 := by omega
 rcases h4 with rfl | rfl | rfl | rfl <;> subst hq <;> simp [wrap64]
section
attribute [local irreducible] num4A nL pA psA psL pL
set_option maxRecDepth 100000 in
set_option maxHeartbeats 4000000 in
theorem ptSumsA (f : Nat → Pt) (hf : ∀ i, i < 4 → (f i).Ok) (w : World) (hG : Gl w) :
  Calls Tryz.prog 138 #[.agg (psA f 4)] w fun e w' => e = .returned (.agg (psA (smB f 4) 16)) ∧ Below w.heap.size w w' := by
 have hz := zero16P
 have hzp := zeroP
 have Hf := hide hf
 have HG := hide hG
 clear hf hG
 go_enter Tryz.func138, Tryz.ntmps138
 go_upto_region 2 with fail
 generalize hW0 : World.alloc _ _ = W0
 have R1 : Hid (W0.heap[w.heap.size]? = some (.cells (psA f 4) 84 (0, 0))) := by rw [← hW0]; exact heap3_0 _ _ _ _
 have RZ : Hid (W0.heap[w.heap.size + 1]? = some (.cells (psA noPt 16) 231 (0, 0))) := by rw [← hW0]; exact heap3_1 _ _ _ _
 have R3 : Hid (Pts W0 (w.heap.size + 1 + 1) 16 noPt) := by rw [← hW0]; exact Pts.of_row (heap3_2 _ _ _ _)
 have BL : Hid (Below w.heap.size w W0) := by rw [← hW0]; show Below _ _ _; go_grown
 clear hW0
 obtain ⟨b, hb⟩ : ∃ b, b = w.heap.size + 1 + 1 := ⟨_, rfl⟩
 rw [← hb] at R3 ⊢
 have lb : w.heap.size + 1 < b := by omega
 clear hb
 have hix := idx16 .i64 b 0 (by decide)
 go_wp2_with fail
 refine (zeroPtA _ (HG.out.keep BL.out)).mono ?_
 rintro e W1 ⟨rfl, hB⟩
 have l1 := lt_row RZ.out
 have l3 := R3.out.size (by decide)
 have R1 := hide (row_keep' R1.out hB)
 have RZ := hide (row_keep' RZ.out hB)
 have R3 := hide (R3.out.below hB l3)
 have BL : Hid (Below w.heap.size w W1) := BL.out.trans (hB.mono (by omega))
 have TH : Hid (W1.there b (16 * 0) (pA zeroPt).size) := by
  show World.there _ _ _ _
  rw [pA_len]; exact R3.out.at' (by decide)
 clear hB
 go_upto_region 3 with (first
  | (refine wpList_store_mid (by rfl) 82 (.tmp 8) (.tmp 7) (by rfl) b (16 * 0) (pA zeroPt) (by rfl) (by rfl) TH.out (pA_size _) (pA_all _) ?_))
 try rw [put_none']
 generalize hW2 : World.setCells _ _ _ _ = W2
 have G1 : Hid (W2.heap[w.heap.size]? = some (.cells (psA f 4) 84 (0, 0))) := by rw [← hW2]; exact (heap_setCells _ _ _ _ _ (by omega)).trans R1.out
 have GZ : Hid (W2.heap[w.heap.size + 1]? = some (.cells (psA noPt 16) 231 (0, 0))) := by rw [← hW2]; exact (heap_setCells _ _ _ _ _ (by omega)).trans RZ.out
 have G3 : Hid (Pts W2 b 16 (smF f 0 0)) := by rw [← hW2, pA_L]; exact (R3.out.set (by decide) zeroPt).ext (fun i _ => smF_start f i)
 have GB : Hid (Below w.heap.size w W2) := by rw [← hW2]; exact below_setCells (by omega) _ _ _ BL.out
 clear hW2 TH
 clear R1 RZ R3 BL hix l1 l3
 go_wp2_with (first
  | (refine wpList_load_row (by rfl) 84 (.tmp 1) (by rfl) w.heap.size (by rfl) 84 (psA f 4) (0, 0) _ G1.out underPw4 rfl (sizePw _) ?_))
 go_loopw [10] (fun i wr => ∃ k : Nat, k ≤ 4 ∧ i = .int .i64 k ∧ Hid (Pts wr b 16 (smF f k 0)) ∧ Hid (wr.heap[w.heap.size + 1]? = some (.cells (psA noPt 16) 231 (0, 0))) ∧ Hid (Below w.heap.size w wr)) (fun i _ => 4 - (intOf i).toNat)
 case atStart => exact ⟨0, by omega, rfl, G3, GZ, GB⟩
 case round =>
  clear G1 GZ G3 GB
  obtain ⟨k, hk, rfl, H3, HZ, HB⟩ := hrel
  by_cases hlt : k < 4
  ·
   have bk : (k : Int) < 4 := by omega
   have hix := indexPw f k hlt
   go_upto_region 6 with (first
    | (refine wpList_store_row (by rfl) 82 (.tmp 5) (.tmp 13) (by rfl) wr.heap.size (pA (f k)) (by rfl) (by rfl) 82 _ (heap_alloc_new _ _) (pA_size _) (pA_old _ _) (pA_all _) ?_))
   try rw [put_none']
   obtain ⟨g, hg⟩ : ∃ g, g = wr.heap.size := ⟨_, rfl⟩
   generalize hW3 : World.setRow _ _ _ = W3
   have l1 := lt_row HZ.out
   have l3 := H3.out.size (by decide)
   have F5 : Hid (W3.heap[g]? = some (.cells (pA (f k)) 82 (0, 0))) := by rw [← hW3, hg]; exact setRow_heap _ _ _ _ _ _ (heap_alloc_new _ _)
   have FZ : Hid (W3.heap[w.heap.size + 1]? = some (.cells (psA noPt 16) 231 (0, 0))) := by rw [← hW3]; exact (setRow_other _ _ _ _ (by omega)).trans ((heap_alloc_old _ _ l1).trans HZ.out)
   have F3 : Hid (Pts W3 b 16 (smF f k 0)) := by
    rw [← hW3]; exact H3.out.keep ((setRow_other _ _ _ _ (by omega)).trans (heap_alloc_old _ _ l3))
   have FB : Hid (Below w.heap.size w W3) := by rw [← hW3]; exact below_setRow (HB.out.alloc HB.out.size _) HB.out.size _
   have lg : b < g := by omega
   rw [← hg]
   clear hW3 hg l1 l3 H3 HZ HB hix
   obtain ⟨q, Eq⟩ : ∃ q, Hid (q = 2 ^ k) := ⟨2 ^ k, hide rfl⟩
   have hs := wrap_pow hlt Eq.out
   have hs2 : IntKind.i64.wrap (2 ^ k) = (q : Int) := (IntWalk.i64_left _).trans hs
   have hq8 : q ≤ 8 := by
    have h4 : k = 0 ∨ k = 1 ∨ k = 2 ∨ k = 3 := by omega
    have := Eq.out
    rcases h4 with rfl | rfl | rfl | rfl <;> omega
   go_wp2_with fail
   go_loopw [16] (fun i wr => ∃ j : Nat, j ≤ q ∧ i = .int .i64 j ∧ Hid (wr.heap[g]? = some (.cells (pA (f k)) 82 (0, 0))) ∧ Hid (Pts wr b 16 (smF f k j)) ∧ Hid (wr.heap[w.heap.size + 1]? = some (.cells (psA noPt 16) 231 (0, 0))) ∧ Hid (Below w.heap.size w wr)) (fun i _ => q - (intOf i).toNat)
   case atStart => exact ⟨0, by omega, rfl, F5, F3, FZ, FB⟩
   case round =>
    clear F5 F3 FZ FB
    obtain ⟨j, hj, rfl, H5, H3, HZ, HB⟩ := hrel
    by_cases hl2 : j < q
    ·
     have bj : (j : Int) < (q : Int) := by omega
     obtain ⟨c, Ec⟩ : ∃ c, Hid (c = q + j) := ⟨_, rfl⟩
     have hc : (q : Int) + (j : Int) = (c : Int) := by have := Ec.out; omega
     have hc16 : c < 16 := by have := Ec.out; omega
     have hw : IntKind.i64.wrap (c : Int) = (c : Int) := by rw [IntKind.wrap_i64]; omega
     have hi1 := idx16 .i64 b j (by omega)
     have hi2 := idx16 .i64 b c hc16
     have lB := H3.out.size (by decide)
     have lG := lt_row H5.out
     have RD : Hid (wr.rangeAt b (16 * j) (pL (smB f k j))) := by
      have := H3.out.rd j (by omega)
      rw [smF_at f k j j (by rw [← Eq.out]; exact hl2)] at this
      exact this
     have RG : Hid (wr.rangeAt g 0 (pL (f k))) := rangePt H5.out
     go_wp2_with fail
     refine wp_region_held_drew (S := fun w' => w'.rangeAt b (16 * j) (pL (smB f k j)) ∧ w'.rangeAt g 0 (pL (f k))) (by kernel_rfl) ⟨RD.out, RG.out⟩ (fun hHeld => ?_)
     have KV : Hid (Below wr.heap.size wr wr.drew) := (Below.refl _ _).drew
     obtain ⟨V1, hV1⟩ : ∃ V, V = wr.drew := ⟨_, rfl⟩
     rw [← hV1] at hHeld KV ⊢
     clear hV1
     refine wpAnyH_take (i := 0) (oi := ⟨some 19, .move (.tmp 4), 3, "times.go:41", #[], none⟩) (v := .int .i64 k) rfl (by kernel_rfl) (by kernel_rfl) (by kernel_rfl) (fun _ _ _ h => h) (Or.inl ⟨by rfl, fun w _ => by go_simp⟩) hHeld ?_
     simp only [zaP, zsT, zsZ, zsS]
     refine wpAnyH_take (i := 1) (oi := ⟨some 20, .binOp .shl 3 (.const (.int .i64 1)) (.tmp 19) 3, 3, "times.go:41", #[zeD 0], none⟩) (v := .int .i64 q) rfl (by kernel_rfl) (by kernel_rfl) (by kernel_rfl) (fun _ _ _ h => h) (Or.inl ⟨by rfl, fun w _ => by go_simp⟩) hHeld ?_
     simp only [zaP, zsT, zsZ, zsS]
     refine wpAnyH_take (i := 2) (oi := ⟨some 21, .move (.tmp 6), 3, "times.go:41", #[], none⟩) (v := .int .i64 j) rfl (by kernel_rfl) (by kernel_rfl) (by kernel_rfl) (fun _ _ _ h => h) (Or.inl ⟨by rfl, fun w _ => by go_simp⟩) hHeld ?_
     simp only [zaP, zsT, zsZ, zsS]
     refine wpAnyH_take (i := 3) (oi := ⟨some 22, .binOp .add 3 (.tmp 20) (.tmp 21) 3, 3, "times.go:41", #[zeD 1, zeD 2], none⟩) (v := .int .i64 c) rfl (by kernel_rfl) (by kernel_rfl) (by kernel_rfl) (fun _ _ _ h => h) (Or.inl ⟨by rfl, fun w _ => by go_simp⟩) hHeld ?_
     simp only [zaP, zsT, zsZ, zsS]
     refine wpAnyH_take (i := 4) (oi := ⟨some 23, .move (.tmp 6), 3, "times.go:41", #[], none⟩) (v := .int .i64 j) rfl (by kernel_rfl) (by kernel_rfl) (by kernel_rfl) (fun _ _ _ h => h) (Or.inl ⟨by rfl, fun w _ => by go_simp⟩) hHeld ?_
     simp only [zaP, zsT, zsZ, zsS]
     refine wpAnyH_take (i := 5) (oi := ⟨some 24, .indexAddr 231 (.tmp 3) (.tmp 23), 0, "times.go:41", #[zeD 4], none⟩) (v := .pointer (some ⟨b, 16 * j, none⟩)) rfl (by kernel_rfl) (by kernel_rfl) (by kernel_rfl) (fun _ _ _ h => h) (Or.inl ⟨by rfl, fun w _ => by go_simp⟩) hHeld ?_
     simp only [zaP, zsT, zsZ, zsS]
     refine wpAnyH_take (i := 6) (oi := ⟨some 25, .load 82 (.tmp 24), 82, "times.go:41", #[zeD 5], none⟩) (v := .agg (pA (smB f k j))) rfl (by kernel_rfl) (by kernel_rfl) (by kernel_rfl) (fun _ _ _ h => h) (yldP (by rfl) _ rfl b (16 * j) (smB f k j) rfl (fun w h => h.1)) hHeld ?_
     simp only [zaP, zsT, zsZ, zsS]
     refine wpAnyH_take (i := 7) (oi := ⟨some 26, .load 82 (.tmp 5), 82, "times.go:41", #[], none⟩) (v := .agg (pA (f k))) rfl (by kernel_rfl) (by kernel_rfl) (by kernel_rfl) (fun _ _ _ h => h) (yldP (by rfl) _ rfl g 0 (f k) rfl (fun w h => h.2)) hHeld ?_
     simp only [zaP, zsT, zsZ, zsS]
     refine wpAnyH_ready (rs := [8]) (by kernel_rfl) (by simp) ?_
     refine AllReadyH.cons (o := ⟨some 27, .call ⟨.value (.func 79), #[.tmp 25, .tmp 26], #[82, 82]⟩, 82, "times.go:41", #[zeD 6, zeD 7], none⟩) rfl (fun K hK => ?_) AllReadyH.nil
     refine step_callTo (by rfl) _ _ (hrunPtAdd _ _ rfl (.agg (pA (smB f k j))) (.agg (pA (f k))) rfl rfl V1) _ _ (ptAddG (smB f k j) (f k) (smB_ok f k j) (Hf.out k hlt) V1 (HG.out.keep (HB.out.trans (KV.out.mono HB.out.size)))) (fun V2 HBx => ?_)
     have KV2 := kTr KV HBx
     clear HBx KV
     refine hK.out _ _ ⟨range_below RD.out KV2.out lB, range_below RG.out KV2.out lG⟩ (fun hHeld => ?_)
     clear hK K
     try simp only [zaP, zsT, zsZ, zsS]
     refine wpAnyH_take (i := 9) (oi := ⟨some 28, .indexAddr 231 (.tmp 3) (.tmp 22), 0, "times.go:41", #[zeD 3, zeP 0, zeP 1, zeP 2, zeP 3, zeP 4, zeP 5, zeP 6, zeP 7, zeP 8], none⟩) (v := .pointer (some ⟨b, 16 * c, none⟩)) rfl (by kernel_rfl) (by kernel_rfl) (by kernel_rfl) (fun _ _ _ h => h) (Or.inl ⟨by rfl, fun w _ => by go_simp⟩) hHeld ?_
     simp only [zaP, zsT, zsZ, zsS]
     refine wpAnyH_ready (rs := [10]) (by kernel_rfl) (by simp) ?_
     refine AllReadyH.cons (o := ⟨none, .store 82 (.tmp 28) (.tmp 27), 0, "times.go:41", #[zeD 9, zeD 8, zeC 8, zeP 0, zeP 1, zeP 2, zeP 3, zeP 4, zeP 5, zeP 6, zeP 7, zeP 8], none⟩) rfl (fun K hK => ?_) AllReadyH.nil
     have P2 := hide (H3.out.below KV2.out lB)
     refine step_store_mid (by rfl) 82 (.tmp 28) (.tmp 27) (by rfl) b (16 * c) (pA (addP (smB f k j) (f k))) (by rfl) (by rfl) (by rw [pA_len]; exact P2.out.at' hc16) (pA_size _) (pA_all _) ?_
     rw [put_none']
     refine hK.out _ _ ⟨World.rangeAt_setCells_apart (P2.out.rdB j (by omega) RD.out KV2.out lB) _ _ _ (Or.inr (Or.inl (by rw [pL_len]; omega))), World.rangeAt_setCells_apart (range_below RG.out KV2.out lG) _ _ _ (Or.inl (by omega))⟩ (fun _ => ?_)
     clear hK K
     try simp only [zaP, zsT, zsZ, zsS]
     refine wpAnyH_done (by kernel_rfl) ?_ _
     generalize hW4 : World.setCells _ _ _ _ = W4
     have E3 : Hid (Pts W4 b 16 (smF f k (j + 1))) := by
      rw [← hW4, pA_L]
      refine (P2.out.set hc16 _).ext (fun i _ => ?_)
      rw [Ec.out, Eq.out]
      exact smF_step f k j i (by rw [← Eq.out]; exact hl2)
     have E5 : Hid (W4.heap[g]? = some (.cells (pA (f k)) 82 (0, 0))) := by rw [← hW4]; exact (heap_setCells _ _ _ _ _ (by omega)).trans (row_keep' H5.out KV2.out)
     have EZ : Hid (W4.heap[w.heap.size + 1]? = some (.cells (psA noPt 16) 231 (0, 0))) := by rw [← hW4]; exact (heap_setCells _ _ _ _ _ (by omega)).trans (row_keep' HZ.out KV2.out)
     have EB : Hid (Below w.heap.size w W4) := by rw [← hW4]; exact below_setCells (by omega) _ _ _ (HB.out.trans (KV2.out.mono HB.out.size))
     clear hW4
     go_wp2_with fail
     exact ⟨⟨j + 1, by omega, by go_num, E5, E3, EZ, EB⟩, by simp [intOf]; omega⟩
    ·
     obtain rfl : j = q := by omega
     have bj : (j : Int) ≤ (j : Int) := by omega
     have E3 : Hid (Pts wr b 16 (smF f (k + 1) 0)) := by
      have := H3.out
      rw [Eq.out] at this
      exact this.ext (fun i _ => smF_next f k i)
     clear H3
     go_wp2_with fail
     exact ⟨⟨k + 1, by omega, by go_num, E3, HZ, HB⟩, by simp [intOf]; omega⟩
  ·
   obtain rfl : k = 4 := by omega
   have bk : (4 : Int) ≤ ((4 : Nat) : Int) := by omega
   have F0 : Hid (Pts wr b 16 (smB f 4)) := H3.out.ext (fun i hi => smF_at f 4 0 i (by simpa using hi))
   have WH := hide F0.out.whole
   clear H3 hlt hk
   go_wp2_with (first
    | (refine wpList_load_mid (by rfl) 231 (.tmp 3) (by rfl) b 0 (by rfl) (psL (smB f 4) 16) _ WH.out under16P rfl (size16L _) ?_)
    | (refine wpList_store_row (by rfl) 231 (.tmp 2) (.tmp 31) (by rfl) (w.heap.size + 1) (psL (smB f 4) 16).toArray (by rfl) (by rfl) 231 _ HZ.out (psLa_size16 _) (psLa_old16 _ _) (psLa_all _ _) ?_))
   refine bodyPost_ret (v := .agg (psL (smB f 4) 16).toArray) (results_cell_row Tryz.results138 _ _ (w.heap.size + 1) 231 _ (0, 0) _ (by rfl) (setRow_heap _ _ _ _ _ _ HZ.out) under16P rfl (psLa_size16 _)) rfl ⟨by rw [psA_eq], below_setRow HB.out (by omega) _⟩
end
def chN (n a : Nat) : Nat → Nat
 | 0 => 0
 | i + 1 => chN n a i + wd n i / 2 ^ a % 2 * 2 ^ i
theorem chN_lt (n a : Nat) : ∀ i, chN n a i < 2 ^ i
 | 0 => by simp [chN]
 | i + 1 => by
  rw [chN, Nat.pow_succ]
  have h := chN_lt n a i
  have : wd n i / 2 ^ a % 2 < 2 := Nat.mod_lt _ (by decide)
  have h2 : wd n i / 2 ^ a % 2 = 0 ∨ wd n i / 2 ^ a % 2 = 1 := by omega
  rcases h2 with e | e <;> rw [e] <;> omega
def mlP (f : Nat → Pt) (n : Nat) : Nat → Pt
 | 0 => zeroPt
 | k + 1 => addP (dblP (mlP f n k)) (smB f 4 (chN n (63 - k) 4))
theorem mlP_ok (f : Nat → Pt) (n : Nat) : ∀ k, (mlP f n k).Ok
 | 0 => zeroPt_ok
 | _ + 1 => partsP_ok _ _ _ _
theorem size4A (n : Nat) : (Tryz.prog.info? 60).map (·.size) = some (num4A n).size := size4
theorem num4A_at (n t : Nat) (ht : t < 4) : (num4A n)[t]? = some (nv (wd n t)) := by
 have h4 : t = 0 ∨ t = 1 ∨ t = 2 ∨ t = 3 := by omega
 rcases h4 with rfl | rfl | rfl | rfl <;> rfl
theorem index4 (n t : Nat) (ht : t < 4) (w : World) : (Instr.index 60 (.agg (num4A n)) (.int .i64 t)).run Tryz.prog w = .ok (nv (wd n t)) w := by
 cases hq : Tryz.prog.info? 59 with
 | none => have := sizeOf64; rw [hq] at this; cases this
 | some inf =>
  have hs : inf.size = 1 := by have := sizeOf64; rw [hq] at this; simpa using this
  have h0 := num4A_at n t ht
  simp [Instr.index, asIntOf, run_underlying under4, sizeOf, typeInfo, hq, hs, part64 _ t _ h0]
  intro h; omega
theorem hrunPtDbl {a : Act} {o : Oper} (x : Operand) (ho : o.op = .call { callee := .value (.func 140), args := #[x], argTypes := #[82] }) (v1 : Value) (hx : a.eval x = v1) (w : World) :
  (execOp a.eval o).run Tryz.prog w = .ok (.enter 140 #[v1]) w := by
 unfold execOp
 simp only [ho]
 subst hx
 go_simp
theorem step_load_mid {P : Program} {w : World} {ops : Array Oper} {o : Oper} {a : Act} {K : Act → World → Prop} {Q : Exit → Act → World → Prop} {E : Prop} (hgd : o.guard = none) (ty : TypeId) (x : Operand) (ho : o.op = .load ty x)
  (b off : Nat) (hx : a.eval x = .pointer (some ⟨b, off, none⟩)) (cs : List Value) (d : TypeDesc) (hc : w.rangeAt b off cs) (hu : P.underlying ty = some d) (hd : d.isRow = true) (hi : (P.info? ty).map (·.size) = some cs.length)
  (h : K (a.put o.dst (.agg cs.toArray)) w) : if Region.wanted o (yielded ops a.tmps) = true then Oper.wp P o a w K Q else E := by
 rw [if_pos (by simp [Region.wanted, hgd])]
 exact wp_load_mid ty x ho b off hx cs d hc hu hd hi h
theorem chN_or (n a t : Nat) (ht : t < 4) : bits .or .u64 (V (chN n a t)) (IntKind.u64.wrap (bits .and .u64 (V (wd n t) / 2 ^ a) 1 * 2 ^ t)) = V (chN n a (t + 1)) := by
 have hw := wd_lt n t
 have e1 : V (wd n t) / 2 ^ a = ((wd n t / 2 ^ a : Nat) : Int) := by unfold V; rw [Int.natCast_ediv, Int.natCast_pow]; rfl
 have hx : wd n t / 2 ^ a < 18446744073709551616 := Nat.lt_of_le_of_lt (Nat.div_le_self _ _) hw
 rw [e1, show (1 : Int) = ((1 : Nat) : Int) from rfl, bits_and_u64_nat _ _ hx (by decide), Nat.and_one_is_mod]
 have hc := chN_lt n a t
 rw [chN]
 have hy : wd n t / 2 ^ a % 2 < 2 := Nat.mod_lt _ (by decide)
 generalize wd n t / 2 ^ a % 2 = y at *
 have b1 : 2 ^ t ≤ 2 ^ 3 := Nat.pow_le_pow_right (by decide) (by omega)
 have b2 : y * 2 ^ t ≤ 1 * 2 ^ 3 := Nat.mul_le_mul (by omega) b1
 have e2 : IntKind.u64.wrap ((y : Int) * 2 ^ t) = V (y * 2 ^ t) := by
  unfold V
  rw [IntKind.wrap_u64, show ((y : Int) * 2 ^ t) = ((y * 2 ^ t : Nat) : Int) by rw [Int.natCast_mul, Int.natCast_pow]; rfl]
  omega
 rw [e2]
 unfold V
 rw [bits_or_u64_nat _ _ (by omega) (by omega)]
 congr 1
 rw [Nat.or_comm, Nat.add_comm, Nat.mul_comm]
 exact (Nat.two_pow_add_eq_or_of_lt hc y).symm
section
attribute [local irreducible] num4A nL pA psA psL pL
set_option maxRecDepth 100000 in
set_option maxHeartbeats 4000000 in
theorem ptTimesA (f : Nat → Pt) (hf : ∀ i, i < 4 → (f i).Ok) (n : Nat) (w : World) (hG : Gl w) :
  Calls Tryz.prog 91 #[.agg (psA f 4), .agg (num4A n)] w fun e w' => e = .returned (.agg (pA (mlP f n 64))) ∧ Below w.heap.size w w' := by
 have hz := zero16P
 have hzp := zeroP
 have Hf := hide hf
 have HG := hide hG
 clear hf hG
 go_enter Tryz.func91, Tryz.ntmps91
 go_upto_region 1 with fail
 generalize hW0 : World.alloc _ _ = W0
 have R2 : Hid (W0.heap[w.heap.size]? = some (.cells (psA f 4) 84 (0, 0))) := by rw [← hW0]; exact heap3_0 _ _ _ _
 have R3 : Hid (W0.heap[w.heap.size + 1]? = some (.cells (num4A n) 60 (0, 0))) := by rw [← hW0]; exact heap3_1 _ _ _ _
 have RZ : Hid (W0.heap[w.heap.size + 1 + 1]? = some (.cells (pA p0) 82 (0, 0))) := by rw [← hW0]; exact heap3_2 _ _ _ _
 have BL : Hid (Below w.heap.size w W0) := by rw [← hW0]; show Below _ _ _; go_grown
 clear hW0
 obtain ⟨z, hzb⟩ : ∃ b, b = w.heap.size + 1 + 1 := ⟨_, rfl⟩
 rw [← hzb] at RZ ⊢
 have lz : w.heap.size + 1 < z := by omega
 clear hzb
 go_wp2_with (first
  | (refine wpList_load_row (by rfl) 84 (.tmp 2) (by rfl) w.heap.size (by rfl) 84 (psA f 4) (0, 0) _ R2.out underPw4 rfl (sizePw _) ?_))
 refine (ptSumsA f Hf.out _ (HG.out.keep BL.out)).mono ?_
 rintro e W1 ⟨rfl, hB⟩
 have R3 := hide (row_keep' R3.out hB)
 have RZ := hide (row_keep' RZ.out hB)
 have BL := kTr BL hB
 clear hB
 go_upto_region 2 with (first
  | (refine wpList_store_row (by rfl) 231 (.tmp 5) (.tmp 12) (by rfl) W1.heap.size (psA (smB f 4) 16) (by rfl) (by rfl) 231 _ (heap_alloc_new _ _) (size16P _) (psA_old _ _ _) (psA_all _ _) ?_))
 try rw [put_none']
 obtain ⟨s, hs⟩ : ∃ s, s = W1.heap.size := ⟨_, rfl⟩
 generalize hW2 : World.setRow _ _ _ = W2
 have l3 := lt_row R3.out
 have lzz := lt_row RZ.out
 have G3 : Hid (W2.heap[w.heap.size + 1]? = some (.cells (num4A n) 60 (0, 0))) := by rw [← hW2]; exact (setRow_other _ _ _ _ (by omega)).trans ((heap_alloc_old _ _ l3).trans R3.out)
 have GZ : Hid (W2.heap[z]? = some (.cells (pA p0) 82 (0, 0))) := by rw [← hW2]; exact (setRow_other _ _ _ _ (by omega)).trans ((heap_alloc_old _ _ lzz).trans RZ.out)
 have G5 : Hid (W2.heap[s]? = some (.cells (psA (smB f 4) 16) 231 (0, 0))) := by rw [← hW2, hs]; exact setRow_heap _ _ _ _ _ _ (heap_alloc_new _ _)
 have GB : Hid (Below w.heap.size w W2) := by rw [← hW2]; exact below_setRow (BL.out.alloc BL.out.size _) BL.out.size _
 have ls : z < s := by omega
 rw [← hs]
 clear hW2 hs l3 lzz R3 RZ BL
 go_wp2_with fail
 refine (zeroPtA _ (HG.out.keep GB.out)).mono ?_
 rintro e W3 ⟨rfl, hB⟩
 have G3 := hide (row_keep' G3.out hB)
 have GZ := hide (row_keep' GZ.out hB)
 have G5 := hide (row_keep' G5.out hB)
 have GB := kTr GB hB
 clear hB
 go_upto_region 3 with (first
  | (refine wpList_store_row (by rfl) 82 (.tmp 6) (.tmp 13) (by rfl) W3.heap.size (pA zeroPt) (by rfl) (by rfl) 82 _ (heap_alloc_new _ _) (pA_size _) (pA_old _ _) (pA_all _) ?_))
 try rw [put_none']
 obtain ⟨g, hg⟩ : ∃ s, s = W3.heap.size := ⟨_, rfl⟩
 generalize hW4 : World.setRow _ _ _ = W4
 have l3 := lt_row G3.out
 have lzz := lt_row GZ.out
 have l5 := lt_row G5.out
 have F3 : Hid (W4.heap[w.heap.size + 1]? = some (.cells (num4A n) 60 (0, 0))) := by rw [← hW4]; exact (setRow_other _ _ _ _ (by omega)).trans ((heap_alloc_old _ _ l3).trans G3.out)
 have FZ : Hid (W4.heap[z]? = some (.cells (pA p0) 82 (0, 0))) := by rw [← hW4]; exact (setRow_other _ _ _ _ (by omega)).trans ((heap_alloc_old _ _ lzz).trans GZ.out)
 have F5 : Hid (Pts W4 s 16 (smB f 4)) := by rw [← hW4]; exact Pts.of_row ((setRow_other _ _ _ _ (by omega)).trans ((heap_alloc_old _ _ l5).trans G5.out))
 have F6 : Hid (W4.heap[g]? = some (.cells (pA (mlP f n 0)) 82 (0, 0))) := by rw [← hW4, hg]; exact setRow_heap _ _ _ _ _ _ (heap_alloc_new _ _)
 have FB : Hid (Below w.heap.size w W4) := by rw [← hW4]; exact below_setRow (GB.out.alloc GB.out.size _) GB.out.size _
 have lg : s < g := by omega
 rw [← hg]
 clear hW4 hg l3 lzz l5 G3 GZ G5 GB
 go_wp2_with fail
 go_loopw [7] (fun i wr => ∃ k : Nat, k ≤ 64 ∧ i = .int .i64 (63 - (k : Int)) ∧ Hid (wr.heap[w.heap.size + 1]? = some (.cells (num4A n) 60 (0, 0))) ∧ Hid (wr.heap[z]? = some (.cells (pA p0) 82 (0, 0))) ∧ Hid (Pts wr s 16 (smB f 4)) ∧ Hid (wr.heap[g]? = some (.cells (pA (mlP f n k)) 82 (0, 0))) ∧ Hid (Below w.heap.size w wr)) (fun i _ => (intOf i + 1).toNat)
 case atStart => exact ⟨0, by omega, rfl, F3, FZ, F5, F6, FB⟩
 case round =>
  clear F3 FZ F5 F6 FB
  obtain ⟨k, hk, rfl, H3, HZ, H5, H6, HB⟩ := hrel
  by_cases hlt : k < 64
  ·
   obtain ⟨a, Ea⟩ : ∃ a, Hid (a = 63 - k) := ⟨_, hide rfl⟩
   have ea : (63 : Int) - (k : Int) = (a : Int) := by have := Ea.out; omega
   have ha : a < 64 := by have := Ea.out; omega
   have ba : (0 : Int) ≤ (a : Int) := by omega
   go_wp2_with (first
    | (refine wpList_load_row (by rfl) 60 (.tmp 3) (by rfl) (w.heap.size + 1) (by rfl) 60 (num4A n) (0, 0) _ H3.out under4 rfl (size4A _) ?_))
   go_loopw [8, 19] (fun c i wx => ∃ t : Nat, t ≤ 4 ∧ c = nv (chN n a t) ∧ i = .int .i64 t ∧ wx = wr) (fun _ i _ => 4 - (intOf i).toNat)
   case atStart => exact ⟨0, by omega, rfl, rfl, rfl⟩
   case round =>
    obtain ⟨t, ht, rfl, rfl, rfl⟩ := hrel
    by_cases hl2 : t < 4
    ·
     have bt : (t : Int) < 4 := by omega
     have hix := index4 n t hl2
     have hor := chN_or n a t hl2
     go_wp2_with fail
     exact ⟨⟨t + 1, by omega, rfl, by go_num, trivial⟩, by simp [intOf]; omega⟩
    ·
     obtain rfl : t = 4 := by omega
     have bt : (4 : Int) ≤ ((4 : Nat) : Int) := by omega
     obtain ⟨c, Ec⟩ : ∃ c, Hid (c = chN n a 4) := ⟨_, hide rfl⟩
     have hc : c < 16 := by rw [Ec.out]; exact chN_lt n a 4
     have ec : V (chN n a 4) = (c : Int) := by unfold V; rw [← Ec.out]
     have hix := idx16 .u64 s c hc
     have lS := H5.out.size (by decide)
     have lG := lt_row H6.out
     have RG := hide (rangePt H6.out)
     have RD := hide (H5.out.rd c hc)
     go_wp2_with fail
     refine wp_region_held_drew (S := fun w' => w'.rangeAt s (16 * c) (pL (smB f 4 c))) (by kernel_rfl) RD.out (fun hHeld => ?_)
     have KV : Hid (Below wr.heap.size wr wr.drew) := (Below.refl _ _).drew
     obtain ⟨V1, hV1⟩ : ∃ V, V = wr.drew := ⟨_, rfl⟩
     rw [← hV1] at hHeld KV ⊢
     clear hV1
     refine wpAnyH_take (i := 2) (oi := ⟨some 34, .move (.tmp 8), 59, "times.go:29", #[], none⟩) (v := .int .u64 (c : Int)) rfl (by kernel_rfl) (by kernel_rfl) (by kernel_rfl) (fun _ _ _ h => h) (Or.inl ⟨by rfl, fun w _ => by go_simp⟩) hHeld ?_
     simp only [zaP, zsT, zsZ, zsS]
     refine wpAnyH_take (i := 3) (oi := ⟨some 35, .indexAddr 231 (.tmp 5) (.tmp 34), 0, "times.go:29", #[zeD 2], none⟩) (v := .pointer (some ⟨s, 16 * c, none⟩)) rfl (by kernel_rfl) (by kernel_rfl) (by kernel_rfl) (fun _ _ _ h => h) (Or.inl ⟨by rfl, fun w _ => by go_simp⟩) hHeld ?_
     simp only [zaP, zsT, zsZ, zsS]
     refine wpAnyH_take (i := 4) (oi := ⟨some 36, .load 82 (.tmp 35), 82, "times.go:29", #[zeD 3], none⟩) (v := .agg (pA (smB f 4 c))) rfl (by kernel_rfl) (by kernel_rfl) (by kernel_rfl) (fun _ _ _ h => h) (yldP (by rfl) _ rfl s (16 * c) (smB f 4 c) rfl (fun w h => h)) hHeld ?_
     simp only [zaP, zsT, zsZ, zsS]
     refine wpAnyH_ready (rs := [0]) (by kernel_rfl) (by simp) ?_
     refine AllReadyH.cons (o := ⟨some 32, .load 82 (.tmp 6), 82, "times.go:29", #[], none⟩) rfl (fun K hK => ?_) AllReadyH.nil
     refine step_load_mid (by rfl) 82 (.tmp 6) (by rfl) g 0 (by rfl) (pL (mlP f n k)) _ (range_below RG.out KV.out lG) Tryz.underlying82 rfl (pL_size _) ?_
     rw [pL_A]
     refine hK.out _ _ (range_below RD.out KV.out lS) (fun hHeld => ?_)
     clear hK K
     try simp only [zaP, zsT, zsZ, zsS]
     refine wpAnyH_ready (rs := [1]) (by kernel_rfl) (by simp) ?_
     refine AllReadyH.cons (o := ⟨some 33, .call ⟨.value (.func 140), #[.tmp 32], #[82]⟩, 82, "times.go:29", #[zeD 0], none⟩) rfl (fun K hK => ?_) AllReadyH.nil
     refine step_callTo (by rfl) _ _ (hrunPtDbl _ rfl (.agg (pA (mlP f n k))) rfl V1) _ _ (ptDblA (mlP f n k) (mlP_ok f n k) V1) (fun V2 HBx => ?_)
     have KV2 := kTr KV HBx
     clear HBx KV
     refine hK.out _ _ (range_below RD.out KV2.out lS) (fun hHeld => ?_)
     clear hK K
     try simp only [zaP, zsT, zsZ, zsS]
     refine wpAnyH_ready (rs := [5]) (by kernel_rfl) (by simp) ?_
     refine AllReadyH.cons (o := ⟨some 37, .call ⟨.value (.func 79), #[.tmp 33, .tmp 36], #[82, 82]⟩, 82, "times.go:29", #[zeD 1, zeD 4, zeC 1], none⟩) rfl (fun K hK => ?_) AllReadyH.nil
     refine step_callTo (by rfl) _ _ (hrunPtAdd _ _ rfl (.agg (pA (dblP (mlP f n k)))) (.agg (pA (smB f 4 c))) rfl rfl V2) _ _ (ptAddG (dblP (mlP f n k)) (smB f 4 c) (partsP_ok _ _ _ _) (smB_ok f 4 c) V2 (HG.out.keep (HB.out.trans (KV2.out.mono HB.out.size)))) (fun V3 HBx => ?_)
     have KV3 := kTr KV2 HBx
     clear HBx KV2
     refine hK.out _ _ (range_below RD.out KV3.out lS) (fun hHeld => ?_)
     clear hK K
     try simp only [zaP, zsT, zsZ, zsS]
     rw [show addP (dblP (mlP f n k)) (smB f 4 c) = mlP f n (k + 1) from by rw [Ec.out, Ea.out]; rfl]
     refine wpAnyH_ready (rs := [6]) (by kernel_rfl) (by simp) ?_
     refine AllReadyH.cons (o := ⟨none, .store 82 (.tmp 6) (.tmp 37), 0, "times.go:29", #[zeD 5, zeC 5, zeP 0, zeP 1, zeP 2, zeP 3, zeP 4, zeP 5], none⟩) rfl (fun K hK => ?_) AllReadyH.nil
     have P6 := hide (row_below H6.out KV3.out lG)
     refine step_store_row _ (by rfl) 82 (.tmp 6) (.tmp 37) (by rfl) g (pA (mlP f n (k + 1))) (by rfl) (by rfl) 82 _ P6.out (pA_size _) (pA_old _ _) (pA_all _) ?_
     rw [put_none']
     generalize hW5 : World.setRow _ _ _ = W5
     have E6 : Hid (W5.heap[g]? = some (.cells (pA (mlP f n (k + 1))) 82 (0, 0))) := by rw [← hW5]; exact setRow_heap _ _ _ _ _ _ P6.out
     have E5 : Hid (Pts W5 s 16 (smB f 4)) := by rw [← hW5]; exact (H5.out.below KV3.out lS).keep (setRow_other _ _ _ _ (by omega))
     have E3 : Hid (W5.heap[w.heap.size + 1]? = some (.cells (num4A n) 60 (0, 0))) := by rw [← hW5]; exact (setRow_other _ _ _ _ (by omega)).trans (row_keep' H3.out KV3.out)
     have EZ : Hid (W5.heap[z]? = some (.cells (pA p0) 82 (0, 0))) := by rw [← hW5]; exact (setRow_other _ _ _ _ (by omega)).trans (row_keep' HZ.out KV3.out)
     have EB : Hid (Below w.heap.size w W5) := by rw [← hW5]; exact below_setRow (HB.out.trans (KV3.out.mono HB.out.size)) (by omega) _
     refine hK.out _ _ (by rw [← hW5]; exact range_set (range_below RD.out KV3.out lS) (by omega)) (fun _ => ?_)
     clear hW5 hK K
     try simp only [zaP, zsT, zsZ, zsS]
     refine wpAnyH_done (by kernel_rfl) ?_ _
     have e63 : (a : Int) - 1 = 63 - ((k + 1 : Nat) : Int) := by have := Ea.out; omega
     go_wp2_with fail
     exact ⟨⟨k + 1, by omega, rfl, E3, EZ, E5, E6, EB⟩, by simp [intOf]; omega⟩
  ·
   obtain rfl : k = 64 := by omega
   have bk : ¬ (0 : Int) ≤ 63 - ((64 : Nat) : Int) := by omega
   have bk2 : (63 : Int) - ((64 : Nat) : Int) = -1 := by omega
   clear hlt hk
   go_wp2_with (first
    | (refine wpList_load_row (by rfl) 82 (.tmp 6) (by rfl) g (by rfl) 82 (pA (mlP f n 64)) (0, 0) _ H6.out Tryz.underlying82 rfl (pA_size _) ?_)
    | (refine wpList_store_row (by rfl) 82 (.tmp 4) (.tmp 38) (by rfl) z (pA (mlP f n 64)) (by rfl) (by rfl) 82 _ HZ.out (pA_size _) (pA_old _ _) (pA_all _) ?_))
   refine bodyPost_ret (v := .agg (pA (mlP f n 64))) (results_cell_row Tryz.results91 _ _ z 82 _ (0, 0) _ (by rfl) (setRow_heap _ _ _ _ _ _ HZ.out) Tryz.underlying82 rfl (pA_size _)) rfl ⟨rfl, below_setRow HB.out (by omega) _⟩
end
end Go.Proofs.YtccgfabojbjmjaaGreatDoor
