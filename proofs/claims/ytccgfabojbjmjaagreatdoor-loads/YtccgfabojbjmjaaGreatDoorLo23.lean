import Derived.Test.YtccgfabojbjmjaaGreatDoorLo22
set_option maxRecDepth 100000
set_option maxHeartbeats 8000000
namespace Go.Proofs.YtccgfabojbjmjaaGreatDoor
open Go.RowKit
abbrev kD : Oper := ⟨some 14, .call ⟨.value (.func 161), #[.tmp 13], #[80]⟩, 80, "point.go:90", #[ql 4, qT 2], none⟩
abbrev kf : Oper := ⟨some 17, .call ⟨.value (.func 161), #[.tmp 16], #[80]⟩, 80, "point.go:90", #[ql 7, qT 5], none⟩
abbrev kn : Oper := ⟨some 11, .call ⟨.value (.func 161), #[.tmp 10], #[80]⟩, 80, "point.go:90", #[ql 1], none⟩
abbrev yam : Oper := ⟨some 31, .call ⟨.value (.func 119), #[.tmp 29, .tmp 30], #[80, 80]⟩, 80, "point.go:93", #[ql 5, ql 6, qT 5], none⟩
abbrev yan : Oper := ⟨some 29, .call ⟨.value (.func 161), #[.tmp 28], #[80]⟩, 80, "point.go:93", #[ql 4, qT 4], none⟩
abbrev yao : Oper := ⟨some 28, .call ⟨.value (.func 120), #[.tmp 25, .tmp 27], #[80, 80]⟩, 80, "point.go:93", #[ql 1, ql 3], none⟩
theorem qcs (a : Fin P) : qp a.val = a := by
 apply Fin.ext; simp only [qp, Fin.val_ofNat]; exact z6 a.isLt
theorem qkU {n : Nat} (h : n < P) : (qp n).val = n := by
 simp only [qp, Fin.val_ofNat]; exact z6 h
noncomputable def inK (a : Fin P) : Fin P := qp (Qa a.val)
theorem qlw {a : Fin P} (h : a ≠ 0) : a.val % P ≠ 0 := by
 rw [z6 a.isLt]
 intro e
 exact h (Fin.ext e)
theorem qe7 {a : Fin P} (h : a ≠ 0) : a * inK a = 1 := by
 have e := qdy (qlw h)
 have e2 : qp (mP a.val (Qa a.val)) = qp 1 := by rw [e]
 rw [ji, ZY, qcs] at e2
 exact e2
theorem jN {a b : Fin P} (ha : a ≠ 0) (hb : b ≠ 0) : a * b ≠ 0 := by
 intro h
 have e := qe7 ha
 generalize inK a = c at e
 exact hb (by grind)
theorem qdm {a b c : Fin P} (ha : a ≠ 0) (h : b * a = c * a) : b = c := by
 have e := qe7 ha
 generalize inK a = i at e
 grind
theorem qdj : (1 : Fin P) ≠ 0 := by decide
theorem qpC : (2 : Fin P) ≠ 0 := by decide
noncomputable def dK : Fin P := qp dN
theorem qu9 (s t : Fin P) (hs : s ≠ 0) : t * t ≠ dK * (s * s) := by
 intro h
 have ht : t ≠ 0 := by
  intro e
  have hd : dK ≠ 0 := by
   unfold dK
   intro e2
   exact absurd ((qa1 (by decide)).1 e2) (by decide)
  have := jN hd (jN hs hs)
  grind
 have e : mP t.val t.val = mP dN (mP s.val s.val) := by
  apply Yk (qK _ _) (qK _ _)
  rw [ji, ji, ji, qcs, qcs]
  exact h
 have e2 : jz (mP t.val t.val) Hf = jz (mP dN (mP s.val s.val)) Hf := by rw [e]
 rw [kq, kq, kq, ← yd, ← yd, qkM, show jz t.val (P - 1) = 1 from qee (qlw ht), show jz s.val (P - 1) = 1 from qee (qlw hs), qsX] at e2
 exact absurd e2 (by decide)
def yx (x y : Fin P) : Prop := y * y = 1 + x * x + dK * (x * x) * (y * y)
theorem qu5 {x y : Fin P} (h : yx x y) : ¬ (x * qp Ql + y = 0 ∧ x * qp Ql - y = 0) := by
 unfold yx at h
 have h2 := qpC
 have e := qrL
 generalize qp Ql = r at *
 generalize dK = d at *
 intro ⟨a, b⟩
 have hy : y = 0 := by
  refine qdm h2 ?_
  grind
 have hx : x = 0 := by grind
 rw [hx, hy] at h
 apply qdj
 simp only [Fin.mul_zero, Fin.add_zero] at h
 exact h.symm
theorem qnk (d r x y u v s t : Fin P) (h : y * y = 1 + x * x + d * (x * x) * (y * y)) (h2 : v * v = 1 + u * u + d * (u * u) * (v * v)) (e : r * r + 1 = 0) (hs : s * s = 1) (ht : t * t = 1) (hk : d * x * u * y * v = s) : (x * r + s * t * y) * (x * r + s * t * y) = d * (x * y * (u * r + t * v) * (x * y * (u * r + t * v))) := by
 grind
theorem qhN {x y u v s : Fin P} (h : yx x y) (h2 : yx u v) (hs : s * s = 1) : dK * x * u * y * v ≠ s := by
 intro hk
 have key : ∀ t : Fin P, t * t = 1 → u * qp Ql + t * v = 0 := by
  intro t ht
  have hn := qu9 (x * y * (u * qp Ql + t * v)) (x * qp Ql + s * t * y)
  by_cases h0 : u * qp Ql + t * v = 0
  · exact h0
  exfalso
  have hx : x ≠ 0 := by
   intro e
   have := qdj
   generalize dK = d at hk
   clear h h2 hn
   grind
  have hy : y ≠ 0 := by
   intro e
   have := qdj
   generalize dK = d at hk
   clear h h2 hn
   grind
  exact hn (jN (jN hx hy) h0) (qnk dK (qp Ql) x y u v s t h h2 qrL hs ht hk)
 have k1 := key 1 (by grind)
 have k2 := key (-1) (by grind)
 refine qu5 h2 ⟨?_, ?_⟩
 · generalize qp Ql = r at *; grind
 · generalize qp Ql = r at *; grind
theorem Yx {x y u v : Fin P} (h : yx x y) (h2 : yx u v) : 1 + dK * x * u * y * v ≠ 0 := by
 intro e
 refine qhN h h2 (s := -1) (by grind) ?_
 generalize dK * x * u * y * v = k at e
 grind
theorem YC {x y u v : Fin P} (h : yx x y) (h2 : yx u v) : 1 - dK * x * u * y * v ≠ 0 := by
 intro e
 refine qhN h h2 (s := 1) (by grind) ?_
 generalize dK * x * u * y * v = k at e
 grind
theorem qjd (d x y u v : Fin P) (h : y * y = 1 + x * x + d * (x * x) * (y * y)) (h2 : v * v = 1 + u * u + d * (u * u) * (v * v)) (D E X Y : Fin P) (hD : X * (1 + d * x * u * y * v) = x * v + u * y) (hE : Y * (1 - d * x * u * y * v) = y * v + x * u) (eD : D = 1 + d * x * u * y * v) (eE : E = 1 - d * x * u * y * v) : Y * Y * (D * D * (E * E)) = (1 + X * X + d * (X * X) * (Y * Y)) * (D * D * (E * E)) := by
 have a : X * D = x * v + u * y := by rw [eD]; exact hD
 have b : Y * E = y * v + x * u := by rw [eE]; exact hE
 have e1 : Y * Y * (D * D * (E * E)) = (Y * E) * (Y * E) * (D * D) := by grind
 have e2 : (1 + X * X + d * (X * X) * (Y * Y)) * (D * D * (E * E)) = D * D * (E * E) + (X * D) * (X * D) * (E * E) + d * ((X * D) * (X * D)) * ((Y * E) * (Y * E)) := by grind
 rw [e1, e2, a, b, eD, eE]
 clear e1 e2 a b hD hE eD eE
 grind
structure G where
 x : Fin P
 y : Fin P
 on : yx x y
theorem G.ext' {a b : G} (hx : a.x = b.x) (hy : a.y = b.y) : a = b := by
 cases a; cases b; cases hx; cases hy; rfl
noncomputable def sX (a b : G) : Fin P := (a.x * b.y + b.x * a.y) * inK (1 + dK * a.x * b.x * a.y * b.y)
noncomputable def sY (a b : G) : Fin P := (a.y * b.y + a.x * b.x) * inK (1 - dK * a.x * b.x * a.y * b.y)
theorem YH (a b : G) : sX a b * (1 + dK * a.x * b.x * a.y * b.y) = a.x * b.y + b.x * a.y := by
 have e := qe7 (Yx a.on b.on)
 unfold sX
 generalize inK (1 + dK * a.x * b.x * a.y * b.y) = i at *
 generalize 1 + dK * a.x * b.x * a.y * b.y = k at *
 grind
theorem Yy (a b : G) : sY a b * (1 - dK * a.x * b.x * a.y * b.y) = a.y * b.y + a.x * b.x := by
 have e := qe7 (YC a.on b.on)
 unfold sY
 generalize inK (1 - dK * a.x * b.x * a.y * b.y) = i at *
 generalize 1 - dK * a.x * b.x * a.y * b.y = k at *
 grind
noncomputable def jr (a b : G) : G := ⟨sX a b, sY a b, by
 have hD := Yx a.on b.on
 have hE := YC a.on b.on
 exact qdm (jN (jN hD hD) (jN hE hE)) (qjd dK a.x a.y b.x b.y a.on b.on _ _ _ _ (YH a b) (Yy a b) rfl rfl)⟩
theorem qlj {a b : G} {X : Fin P} (h : X * (1 + dK * a.x * b.x * a.y * b.y) = a.x * b.y + b.x * a.y) : (jr a b).x = X := qdm (Yx a.on b.on) ((YH a b).trans h.symm)
theorem qkN {a b : G} {Y : Fin P} (h : Y * (1 - dK * a.x * b.x * a.y * b.y) = a.y * b.y + a.x * b.x) : (jr a b).y = Y := qdm (YC a.on b.on) ((Yy a b).trans h.symm)
theorem qci (a b : G) : jr a b = jr b a := by
 have e1 := YH b a
 have e2 := Yy b a
 refine G.ext' (qlj (X := sX b a) ?_) (qkN (Y := sY b a) ?_)
 · generalize dK = d at *; generalize sX b a = X at *; clear e2; grind
 · generalize dK = d at *; generalize sY b a = X at *; clear e1; grind
theorem qra (d x y : Fin P) (hx : x = 0) (hy : y = 1) : y * y = 1 + x * x + d * (x * x) * (y * y) := by grind
noncomputable def g0 : G := ⟨0, 1, qra dK 0 1 rfl rfl⟩
theorem qb7 (a : G) : jr a g0 = a := by
 refine G.ext' (qlj ?_) (qkN ?_)
 ·
  show a.x * (1 + dK * a.x * 0 * a.y * 1) = a.x * 1 + 0 * a.y
  generalize dK = d; grind
 ·
  show a.y * (1 - dK * a.x * 0 * a.y * 1) = a.y * 1 + a.x * 0
  generalize dK = d; grind
theorem qq6 (d x1 y1 x2 y2 x3 y3 : Fin P) (h1 : y1*y1 = 1 + x1*x1 + d*(x1*x1)*(y1*y1)) (h2 : y2*y2 = 1 + x2*x2 + d*(x2*x2)*(y2*y2)) (h3 : y3*y3 = 1 + x3*x3 + d*(x3*x3)*(y3*y3))
 (X12 Y12 k12 X23 Y23 k23 : Fin P) (a1 : X12 = x1*y2+x2*y1) (a2 : Y12 = y1*y2+x1*x2) (a3 : k12 = d*x1*x2*y1*y2)
 (b1 : X23 = x2*y3+x3*y2) (b2 : Y23 = y2*y3+x2*x3) (b3 : k23 = d*x2*x3*y2*y3) :
 (X12*(1-k12)*y3 + x3*Y12*(1+k12)) * ((1+k23)*(1-k23) + d*X23*Y23*x1*y1) = (x1*Y23*(1+k23) + X23*(1-k23)*y1) * ((1+k12)*(1-k12) + d*X12*Y12*x3*y3) := by
 subst a1 a2 a3 b1 b2 b3
 grind
theorem qqz (d x1 y1 x2 y2 x3 y3 : Fin P) (h1 : y1*y1 = 1 + x1*x1 + d*(x1*x1)*(y1*y1)) (h2 : y2*y2 = 1 + x2*x2 + d*(x2*x2)*(y2*y2)) (h3 : y3*y3 = 1 + x3*x3 + d*(x3*x3)*(y3*y3))
 (X12 Y12 k12 X23 Y23 k23 : Fin P) (a1 : X12 = x1*y2+x2*y1) (a2 : Y12 = y1*y2+x1*x2) (a3 : k12 = d*x1*x2*y1*y2)
 (b1 : X23 = x2*y3+x3*y2) (b2 : Y23 = y2*y3+x2*x3) (b3 : k23 = d*x2*x3*y2*y3) :
 (Y12*(1+k12)*y3 + x3*X12*(1-k12)) * ((1+k23)*(1-k23) - d*X23*Y23*x1*y1) = (x1*X23*(1-k23) + Y23*(1+k23)*y1) * ((1+k12)*(1-k12) - d*X12*Y12*x3*y3) := by
 subst a1 a2 a3 b1 b2 b3
 grind
theorem qoS (d x12 y12 x3 y3 u v X12 Y12 X : Fin P) (hu : x12 * u = X12) (hv : y12 * v = Y12) (h : X * (1 + d * x12 * x3 * y12 * y3) = x12 * y3 + x3 * y12) : X * (u * v + d * X12 * Y12 * x3 * y3) = X12 * v * y3 + x3 * Y12 * u := by
 subst hu hv
 have e : X * (u * v + d * (x12 * u) * (y12 * v) * x3 * y3) = X * (1 + d * x12 * x3 * y12 * y3) * (u * v) := by grind
 rw [e, h]; clear e h; grind
theorem qo1 (d x12 y12 x3 y3 u v X12 Y12 Y : Fin P) (hu : x12 * u = X12) (hv : y12 * v = Y12) (h : Y * (1 - d * x12 * x3 * y12 * y3) = y12 * y3 + x12 * x3) : Y * (u * v - d * X12 * Y12 * x3 * y3) = Y12 * u * y3 + x3 * X12 * v := by
 subst hu hv
 have e : Y * (u * v - d * (x12 * u) * (y12 * v) * x3 * y3) = Y * (1 - d * x12 * x3 * y12 * y3) * (u * v) := by grind
 rw [e, h]; clear e h; grind
theorem qpr (d x12 y12 x3 y3 u v X12 Y12 : Fin P) (hu : x12 * u = X12) (hv : y12 * v = Y12) : u * v + d * X12 * Y12 * x3 * y3 = u * v * (1 + d * x12 * x3 * y12 * y3) := by subst hu hv; grind
theorem qlu (d x12 y12 x3 y3 u v X12 Y12 : Fin P) (hu : x12 * u = X12) (hv : y12 * v = Y12) : u * v - d * X12 * Y12 * x3 * y3 = u * v * (1 - d * x12 * x3 * y12 * y3) := by subst hu hv; grind
theorem qsa (X X' A B C D : Fin P) (hB : B ≠ 0) (hD : D ≠ 0) (h1 : X * B = A) (h2 : X' * D = C) (h : A * D = C * B) : X = X' := by
 refine qdm (jN hB hD) ?_
 subst h1 h2
 grind
theorem qav (a b c : G) : jr (jr a b) c = jr a (jr b c) := by
 have p1 := YH a b
 have p2 := Yy a b
 have q1 := YH b c
 have q2 := Yy b c
 have hu := Yx a.on b.on
 have hv := YC a.on b.on
 have hs := Yx b.on c.on
 have ht := YC b.on c.on
 have m1 := Yx (jr a b).on c.on
 have m2 := YC (jr a b).on c.on
 have n1 := Yx (jr b c).on a.on
 have n2 := YC (jr b c).on a.on
 have X1 := qoS dK _ _ c.x c.y _ _ _ _ _ p1 p2 (YH (jr a b) c)
 have Y1 := qo1 dK _ _ c.x c.y _ _ _ _ _ p1 p2 (Yy (jr a b) c)
 have X2 := qoS dK _ _ a.x a.y _ _ _ _ _ q1 q2 (YH (jr b c) a)
 have Y2 := qo1 dK _ _ a.x a.y _ _ _ _ _ q1 q2 (Yy (jr b c) a)
 rw [qci a (jr b c)]
 refine G.ext' ?_ ?_
 ·
  refine qsa _ _ _ _ _ _ ?_ ?_ X1 X2 ?_
  · rw [qpr dK _ _ c.x c.y _ _ _ _ p1 p2]; exact jN (jN hu hv) m1
  · rw [qpr dK _ _ a.x a.y _ _ _ _ q1 q2]; exact jN (jN hs ht) n1
  ·
   have e := qq6 dK a.x a.y b.x b.y c.x c.y a.on b.on c.on _ _ _ _ _ _ rfl rfl rfl rfl rfl rfl
   clear p1 p2 q1 q2 hu hv hs ht m1 m2 n1 n2 X1 Y1 X2 Y2
   refine e.trans ?_
   generalize dK = d
   grind
 ·
  refine qsa _ _ _ _ _ _ ?_ ?_ Y1 Y2 ?_
  · rw [qlu dK _ _ c.x c.y _ _ _ _ p1 p2]; exact jN (jN hu hv) m2
  · rw [qlu dK _ _ a.x a.y _ _ _ _ q1 q2]; exact jN (jN hs ht) n2
  ·
   have e := qqz dK a.x a.y b.x b.y c.x c.y a.on b.on c.on _ _ _ _ _ _ rfl rfl rfl rfl rfl rfl
   clear p1 p2 q1 q2 hu hv hs ht m1 m2 n1 n2 X1 Y1 X2 Y2
   refine e.trans ?_
   generalize dK = d
   grind
noncomputable def Zx : Nat → G → G
 | 0, _ => g0
 | n + 1, a => jr (Zx n a) a
theorem qc9 (a : G) : jr g0 a = a := (qci _ _).trans (qb7 a)
theorem qkj (a : G) : Zx 0 a = g0 := rfl
theorem qnS (a : G) : Zx 1 a = a := qc9 a
theorem qbf (n : Nat) (a : G) : Zx (n + 1) a = jr (Zx n a) a := rfl
theorem qfj (m n : Nat) (a : G) : Zx (m + n) a = jr (Zx m a) (Zx n a) := by
 induction n with
 | zero => rw [Nat.add_zero, qkj, qb7]
 | succ n ih => rw [← Nat.add_assoc, qbf, ih, qbf, qav]
theorem qc6 (n : Nat) (a : G) : Zx (2 * n) a = jr (Zx n a) (Zx n a) := by rw [Nat.two_mul, qfj]
theorem qj6 (a b c d : G) : jr (jr a b) (jr c d) = jr (jr a c) (jr b d) := by
 rw [qav, ← qav b, qci b c, qav c, ← qav a]
theorem qtC (d x y : Fin P) (h : y * y = 1 + x * x + d * (x * x) * (y * y)) : y * y = 1 + -x * -x + d * (-x * -x) * (y * y) := by grind
def Jy (a : G) : G := ⟨-a.x, a.y, qtC dK a.x a.y a.on⟩
theorem quY (d x y : Fin P) : 0 * (1 + d * x * -x * y * y) = x * y + -x * y := by grind
theorem qvx (d x y : Fin P) (h : y * y = 1 + x * x + d * (x * x) * (y * y)) : 1 * (1 - d * x * -x * y * y) = y * y + x * -x := by grind
theorem qcV (a : G) : jr a (Jy a) = g0 :=
 G.ext' (qlj (a := a) (b := Jy a) (quY dK a.x a.y)) (qkN (a := a) (b := Jy a) (qvx dK a.x a.y a.on))
structure RP (p : Pt) (a : G) : Prop where
 ok : p.Ok
 z : qp p.z ≠ 0
 x : qp p.x = a.x * qp p.z
 y : qp p.y = a.y * qp p.z
 t : qp p.t = a.x * a.y * qp p.z
structure RQ (q : Q3) (a : G) : Prop where
 ok : q.Ok
 z : qp q.z ≠ 0
 x : qp q.x = a.x * qp q.z
 y : qp q.y = a.y * qp q.z
theorem qm2 (X Y e f g h : Fin P) (hX : e = X * g) (hY : h = Y * f) : e * f = X * (f * g) ∧ g * h = Y * (f * g) ∧ e * h = X * Y * (f * g) := by
 subst hX hY
 refine ⟨?_, ?_, ?_⟩ <;> grind
theorem qh1 {e f g h : Nat} {a : G} (hf : qp f ≠ 0) (hg : qp g ≠ 0) (hX : qp e = a.x * qp g) (hY : qp h = a.y * qp f) : RP (YL e f g h) a := by
 obtain ⟨h1, h2, h3⟩ := qm2 a.x a.y _ _ _ _ hX hY
 refine ⟨qaN _ _ _ _, ?_, ?_, ?_, ?_⟩
 ·
  show qp (mP f g) ≠ 0
  rw [ji]; exact jN hf hg
 ·
  show qp (mP e f) = _ * qp (mP f g)
  rw [ji, ji]; exact h1
 ·
  show qp (mP g h) = _ * qp (mP f g)
  rw [ji, ji]; exact h2
 ·
  show qp (mP e h) = _ * qp (mP f g)
  rw [ji, ji]; exact h3
theorem quc (d x y u v z w : Fin P) : z * w + z * w - x * y * z * (d + d) * (u * v * w) = 2 * (z * w) * (1 - d * x * u * y * v) := by grind
theorem qut (d x y u v z w : Fin P) : z * w + z * w + x * y * z * (d + d) * (u * v * w) = 2 * (z * w) * (1 + d * x * u * y * v) := by grind
theorem qu2 (x y u v z w X D : Fin P) (h : X * D = x * v + u * y) : (y * z + x * z) * (v * w + u * w) - (y * z - x * z) * (v * w - u * w) = X * (2 * (z * w) * D) := by
 have e : X * (2 * (z * w) * D) = 2 * (z * w) * (X * D) := by grind
 rw [e, h]; clear e h; grind
theorem qug (x y u v z w Y E : Fin P) (h : Y * E = y * v + x * u) : (y * z + x * z) * (v * w + u * w) + (y * z - x * z) * (v * w - u * w) = Y * (2 * (z * w) * E) := by
 have e : Y * (2 * (z * w) * E) = 2 * (z * w) * (Y * E) := by grind
 rw [e, h]; clear e h; grind
theorem qkK {p q : Pt} {a b : G} (hp : RP p a) (hq : RP q b) : RP (ZI p q) (jr a b) := by
 obtain ⟨po, pz, px, py, pt⟩ := hp
 obtain ⟨qo, qz, qx, qy, qt⟩ := hq
 have hD := Yx a.on b.on
 have hE := YC a.on b.on
 have sx : (jr a b).x * _ = _ := YH a b
 have sy : (jr a b).y * _ = _ := Yy a b
 have h2 := qpC
 have hA : qp (aA p q) = (qp p.y - qp p.x) * (qp q.y - qp q.x) := by
  unfold aA; rw [ji, J6 _ _ po.x, J6 _ _ qo.x]
 have hB : qp (bB p q) = (qp p.y + qp p.x) * (qp q.y + qp q.x) := by
  unfold bB; rw [ji, Jf, Jf]
 have hC : qp (cC p q) = qp p.t * (dK + dK) * qp q.t := by
  unfold cC dK; rw [ji, ji, qqw]
 have hZ : qp (zZ p q) = qp p.z * qp q.z := by unfold zZ; rw [ji]
 have ef : qp (sP (aP (zZ p q) (zZ p q)) (cC p q)) = 2 * (qp p.z * qp q.z) * (1 - dK * a.x * b.x * a.y * b.y) := by
  rw [J6 _ _ (show cC p q < P from qK _ _), Jf, hZ, hC, pt, qt]
  exact quc _ _ _ _ _ _ _
 have eg : qp (aP (aP (zZ p q) (zZ p q)) (cC p q)) = 2 * (qp p.z * qp q.z) * (1 + dK * a.x * b.x * a.y * b.y) := by
  rw [Jf, Jf, hZ, hC, pt, qt]
  exact qut _ _ _ _ _ _ _
 refine qh1 ?_ ?_ ?_ ?_
 · rw [ef]; exact jN (jN h2 (jN pz qz)) hE
 · rw [eg]; exact jN (jN h2 (jN pz qz)) hD
 ·
  rw [eg, J6 _ _ (show aA p q < P from qK _ _), hA, hB, px, py, qx, qy]
  exact qu2 _ _ _ _ _ _ _ _ sx
 ·
  rw [ef, Jf, hA, hB, px, py, qx, qy]
  exact qug _ _ _ _ _ _ _ _ sy
def dX (p : Pt) : Nat := mP p.x p.x
def dY (p : Pt) : Nat := mP p.y p.y
def dZ (p : Pt) : Nat := mP p.z p.z
def dS (p : Pt) : Nat := aP (dX p) (dY p)
def dD (p : Pt) : Nat := sP (dY p) (dX p)
def dC (p : Pt) : Nat := sP (mP (aP p.x p.y) (aP p.x p.y)) (dS p)
def kM (p : Pt) : Pt := YL (dC p) (sP (aP (dZ p) (dZ p)) (dD p)) (dD p) (dS p)
theorem qpn (p : Pt) : qp (dD p) = qp p.y * qp p.y - qp p.x * qp p.x := by
 unfold dD; rw [J6 _ _ (show dX p < P from qK _ _)]; simp only [dX, dY, ji]
theorem quM (d x y z : Fin P) (h : y * y = 1 + x * x + d * (x * x) * (y * y)) : y * z * (y * z) - x * z * (x * z) = z * z * (1 + d * x * x * y * y) := by grind
theorem qvg (d x y z : Fin P) (h : y * y = 1 + x * x + d * (x * x) * (y * y)) : z * z + z * z - (y * z * (y * z) - x * z * (x * z)) = z * z * (1 - d * x * x * y * y) := by grind
theorem quZ (x y z X D : Fin P) (h : X * D = x * y + x * y) : (x * z + y * z) * (x * z + y * z) - (x * z * (x * z) + y * z * (y * z)) = X * (z * z * D) := by grind
theorem qvm (x y z Y E : Fin P) (h : Y * E = y * y + x * x) : (x * z * (x * z) + y * z * (y * z)) = Y * (z * z * E) := by grind
theorem qpb {p : Pt} {a : G} (hp : RP p a) : RP (kM p) (jr a a) := by
 obtain ⟨po, pz, px, py, pt⟩ := hp
 have hD := Yx a.on a.on
 have hE := YC a.on a.on
 have sx : (jr a a).x * _ = _ := YH a a
 have sy : (jr a a).y * _ = _ := Yy a a
 have eg : qp (dD p) = qp p.z * qp p.z * (1 + dK * a.x * a.x * a.y * a.y) := by
  rw [qpn, px, py]; exact quM _ _ _ _ a.on
 have ef : qp (sP (aP (dZ p) (dZ p)) (dD p)) = qp p.z * qp p.z * (1 - dK * a.x * a.x * a.y * a.y) := by
  rw [J6 _ _ (show dD p < P from jR _ _), qpn, px, py, Jf]
  simp only [dZ, ji]
  exact qvg _ _ _ _ a.on
 refine qh1 ?_ ?_ ?_ ?_
 · rw [ef]; exact jN (jN pz pz) hE
 · rw [eg]; exact jN (jN pz pz) hD
 ·
  rw [eg]
  unfold dC
  rw [J6 _ _ (show dS p < P from QF _ _)]
  simp only [dS, dX, dY, Jf, ji, px, py]
  exact quZ _ _ _ _ _ sx
 ·
  rw [ef]
  simp only [dS, dX, dY, Jf, ji, px, py]
  exact qvm _ _ _ _ _ sy
theorem q_f (d x y u v z w : Fin P) : z * w * (z * w) - d * (x * z * (u * w) * (y * z * (v * w))) = z * w * (z * w) * (1 - d * x * u * y * v) := by grind
theorem q_g (d x y u v z w : Fin P) : z * w * (z * w) + d * (x * z * (u * w) * (y * z * (v * w))) = z * w * (z * w) * (1 + d * x * u * y * v) := by grind
theorem q_x (x y u v z w X D f : Fin P) (h : X * D = x * v + u * y) : z * w * (f * (x * z * (v * w) + u * w * (y * z))) = X * (f * (z * w * (z * w) * D)) := by
 have e : X * (f * (z * w * (z * w) * D)) = f * (z * w * (z * w)) * (X * D) := by grind
 rw [e, h]; clear e h; grind
theorem q_y (x y u v z w Y E g : Fin P) (h : Y * E = y * v + x * u) : z * w * (g * (y * z * (v * w) + x * z * (u * w))) = Y * (z * w * (z * w) * E * g) := by
 have e : Y * (z * w * (z * w) * E * g) = g * (z * w * (z * w)) * (Y * E) := by grind
 rw [e, h]; clear e h; grind
theorem qeA {p q : Q3} {a b : G} (hp : RQ p a) (hq : RQ q b) : RQ (qqD p q) (jr a b) := by
 obtain ⟨po, pz, px, py⟩ := hp
 obtain ⟨qo, qz', qx, qy⟩ := hq
 have hD := Yx a.on b.on
 have hE := YC a.on b.on
 have sx : (jr a b).x * _ = _ := YH a b
 have sy : (jr a b).y * _ = _ := Yy a b
 have ef : qp (qf p q) = qp p.z * qp q.z * (qp p.z * qp q.z) * (1 - dK * a.x * b.x * a.y * b.y) := by
  unfold qf
  rw [J6 _ _ (show qe p q < P from qK _ _)]
  simp only [qe, qz, ji, px, py, qx, qy]
  exact q_f _ _ _ _ _ _ _
 have eg : qp (qg p q) = qp p.z * qp q.z * (qp p.z * qp q.z) * (1 + dK * a.x * b.x * a.y * b.y) := by
  unfold qg
  rw [Jf]
  simp only [qe, qz, ji, px, py, qx, qy]
  exact q_g _ _ _ _ _ _ _
 refine ⟨qn0 _ _, ?_, ?_, ?_⟩
 ·
  show qp (mP (qf p q) (qg p q)) ≠ 0
  rw [ji, ef, eg]
  exact jN (jN (jN (jN pz qz') (jN pz qz')) hE) (jN (jN (jN pz qz') (jN pz qz')) hD)
 ·
  show qp (mP (qz p q) (mP (qf p q) (qc p q))) = _ * qp (mP (qf p q) (qg p q))
  simp only [ji, eg, qc, Jf, qz, px, py, qx, qy]
  exact q_x _ _ _ _ _ _ _ _ _ sx
 ·
  show qp (mP (qz p q) (mP (qg p q) (aP (mP p.y q.y) (mP p.x q.x)))) = _ * qp (mP (qf p q) (qg p q))
  simp only [ji, ef, Jf, qz, px, py, qx, qy]
  exact q_y _ _ _ _ _ _ _ _ _ sy
theorem qcP {x z : Nat} {X : Fin P} (hz : qp z ≠ 0) (h : qp x = X * qp z) (hl : z < P) : qnb x z = X.val := by
 have e : qp (qnb x z) = X := by
  unfold qnb
  rw [ji, h]
  have hi : qp z * qp (Qa z) = 1 := by
   rw [← ji, qdy, ZY]
   intro e
   rw [z6 hl] at e
   exact hz ((qa1 hl).2 e)
  generalize qp (Qa z) = i at *
  grind
 have := congrArg Fin.val e
 rw [qkU (show qnb x z < P from qK _ _)] at this
 exact this
abbrev JE : Oper := ⟨some 3, .alloc 80, 0, "point.go:90", #[], none⟩
abbrev JG : Oper := ⟨some 4, .alloc 80, 0, "point.go:90", #[], none⟩
abbrev JF : Oper := ⟨some 5, .alloc 80, 0, "point.go:90", #[], none⟩
abbrev qc0 : Oper := ⟨some 8, .alloc 80, 0, "point.go:93", #[], none⟩
abbrev qcU : Oper := ⟨none, .store 80 (.tmp 8) (.tmp 31), 0, "point.go:93", #[ql 8, ql 7, qT 7, qj 0, qj 1, qj 2, qj 3, qj 4, qj 5, qj 6, qj 7, qj 8], none⟩
def pL (p : Pt) : List Value := nL p.x ++ (nL p.y ++ (nL p.z ++ nL p.t))
theorem kh (p : Pt) : (pL p).length = 16 := rfl
theorem qt3 (p : Pt) : (pL p).toArray = pA p := rfl
theorem qua (p : Pt) : (pA p).toList = pL p := rfl
theorem qlA (p : Pt) : (pA p).size = 16 := rfl
theorem qfm (p : Pt) : (Tryz.prog.info? 82).map (·.size) = some (pL p).length := jO p
structure jv (w : World) (b n : Nat) (f : Nat → Pt) : Prop where
 rd : ∀ i, i < n → w.rangeAt b (16 * i) (pL (f i))
 wr : w.there b 0 (16 * n)
def QY (f : Nat → Pt) (i : Nat) (p : Pt) : Nat → Pt := fun j => if j = i then p else f j
theorem qni (f : Nat → Pt) (i : Nat) (p : Pt) : QY f i p i = p := by simp [QY]
theorem jv.at' {w : World} {b n : Nat} {f : Nat → Pt} (h : jv w b n f) {i : Nat} (hi : i < n) : w.there b (16 * i) 16 := fun j hj => by
 have := h.wr (16 * i + j) (by omega)
 rw [Zb] at this
 exact this
theorem jv.set {w : World} {b n : Nat} {f : Nat → Pt} (h : jv w b n f) {i : Nat} (hi : i < n) (p : Pt) : jv (w.setCells b (16 * i) (pL p)) b n (QY f i p) := by
 refine ⟨fun k hk => ?_, World.there_setCells h.wr _ _ _⟩
 unfold QY
 split
 · subst k; exact World.rangeAt_setCells_same _ _ _ _ (by rw [kh]; exact h.at' hi)
 ·
  refine World.rangeAt_setCells_apart (h.rd k hk) _ _ _ (Or.inr ?_)
  rw [kh, kh]; omega
theorem qaq {w v : World} {b o n : Nat} (h : w.there b o n) (hb : v.heap[b]? = w.heap[b]?) : v.there b o n := fun j hj =>
 ⟨by rw [zo (w := w) hb]; exact (h j hj).1, by rw [World.frozen?_of_block (w := w) hb]; exact (h j hj).2⟩
theorem jv.keep {w v : World} {b n : Nat} {f : Nat → Pt} (h : jv w b n f) (hb : v.heap[b]? = w.heap[b]?) : jv v b n f :=
 ⟨fun i hi j x hx => (zo hb).trans (h.rd i hi j x hx), qaq h.wr hb⟩
theorem jv.below {w v : World} {b n B : Nat} {f : Nat → Pt} (h : jv w b n f) (hB : Below B w v) (hb : b < B) : jv v b n f := h.keep (hB.block b hb)
theorem jv.drew {w : World} {b n : Nat} {f : Nat → Pt} (h : jv w b n f) : jv w.drew b n f := h.keep rfl
theorem jv.ext {w : World} {b n : Nat} {f g : Nat → Pt} (h : jv w b n f) (e : ∀ i, i < n → f i = g i) : jv w b n g :=
 ⟨fun i hi => by rw [← e i hi]; exact h.rd i hi, h.wr⟩
theorem jv.size {w : World} {b n : Nat} {f : Nat → Pt} (h : jv w b n f) (hn : 0 < n) : b < w.heap.size := by
 obtain ⟨v, hv⟩ := Option.isSome_iff_exists.1 (h.wr 0 (by omega)).1
 exact zX w _ hv
theorem Y8 (b : Nat) : ∀ (vs : List Value) (o : Nat) (w : World) (k : Nat), k ≠ b → (w.setCells b o vs).heap[k]? = w.heap[k]?
 | [], _, _, _, _ => rfl
 | v :: r, o, w, k, h => by
  rw [World.setCells, Y8 b r (o + 1) _ k h]
  exact Below.heap_setCell w ⟨b, o, none⟩ v k h
theorem qaf {B : Nat} {a : World} {b : Nat} (hb : B ≤ b) : ∀ (vs : List Value) (o : Nat) (w : World), Below B a w → Below B a (w.setCells b o vs)
 | [], _, _, h => h
 | v :: r, o, w, h => by
  rw [World.setCells]
  exact qaf hb r (o + 1) _ (h.setCell hb v)
def jb (f : Nat → Pt) : Nat → List Value
 | 0 => []
 | n + 1 => jb f n ++ pL (f n)
def qP (f : Nat → Pt) (n : Nat) : Array Value := (jb f n).toArray
theorem J8 (f : Nat → Pt) : ∀ n, (jb f n).length = 16 * n
 | 0 => rfl
 | n + 1 => by rw [jb, Ze, J8 f n, kh]; omega
theorem qiG (f : Nat → Pt) : ∀ (n i j : Nat), i < n → j < 16 → (jb f n)[16 * i + j]? = (pL (f i))[j]?
 | 0, _, _, h, _ => absurd h (by omega)
 | n + 1, i, j, h, hj => by
  rw [jb]
  by_cases e : i < n
  ·
   rw [z5 (by rw [J8]; omega)]
   exact qiG f n i j e hj
  ·
   obtain rfl : i = n := by omega
   rw [zY (by rw [J8]; omega), J8, Nat.add_sub_cancel_left]
theorem qiv (f : Nat → Pt) : ∀ n, ∀ v ∈ jb f n, v.oneCell' = true
 | 0, v, h => by simp [jb] at h
 | n + 1, v, h => by
  rw [jb] at h
  rcases List.mem_append.1 h with k | k
  · exact qiv f n v k
  ·
   have := Array.all_eq_true_iff_forall_mem.1 (QJ (f n)) v (by rw [← qt3]; simpa using k)
   exact this
theorem YV (f : Nat → Pt) (n : Nat) : (qP f n).all (·.oneCell') = true := all_oneCell_toArray (qiv f n)
theorem qdM (f : Nat → Pt) (n : Nat) : (qP f n).size = 16 * n := by unfold qP; rw [List.size_toArray, J8]
theorem kR (f g : Nat → Pt) (n : Nat) : (qP f n).size = (qP g n).size := by rw [qdM, qdM]
theorem jv.whole {w : World} {b n : Nat} {f : Nat → Pt} (h : jv w b n f) : w.rangeAt b 0 (jb f n) := fun j v hv => by
 have hj := (List.getElem?_eq_some_iff.1 hv).1
 rw [J8] at hj
 rw [Zb]
 have e : j = 16 * (j / 16) + j % 16 := by omega
 rw [e, qiG f n (j / 16) (j % 16) (by omega) (by omega)] at hv
 have := h.rd (j / 16) (by omega) (j % 16) v hv
 rw [← e] at this
 exact this
theorem jv.of_row {w : World} {b n : Nat} {f : Nat → Pt} {T : TypeId} (h : w.heap[b]? = some (.cells (qP f n) T (0, 0))) : jv w b n f := by
 refine ⟨fun i hi j v hv => ?_, fun j hj => ⟨?_, frozen_of_row w b (0 + j) _ _ h⟩⟩
 ·
  have hj : j < 16 := by have := (List.getElem?_eq_some_iff.1 hv).1; rw [kh] at this; exact this
  rw [zj w b _ _ T _ h]
  unfold qP
  rw [zV, qiG f n i j hi hj]; exact hv
 ·
  rw [zj w b _ _ T _ h, Zb]
  unfold qP
  rw [zV, zO (by rw [J8]; exact hj)]; rfl
theorem yO (f : Nat → Pt) : (Tryz.prog.info? 84).map (·.size) = some (qP f 4).size := by rw [qdM]; kernel_rfl
theorem qff (f : Nat → Pt) : (Tryz.prog.info? 84).map (·.size) = some (jb f 4).length := by rw [J8]; kernel_rfl
theorem qkZ (f : Nat → Pt) : (Tryz.prog.info? 231).map (·.size) = some (qP f 16).size := by rw [qdM]; kernel_rfl
theorem qrg (f : Nat → Pt) : (Tryz.prog.info? 231).map (·.size) = some (jb f 16).length := by rw [J8]; kernel_rfl
def jH : Nat → Pt := fun _ => p0
theorem qfT (w : World) : (zeroValue 84).run Tryz.prog w = .ok (.agg (qP jH 4)) w := by kernel_rfl
theorem qlx (w : World) : (zeroValue 231).run Tryz.prog w = .ok (.agg (qP jH 16)) w := by kernel_rfl
theorem qgG (a0 a1 a2 a3 a4 a5 a6 a7 a8 a9 a10 a11 a12 a13 a14 a15 : Value) :
  Tryz.prog.built 84 [(0, .agg #[a0, a1, a2, a3, a4, a5, a6, a7, a8, a9, a10, a11, a12, a13, a14, a15])] = some ([a0, a1, a2, a3, a4, a5, a6, a7, a8, a9, a10, a11, a12, a13, a14, a15] ++ pL p0 ++ pL p0 ++ pL p0).toArray := by kernel_rfl
theorem qqN (p : Pt) : Tryz.prog.built 84 [(0, .agg (pA p))] = some (qP (QY jH 0 p) 4) := by
 have e := qgG (nv (wd p.x 0)) (nv (wd p.x 1)) (nv (wd p.x 2)) (nv (wd p.x 3)) (nv (wd p.y 0)) (nv (wd p.y 1)) (nv (wd p.y 2)) (nv (wd p.y 3)) (nv (wd p.z 0)) (nv (wd p.z 1)) (nv (wd p.z 2)) (nv (wd p.z 3)) (nv (wd p.t 0)) (nv (wd p.t 1)) (nv (wd p.t 2)) (nv (wd p.t 3))
 exact e
def ZR : Nat → Pt → Pt
 | 0, p => p
 | k + 1, p => kM (ZR k p)
theorem kE : (Tryz.prog.info? 82).map (·.size) = some 16 := by kernel_rfl
theorem JS : Tryz.prog.underlying 84 = some (.array 4 82) := by kernel_rfl
theorem qeJ : Tryz.prog.underlying 231 = some (.array 16 82) := by kernel_rfl
theorem qsT (b i : Nat) (hi : i < 4) (w : World) : (Instr.indexAt 84 (zp b 0) (.int .i64 i)).run Tryz.prog w = .ok (.pointer (some ⟨b, 16 * i, none⟩)) w := by
 cases hq : Tryz.prog.info? 82 with
 | none => have := kE; rw [hq] at this; cases this
 | some inf =>
  have hs : inf.size = 16 := by have := kE; rw [hq] at this; simpa using this
  simp [Instr.indexAt, asIntOf, run_underlying JS, sizeOf, typeInfo, hq, hs, Instr.sureAddr, Addr.add_mid, Zl]
  intro h; omega
theorem qoD (k : IntKind) (b i : Nat) (hi : i < 16) (w : World) : (Instr.indexAt 231 (zp b 0) (.int k i)).run Tryz.prog w = .ok (.pointer (some ⟨b, 16 * i, none⟩)) w := by
 cases hq : Tryz.prog.info? 82 with
 | none => have := kE; rw [hq] at this; cases this
 | some inf =>
  have hs : inf.size = 16 := by have := kE; rw [hq] at this; simpa using this
  simp [Instr.indexAt, asIntOf, run_underlying qeJ, sizeOf, typeInfo, hq, hs, Instr.sureAddr, Addr.add_mid, Zl]
  intro h; omega
theorem qop (f : Nat → Pt) (n i : Nat) (hi : i < n) : (qP f n).extract (16 * i) (16 * i + 16) = pA (f i) := by
 apply Array.ext'
 apply List.ext_getElem?
 intro j
 rw [Array.getElem?_toList, Array.getElem?_extract, qua]
 unfold qP
 rw [List.size_toArray, J8]
 split
 ·
  rename_i h
  rw [zV, qiG f n i j hi (by omega)]
 ·
  rename_i h
  rw [List.getElem?_eq_none (by rw [kh]; omega)]
theorem quV (xs : Array Value) (i : Nat) (w : World) : (part 82 xs i).run Tryz.prog w = .ok (.agg (xs.extract i (i + 16))) w := by
 cases hq : Tryz.prog.info? 82 with
 | none => have := kE; rw [hq] at this; cases this
 | some inf =>
  have hs : inf.size = 16 := by have := kE; rw [hq] at this; simpa using this
  simp [part, isAgg, run_underlying Tryz.underlying82, sizeOf, typeInfo, hq, hs]
theorem qqH (f : Nat → Pt) (i : Nat) (hi : i < 4) (w : World) : (Instr.index 84 (.agg (qP f 4)) (.int .i64 i)).run Tryz.prog w = .ok (.agg (pA (f i))) w := by
 cases hq : Tryz.prog.info? 82 with
 | none => have := kE; rw [hq] at this; cases this
 | some inf =>
  have hs : inf.size = 16 := by have := kE; rw [hq] at this; simpa using this
  have e := qop f 4 i hi
  rw [Zl] at e
  simp [Instr.index, asIntOf, run_underlying JS, sizeOf, typeInfo, hq, hs, quV, e]
  intro h; omega
theorem qdr {p : Pt} (hp : p.Ok) : ∀ k, (ZR k p).Ok
 | 0 => hp
 | _ + 1 => qaN _ _ _ _
def qR (p : Pt) (i : Nat) : Pt := ZR (64 * i) p
theorem qhU (p : Pt) (a : Nat) : ∀ b, ZR b (ZR a p) = ZR (a + b) p
 | 0 => rfl
 | b + 1 => by rw [ZR, qhU p a b]; rfl
theorem qoo (p : Pt) (i : Nat) : ZR 64 (qR p i) = qR p (i + 1) := by
 unfold qR; rw [qhU]; congr 1
def yU (p : Pt) (i : Nat) : Nat → Pt := fun j => if j < i then qR p j else p0
theorem QA {a : Act} {o : Oper} (x : Operand) (ho : o.op = .call { callee := .value (.func 161), args := #[x], argTypes := #[80] }) (v1 : Value) (hx : a.eval x = v1) (w : World) :
  (execOp a.eval o).run Tryz.prog w = .ok (.enter 161 #[v1]) w := by
 unfold execOp
 simp only [ho]
 subst hx
 go_simp
theorem Qw (a : Nat) (ha : a < P) (w : World) : zC 161 #[.agg (qb a)] w (.agg (qb (mP a a))) := qbv a ha w
theorem qb1 {P : Program} {md : Region.Mode} {ops : Array Oper} {Q : Exit → Act → World → Prop} {S : World → Prop} (L : Nat → Array Bool) (F : Nat → Nat) (YX : Nat → Act → World → Prop) (N : Nat)
  (h : ∀ s, s < N → (∀ t, s < t → t < N → ∀ fuel listed a w, fuel = F t → listed = L t → YX t a w → wpAnyH P md ops Q S fuel listed a w) → ∀ a w, YX s a w → wpAnyH P md ops Q S (F s) (L s) a w) :
  ∀ s, s < N → ∀ fuel listed a w, fuel = F s → listed = L s → YX s a w → wpAnyH P md ops Q S fuel listed a w := by
 have key : ∀ k s, N - s ≤ k → s < N → ∀ fuel listed a w, fuel = F s → listed = L s → YX s a w → wpAnyH P md ops Q S fuel listed a w := by
  intro k
  induction k with
  | zero => intro s hk hs; omega
  | succ k ihk =>
   intro s _ hs fuel listed a w hf hl hI
   subst hf hl
   exact h s hs (fun t hst ht => ihk t (by omega) ht) a w hI
 exact fun s hs => key (N - s) s (zm _) hs
abbrev zI (w : World) (p : Pt) (t3 t4 t5 t11 t14 t17 : Value) : Act := { tmps := #[.agg (pA p), zp w.heap.size 0, zp (w.heap.size + 1) 0, t3, t4, t5, undef, undef, undef, zp w.heap.size 0, .agg (qb p.x), t11, zp w.heap.size 4, .agg (qb p.y), t14, zp w.heap.size 8, .agg (qb p.z), t17, undef, undef, undef, undef, undef, undef, undef, undef, undef, undef, undef, undef, undef, undef, undef, undef, undef, undef, undef, undef, undef, undef, undef], defers := [] }
section
attribute [local irreducible] qb nL pA
theorem qpc (p : Pt) (hp : p.Ok) (w : World) :
  zC 140 #[.agg (pA p)] w (.agg (pA (kM p))) := by
 have hz := qjD
 have hzp := yK
 have Hp := qa hp
 clear hp
 go_enter Tryz.func140, Tryz.ntmps140
 go_wp2_with fail
 obtain ⟨W0, hW0⟩ := zy ((w.alloc (.cells (pA p) 82)).alloc (.cells (pA p0) 82))
 have RP : Hid (qi W0 w.heap.size (pA p) 82) := by rw [hW0]; exact (zb _ _ (by simp)).trans (za _ _)
 have RZ : Hid (qi W0 (w.heap.size + 1) (pA p0) 82) := by rw [hW0]; exact Zd _ _ _
 have BL : Hid (zB w W0) := by rw [hW0]; show Below _ _ _; go_grown
 rw [← hW0]
 clear hW0
 go_cut [3, 4, 5] from 9 to 17 (fun s3 s4 s5 wx => ∃ g3 g4 g5, s3 = zp g3 0 ∧ s4 = zp g4 0 ∧ s5 = zp g5 0 ∧ Hid (W0.heap.size ≤ g3) ∧ Hid (W0.heap.size ≤ g4) ∧ Hid (W0.heap.size ≤ g5) ∧ Hid (qi wx g3 ((qb (mP p.x p.x))) 80) ∧ Hid (qi wx g4 ((qb (mP p.y p.y))) 80) ∧ Hid (qi wx g5 ((qb (mP p.z p.z))) 80) ∧ Hid (zB W0 wx))
 case first =>
  refine zM (S := fun w' => w'.rangeAt (w.heap.size) 0 (nL p.x) ∧ w'.rangeAt (w.heap.size) 4 (nL p.y) ∧ w'.rangeAt (w.heap.size) 8 (nL p.z)) (by kernel_rfl) (by exact ⟨(Qr RP.o).1, (Qr RP.o).2.1, (Qr RP.o).2.2.1⟩) (fun hHeld => ?_)
  obtain ⟨V1, hV1⟩ := zy W0.drew
  rw [← hV1] at hHeld ⊢
  have KV1 : Hid (zB W0 V1) := by rw [hV1]; exact (zJ _ _).drew
  clear hV1
  refine zU 0 ⟨some 9, .fieldAddr 82 (.tmp 1) 0, 0, "point.go:90", #[], none⟩ (zp w.heap.size 0) ?_
  simp only [qd]
  refine zU 3 ⟨some 12, .fieldAddr 82 (.tmp 1) 1, 0, "point.go:90", #[], none⟩ (zp w.heap.size 4) ?_
  simp only [qd]
  refine zU 6 ⟨some 15, .fieldAddr 82 (.tmp 1) 2, 0, "point.go:90", #[], none⟩ (zp w.heap.size 8) ?_
  simp only [qd]
  refine zT 1 ⟨some 10, .load 80 (.tmp 9), 80, "point.go:90", #[ql 0], none⟩ (.agg (qb p.x)) (jA (by rfl) _ rfl (w.heap.size) 0 p.x rfl (fun w h => h.1)) ?_
  simp only [qd]
  refine zT 4 ⟨some 13, .load 80 (.tmp 12), 80, "point.go:90", #[ql 3], none⟩ (.agg (qb p.y)) (jA (by rfl) _ rfl (w.heap.size) 4 p.y rfl (fun w h => h.2.1)) ?_
  simp only [qd]
  refine zT 7 ⟨some 16, .load 80 (.tmp 15), 80, "point.go:90", #[ql 6], none⟩ (.agg (qb p.z)) (jA (by rfl) _ rfl (w.heap.size) 8 p.z rfl (fun w h => h.2.2)) ?_
  simp only [qd]
  refine qb1 (fun s => match s with | 0 => #[true, true, false, true, true, false, true, true, false, false, false, false, false, false, false] | 1 => #[true, true, false, true, true, false, true, true, false, true, false, false, false, false, false] | 2 => #[true, true, false, true, true, false, true, true, false, false, true, false, false, false, false] | 3 => #[true, true, false, true, true, false, true, true, false, false, false, true, false, false, false] | 4 => #[true, true, true, true, true, false, true, true, false, false, false, false, false, false, false] | 5 => #[true, true, false, true, true, false, true, true, false, true, true, false, false, false, false] | 6 => #[true, true, false, true, true, false, true, true, false, true, false, true, false, false, false] | 7 => #[true, true, false, true, true, false, true, true, false, false, true, true, false, false, false] | 8 => #[true, true, true, true, true, false, true, true, false, true, false, false, false, false, false] | 9 => #[true, true, true, true, true, false, true, true, false, false, true, false, false, false, false] | 10 => #[true, true, true, true, true, false, true, true, false, false, false, true, false, false, false] | 11 => #[true, true, true, true, true, true, true, true, false, false, false, false, false, false, false] | 12 => #[true, true, false, true, true, false, true, true, false, true, true, true, false, false, false] | 13 => #[true, true, true, true, true, false, true, true, false, true, true, false, false, false, false] | 14 => #[true, true, true, true, true, false, true, true, false, true, false, true, false, false, false] | 15 => #[true, true, true, true, true, false, true, true, false, false, true, true, false, false, false] | 16 => #[true, true, true, true, true, true, true, true, false, true, false, false, false, false, false] | 17 => #[true, true, true, true, true, true, true, true, false, false, true, false, false, false, false] | 18 => #[true, true, true, true, true, true, true, true, false, false, false, true, false, false, false] | 19 => #[true, true, true, true, true, true, true, true, true, false, false, false, false, false, false] | 20 => #[true, true, true, true, true, false, true, true, false, true, true, true, false, false, false] | 21 => #[true, true, true, true, true, true, true, true, false, true, true, false, false, false, false] | 22 => #[true, true, true, true, true, true, true, true, false, true, false, true, false, false, false] | 23 => #[true, true, true, true, true, true, true, true, false, false, true, true, false, false, false] | 24 => #[true, true, true, true, true, true, true, true, true, true, false, false, false, false, false] | 25 => #[true, true, true, true, true, true, true, true, true, false, true, false, false, false, false] | 26 => #[true, true, true, true, true, true, true, true, true, false, false, true, false, false, false] | 27 => #[true, true, true, true, true, true, true, true, false, true, true, true, false, false, false] | 28 => #[true, true, true, true, true, true, true, true, true, true, true, false, false, false, false] | 29 => #[true, true, true, true, true, true, true, true, true, true, false, true, false, false, false] | 30 => #[true, true, true, true, true, true, true, true, true, false, true, true, false, false, false] | 31 => #[true, true, true, true, true, true, true, true, true, true, true, true, false, false, false] | _ => #[]) (fun s => match s with | 0 => 9 | 1 => 8 | 2 => 8 | 3 => 8 | 4 => 8 | 5 => 7 | 6 => 7 | 7 => 7 | 8 => 7 | 9 => 7 | 10 => 7 | 11 => 7 | 12 => 6 | 13 => 6 | 14 => 6 | 15 => 6 | 16 => 6 | 17 => 6 | 18 => 6 | 19 => 6 | 20 => 5 | 21 => 5 | 22 => 5 | 23 => 5 | 24 => 5 | 25 => 5 | 26 => 5 | 27 => 4 | 28 => 4 | 29 => 4 | 30 => 4 | 31 => 3 | _ => 0)
   (fun s a v => match s with | 0 => a = zI w p undef undef undef undef undef undef ∧ Hid (zB W0 v) | 1 => ∃ g3 : Nat, a = zI w p (zp g3 0) undef undef undef undef undef ∧ Hid (W0.heap.size ≤ g3) ∧ Hid (qi v g3 (qb 0) 80) ∧ Hid (zB W0 v) | 2 => ∃ g4 : Nat, a = zI w p undef (zp g4 0) undef undef undef undef ∧ Hid (W0.heap.size ≤ g4) ∧ Hid (qi v g4 (qb 0) 80) ∧ Hid (zB W0 v) | 3 => ∃ g5 : Nat, a = zI w p undef undef (zp g5 0) undef undef undef ∧ Hid (W0.heap.size ≤ g5) ∧ Hid (qi v g5 (qb 0) 80) ∧ Hid (zB W0 v) | 4 => a = zI w p undef undef undef (.agg (qb (mP p.x p.x))) undef undef ∧ Hid (zB W0 v) | 5 => ∃ g3 : Nat, ∃ g4 : Nat, a = zI w p (zp g3 0) (zp g4 0) undef undef undef undef ∧ Hid (W0.heap.size ≤ g3) ∧ Hid (W0.heap.size ≤ g4) ∧ Hid (qi v g3 (qb 0) 80) ∧ Hid (qi v g4 (qb 0) 80) ∧ g3 ≠ g4 ∧ Hid (zB W0 v) | 6 => ∃ g3 : Nat, ∃ g5 : Nat, a = zI w p (zp g3 0) undef (zp g5 0) undef undef undef ∧ Hid (W0.heap.size ≤ g3) ∧ Hid (W0.heap.size ≤ g5) ∧ Hid (qi v g3 (qb 0) 80) ∧ Hid (qi v g5 (qb 0) 80) ∧ g3 ≠ g5 ∧ Hid (zB W0 v) | 7 => ∃ g4 : Nat, ∃ g5 : Nat, a = zI w p undef (zp g4 0) (zp g5 0) undef undef undef ∧ Hid (W0.heap.size ≤ g4) ∧ Hid (W0.heap.size ≤ g5) ∧ Hid (qi v g4 (qb 0) 80) ∧ Hid (qi v g5 (qb 0) 80) ∧ g4 ≠ g5 ∧ Hid (zB W0 v) | 8 => ∃ g3 : Nat, a = zI w p (zp g3 0) undef undef (.agg (qb (mP p.x p.x))) undef undef ∧ Hid (W0.heap.size ≤ g3) ∧ Hid (qi v g3 (qb 0) 80) ∧ Hid (zB W0 v) | 9 => ∃ g4 : Nat, a = zI w p undef (zp g4 0) undef (.agg (qb (mP p.x p.x))) undef undef ∧ Hid (W0.heap.size ≤ g4) ∧ Hid (qi v g4 (qb 0) 80) ∧ Hid (zB W0 v) | 10 => ∃ g5 : Nat, a = zI w p undef undef (zp g5 0) (.agg (qb (mP p.x p.x))) undef undef ∧ Hid (W0.heap.size ≤ g5) ∧ Hid (qi v g5 (qb 0) 80) ∧ Hid (zB W0 v) | 11 => a = zI w p undef undef undef (.agg (qb (mP p.x p.x))) (.agg (qb (mP p.y p.y))) undef ∧ Hid (zB W0 v) | 12 => ∃ g3 : Nat, ∃ g4 : Nat, ∃ g5 : Nat, a = zI w p (zp g3 0) (zp g4 0) (zp g5 0) undef undef undef ∧ Hid (W0.heap.size ≤ g3) ∧ Hid (W0.heap.size ≤ g4) ∧ Hid (W0.heap.size ≤ g5) ∧ Hid (qi v g3 (qb 0) 80) ∧ Hid (qi v g4 (qb 0) 80) ∧ Hid (qi v g5 (qb 0) 80) ∧ g3 ≠ g4 ∧ g3 ≠ g5 ∧ g4 ≠ g5 ∧ Hid (zB W0 v) | 13 => ∃ g3 : Nat, ∃ g4 : Nat, a = zI w p (zp g3 0) (zp g4 0) undef (.agg (qb (mP p.x p.x))) undef undef ∧ Hid (W0.heap.size ≤ g3) ∧ Hid (W0.heap.size ≤ g4) ∧ Hid (qi v g3 (qb 0) 80) ∧ Hid (qi v g4 (qb 0) 80) ∧ g3 ≠ g4 ∧ Hid (zB W0 v) | 14 => ∃ g3 : Nat, ∃ g5 : Nat, a = zI w p (zp g3 0) undef (zp g5 0) (.agg (qb (mP p.x p.x))) undef undef ∧ Hid (W0.heap.size ≤ g3) ∧ Hid (W0.heap.size ≤ g5) ∧ Hid (qi v g3 (qb 0) 80) ∧ Hid (qi v g5 (qb 0) 80) ∧ g3 ≠ g5 ∧ Hid (zB W0 v) | 15 => ∃ g4 : Nat, ∃ g5 : Nat, a = zI w p undef (zp g4 0) (zp g5 0) (.agg (qb (mP p.x p.x))) undef undef ∧ Hid (W0.heap.size ≤ g4) ∧ Hid (W0.heap.size ≤ g5) ∧ Hid (qi v g4 (qb 0) 80) ∧ Hid (qi v g5 (qb 0) 80) ∧ g4 ≠ g5 ∧ Hid (zB W0 v) | 16 => ∃ g3 : Nat, a = zI w p (zp g3 0) undef undef (.agg (qb (mP p.x p.x))) (.agg (qb (mP p.y p.y))) undef ∧ Hid (W0.heap.size ≤ g3) ∧ Hid (qi v g3 (qb 0) 80) ∧ Hid (zB W0 v) | 17 => ∃ g4 : Nat, a = zI w p undef (zp g4 0) undef (.agg (qb (mP p.x p.x))) (.agg (qb (mP p.y p.y))) undef ∧ Hid (W0.heap.size ≤ g4) ∧ Hid (qi v g4 (qb 0) 80) ∧ Hid (zB W0 v) | 18 => ∃ g5 : Nat, a = zI w p undef undef (zp g5 0) (.agg (qb (mP p.x p.x))) (.agg (qb (mP p.y p.y))) undef ∧ Hid (W0.heap.size ≤ g5) ∧ Hid (qi v g5 (qb 0) 80) ∧ Hid (zB W0 v) | 19 => a = zI w p undef undef undef (.agg (qb (mP p.x p.x))) (.agg (qb (mP p.y p.y))) (.agg (qb (mP p.z p.z))) ∧ Hid (zB W0 v) | 20 => ∃ g3 : Nat, ∃ g4 : Nat, ∃ g5 : Nat, a = zI w p (zp g3 0) (zp g4 0) (zp g5 0) (.agg (qb (mP p.x p.x))) undef undef ∧ Hid (W0.heap.size ≤ g3) ∧ Hid (W0.heap.size ≤ g4) ∧ Hid (W0.heap.size ≤ g5) ∧ Hid (qi v g3 (qb 0) 80) ∧ Hid (qi v g4 (qb 0) 80) ∧ Hid (qi v g5 (qb 0) 80) ∧ g3 ≠ g4 ∧ g3 ≠ g5 ∧ g4 ≠ g5 ∧ Hid (zB W0 v) | 21 => ∃ g3 : Nat, ∃ g4 : Nat, a = zI w p (zp g3 0) (zp g4 0) undef (.agg (qb (mP p.x p.x))) (.agg (qb (mP p.y p.y))) undef ∧ Hid (W0.heap.size ≤ g3) ∧ Hid (W0.heap.size ≤ g4) ∧ Hid (qi v g3 (qb 0) 80) ∧ Hid (qi v g4 (qb 0) 80) ∧ g3 ≠ g4 ∧ Hid (zB W0 v) | 22 => ∃ g3 : Nat, ∃ g5 : Nat, a = zI w p (zp g3 0) undef (zp g5 0) (.agg (qb (mP p.x p.x))) (.agg (qb (mP p.y p.y))) undef ∧ Hid (W0.heap.size ≤ g3) ∧ Hid (W0.heap.size ≤ g5) ∧ Hid (qi v g3 (qb 0) 80) ∧ Hid (qi v g5 (qb 0) 80) ∧ g3 ≠ g5 ∧ Hid (zB W0 v) | 23 => ∃ g4 : Nat, ∃ g5 : Nat, a = zI w p undef (zp g4 0) (zp g5 0) (.agg (qb (mP p.x p.x))) (.agg (qb (mP p.y p.y))) undef ∧ Hid (W0.heap.size ≤ g4) ∧ Hid (W0.heap.size ≤ g5) ∧ Hid (qi v g4 (qb 0) 80) ∧ Hid (qi v g5 (qb 0) 80) ∧ g4 ≠ g5 ∧ Hid (zB W0 v) | 24 => ∃ g3 : Nat, a = zI w p (zp g3 0) undef undef (.agg (qb (mP p.x p.x))) (.agg (qb (mP p.y p.y))) (.agg (qb (mP p.z p.z))) ∧ Hid (W0.heap.size ≤ g3) ∧ Hid (qi v g3 (qb 0) 80) ∧ Hid (zB W0 v) | 25 => ∃ g4 : Nat, a = zI w p undef (zp g4 0) undef (.agg (qb (mP p.x p.x))) (.agg (qb (mP p.y p.y))) (.agg (qb (mP p.z p.z))) ∧ Hid (W0.heap.size ≤ g4) ∧ Hid (qi v g4 (qb 0) 80) ∧ Hid (zB W0 v) | 26 => ∃ g5 : Nat, a = zI w p undef undef (zp g5 0) (.agg (qb (mP p.x p.x))) (.agg (qb (mP p.y p.y))) (.agg (qb (mP p.z p.z))) ∧ Hid (W0.heap.size ≤ g5) ∧ Hid (qi v g5 (qb 0) 80) ∧ Hid (zB W0 v) | 27 => ∃ g3 : Nat, ∃ g4 : Nat, ∃ g5 : Nat, a = zI w p (zp g3 0) (zp g4 0) (zp g5 0) (.agg (qb (mP p.x p.x))) (.agg (qb (mP p.y p.y))) undef ∧ Hid (W0.heap.size ≤ g3) ∧ Hid (W0.heap.size ≤ g4) ∧ Hid (W0.heap.size ≤ g5) ∧ Hid (qi v g3 (qb 0) 80) ∧ Hid (qi v g4 (qb 0) 80) ∧ Hid (qi v g5 (qb 0) 80) ∧ g3 ≠ g4 ∧ g3 ≠ g5 ∧ g4 ≠ g5 ∧ Hid (zB W0 v) | 28 => ∃ g3 : Nat, ∃ g4 : Nat, a = zI w p (zp g3 0) (zp g4 0) undef (.agg (qb (mP p.x p.x))) (.agg (qb (mP p.y p.y))) (.agg (qb (mP p.z p.z))) ∧ Hid (W0.heap.size ≤ g3) ∧ Hid (W0.heap.size ≤ g4) ∧ Hid (qi v g3 (qb 0) 80) ∧ Hid (qi v g4 (qb 0) 80) ∧ g3 ≠ g4 ∧ Hid (zB W0 v) | 29 => ∃ g3 : Nat, ∃ g5 : Nat, a = zI w p (zp g3 0) undef (zp g5 0) (.agg (qb (mP p.x p.x))) (.agg (qb (mP p.y p.y))) (.agg (qb (mP p.z p.z))) ∧ Hid (W0.heap.size ≤ g3) ∧ Hid (W0.heap.size ≤ g5) ∧ Hid (qi v g3 (qb 0) 80) ∧ Hid (qi v g5 (qb 0) 80) ∧ g3 ≠ g5 ∧ Hid (zB W0 v) | 30 => ∃ g4 : Nat, ∃ g5 : Nat, a = zI w p undef (zp g4 0) (zp g5 0) (.agg (qb (mP p.x p.x))) (.agg (qb (mP p.y p.y))) (.agg (qb (mP p.z p.z))) ∧ Hid (W0.heap.size ≤ g4) ∧ Hid (W0.heap.size ≤ g5) ∧ Hid (qi v g4 (qb 0) 80) ∧ Hid (qi v g5 (qb 0) 80) ∧ g4 ≠ g5 ∧ Hid (zB W0 v) | 31 => ∃ g3 : Nat, ∃ g4 : Nat, ∃ g5 : Nat, a = zI w p (zp g3 0) (zp g4 0) (zp g5 0) (.agg (qb (mP p.x p.x))) (.agg (qb (mP p.y p.y))) (.agg (qb (mP p.z p.z))) ∧ Hid (W0.heap.size ≤ g3) ∧ Hid (W0.heap.size ≤ g4) ∧ Hid (W0.heap.size ≤ g5) ∧ Hid (qi v g3 (qb 0) 80) ∧ Hid (qi v g4 (qb 0) 80) ∧ Hid (qi v g5 (qb 0) 80) ∧ g3 ≠ g4 ∧ g3 ≠ g5 ∧ g4 ≠ g5 ∧ Hid (zB W0 v) | _ => False) 32 ?_ 0 (by decide) _ _ _ _ (by rfl) (by kernel_rfl) ⟨rfl, KV1⟩
  clear hHeld KV1
  intro s hs ih a v hI
  match s, hs, ih, hI with
  | 0, _, ih, hI =>
   dsimp only [zI] at hI
   obtain ⟨rfl, KV⟩ := hI
   refine zW [2, 9, 10, 11] ?_
   refine zK kn (fun K hK => ?_) ?_
   ·
    refine zE (QA _ rfl (.agg (qb p.x)) rfl v) (Qw p.x Hp.o.x v) fun V2 HBx => ?_
    have KV2 := qq KV HBx
    refine hK.o _ _ (⟨qv RP KV2, qw RP KV2, qW RP KV2⟩) fun _ => ?_
    try simp only [qd]
    exact ih 4 (by decide) (by decide) _ _ _ _ (by rfl) (by kernel_rfl) ⟨rfl, KV2⟩
   refine zK JE (fun K hK => ?_) ?_
   ·
    refine zA (ja rfl v) ?_
    have KV2 := qZ KV (.cells (qb 0) 80)
    refine hK.o _ _ (⟨qv RP KV2, qw RP KV2, qW RP KV2⟩) fun _ => ?_
    try simp only [qd]
    exact ih 1 (by decide) (by decide) _ _ _ _ (by rfl) (by kernel_rfl) ⟨v.heap.size, rfl, KV.o.size, za _ _, KV2⟩
   refine zK JG (fun K hK => ?_) ?_
   ·
    refine zA (ja rfl v) ?_
    have KV2 := qZ KV (.cells (qb 0) 80)
    refine hK.o _ _ (⟨qv RP KV2, qw RP KV2, qW RP KV2⟩) fun _ => ?_
    try simp only [qd]
    exact ih 2 (by decide) (by decide) _ _ _ _ (by rfl) (by kernel_rfl) ⟨v.heap.size, rfl, KV.o.size, za _ _, KV2⟩
   refine zK JF (fun K hK => ?_) ?_
   ·
    refine zA (ja rfl v) ?_
    have KV2 := qZ KV (.cells (qb 0) 80)
    refine hK.o _ _ (⟨qv RP KV2, qw RP KV2, qW RP KV2⟩) fun _ => ?_
    try simp only [qd]
    exact ih 3 (by decide) (by decide) _ _ _ _ (by rfl) (by kernel_rfl) ⟨v.heap.size, rfl, KV.o.size, za _ _, KV2⟩
   exact zu
  | 1, _, ih, hI =>
   dsimp only [zI] at hI
   obtain ⟨g3, rfl, G3, Z3, KV⟩ := hI
   refine zW [2, 10, 11] ?_
   refine zK kn (fun K hK => ?_) ?_
   ·
    refine zE (QA _ rfl (.agg (qb p.x)) rfl v) (Qw p.x Hp.o.x v) fun V2 HBx => ?_
    have KV2 := qq KV HBx
    have Z3 := qa (qk Z3.o HBx)
    refine hK.o _ _ (⟨qv RP KV2, qw RP KV2, qW RP KV2⟩) fun _ => ?_
    try simp only [qd]
    exact ih 8 (by decide) (by decide) _ _ _ _ (by rfl) (by kernel_rfl) ⟨g3, rfl, G3, Z3, KV2⟩
   refine zK JG (fun K hK => ?_) ?_
   ·
    refine zA (ja rfl v) ?_
    have KV2 := qZ KV (.cells (qb 0) 80)
    refine hK.o _ _ (⟨qv RP KV2, qw RP KV2, qW RP KV2⟩) fun _ => ?_
    try simp only [qd]
    exact ih 5 (by decide) (by decide) _ _ _ _ (by rfl) (by kernel_rfl) ⟨g3, v.heap.size, rfl, G3, KV.o.size, (zb _ _ (qh Z3.o)).trans Z3.o, za _ _, zn (qh Z3.o), KV2⟩
   refine zK JF (fun K hK => ?_) ?_
   ·
    refine zA (ja rfl v) ?_
    have KV2 := qZ KV (.cells (qb 0) 80)
    refine hK.o _ _ (⟨qv RP KV2, qw RP KV2, qW RP KV2⟩) fun _ => ?_
    try simp only [qd]
    exact ih 6 (by decide) (by decide) _ _ _ _ (by rfl) (by kernel_rfl) ⟨g3, v.heap.size, rfl, G3, KV.o.size, (zb _ _ (qh Z3.o)).trans Z3.o, za _ _, zn (qh Z3.o), KV2⟩
   exact zu
  | 2, _, ih, hI =>
   dsimp only [zI] at hI
   obtain ⟨g4, rfl, G4, Z4, KV⟩ := hI
   refine zW [2, 9, 11] ?_
   refine zK kn (fun K hK => ?_) ?_
   ·
    refine zE (QA _ rfl (.agg (qb p.x)) rfl v) (Qw p.x Hp.o.x v) fun V2 HBx => ?_
    have KV2 := qq KV HBx
    have Z4 := qa (qk Z4.o HBx)
    refine hK.o _ _ (⟨qv RP KV2, qw RP KV2, qW RP KV2⟩) fun _ => ?_
    try simp only [qd]
    exact ih 9 (by decide) (by decide) _ _ _ _ (by rfl) (by kernel_rfl) ⟨g4, rfl, G4, Z4, KV2⟩
   refine zK JE (fun K hK => ?_) ?_
   ·
    refine zA (ja rfl v) ?_
    have KV2 := qZ KV (.cells (qb 0) 80)
    refine hK.o _ _ (⟨qv RP KV2, qw RP KV2, qW RP KV2⟩) fun _ => ?_
    try simp only [qd]
    exact ih 5 (by decide) (by decide) _ _ _ _ (by rfl) (by kernel_rfl) ⟨v.heap.size, g4, rfl, KV.o.size, G4, za _ _, (zb _ _ (qh Z4.o)).trans Z4.o, Nat.ne_of_gt (qh Z4.o), KV2⟩
   refine zK JF (fun K hK => ?_) ?_
   ·
    refine zA (ja rfl v) ?_
    have KV2 := qZ KV (.cells (qb 0) 80)
    refine hK.o _ _ (⟨qv RP KV2, qw RP KV2, qW RP KV2⟩) fun _ => ?_
    try simp only [qd]
    exact ih 7 (by decide) (by decide) _ _ _ _ (by rfl) (by kernel_rfl) ⟨g4, v.heap.size, rfl, G4, KV.o.size, (zb _ _ (qh Z4.o)).trans Z4.o, za _ _, zn (qh Z4.o), KV2⟩
   exact zu
  | 3, _, ih, hI =>
   dsimp only [zI] at hI
   obtain ⟨g5, rfl, G5, Z5, KV⟩ := hI
   refine zW [2, 9, 10] ?_
   refine zK kn (fun K hK => ?_) ?_
   ·
    refine zE (QA _ rfl (.agg (qb p.x)) rfl v) (Qw p.x Hp.o.x v) fun V2 HBx => ?_
    have KV2 := qq KV HBx
    have Z5 := qa (qk Z5.o HBx)
    refine hK.o _ _ (⟨qv RP KV2, qw RP KV2, qW RP KV2⟩) fun _ => ?_
    try simp only [qd]
    exact ih 10 (by decide) (by decide) _ _ _ _ (by rfl) (by kernel_rfl) ⟨g5, rfl, G5, Z5, KV2⟩
   refine zK JE (fun K hK => ?_) ?_
   ·
    refine zA (ja rfl v) ?_
    have KV2 := qZ KV (.cells (qb 0) 80)
    refine hK.o _ _ (⟨qv RP KV2, qw RP KV2, qW RP KV2⟩) fun _ => ?_
    try simp only [qd]
    exact ih 6 (by decide) (by decide) _ _ _ _ (by rfl) (by kernel_rfl) ⟨v.heap.size, g5, rfl, KV.o.size, G5, za _ _, (zb _ _ (qh Z5.o)).trans Z5.o, Nat.ne_of_gt (qh Z5.o), KV2⟩
   refine zK JG (fun K hK => ?_) ?_
   ·
    refine zA (ja rfl v) ?_
    have KV2 := qZ KV (.cells (qb 0) 80)
    refine hK.o _ _ (⟨qv RP KV2, qw RP KV2, qW RP KV2⟩) fun _ => ?_
    try simp only [qd]
    exact ih 7 (by decide) (by decide) _ _ _ _ (by rfl) (by kernel_rfl) ⟨v.heap.size, g5, rfl, KV.o.size, G5, za _ _, (zb _ _ (qh Z5.o)).trans Z5.o, Nat.ne_of_gt (qh Z5.o), KV2⟩
   exact zu
  | 4, _, ih, hI =>
   dsimp only [zI] at hI
   obtain ⟨rfl, KV⟩ := hI
   refine zW [5, 9, 10, 11] ?_
   refine zK kD (fun K hK => ?_) ?_
   ·
    refine zE (QA _ rfl (.agg (qb p.y)) rfl v) (Qw p.y Hp.o.y v) fun V2 HBx => ?_
    have KV2 := qq KV HBx
    refine hK.o _ _ (⟨qv RP KV2, qw RP KV2, qW RP KV2⟩) fun _ => ?_
    try simp only [qd]
    exact ih 11 (by decide) (by decide) _ _ _ _ (by rfl) (by kernel_rfl) ⟨rfl, KV2⟩
   refine zK JE (fun K hK => ?_) ?_
   ·
    refine zA (ja rfl v) ?_
    have KV2 := qZ KV (.cells (qb 0) 80)
    refine hK.o _ _ (⟨qv RP KV2, qw RP KV2, qW RP KV2⟩) fun _ => ?_
    try simp only [qd]
    exact ih 8 (by decide) (by decide) _ _ _ _ (by rfl) (by kernel_rfl) ⟨v.heap.size, rfl, KV.o.size, za _ _, KV2⟩
   refine zK JG (fun K hK => ?_) ?_
   ·
    refine zA (ja rfl v) ?_
    have KV2 := qZ KV (.cells (qb 0) 80)
    refine hK.o _ _ (⟨qv RP KV2, qw RP KV2, qW RP KV2⟩) fun _ => ?_
    try simp only [qd]
    exact ih 9 (by decide) (by decide) _ _ _ _ (by rfl) (by kernel_rfl) ⟨v.heap.size, rfl, KV.o.size, za _ _, KV2⟩
   refine zK JF (fun K hK => ?_) ?_
   ·
    refine zA (ja rfl v) ?_
    have KV2 := qZ KV (.cells (qb 0) 80)
    refine hK.o _ _ (⟨qv RP KV2, qw RP KV2, qW RP KV2⟩) fun _ => ?_
    try simp only [qd]
    exact ih 10 (by decide) (by decide) _ _ _ _ (by rfl) (by kernel_rfl) ⟨v.heap.size, rfl, KV.o.size, za _ _, KV2⟩
   exact zu
  | 5, _, ih, hI =>
   dsimp only [zI] at hI
   obtain ⟨g3, g4, rfl, G3, G4, Z3, Z4, D34, KV⟩ := hI
   refine zW [2, 11] ?_
   refine zK kn (fun K hK => ?_) ?_
   ·
    refine zE (QA _ rfl (.agg (qb p.x)) rfl v) (Qw p.x Hp.o.x v) fun V2 HBx => ?_
    have KV2 := qq KV HBx
    have Z3 := qa (qk Z3.o HBx)
    have Z4 := qa (qk Z4.o HBx)
    refine hK.o _ _ (⟨qv RP KV2, qw RP KV2, qW RP KV2⟩) fun _ => ?_
    try simp only [qd]
    exact ih 13 (by decide) (by decide) _ _ _ _ (by rfl) (by kernel_rfl) ⟨g3, g4, rfl, G3, G4, Z3, Z4, D34, KV2⟩
   refine zK JF (fun K hK => ?_) ?_
   ·
    refine zA (ja rfl v) ?_
    have KV2 := qZ KV (.cells (qb 0) 80)
    refine hK.o _ _ (⟨qv RP KV2, qw RP KV2, qW RP KV2⟩) fun _ => ?_
    try simp only [qd]
    exact ih 12 (by decide) (by decide) _ _ _ _ (by rfl) (by kernel_rfl) ⟨g3, g4, v.heap.size, rfl, G3, G4, KV.o.size, (zb _ _ (qh Z3.o)).trans Z3.o, (zb _ _ (qh Z4.o)).trans Z4.o, za _ _, D34, zn (qh Z3.o), zn (qh Z4.o), KV2⟩
   exact zu
  | 6, _, ih, hI =>
   dsimp only [zI] at hI
   obtain ⟨g3, g5, rfl, G3, G5, Z3, Z5, D35, KV⟩ := hI
   refine zW [2, 10] ?_
   refine zK kn (fun K hK => ?_) ?_
   ·
    refine zE (QA _ rfl (.agg (qb p.x)) rfl v) (Qw p.x Hp.o.x v) fun V2 HBx => ?_
    have KV2 := qq KV HBx
    have Z3 := qa (qk Z3.o HBx)
    have Z5 := qa (qk Z5.o HBx)
    refine hK.o _ _ (⟨qv RP KV2, qw RP KV2, qW RP KV2⟩) fun _ => ?_
    try simp only [qd]
    exact ih 14 (by decide) (by decide) _ _ _ _ (by rfl) (by kernel_rfl) ⟨g3, g5, rfl, G3, G5, Z3, Z5, D35, KV2⟩
   refine zK JG (fun K hK => ?_) ?_
   ·
    refine zA (ja rfl v) ?_
    have KV2 := qZ KV (.cells (qb 0) 80)
    refine hK.o _ _ (⟨qv RP KV2, qw RP KV2, qW RP KV2⟩) fun _ => ?_
    try simp only [qd]
    exact ih 12 (by decide) (by decide) _ _ _ _ (by rfl) (by kernel_rfl) ⟨g3, v.heap.size, g5, rfl, G3, KV.o.size, G5, (zb _ _ (qh Z3.o)).trans Z3.o, za _ _, (zb _ _ (qh Z5.o)).trans Z5.o, zn (qh Z3.o), D35, Nat.ne_of_gt (qh Z5.o), KV2⟩
   exact zu
  | 7, _, ih, hI =>
   dsimp only [zI] at hI
   obtain ⟨g4, g5, rfl, G4, G5, Z4, Z5, D45, KV⟩ := hI
   refine zW [2, 9] ?_
   refine zK kn (fun K hK => ?_) ?_
   ·
    refine zE (QA _ rfl (.agg (qb p.x)) rfl v) (Qw p.x Hp.o.x v) fun V2 HBx => ?_
    have KV2 := qq KV HBx
    have Z4 := qa (qk Z4.o HBx)
    have Z5 := qa (qk Z5.o HBx)
    refine hK.o _ _ (⟨qv RP KV2, qw RP KV2, qW RP KV2⟩) fun _ => ?_
    try simp only [qd]
    exact ih 15 (by decide) (by decide) _ _ _ _ (by rfl) (by kernel_rfl) ⟨g4, g5, rfl, G4, G5, Z4, Z5, D45, KV2⟩
   refine zK JE (fun K hK => ?_) ?_
   ·
    refine zA (ja rfl v) ?_
    have KV2 := qZ KV (.cells (qb 0) 80)
    refine hK.o _ _ (⟨qv RP KV2, qw RP KV2, qW RP KV2⟩) fun _ => ?_
    try simp only [qd]
    exact ih 12 (by decide) (by decide) _ _ _ _ (by rfl) (by kernel_rfl) ⟨v.heap.size, g4, g5, rfl, KV.o.size, G4, G5, za _ _, (zb _ _ (qh Z4.o)).trans Z4.o, (zb _ _ (qh Z5.o)).trans Z5.o, Nat.ne_of_gt (qh Z4.o), Nat.ne_of_gt (qh Z5.o), D45, KV2⟩
   exact zu
  | 8, _, ih, hI =>
   dsimp only [zI] at hI
   obtain ⟨g3, rfl, G3, Z3, KV⟩ := hI
   refine zW [5, 10, 11] ?_
   refine zK kD (fun K hK => ?_) ?_
   ·
    refine zE (QA _ rfl (.agg (qb p.y)) rfl v) (Qw p.y Hp.o.y v) fun V2 HBx => ?_
    have KV2 := qq KV HBx
    have Z3 := qa (qk Z3.o HBx)
    refine hK.o _ _ (⟨qv RP KV2, qw RP KV2, qW RP KV2⟩) fun _ => ?_
    try simp only [qd]
    exact ih 16 (by decide) (by decide) _ _ _ _ (by rfl) (by kernel_rfl) ⟨g3, rfl, G3, Z3, KV2⟩
   refine zK JG (fun K hK => ?_) ?_
   ·
    refine zA (ja rfl v) ?_
    have KV2 := qZ KV (.cells (qb 0) 80)
    refine hK.o _ _ (⟨qv RP KV2, qw RP KV2, qW RP KV2⟩) fun _ => ?_
    try simp only [qd]
    exact ih 13 (by decide) (by decide) _ _ _ _ (by rfl) (by kernel_rfl) ⟨g3, v.heap.size, rfl, G3, KV.o.size, (zb _ _ (qh Z3.o)).trans Z3.o, za _ _, zn (qh Z3.o), KV2⟩
   refine zK JF (fun K hK => ?_) ?_
   ·
    refine zA (ja rfl v) ?_
    have KV2 := qZ KV (.cells (qb 0) 80)
    refine hK.o _ _ (⟨qv RP KV2, qw RP KV2, qW RP KV2⟩) fun _ => ?_
    try simp only [qd]
    exact ih 14 (by decide) (by decide) _ _ _ _ (by rfl) (by kernel_rfl) ⟨g3, v.heap.size, rfl, G3, KV.o.size, (zb _ _ (qh Z3.o)).trans Z3.o, za _ _, zn (qh Z3.o), KV2⟩
   exact zu
  | 9, _, ih, hI =>
   dsimp only [zI] at hI
   obtain ⟨g4, rfl, G4, Z4, KV⟩ := hI
   refine zW [5, 9, 11] ?_
   refine zK kD (fun K hK => ?_) ?_
   ·
    refine zE (QA _ rfl (.agg (qb p.y)) rfl v) (Qw p.y Hp.o.y v) fun V2 HBx => ?_
    have KV2 := qq KV HBx
    have Z4 := qa (qk Z4.o HBx)
    refine hK.o _ _ (⟨qv RP KV2, qw RP KV2, qW RP KV2⟩) fun _ => ?_
    try simp only [qd]
    exact ih 17 (by decide) (by decide) _ _ _ _ (by rfl) (by kernel_rfl) ⟨g4, rfl, G4, Z4, KV2⟩
   refine zK JE (fun K hK => ?_) ?_
   ·
    refine zA (ja rfl v) ?_
    have KV2 := qZ KV (.cells (qb 0) 80)
    refine hK.o _ _ (⟨qv RP KV2, qw RP KV2, qW RP KV2⟩) fun _ => ?_
    try simp only [qd]
    exact ih 13 (by decide) (by decide) _ _ _ _ (by rfl) (by kernel_rfl) ⟨v.heap.size, g4, rfl, KV.o.size, G4, za _ _, (zb _ _ (qh Z4.o)).trans Z4.o, Nat.ne_of_gt (qh Z4.o), KV2⟩
   refine zK JF (fun K hK => ?_) ?_
   ·
    refine zA (ja rfl v) ?_
    have KV2 := qZ KV (.cells (qb 0) 80)
    refine hK.o _ _ (⟨qv RP KV2, qw RP KV2, qW RP KV2⟩) fun _ => ?_
    try simp only [qd]
    exact ih 15 (by decide) (by decide) _ _ _ _ (by rfl) (by kernel_rfl) ⟨g4, v.heap.size, rfl, G4, KV.o.size, (zb _ _ (qh Z4.o)).trans Z4.o, za _ _, zn (qh Z4.o), KV2⟩
   exact zu
  | 10, _, ih, hI =>
   dsimp only [zI] at hI
   obtain ⟨g5, rfl, G5, Z5, KV⟩ := hI
   refine zW [5, 9, 10] ?_
   refine zK kD (fun K hK => ?_) ?_
   ·
    refine zE (QA _ rfl (.agg (qb p.y)) rfl v) (Qw p.y Hp.o.y v) fun V2 HBx => ?_
    have KV2 := qq KV HBx
    have Z5 := qa (qk Z5.o HBx)
    refine hK.o _ _ (⟨qv RP KV2, qw RP KV2, qW RP KV2⟩) fun _ => ?_
    try simp only [qd]
    exact ih 18 (by decide) (by decide) _ _ _ _ (by rfl) (by kernel_rfl) ⟨g5, rfl, G5, Z5, KV2⟩
   refine zK JE (fun K hK => ?_) ?_
   ·
    refine zA (ja rfl v) ?_
    have KV2 := qZ KV (.cells (qb 0) 80)
    refine hK.o _ _ (⟨qv RP KV2, qw RP KV2, qW RP KV2⟩) fun _ => ?_
    try simp only [qd]
    exact ih 14 (by decide) (by decide) _ _ _ _ (by rfl) (by kernel_rfl) ⟨v.heap.size, g5, rfl, KV.o.size, G5, za _ _, (zb _ _ (qh Z5.o)).trans Z5.o, Nat.ne_of_gt (qh Z5.o), KV2⟩
   refine zK JG (fun K hK => ?_) ?_
   ·
    refine zA (ja rfl v) ?_
    have KV2 := qZ KV (.cells (qb 0) 80)
    refine hK.o _ _ (⟨qv RP KV2, qw RP KV2, qW RP KV2⟩) fun _ => ?_
    try simp only [qd]
    exact ih 15 (by decide) (by decide) _ _ _ _ (by rfl) (by kernel_rfl) ⟨v.heap.size, g5, rfl, KV.o.size, G5, za _ _, (zb _ _ (qh Z5.o)).trans Z5.o, Nat.ne_of_gt (qh Z5.o), KV2⟩
   exact zu
  | 11, _, ih, hI =>
   dsimp only [zI] at hI
   obtain ⟨rfl, KV⟩ := hI
   refine zW [8, 9, 10, 11] ?_
   refine zK kf (fun K hK => ?_) ?_
   ·
    refine zE (QA _ rfl (.agg (qb p.z)) rfl v) (Qw p.z Hp.o.z v) fun V2 HBx => ?_
    have KV2 := qq KV HBx
    refine hK.o _ _ (⟨qv RP KV2, qw RP KV2, qW RP KV2⟩) fun _ => ?_
    try simp only [qd]
    exact ih 19 (by decide) (by decide) _ _ _ _ (by rfl) (by kernel_rfl) ⟨rfl, KV2⟩
   refine zK JE (fun K hK => ?_) ?_
   ·
    refine zA (ja rfl v) ?_
    have KV2 := qZ KV (.cells (qb 0) 80)
    refine hK.o _ _ (⟨qv RP KV2, qw RP KV2, qW RP KV2⟩) fun _ => ?_
    try simp only [qd]
    exact ih 16 (by decide) (by decide) _ _ _ _ (by rfl) (by kernel_rfl) ⟨v.heap.size, rfl, KV.o.size, za _ _, KV2⟩
   refine zK JG (fun K hK => ?_) ?_
   ·
    refine zA (ja rfl v) ?_
    have KV2 := qZ KV (.cells (qb 0) 80)
    refine hK.o _ _ (⟨qv RP KV2, qw RP KV2, qW RP KV2⟩) fun _ => ?_
    try simp only [qd]
    exact ih 17 (by decide) (by decide) _ _ _ _ (by rfl) (by kernel_rfl) ⟨v.heap.size, rfl, KV.o.size, za _ _, KV2⟩
   refine zK JF (fun K hK => ?_) ?_
   ·
    refine zA (ja rfl v) ?_
    have KV2 := qZ KV (.cells (qb 0) 80)
    refine hK.o _ _ (⟨qv RP KV2, qw RP KV2, qW RP KV2⟩) fun _ => ?_
    try simp only [qd]
    exact ih 18 (by decide) (by decide) _ _ _ _ (by rfl) (by kernel_rfl) ⟨v.heap.size, rfl, KV.o.size, za _ _, KV2⟩
   exact zu
  | 12, _, ih, hI =>
   dsimp only [zI] at hI
   obtain ⟨g3, g4, g5, rfl, G3, G4, G5, Z3, Z4, Z5, D34, D35, D45, KV⟩ := hI
   refine zW [2] ?_
   refine zK kn (fun K hK => ?_) ?_
   ·
    refine zE (QA _ rfl (.agg (qb p.x)) rfl v) (Qw p.x Hp.o.x v) fun V2 HBx => ?_
    have KV2 := qq KV HBx
    have Z3 := qa (qk Z3.o HBx)
    have Z4 := qa (qk Z4.o HBx)
    have Z5 := qa (qk Z5.o HBx)
    refine hK.o _ _ (⟨qv RP KV2, qw RP KV2, qW RP KV2⟩) fun _ => ?_
    try simp only [qd]
    exact ih 20 (by decide) (by decide) _ _ _ _ (by rfl) (by kernel_rfl) ⟨g3, g4, g5, rfl, G3, G4, G5, Z3, Z4, Z5, D34, D35, D45, KV2⟩
   exact zu
  | 13, _, ih, hI =>
   dsimp only [zI] at hI
   obtain ⟨g3, g4, rfl, G3, G4, Z3, Z4, D34, KV⟩ := hI
   refine zW [5, 11] ?_
   refine zK kD (fun K hK => ?_) ?_
   ·
    refine zE (QA _ rfl (.agg (qb p.y)) rfl v) (Qw p.y Hp.o.y v) fun V2 HBx => ?_
    have KV2 := qq KV HBx
    have Z3 := qa (qk Z3.o HBx)
    have Z4 := qa (qk Z4.o HBx)
    refine hK.o _ _ (⟨qv RP KV2, qw RP KV2, qW RP KV2⟩) fun _ => ?_
    try simp only [qd]
    exact ih 21 (by decide) (by decide) _ _ _ _ (by rfl) (by kernel_rfl) ⟨g3, g4, rfl, G3, G4, Z3, Z4, D34, KV2⟩
   refine zK JF (fun K hK => ?_) ?_
   ·
    refine zA (ja rfl v) ?_
    have KV2 := qZ KV (.cells (qb 0) 80)
    refine hK.o _ _ (⟨qv RP KV2, qw RP KV2, qW RP KV2⟩) fun _ => ?_
    try simp only [qd]
    exact ih 20 (by decide) (by decide) _ _ _ _ (by rfl) (by kernel_rfl) ⟨g3, g4, v.heap.size, rfl, G3, G4, KV.o.size, (zb _ _ (qh Z3.o)).trans Z3.o, (zb _ _ (qh Z4.o)).trans Z4.o, za _ _, D34, zn (qh Z3.o), zn (qh Z4.o), KV2⟩
   exact zu
  | 14, _, ih, hI =>
   dsimp only [zI] at hI
   obtain ⟨g3, g5, rfl, G3, G5, Z3, Z5, D35, KV⟩ := hI
   refine zW [5, 10] ?_
   refine zK kD (fun K hK => ?_) ?_
   ·
    refine zE (QA _ rfl (.agg (qb p.y)) rfl v) (Qw p.y Hp.o.y v) fun V2 HBx => ?_
    have KV2 := qq KV HBx
    have Z3 := qa (qk Z3.o HBx)
    have Z5 := qa (qk Z5.o HBx)
    refine hK.o _ _ (⟨qv RP KV2, qw RP KV2, qW RP KV2⟩) fun _ => ?_
    try simp only [qd]
    exact ih 22 (by decide) (by decide) _ _ _ _ (by rfl) (by kernel_rfl) ⟨g3, g5, rfl, G3, G5, Z3, Z5, D35, KV2⟩
   refine zK JG (fun K hK => ?_) ?_
   ·
    refine zA (ja rfl v) ?_
    have KV2 := qZ KV (.cells (qb 0) 80)
    refine hK.o _ _ (⟨qv RP KV2, qw RP KV2, qW RP KV2⟩) fun _ => ?_
    try simp only [qd]
    exact ih 20 (by decide) (by decide) _ _ _ _ (by rfl) (by kernel_rfl) ⟨g3, v.heap.size, g5, rfl, G3, KV.o.size, G5, (zb _ _ (qh Z3.o)).trans Z3.o, za _ _, (zb _ _ (qh Z5.o)).trans Z5.o, zn (qh Z3.o), D35, Nat.ne_of_gt (qh Z5.o), KV2⟩
   exact zu
  | 15, _, ih, hI =>
   dsimp only [zI] at hI
   obtain ⟨g4, g5, rfl, G4, G5, Z4, Z5, D45, KV⟩ := hI
   refine zW [5, 9] ?_
   refine zK kD (fun K hK => ?_) ?_
   ·
    refine zE (QA _ rfl (.agg (qb p.y)) rfl v) (Qw p.y Hp.o.y v) fun V2 HBx => ?_
    have KV2 := qq KV HBx
    have Z4 := qa (qk Z4.o HBx)
    have Z5 := qa (qk Z5.o HBx)
    refine hK.o _ _ (⟨qv RP KV2, qw RP KV2, qW RP KV2⟩) fun _ => ?_
    try simp only [qd]
    exact ih 23 (by decide) (by decide) _ _ _ _ (by rfl) (by kernel_rfl) ⟨g4, g5, rfl, G4, G5, Z4, Z5, D45, KV2⟩
   refine zK JE (fun K hK => ?_) ?_
   ·
    refine zA (ja rfl v) ?_
    have KV2 := qZ KV (.cells (qb 0) 80)
    refine hK.o _ _ (⟨qv RP KV2, qw RP KV2, qW RP KV2⟩) fun _ => ?_
    try simp only [qd]
    exact ih 20 (by decide) (by decide) _ _ _ _ (by rfl) (by kernel_rfl) ⟨v.heap.size, g4, g5, rfl, KV.o.size, G4, G5, za _ _, (zb _ _ (qh Z4.o)).trans Z4.o, (zb _ _ (qh Z5.o)).trans Z5.o, Nat.ne_of_gt (qh Z4.o), Nat.ne_of_gt (qh Z5.o), D45, KV2⟩
   exact zu
  | 16, _, ih, hI =>
   dsimp only [zI] at hI
   obtain ⟨g3, rfl, G3, Z3, KV⟩ := hI
   refine zW [8, 10, 11] ?_
   refine zK kf (fun K hK => ?_) ?_
   ·
    refine zE (QA _ rfl (.agg (qb p.z)) rfl v) (Qw p.z Hp.o.z v) fun V2 HBx => ?_
    have KV2 := qq KV HBx
    have Z3 := qa (qk Z3.o HBx)
    refine hK.o _ _ (⟨qv RP KV2, qw RP KV2, qW RP KV2⟩) fun _ => ?_
    try simp only [qd]
    exact ih 24 (by decide) (by decide) _ _ _ _ (by rfl) (by kernel_rfl) ⟨g3, rfl, G3, Z3, KV2⟩
   refine zK JG (fun K hK => ?_) ?_
   ·
    refine zA (ja rfl v) ?_
    have KV2 := qZ KV (.cells (qb 0) 80)
    refine hK.o _ _ (⟨qv RP KV2, qw RP KV2, qW RP KV2⟩) fun _ => ?_
    try simp only [qd]
    exact ih 21 (by decide) (by decide) _ _ _ _ (by rfl) (by kernel_rfl) ⟨g3, v.heap.size, rfl, G3, KV.o.size, (zb _ _ (qh Z3.o)).trans Z3.o, za _ _, zn (qh Z3.o), KV2⟩
   refine zK JF (fun K hK => ?_) ?_
   ·
    refine zA (ja rfl v) ?_
    have KV2 := qZ KV (.cells (qb 0) 80)
    refine hK.o _ _ (⟨qv RP KV2, qw RP KV2, qW RP KV2⟩) fun _ => ?_
    try simp only [qd]
    exact ih 22 (by decide) (by decide) _ _ _ _ (by rfl) (by kernel_rfl) ⟨g3, v.heap.size, rfl, G3, KV.o.size, (zb _ _ (qh Z3.o)).trans Z3.o, za _ _, zn (qh Z3.o), KV2⟩
   exact zu
  | 17, _, ih, hI =>
   dsimp only [zI] at hI
   obtain ⟨g4, rfl, G4, Z4, KV⟩ := hI
   refine zW [8, 9, 11] ?_
   refine zK kf (fun K hK => ?_) ?_
   ·
    refine zE (QA _ rfl (.agg (qb p.z)) rfl v) (Qw p.z Hp.o.z v) fun V2 HBx => ?_
    have KV2 := qq KV HBx
    have Z4 := qa (qk Z4.o HBx)
    refine hK.o _ _ (⟨qv RP KV2, qw RP KV2, qW RP KV2⟩) fun _ => ?_
    try simp only [qd]
    exact ih 25 (by decide) (by decide) _ _ _ _ (by rfl) (by kernel_rfl) ⟨g4, rfl, G4, Z4, KV2⟩
   refine zK JE (fun K hK => ?_) ?_
   ·
    refine zA (ja rfl v) ?_
    have KV2 := qZ KV (.cells (qb 0) 80)
    refine hK.o _ _ (⟨qv RP KV2, qw RP KV2, qW RP KV2⟩) fun _ => ?_
    try simp only [qd]
    exact ih 21 (by decide) (by decide) _ _ _ _ (by rfl) (by kernel_rfl) ⟨v.heap.size, g4, rfl, KV.o.size, G4, za _ _, (zb _ _ (qh Z4.o)).trans Z4.o, Nat.ne_of_gt (qh Z4.o), KV2⟩
   refine zK JF (fun K hK => ?_) ?_
   ·
    refine zA (ja rfl v) ?_
    have KV2 := qZ KV (.cells (qb 0) 80)
    refine hK.o _ _ (⟨qv RP KV2, qw RP KV2, qW RP KV2⟩) fun _ => ?_
    try simp only [qd]
    exact ih 23 (by decide) (by decide) _ _ _ _ (by rfl) (by kernel_rfl) ⟨g4, v.heap.size, rfl, G4, KV.o.size, (zb _ _ (qh Z4.o)).trans Z4.o, za _ _, zn (qh Z4.o), KV2⟩
   exact zu
  | 18, _, ih, hI =>
   dsimp only [zI] at hI
   obtain ⟨g5, rfl, G5, Z5, KV⟩ := hI
   refine zW [8, 9, 10] ?_
   refine zK kf (fun K hK => ?_) ?_
   ·
    refine zE (QA _ rfl (.agg (qb p.z)) rfl v) (Qw p.z Hp.o.z v) fun V2 HBx => ?_
    have KV2 := qq KV HBx
    have Z5 := qa (qk Z5.o HBx)
    refine hK.o _ _ (⟨qv RP KV2, qw RP KV2, qW RP KV2⟩) fun _ => ?_
    try simp only [qd]
    exact ih 26 (by decide) (by decide) _ _ _ _ (by rfl) (by kernel_rfl) ⟨g5, rfl, G5, Z5, KV2⟩
   refine zK JE (fun K hK => ?_) ?_
   ·
    refine zA (ja rfl v) ?_
    have KV2 := qZ KV (.cells (qb 0) 80)
    refine hK.o _ _ (⟨qv RP KV2, qw RP KV2, qW RP KV2⟩) fun _ => ?_
    try simp only [qd]
    exact ih 22 (by decide) (by decide) _ _ _ _ (by rfl) (by kernel_rfl) ⟨v.heap.size, g5, rfl, KV.o.size, G5, za _ _, (zb _ _ (qh Z5.o)).trans Z5.o, Nat.ne_of_gt (qh Z5.o), KV2⟩
   refine zK JG (fun K hK => ?_) ?_
   ·
    refine zA (ja rfl v) ?_
    have KV2 := qZ KV (.cells (qb 0) 80)
    refine hK.o _ _ (⟨qv RP KV2, qw RP KV2, qW RP KV2⟩) fun _ => ?_
    try simp only [qd]
    exact ih 23 (by decide) (by decide) _ _ _ _ (by rfl) (by kernel_rfl) ⟨v.heap.size, g5, rfl, KV.o.size, G5, za _ _, (zb _ _ (qh Z5.o)).trans Z5.o, Nat.ne_of_gt (qh Z5.o), KV2⟩
   exact zu
  | 19, _, ih, hI =>
   dsimp only [zI] at hI
   obtain ⟨rfl, KV⟩ := hI
   refine zW [9, 10, 11] ?_
   refine zK JE (fun K hK => ?_) ?_
   ·
    refine zA (ja rfl v) ?_
    have KV2 := qZ KV (.cells (qb 0) 80)
    refine hK.o _ _ (⟨qv RP KV2, qw RP KV2, qW RP KV2⟩) fun _ => ?_
    try simp only [qd]
    exact ih 24 (by decide) (by decide) _ _ _ _ (by rfl) (by kernel_rfl) ⟨v.heap.size, rfl, KV.o.size, za _ _, KV2⟩
   refine zK JG (fun K hK => ?_) ?_
   ·
    refine zA (ja rfl v) ?_
    have KV2 := qZ KV (.cells (qb 0) 80)
    refine hK.o _ _ (⟨qv RP KV2, qw RP KV2, qW RP KV2⟩) fun _ => ?_
    try simp only [qd]
    exact ih 25 (by decide) (by decide) _ _ _ _ (by rfl) (by kernel_rfl) ⟨v.heap.size, rfl, KV.o.size, za _ _, KV2⟩
   refine zK JF (fun K hK => ?_) ?_
   ·
    refine zA (ja rfl v) ?_
    have KV2 := qZ KV (.cells (qb 0) 80)
    refine hK.o _ _ (⟨qv RP KV2, qw RP KV2, qW RP KV2⟩) fun _ => ?_
    try simp only [qd]
    exact ih 26 (by decide) (by decide) _ _ _ _ (by rfl) (by kernel_rfl) ⟨v.heap.size, rfl, KV.o.size, za _ _, KV2⟩
   exact zu
  | 20, _, ih, hI =>
   dsimp only [zI] at hI
   obtain ⟨g3, g4, g5, rfl, G3, G4, G5, Z3, Z4, Z5, D34, D35, D45, KV⟩ := hI
   refine zW [5] ?_
   refine zK kD (fun K hK => ?_) ?_
   ·
    refine zE (QA _ rfl (.agg (qb p.y)) rfl v) (Qw p.y Hp.o.y v) fun V2 HBx => ?_
    have KV2 := qq KV HBx
    have Z3 := qa (qk Z3.o HBx)
    have Z4 := qa (qk Z4.o HBx)
    have Z5 := qa (qk Z5.o HBx)
    refine hK.o _ _ (⟨qv RP KV2, qw RP KV2, qW RP KV2⟩) fun _ => ?_
    try simp only [qd]
    exact ih 27 (by decide) (by decide) _ _ _ _ (by rfl) (by kernel_rfl) ⟨g3, g4, g5, rfl, G3, G4, G5, Z3, Z4, Z5, D34, D35, D45, KV2⟩
   exact zu
  | 21, _, ih, hI =>
   dsimp only [zI] at hI
   obtain ⟨g3, g4, rfl, G3, G4, Z3, Z4, D34, KV⟩ := hI
   refine zW [8, 11] ?_
   refine zK kf (fun K hK => ?_) ?_
   ·
    refine zE (QA _ rfl (.agg (qb p.z)) rfl v) (Qw p.z Hp.o.z v) fun V2 HBx => ?_
    have KV2 := qq KV HBx
    have Z3 := qa (qk Z3.o HBx)
    have Z4 := qa (qk Z4.o HBx)
    refine hK.o _ _ (⟨qv RP KV2, qw RP KV2, qW RP KV2⟩) fun _ => ?_
    try simp only [qd]
    exact ih 28 (by decide) (by decide) _ _ _ _ (by rfl) (by kernel_rfl) ⟨g3, g4, rfl, G3, G4, Z3, Z4, D34, KV2⟩
   refine zK JF (fun K hK => ?_) ?_
   ·
    refine zA (ja rfl v) ?_
    have KV2 := qZ KV (.cells (qb 0) 80)
    refine hK.o _ _ (⟨qv RP KV2, qw RP KV2, qW RP KV2⟩) fun _ => ?_
    try simp only [qd]
    exact ih 27 (by decide) (by decide) _ _ _ _ (by rfl) (by kernel_rfl) ⟨g3, g4, v.heap.size, rfl, G3, G4, KV.o.size, (zb _ _ (qh Z3.o)).trans Z3.o, (zb _ _ (qh Z4.o)).trans Z4.o, za _ _, D34, zn (qh Z3.o), zn (qh Z4.o), KV2⟩
   exact zu
  | 22, _, ih, hI =>
   dsimp only [zI] at hI
   obtain ⟨g3, g5, rfl, G3, G5, Z3, Z5, D35, KV⟩ := hI
   refine zW [8, 10] ?_
   refine zK kf (fun K hK => ?_) ?_
   ·
    refine zE (QA _ rfl (.agg (qb p.z)) rfl v) (Qw p.z Hp.o.z v) fun V2 HBx => ?_
    have KV2 := qq KV HBx
    have Z3 := qa (qk Z3.o HBx)
    have Z5 := qa (qk Z5.o HBx)
    refine hK.o _ _ (⟨qv RP KV2, qw RP KV2, qW RP KV2⟩) fun _ => ?_
    try simp only [qd]
    exact ih 29 (by decide) (by decide) _ _ _ _ (by rfl) (by kernel_rfl) ⟨g3, g5, rfl, G3, G5, Z3, Z5, D35, KV2⟩
   refine zK JG (fun K hK => ?_) ?_
   ·
    refine zA (ja rfl v) ?_
    have KV2 := qZ KV (.cells (qb 0) 80)
    refine hK.o _ _ (⟨qv RP KV2, qw RP KV2, qW RP KV2⟩) fun _ => ?_
    try simp only [qd]
    exact ih 27 (by decide) (by decide) _ _ _ _ (by rfl) (by kernel_rfl) ⟨g3, v.heap.size, g5, rfl, G3, KV.o.size, G5, (zb _ _ (qh Z3.o)).trans Z3.o, za _ _, (zb _ _ (qh Z5.o)).trans Z5.o, zn (qh Z3.o), D35, Nat.ne_of_gt (qh Z5.o), KV2⟩
   exact zu
  | 23, _, ih, hI =>
   dsimp only [zI] at hI
   obtain ⟨g4, g5, rfl, G4, G5, Z4, Z5, D45, KV⟩ := hI
   refine zW [8, 9] ?_
   refine zK kf (fun K hK => ?_) ?_
   ·
    refine zE (QA _ rfl (.agg (qb p.z)) rfl v) (Qw p.z Hp.o.z v) fun V2 HBx => ?_
    have KV2 := qq KV HBx
    have Z4 := qa (qk Z4.o HBx)
    have Z5 := qa (qk Z5.o HBx)
    refine hK.o _ _ (⟨qv RP KV2, qw RP KV2, qW RP KV2⟩) fun _ => ?_
    try simp only [qd]
    exact ih 30 (by decide) (by decide) _ _ _ _ (by rfl) (by kernel_rfl) ⟨g4, g5, rfl, G4, G5, Z4, Z5, D45, KV2⟩
   refine zK JE (fun K hK => ?_) ?_
   ·
    refine zA (ja rfl v) ?_
    have KV2 := qZ KV (.cells (qb 0) 80)
    refine hK.o _ _ (⟨qv RP KV2, qw RP KV2, qW RP KV2⟩) fun _ => ?_
    try simp only [qd]
    exact ih 27 (by decide) (by decide) _ _ _ _ (by rfl) (by kernel_rfl) ⟨v.heap.size, g4, g5, rfl, KV.o.size, G4, G5, za _ _, (zb _ _ (qh Z4.o)).trans Z4.o, (zb _ _ (qh Z5.o)).trans Z5.o, Nat.ne_of_gt (qh Z4.o), Nat.ne_of_gt (qh Z5.o), D45, KV2⟩
   exact zu
  | 24, _, ih, hI =>
   dsimp only [zI] at hI
   obtain ⟨g3, rfl, G3, Z3, KV⟩ := hI
   refine zW [10, 11] ?_
   refine zK JG (fun K hK => ?_) ?_
   ·
    refine zA (ja rfl v) ?_
    have KV2 := qZ KV (.cells (qb 0) 80)
    refine hK.o _ _ (⟨qv RP KV2, qw RP KV2, qW RP KV2⟩) fun _ => ?_
    try simp only [qd]
    exact ih 28 (by decide) (by decide) _ _ _ _ (by rfl) (by kernel_rfl) ⟨g3, v.heap.size, rfl, G3, KV.o.size, (zb _ _ (qh Z3.o)).trans Z3.o, za _ _, zn (qh Z3.o), KV2⟩
   refine zK JF (fun K hK => ?_) ?_
   ·
    refine zA (ja rfl v) ?_
    have KV2 := qZ KV (.cells (qb 0) 80)
    refine hK.o _ _ (⟨qv RP KV2, qw RP KV2, qW RP KV2⟩) fun _ => ?_
    try simp only [qd]
    exact ih 29 (by decide) (by decide) _ _ _ _ (by rfl) (by kernel_rfl) ⟨g3, v.heap.size, rfl, G3, KV.o.size, (zb _ _ (qh Z3.o)).trans Z3.o, za _ _, zn (qh Z3.o), KV2⟩
   exact zu
  | 25, _, ih, hI =>
   dsimp only [zI] at hI
   obtain ⟨g4, rfl, G4, Z4, KV⟩ := hI
   refine zW [9, 11] ?_
   refine zK JE (fun K hK => ?_) ?_
   ·
    refine zA (ja rfl v) ?_
    have KV2 := qZ KV (.cells (qb 0) 80)
    refine hK.o _ _ (⟨qv RP KV2, qw RP KV2, qW RP KV2⟩) fun _ => ?_
    try simp only [qd]
    exact ih 28 (by decide) (by decide) _ _ _ _ (by rfl) (by kernel_rfl) ⟨v.heap.size, g4, rfl, KV.o.size, G4, za _ _, (zb _ _ (qh Z4.o)).trans Z4.o, Nat.ne_of_gt (qh Z4.o), KV2⟩
   refine zK JF (fun K hK => ?_) ?_
   ·
    refine zA (ja rfl v) ?_
    have KV2 := qZ KV (.cells (qb 0) 80)
    refine hK.o _ _ (⟨qv RP KV2, qw RP KV2, qW RP KV2⟩) fun _ => ?_
    try simp only [qd]
    exact ih 30 (by decide) (by decide) _ _ _ _ (by rfl) (by kernel_rfl) ⟨g4, v.heap.size, rfl, G4, KV.o.size, (zb _ _ (qh Z4.o)).trans Z4.o, za _ _, zn (qh Z4.o), KV2⟩
   exact zu
  | 26, _, ih, hI =>
   dsimp only [zI] at hI
   obtain ⟨g5, rfl, G5, Z5, KV⟩ := hI
   refine zW [9, 10] ?_
   refine zK JE (fun K hK => ?_) ?_
   ·
    refine zA (ja rfl v) ?_
    have KV2 := qZ KV (.cells (qb 0) 80)
    refine hK.o _ _ (⟨qv RP KV2, qw RP KV2, qW RP KV2⟩) fun _ => ?_
    try simp only [qd]
    exact ih 29 (by decide) (by decide) _ _ _ _ (by rfl) (by kernel_rfl) ⟨v.heap.size, g5, rfl, KV.o.size, G5, za _ _, (zb _ _ (qh Z5.o)).trans Z5.o, Nat.ne_of_gt (qh Z5.o), KV2⟩
   refine zK JG (fun K hK => ?_) ?_
   ·
    refine zA (ja rfl v) ?_
    have KV2 := qZ KV (.cells (qb 0) 80)
    refine hK.o _ _ (⟨qv RP KV2, qw RP KV2, qW RP KV2⟩) fun _ => ?_
    try simp only [qd]
    exact ih 30 (by decide) (by decide) _ _ _ _ (by rfl) (by kernel_rfl) ⟨v.heap.size, g5, rfl, KV.o.size, G5, za _ _, (zb _ _ (qh Z5.o)).trans Z5.o, Nat.ne_of_gt (qh Z5.o), KV2⟩
   exact zu
  | 27, _, ih, hI =>
   dsimp only [zI] at hI
   obtain ⟨g3, g4, g5, rfl, G3, G4, G5, Z3, Z4, Z5, D34, D35, D45, KV⟩ := hI
   refine zW [8] ?_
   refine zK kf (fun K hK => ?_) ?_
   ·
    refine zE (QA _ rfl (.agg (qb p.z)) rfl v) (Qw p.z Hp.o.z v) fun V2 HBx => ?_
    have KV2 := qq KV HBx
    have Z3 := qa (qk Z3.o HBx)
    have Z4 := qa (qk Z4.o HBx)
    have Z5 := qa (qk Z5.o HBx)
    refine hK.o _ _ (⟨qv RP KV2, qw RP KV2, qW RP KV2⟩) fun _ => ?_
    try simp only [qd]
    exact ih 31 (by decide) (by decide) _ _ _ _ (by rfl) (by kernel_rfl) ⟨g3, g4, g5, rfl, G3, G4, G5, Z3, Z4, Z5, D34, D35, D45, KV2⟩
   exact zu
  | 28, _, ih, hI =>
   dsimp only [zI] at hI
   obtain ⟨g3, g4, rfl, G3, G4, Z3, Z4, D34, KV⟩ := hI
   refine zW [11] ?_
   refine zK JF (fun K hK => ?_) ?_
   ·
    refine zA (ja rfl v) ?_
    have KV2 := qZ KV (.cells (qb 0) 80)
    refine hK.o _ _ (⟨qv RP KV2, qw RP KV2, qW RP KV2⟩) fun _ => ?_
    try simp only [qd]
    exact ih 31 (by decide) (by decide) _ _ _ _ (by rfl) (by kernel_rfl) ⟨g3, g4, v.heap.size, rfl, G3, G4, KV.o.size, (zb _ _ (qh Z3.o)).trans Z3.o, (zb _ _ (qh Z4.o)).trans Z4.o, za _ _, D34, zn (qh Z3.o), zn (qh Z4.o), KV2⟩
   exact zu
  | 29, _, ih, hI =>
   dsimp only [zI] at hI
   obtain ⟨g3, g5, rfl, G3, G5, Z3, Z5, D35, KV⟩ := hI
   refine zW [10] ?_
   refine zK JG (fun K hK => ?_) ?_
   ·
    refine zA (ja rfl v) ?_
    have KV2 := qZ KV (.cells (qb 0) 80)
    refine hK.o _ _ (⟨qv RP KV2, qw RP KV2, qW RP KV2⟩) fun _ => ?_
    try simp only [qd]
    exact ih 31 (by decide) (by decide) _ _ _ _ (by rfl) (by kernel_rfl) ⟨g3, v.heap.size, g5, rfl, G3, KV.o.size, G5, (zb _ _ (qh Z3.o)).trans Z3.o, za _ _, (zb _ _ (qh Z5.o)).trans Z5.o, zn (qh Z3.o), D35, Nat.ne_of_gt (qh Z5.o), KV2⟩
   exact zu
  | 30, _, ih, hI =>
   dsimp only [zI] at hI
   obtain ⟨g4, g5, rfl, G4, G5, Z4, Z5, D45, KV⟩ := hI
   refine zW [9] ?_
   refine zK JE (fun K hK => ?_) ?_
   ·
    refine zA (ja rfl v) ?_
    have KV2 := qZ KV (.cells (qb 0) 80)
    refine hK.o _ _ (⟨qv RP KV2, qw RP KV2, qW RP KV2⟩) fun _ => ?_
    try simp only [qd]
    exact ih 31 (by decide) (by decide) _ _ _ _ (by rfl) (by kernel_rfl) ⟨v.heap.size, g4, g5, rfl, KV.o.size, G4, G5, za _ _, (zb _ _ (qh Z4.o)).trans Z4.o, (zb _ _ (qh Z5.o)).trans Z5.o, Nat.ne_of_gt (qh Z4.o), Nat.ne_of_gt (qh Z5.o), D45, KV2⟩
   exact zu
  | 31, _, ih, hI =>
   dsimp only [zI] at hI
   obtain ⟨g3, g4, g5, rfl, G3, G4, G5, Z3, Z4, Z5, D34, D35, D45, KV⟩ := hI
   clear ih
   refine zR 12 ⟨none, .store 80 (.tmp 3) (.tmp 11), 0, "point.go:90", #[ql 9, ql 2, qT 8, qj 0, qj 1, qj 2, ⟨3, .textOnly .lateStores⟩, ⟨4, .textOnly .lateStores⟩, ⟨5, .textOnly .lateStoresUnsure⟩, ⟨6, .textOnly .lateStores⟩, ⟨7, .textOnly .lateStores⟩, ⟨8, .textOnly .lateStoresUnsure⟩, qj 9, qj 10, qj 11], none⟩ fun K hK => ?_
   refine zQ 80 (.tmp 3) (.tmp 11) (g3) (qb (mP p.x p.x)) Z3.o (jc _) (QL _ _) (qY _) ?_
   rw [qH]
   obtain ⟨U0, hU0⟩ := zy (v.setRow g3 (qb (mP p.x p.x)))
   have T3 : Hid (qi U0 g3 ((qb (mP p.x p.x))) 80) := by rw [hU0]; exact zd _ _ _ _ _ _ Z3.o
   have T4 : Hid (qi U0 g4 (qb 0) 80) := by rw [hU0]; exact (zc _ _ _ _ (by omega)).trans Z4.o
   have T5 : Hid (qi U0 g5 (qb 0) 80) := by rw [hU0]; exact (zc _ _ _ _ (by omega)).trans Z5.o
   have KU0 : Hid (zB W0 U0) := by rw [hU0]; exact ze KV.o G3.o _
   rw [← hU0]
   clear hU0 Z3 Z4 Z5
   have Z3 := T3
   have Z4 := T4
   have Z5 := T5
   clear T3 T4 T5
   refine hK.o _ _ (⟨qv RP KU0, qw RP KU0, qW RP KU0⟩) fun _ => ?_
   try simp only [List.setIfInBounds_toArray, List.set_cons_zero, List.set_cons_succ]
   refine zR 13 ⟨none, .store 80 (.tmp 4) (.tmp 14), 0, "point.go:90", #[ql 10, ql 5, qT 12, qj 0, qj 1, qj 2, qj 3, qj 4, qj 5, ⟨6, .textOnly .lateStores⟩, ⟨7, .textOnly .lateStores⟩, ⟨8, .textOnly .lateStoresUnsure⟩, qj 9, qj 10, qj 11, qj 12], none⟩ fun K hK => ?_
   refine zQ 80 (.tmp 4) (.tmp 14) (g4) (qb (mP p.y p.y)) Z4.o (jc _) (QL _ _) (qY _) ?_
   rw [qH]
   obtain ⟨U1, hU1⟩ := zy (U0.setRow g4 (qb (mP p.y p.y)))
   have T4 : Hid (qi U1 g4 ((qb (mP p.y p.y))) 80) := by rw [hU1]; exact zd _ _ _ _ _ _ Z4.o
   have T3 : Hid (qi U1 g3 ((qb (mP p.x p.x))) 80) := by rw [hU1]; exact (zc _ _ _ _ (by omega)).trans Z3.o
   have T5 : Hid (qi U1 g5 (qb 0) 80) := by rw [hU1]; exact (zc _ _ _ _ (by omega)).trans Z5.o
   have KU1 : Hid (zB W0 U1) := by rw [hU1]; exact ze KU0.o G4.o _
   rw [← hU1]
   clear hU1 Z3 Z4 Z5
   have Z3 := T3
   have Z4 := T4
   have Z5 := T5
   clear T3 T4 T5
   refine hK.o _ _ (⟨qv RP KU1, qw RP KU1, qW RP KU1⟩) fun _ => ?_
   try simp only [List.setIfInBounds_toArray, List.set_cons_zero, List.set_cons_succ]
   refine zR 14 ⟨none, .store 80 (.tmp 5) (.tmp 17), 0, "point.go:90", #[ql 11, ql 8, qT 13, qj 0, qj 1, qj 2, qj 3, qj 4, qj 5, qj 6, qj 7, qj 8, qj 9, qj 10, qj 11, qj 12, qj 13], none⟩ fun K hK => ?_
   refine zQ 80 (.tmp 5) (.tmp 17) (g5) (qb (mP p.z p.z)) Z5.o (jc _) (QL _ _) (qY _) ?_
   rw [qH]
   obtain ⟨U2, hU2⟩ := zy (U1.setRow g5 (qb (mP p.z p.z)))
   have T5 : Hid (qi U2 g5 ((qb (mP p.z p.z))) 80) := by rw [hU2]; exact zd _ _ _ _ _ _ Z5.o
   have T3 : Hid (qi U2 g3 ((qb (mP p.x p.x))) 80) := by rw [hU2]; exact (zc _ _ _ _ (by omega)).trans Z3.o
   have T4 : Hid (qi U2 g4 ((qb (mP p.y p.y))) 80) := by rw [hU2]; exact (zc _ _ _ _ (by omega)).trans Z4.o
   have KU2 : Hid (zB W0 U2) := by rw [hU2]; exact ze KU1.o G5.o _
   rw [← hU2]
   clear hU2 Z3 Z4 Z5
   have Z3 := T3
   have Z4 := T4
   have Z5 := T5
   clear T3 T4 T5
   refine hK.o _ _ (⟨qv RP KU2, qw RP KU2, qW RP KU2⟩) fun _ => ?_
   try simp only [List.setIfInBounds_toArray, List.set_cons_zero, List.set_cons_succ]
   refine zi (by kernel_rfl) ?_ _
   go_wp2_with fail
   go_meet
   case rel => exact ⟨g3, g4, g5, rfl, rfl, rfl, G3, G4, G5, Z3, Z4, Z5, KU2⟩
  | n + 32, hs, _, _ => exact absurd hs (by omega)
 case rest =>
 obtain ⟨g3, g4, g5, rfl, rfl, rfl, G3, G4, G5, R3, R4, R5, X3⟩ := hcut
 obtain ⟨W1, hW⟩ := zy wc
 subst hW
 have lRP3 : w.heap.size < g3 := zl (qh RP.o) G3.o
 have lRP4 : w.heap.size < g4 := zl (qh RP.o) G4.o
 have lRP5 : w.heap.size < g5 := zl (qh RP.o) G5.o
 have lRZ3 : w.heap.size + 1 < g3 := zl (qh RZ.o) G3.o
 have lRZ4 : w.heap.size + 1 < g4 := zl (qh RZ.o) G4.o
 have lRZ5 : w.heap.size + 1 < g5 := zl (qh RZ.o) G5.o
 have RP := qa (qs RP.o X3.o (qh RP.o))
 have RZ := qa (qs RZ.o X3.o (qh RZ.o))
 have BL : Hid (zB w W1) := BL.o.trans (X3.o.mono BL.o.size)
 clear X3 G3 G4 G5
 obtain ⟨xx, Exx⟩ := zx (mP p.x p.x)
 have Hxx : Hid (xx < P) := by rw [Exx.o]; exact qK _ _
 rw [← Exx.o] at R3
 obtain ⟨yy, Eyy⟩ := zx (mP p.y p.y)
 have Hyy : Hid (yy < P) := by rw [Eyy.o]; exact qK _ _
 rw [← Eyy.o] at R4
 obtain ⟨zz, Ezz⟩ := zx (mP p.z p.z)
 have Hzz : Hid (zz < P) := by rw [Ezz.o]; exact qK _ _
 rw [← Ezz.o] at R5
 go_wp2_with (first | (refine zL 80 (.tmp 3) (g3) (qb xx) R3.o jC (jc _) ?_) | (refine zL 80 (.tmp 4) (g4) (qb yy) R4.o jC (jc _) ?_))
 refine (yf xx yy Hxx.o Hyy.o _).mono ?_
 rintro e W2 ⟨rfl, hB2⟩
 have RP := qa (qk RP.o hB2)
 have RZ := qa (qk RZ.o hB2)
 have R3 := qa (qk R3.o hB2)
 have R4 := qa (qk R4.o hB2)
 have R5 := qa (qk R5.o hB2)
 have BL := qq BL hB2
 clear hB2
 obtain ⟨su, Esu⟩ := zx (aP xx yy)
 have Hsu : Hid (su < P) := by rw [Esu.o]; exact QF _ _
 rw [← Esu.o]
 go_upto_region 3 with (first | (refine qB 80 (.tmp 6) (.tmp 20) W2.heap.size (qb su) (za _ _) (jc _) (QL _ _) (qY _) ?_))
 try rw [qH]
 obtain ⟨g6, hg6⟩ := zy W2.heap.size
 obtain ⟨W3, hW3⟩ := zy ((W2.alloc (.cells (qb 0) 80)).setRow W2.heap.size (qb su))
 have lRPg6 : w.heap.size < g6 := by rw [hg6]; exact qh RP.o
 have lRZg6 : w.heap.size + 1 < g6 := by rw [hg6]; exact qh RZ.o
 have lR3g6 : g3 < g6 := by rw [hg6]; exact qh R3.o
 have lR4g6 : g4 < g6 := by rw [hg6]; exact qh R4.o
 have lR5g6 : g5 < g6 := by rw [hg6]; exact qh R5.o
 have RP' : Hid (qi W3 w.heap.size (pA p) 82) := by rw [hW3]; exact (zc _ _ _ _ (by omega)).trans ((zb _ _ (by omega)).trans RP.o)
 have RZ' : Hid (qi W3 (w.heap.size + 1) (pA p0) 82) := by rw [hW3]; exact (zc _ _ _ _ (by omega)).trans ((zb _ _ (by omega)).trans RZ.o)
 have R3' : Hid (qi W3 g3 (qb xx) 80) := by rw [hW3]; exact (zc _ _ _ _ (by omega)).trans ((zb _ _ (by omega)).trans R3.o)
 have R4' : Hid (qi W3 g4 (qb yy) 80) := by rw [hW3]; exact (zc _ _ _ _ (by omega)).trans ((zb _ _ (by omega)).trans R4.o)
 have R5' : Hid (qi W3 g5 (qb zz) 80) := by rw [hW3]; exact (zc _ _ _ _ (by omega)).trans ((zb _ _ (by omega)).trans R5.o)
 have R6 : Hid (qi W3 g6 (qb su) 80) := by rw [hW3, hg6]; exact zd _ _ _ _ _ _ (za _ _)
 have BL' : Hid (zB w W3) := by rw [hW3]; exact ze (BL.o.alloc BL.o.size _) BL.o.size _
 rw [← hW3, ← hg6]
 clear hW3 hg6 BL RP RZ R3 R4 R5
 have RP := RP'
 have RZ := RZ'
 have R3 := R3'
 have R4 := R4'
 have R5 := R5'
 have BL := BL'
 clear RP' RZ' R3' R4' R5' BL'
 go_wp2_with (first | (refine zL 80 (.tmp 3) (g3) (qb xx) R3.o jC (jc _) ?_) | (refine zL 80 (.tmp 4) (g4) (qb yy) R4.o jC (jc _) ?_))
 refine (JD yy xx Hyy.o Hxx.o _).mono ?_
 rintro e W4 ⟨rfl, hB4⟩
 have RP := qa (qk RP.o hB4)
 have RZ := qa (qk RZ.o hB4)
 have R3 := qa (qk R3.o hB4)
 have R4 := qa (qk R4.o hB4)
 have R5 := qa (qk R5.o hB4)
 have R6 := qa (qk R6.o hB4)
 have BL := qq BL hB4
 clear hB4
 obtain ⟨df, Edf⟩ := zx (sP yy xx)
 have Hdf : Hid (df < P) := by rw [Edf.o]; exact jR _ _
 rw [← Edf.o]
 go_wp2_with (first | (refine qB 80 (.tmp 7) (.tmp 23) W4.heap.size (qb df) (za _ _) (jc _) (QL _ _) (qY _) ?_))
 obtain ⟨g7, hg7⟩ := zy W4.heap.size
 obtain ⟨W5, hW5⟩ := zy ((W4.alloc (.cells (qb 0) 80)).setRow W4.heap.size (qb df))
 have lRPg7 : w.heap.size < g7 := by rw [hg7]; exact qh RP.o
 have lRZg7 : w.heap.size + 1 < g7 := by rw [hg7]; exact qh RZ.o
 have lR3g7 : g3 < g7 := by rw [hg7]; exact qh R3.o
 have lR4g7 : g4 < g7 := by rw [hg7]; exact qh R4.o
 have lR5g7 : g5 < g7 := by rw [hg7]; exact qh R5.o
 have lR6g7 : g6 < g7 := by rw [hg7]; exact qh R6.o
 have RP' : Hid (qi W5 w.heap.size (pA p) 82) := by rw [hW5]; exact (zc _ _ _ _ (by omega)).trans ((zb _ _ (by omega)).trans RP.o)
 have RZ' : Hid (qi W5 (w.heap.size + 1) (pA p0) 82) := by rw [hW5]; exact (zc _ _ _ _ (by omega)).trans ((zb _ _ (by omega)).trans RZ.o)
 have R3' : Hid (qi W5 g3 (qb xx) 80) := by rw [hW5]; exact (zc _ _ _ _ (by omega)).trans ((zb _ _ (by omega)).trans R3.o)
 have R4' : Hid (qi W5 g4 (qb yy) 80) := by rw [hW5]; exact (zc _ _ _ _ (by omega)).trans ((zb _ _ (by omega)).trans R4.o)
 have R5' : Hid (qi W5 g5 (qb zz) 80) := by rw [hW5]; exact (zc _ _ _ _ (by omega)).trans ((zb _ _ (by omega)).trans R5.o)
 have R6' : Hid (qi W5 g6 (qb su) 80) := by rw [hW5]; exact (zc _ _ _ _ (by omega)).trans ((zb _ _ (by omega)).trans R6.o)
 have R7 : Hid (qi W5 g7 (qb df) 80) := by rw [hW5, hg7]; exact zd _ _ _ _ _ _ (za _ _)
 have BL' : Hid (zB w W5) := by rw [hW5]; exact ze (BL.o.alloc BL.o.size _) BL.o.size _
 rw [qH, ← hW5, ← hg7]
 clear hW5 hg7 BL RP RZ R3 R4 R5 R6
 have RP := RP'
 have RZ := RZ'
 have R3 := R3'
 have R4 := R4'
 have R5 := R5'
 have R6 := R6'
 have BL := BL'
 clear RP' RZ' R3' R4' R5' R6' BL'
 go_cut [8] from 24 to 31 (fun s wx => ∃ g, s = zp g 0 ∧ Hid (W5.heap.size ≤ g) ∧ Hid (wx.heap[g]? = some (.cells (qb (sP (mP (aP p.x p.y) (aP p.x p.y)) su)) 80)) ∧ Hid (zB W5 wx))
 case first =>
  refine zM (S := fun w' => w'.rangeAt (w.heap.size) 0 (nL p.x) ∧ w'.rangeAt (w.heap.size) 4 (nL p.y) ∧ w'.rangeAt (g6) 0 (nL su)) (by kernel_rfl) (by exact ⟨(Qr RP.o).1, (Qr RP.o).2.1, Qu R6.o⟩) (fun hHeld => ?_)
  obtain ⟨V1, hV1⟩ := zy W5.drew
  rw [← hV1] at hHeld ⊢
  have KV1 : Hid (zB W5 V1) := by rw [hV1]; exact (zJ _ _).drew
  clear hV1
  refine zU 0 ⟨some 24, .fieldAddr 82 (.tmp 1) 0, 0, "point.go:93", #[], none⟩ (zp w.heap.size 0) ?_
  simp only [qd]
  refine zT 1 ⟨some 25, .load 80 (.tmp 24), 80, "point.go:93", #[ql 0], none⟩ (.agg (qb p.x)) (jA (by rfl) _ rfl (w.heap.size) 0 p.x rfl (fun w h => h.1)) ?_
  simp only [qd]
  refine zU 2 ⟨some 26, .fieldAddr 82 (.tmp 1) 1, 0, "point.go:93", #[], none⟩ (zp w.heap.size 4) ?_
  simp only [qd]
  refine zT 3 ⟨some 27, .load 80 (.tmp 26), 80, "point.go:93", #[ql 2], none⟩ (.agg (qb p.y)) (jA (by rfl) _ rfl (w.heap.size) 4 p.y rfl (fun w h => h.2.1)) ?_
  simp only [qd]
  refine zT 6 ⟨some 30, .load 80 (.tmp 6), 80, "point.go:93", #[], none⟩ (.agg (qb su)) (jA (by rfl) _ rfl (g6) 0 su rfl (fun w h => h.2.2)) ?_
  simp only [qd]
  refine zW [4, 8] ?_
  refine zK yao (fun K hK => ?_) ?_
  ·
   refine zE (yW _ _ rfl (.agg (qb p.x)) (.agg (qb p.y)) rfl rfl V1) (yf p.x p.y Hp.o.x Hp.o.y V1) fun V2 HBx => ?_
   have KV2 := qq KV1 HBx
   clear HBx
   refine hK.o _ _ (⟨qv RP KV2, qw RP KV2, qS R6 KV2⟩) fun hHeld => ?_
   try simp only [qd]
   refine zW [5, 8] ?_
   refine zK yan (fun K hK => ?_) ?_
   ·
    refine zE (QA _ rfl (.agg (qb (aP p.x p.y))) rfl V2) (Qw (aP p.x p.y) (QF _ _) V2) fun V3 HBx => ?_
    have KV3 := qq KV2 HBx
    clear HBx
    refine hK.o _ _ (⟨qv RP KV3, qw RP KV3, qS R6 KV3⟩) fun hHeld => ?_
    try simp only [qd]
    refine zW [7, 8] ?_
    refine zK yam (fun K hK => ?_) ?_
    ·
     refine zE (yw _ _ rfl (.agg (qb (mP (aP p.x p.y) (aP p.x p.y)))) (.agg (qb su)) rfl rfl V3) (JD (mP (aP p.x p.y) (aP p.x p.y)) su (qK _ _) Hsu.o V3) fun V4 HBx => ?_
     have KV4 := qq KV3 HBx
     clear HBx
     refine hK.o _ _ (⟨qv RP KV4, qw RP KV4, qS R6 KV4⟩) fun hHeld => ?_
     try simp only [qd]
     refine zW [8] ?_
     refine zK qc0 (fun K hK => ?_) ?_
     ·
      refine zA (ja rfl V4) ?_
      obtain ⟨g5, hg5⟩ := zy V4.heap.size
      have ZN : Hid ((V4.alloc (.cells (qb 0) 80)).heap[g5]? = some (.cells (qb 0) 80)) := by rw [hg5]; exact za _ _
      have KV5 := qZ KV4 (.cells (qb 0) 80)
      have GG : Hid (W5.heap.size ≤ g5) := by rw [hg5]; exact KV4.o.size
      rw [← hg5]
      obtain ⟨V5, hV5⟩ := zy (V4.alloc (.cells (qb 0) 80))
      rw [← hV5] at ZN KV5 ⊢
      clear hV5 hg5
      refine hK.o _ _ (⟨qv RP KV5, qw RP KV5, qS R6 KV5⟩) fun hHeld => ?_
      try simp only [qd]
      refine zW [9] ?_
      refine zK qcU (fun K hK => ?_) ?_
      ·
       refine zQ 80 (.tmp 8) (.tmp 31) (g5) (qb (sP (mP (aP p.x p.y) (aP p.x p.y)) su)) ZN.o (jc _) (QL _ _) (qY _) ?_
       rw [qH]
       refine hK.o _ _ (⟨qF (qv RP KV5) (zn (zl (qh RP.o) GG.o)), qF (qw RP KV5) (zn (zl (qh RP.o) GG.o)), qF (qS R6 KV5) (zn (zl (qh R6.o) GG.o))⟩) fun hHeld => ?_
       try simp only [qd]
       refine zi (by kernel_rfl) ?_ _
       go_wp2_with fail
       go_meet
       case rel => exact ⟨g5, rfl, GG, qa (zd _ _ _ _ _ _ ZN.o), qa (ze KV5.o GG.o _)⟩
      exact zu
     exact zu
    refine zK qc0 (fun K hK => ?_) ?_
    ·
     refine zA (ja rfl V3) ?_
     obtain ⟨g6, hg6⟩ := zy V3.heap.size
     have ZN : Hid ((V3.alloc (.cells (qb 0) 80)).heap[g6]? = some (.cells (qb 0) 80)) := by rw [hg6]; exact za _ _
     have KV6 := qZ KV3 (.cells (qb 0) 80)
     have GG : Hid (W5.heap.size ≤ g6) := by rw [hg6]; exact KV3.o.size
     rw [← hg6]
     obtain ⟨V6, hV6⟩ := zy (V3.alloc (.cells (qb 0) 80))
     rw [← hV6] at ZN KV6 ⊢
     clear hV6 hg6
     refine hK.o _ _ (⟨qv RP KV6, qw RP KV6, qS R6 KV6⟩) fun hHeld => ?_
     try simp only [qd]
     refine zW [7] ?_
     refine zK yam (fun K hK => ?_) ?_
     ·
      refine zE (yw _ _ rfl (.agg (qb (mP (aP p.x p.y) (aP p.x p.y)))) (.agg (qb su)) rfl rfl V6) (JD (mP (aP p.x p.y) (aP p.x p.y)) su (qK _ _) Hsu.o V6) fun V7 HBx => ?_
      have KV7 := qq KV6 HBx
      have ZN := qa (qk ZN.o HBx)
      clear HBx
      refine hK.o _ _ (⟨qv RP KV7, qw RP KV7, qS R6 KV7⟩) fun hHeld => ?_
      try simp only [qd]
      refine zW [9] ?_
      refine zK qcU (fun K hK => ?_) ?_
      ·
       refine zQ 80 (.tmp 8) (.tmp 31) (g6) (qb (sP (mP (aP p.x p.y) (aP p.x p.y)) su)) ZN.o (jc _) (QL _ _) (qY _) ?_
       rw [qH]
       refine hK.o _ _ (⟨qF (qv RP KV7) (zn (zl (qh RP.o) GG.o)), qF (qw RP KV7) (zn (zl (qh RP.o) GG.o)), qF (qS R6 KV7) (zn (zl (qh R6.o) GG.o))⟩) fun hHeld => ?_
       try simp only [qd]
       refine zi (by kernel_rfl) ?_ _
       go_wp2_with fail
       go_meet
       case rel => exact ⟨g6, rfl, GG, qa (zd _ _ _ _ _ _ ZN.o), qa (ze KV7.o GG.o _)⟩
      exact zu
     exact zu
    exact zu
   refine zK qc0 (fun K hK => ?_) ?_
   ·
    refine zA (ja rfl V2) ?_
    obtain ⟨g8, hg8⟩ := zy V2.heap.size
    have ZN : Hid ((V2.alloc (.cells (qb 0) 80)).heap[g8]? = some (.cells (qb 0) 80)) := by rw [hg8]; exact za _ _
    have KV8 := qZ KV2 (.cells (qb 0) 80)
    have GG : Hid (W5.heap.size ≤ g8) := by rw [hg8]; exact KV2.o.size
    rw [← hg8]
    obtain ⟨V8, hV8⟩ := zy (V2.alloc (.cells (qb 0) 80))
    rw [← hV8] at ZN KV8 ⊢
    clear hV8 hg8
    refine hK.o _ _ (⟨qv RP KV8, qw RP KV8, qS R6 KV8⟩) fun hHeld => ?_
    try simp only [qd]
    refine zW [5] ?_
    refine zK yan (fun K hK => ?_) ?_
    ·
     refine zE (QA _ rfl (.agg (qb (aP p.x p.y))) rfl V8) (Qw (aP p.x p.y) (QF _ _) V8) fun V9 HBx => ?_
     have KV9 := qq KV8 HBx
     have ZN := qa (qk ZN.o HBx)
     clear HBx
     refine hK.o _ _ (⟨qv RP KV9, qw RP KV9, qS R6 KV9⟩) fun hHeld => ?_
     try simp only [qd]
     refine zW [7] ?_
     refine zK yam (fun K hK => ?_) ?_
     ·
      refine zE (yw _ _ rfl (.agg (qb (mP (aP p.x p.y) (aP p.x p.y)))) (.agg (qb su)) rfl rfl V9) (JD (mP (aP p.x p.y) (aP p.x p.y)) su (qK _ _) Hsu.o V9) fun V10 HBx => ?_
      have KV10 := qq KV9 HBx
      have ZN := qa (qk ZN.o HBx)
      clear HBx
      refine hK.o _ _ (⟨qv RP KV10, qw RP KV10, qS R6 KV10⟩) fun hHeld => ?_
      try simp only [qd]
      refine zW [9] ?_
      refine zK qcU (fun K hK => ?_) ?_
      ·
       refine zQ 80 (.tmp 8) (.tmp 31) (g8) (qb (sP (mP (aP p.x p.y) (aP p.x p.y)) su)) ZN.o (jc _) (QL _ _) (qY _) ?_
       rw [qH]
       refine hK.o _ _ (⟨qF (qv RP KV10) (zn (zl (qh RP.o) GG.o)), qF (qw RP KV10) (zn (zl (qh RP.o) GG.o)), qF (qS R6 KV10) (zn (zl (qh R6.o) GG.o))⟩) fun hHeld => ?_
       try simp only [qd]
       refine zi (by kernel_rfl) ?_ _
       go_wp2_with fail
       go_meet
       case rel => exact ⟨g8, rfl, GG, qa (zd _ _ _ _ _ _ ZN.o), qa (ze KV10.o GG.o _)⟩
      exact zu
     exact zu
    exact zu
   exact zu
  refine zK qc0 (fun K hK => ?_) ?_
  ·
   refine zA (ja rfl V1) ?_
   obtain ⟨g11, hg11⟩ := zy V1.heap.size
   have ZN : Hid ((V1.alloc (.cells (qb 0) 80)).heap[g11]? = some (.cells (qb 0) 80)) := by rw [hg11]; exact za _ _
   have KV11 := qZ KV1 (.cells (qb 0) 80)
   have GG : Hid (W5.heap.size ≤ g11) := by rw [hg11]; exact KV1.o.size
   rw [← hg11]
   obtain ⟨V11, hV11⟩ := zy (V1.alloc (.cells (qb 0) 80))
   rw [← hV11] at ZN KV11 ⊢
   clear hV11 hg11
   refine hK.o _ _ (⟨qv RP KV11, qw RP KV11, qS R6 KV11⟩) fun hHeld => ?_
   try simp only [qd]
   refine zW [4] ?_
   refine zK yao (fun K hK => ?_) ?_
   ·
    refine zE (yW _ _ rfl (.agg (qb p.x)) (.agg (qb p.y)) rfl rfl V11) (yf p.x p.y Hp.o.x Hp.o.y V11) fun V12 HBx => ?_
    have KV12 := qq KV11 HBx
    have ZN := qa (qk ZN.o HBx)
    clear HBx
    refine hK.o _ _ (⟨qv RP KV12, qw RP KV12, qS R6 KV12⟩) fun hHeld => ?_
    try simp only [qd]
    refine zW [5] ?_
    refine zK yan (fun K hK => ?_) ?_
    ·
     refine zE (QA _ rfl (.agg (qb (aP p.x p.y))) rfl V12) (Qw (aP p.x p.y) (QF _ _) V12) fun V13 HBx => ?_
     have KV13 := qq KV12 HBx
     have ZN := qa (qk ZN.o HBx)
     clear HBx
     refine hK.o _ _ (⟨qv RP KV13, qw RP KV13, qS R6 KV13⟩) fun hHeld => ?_
     try simp only [qd]
     refine zW [7] ?_
     refine zK yam (fun K hK => ?_) ?_
     ·
      refine zE (yw _ _ rfl (.agg (qb (mP (aP p.x p.y) (aP p.x p.y)))) (.agg (qb su)) rfl rfl V13) (JD (mP (aP p.x p.y) (aP p.x p.y)) su (qK _ _) Hsu.o V13) fun V14 HBx => ?_
      have KV14 := qq KV13 HBx
      have ZN := qa (qk ZN.o HBx)
      clear HBx
      refine hK.o _ _ (⟨qv RP KV14, qw RP KV14, qS R6 KV14⟩) fun hHeld => ?_
      try simp only [qd]
      refine zW [9] ?_
      refine zK qcU (fun K hK => ?_) ?_
      ·
       refine zQ 80 (.tmp 8) (.tmp 31) (g11) (qb (sP (mP (aP p.x p.y) (aP p.x p.y)) su)) ZN.o (jc _) (QL _ _) (qY _) ?_
       rw [qH]
       refine hK.o _ _ (⟨qF (qv RP KV14) (zn (zl (qh RP.o) GG.o)), qF (qw RP KV14) (zn (zl (qh RP.o) GG.o)), qF (qS R6 KV14) (zn (zl (qh R6.o) GG.o))⟩) fun hHeld => ?_
       try simp only [qd]
       refine zi (by kernel_rfl) ?_ _
       go_wp2_with fail
       go_meet
       case rel => exact ⟨g11, rfl, GG, qa (zd _ _ _ _ _ _ ZN.o), qa (ze KV14.o GG.o _)⟩
      exact zu
     exact zu
    exact zu
   exact zu
  exact zu
 case rest =>
 obtain ⟨g8, rfl, G8, R8, X8⟩ := hcut
 obtain ⟨W6, hW⟩ := zy wc
 subst hW
 have lRP8 : w.heap.size < g8 := zl (qh RP.o) G8.o
 have lRZ8 : w.heap.size + 1 < g8 := zl (qh RZ.o) G8.o
 have lR38 : g3 < g8 := zl (qh R3.o) G8.o
 have lR48 : g4 < g8 := zl (qh R4.o) G8.o
 have lR58 : g5 < g8 := zl (qh R5.o) G8.o
 have lR68 : g6 < g8 := zl (qh R6.o) G8.o
 have lR78 : g7 < g8 := zl (qh R7.o) G8.o
 have RP := qa (qs RP.o X8.o (qh RP.o))
 have RZ := qa (qs RZ.o X8.o (qh RZ.o))
 have R3 := qa (qs R3.o X8.o (qh R3.o))
 have R4 := qa (qs R4.o X8.o (qh R4.o))
 have R5 := qa (qs R5.o X8.o (qh R5.o))
 have R6 := qa (qs R6.o X8.o (qh R6.o))
 have R7 := qa (qs R7.o X8.o (qh R7.o))
 have BL : Hid (zB w W6) := BL.o.trans (X8.o.mono BL.o.size)
 clear X8 G8
 obtain ⟨cr, Ecr⟩ := zx (sP (mP (aP p.x p.y) (aP p.x p.y)) su)
 have Hcr : Hid (cr < P) := by rw [Ecr.o]; exact jR _ _
 rw [← Ecr.o] at R8
 go_wp2_with fail
 refine zM (S := fun w' => w'.rangeAt (g8) 0 (nL cr) ∧ w'.rangeAt (g5) 0 (nL zz) ∧ w'.rangeAt (g7) 0 (nL df) ∧ w'.rangeAt (g6) 0 (nL su)) (by kernel_rfl) (by exact ⟨Qu R8.o, Qu R5.o, Qu R7.o, Qu R6.o⟩) (fun hHeld => ?_)
 obtain ⟨V15, hV15⟩ := zy W6.drew
 rw [← hV15] at hHeld ⊢
 have KV15 : Hid (zB W6 V15) := by rw [hV15]; exact (zJ _ _).drew
 clear hV15
 refine zT 0 ⟨some 32, .load 80 (.tmp 8), 80, "point.go:94", #[], none⟩ (.agg (qb cr)) (jA (by rfl) _ rfl (g8) 0 cr rfl (fun w h => h.1)) ?_
 simp only [qd]
 refine zT 1 ⟨some 33, .load 80 (.tmp 5), 80, "point.go:94", #[], none⟩ (.agg (qb zz)) (jA (by rfl) _ rfl (g5) 0 zz rfl (fun w h => h.2.1)) ?_
 simp only [qd]
 refine zT 2 ⟨some 34, .load 80 (.tmp 5), 80, "point.go:94", #[], none⟩ (.agg (qb zz)) (jA (by rfl) _ rfl (g5) 0 zz rfl (fun w h => h.2.1)) ?_
 simp only [qd]
 refine zT 4 ⟨some 36, .load 80 (.tmp 7), 80, "point.go:94", #[], none⟩ (.agg (qb df)) (jA (by rfl) _ rfl (g7) 0 df rfl (fun w h => h.2.2.1)) ?_
 simp only [qd]
 refine zT 6 ⟨some 38, .load 80 (.tmp 7), 80, "point.go:94", #[], none⟩ (.agg (qb df)) (jA (by rfl) _ rfl (g7) 0 df rfl (fun w h => h.2.2.1)) ?_
 simp only [qd]
 refine zT 7 ⟨some 39, .load 80 (.tmp 6), 80, "point.go:94", #[], none⟩ (.agg (qb su)) (jA (by rfl) _ rfl (g6) 0 su rfl (fun w h => h.2.2.2)) ?_
 simp only [qd]
 refine zW [3] ?_
 refine zK ⟨some 35, .call ⟨.value (.func 120), #[.tmp 33, .tmp 34], #[80, 80]⟩, 80, "point.go:94", #[ql 1, ql 2], none⟩ (fun K hK => ?_) ?_
 ·
  refine zE (yW _ _ rfl (.agg (qb zz)) (.agg (qb zz)) rfl rfl V15) (yf zz zz Hzz.o Hzz.o V15) fun V16 HBx => ?_
  have KV16 := qq KV15 HBx
  clear HBx
  refine hK.o _ _ (⟨qS R8 KV16, qS R5 KV16, qS R7 KV16, qS R6 KV16⟩) fun hHeld => ?_
  try simp only [qd]
  refine zW [5] ?_
  refine zK ⟨some 37, .call ⟨.value (.func 119), #[.tmp 35, .tmp 36], #[80, 80]⟩, 80, "point.go:94", #[ql 3, ql 4, qT 3], none⟩ (fun K hK => ?_) ?_
  ·
   refine zE (yw _ _ rfl (.agg (qb (aP zz zz))) (.agg (qb df)) rfl rfl V16) (JD (aP zz zz) df (QF _ _) Hdf.o V16) fun V17 HBx => ?_
   have KV17 := qq KV16 HBx
   clear HBx
   refine hK.o _ _ (⟨qS R8 KV17, qS R5 KV17, qS R7 KV17, qS R6 KV17⟩) fun hHeld => ?_
   try simp only [qd]
   refine zW [8] ?_
   refine zK ⟨some 40, .call ⟨.value (.func 121), #[.tmp 32, .tmp 37, .tmp 38, .tmp 39], #[80, 80, 80, 80]⟩, 82, "point.go:94", #[ql 0, ql 5, ql 6, ql 7, qT 5], none⟩ (fun K hK => ?_) ?_
   ·
    refine zE (qf9 _ _ _ _ rfl (.agg (qb cr)) (.agg (qb (sP (aP zz zz) df))) (.agg (qb df)) (.agg (qb su)) rfl rfl rfl rfl V17) (qo0 cr (sP (aP zz zz) df) df su Hcr.o (jR _ _) Hdf.o Hsu.o V17) fun V18 HBx => ?_
    have KV18 := qq KV17 HBx
    clear HBx
    refine hK.o _ _ (⟨qS R8 KV18, qS R5 KV18, qS R7 KV18, qS R6 KV18⟩) fun hHeld => ?_
    try simp only [qd]
    refine zW [9] ?_
    refine zK ⟨none, .store 82 (.tmp 2) (.tmp 40), 0, "point.go:94", #[ql 8, qT 8, qj 0, qj 1, qj 2, qj 3, qj 4, qj 5, qj 6, qj 7, qj 8], none⟩ (fun K hK => ?_) ?_
    ·
     refine zQ 82 (.tmp 2) (.tmp 40) (w.heap.size + 1) (pA (YL cr (sP (aP zz zz) df) df su)) (qa (qs RZ.o KV18.o (qh RZ.o))).o (jO _) (ZK _ _) (QJ _) ?_
     rw [qH]
     refine hK.o _ _ (⟨qF (qS R8 KV18) (by omega), qF (qS R5 KV18) (by omega), qF (qS R7 KV18) (by omega), qF (qS R6 KV18) (by omega)⟩) fun hHeld => ?_
     try simp only [qd]
     refine zi (by kernel_rfl) ?_ _
     go_wp2_with fail
     have RZ9 := qa (qs RZ.o KV18.o (qh RZ.o))
     have BL9 := qa (BL.o.trans (KV18.o.mono BL.o.size))
     refine zh (v := .agg (pA (YL cr (sP (aP zz zz) df) df su))) (results_cell_row Tryz.results140 _ _ (w.heap.size + 1) 82 _ (0, 0) _ (by rfl) (zd _ _ _ _ _ _ RZ9.o) Tryz.underlying82 rfl (jO _)) rfl ⟨?_, ze BL9.o (by omega) _⟩
     rw [Ecr.o, Edf.o, Esu.o, Exx.o, Eyy.o, Ezz.o]; rfl
    exact zu
   exact zu
  exact zu
 exact zu
end
theorem qab {P : Program} {ops : Array Oper} {rest : List Oper} {o : Oper} {a : Act} {w : World} {Q : Exit → Act → World → Prop} (hg : o.guard = none) (t : TypeId) (parts : Array (Nat × Operand)) (ho : o.op = .build t parts) (cells : Array Value) (ps : List (Nat × Value))
  (hp : (parts.map fun (i, x) => (i, a.eval x)).toList = ps) (hb : P.built t ps = some cells) (h : wpList P ops Q rest (a.put o.dst (.agg cells)) w) : wpList P ops Q (o :: rest) a w :=
 wpList_build hg t parts ho (by rw [hp, hb]; rfl) (by rw [hp, hb]; exact h)
theorem qqW (p : Pt) (i : Nat) : QY jH 0 p i = yU p 1 i := by
 unfold QY yU jH
 by_cases h : i = 0
 · subst h; rfl
 · rw [if_neg h, if_neg (by omega)]
theorem qm7 (p : Pt) (i j : Nat) (hi : 1 ≤ i) : QY (yU p i) i (ZR 64 (qR p (i - 1))) j = yU p (i + 1) j := by
 rw [qoo, Nat.sub_add_cancel hi]
 unfold QY yU
 by_cases h : j = i
 · subst h; rw [if_pos rfl, if_pos (by omega)]
 ·
  rw [if_neg h]
  by_cases h2 : j < i
  · rw [if_pos h2, if_pos (by omega)]
  · rw [if_neg h2, if_neg (by omega)]
theorem qrE (f : Nat → Pt) (i : Nat) (p q : Pt) (j : Nat) : QY (QY f i p) i q j = QY f i q j := by
 unfold QY; split <;> rfl
theorem qm9 (p : Pt) : (Tryz.prog.info? 82).map (·.size) = some (pL p).toArray.size := jO p
theorem qqE (p : Pt) : (pL p).toArray.all (·.oneCell') = true := QJ p
theorem qaS (f : Nat → Pt) : (Tryz.prog.info? 84).map (·.size) = some (jb f 4).toArray.size := yO f
theorem qeN (f g : Nat → Pt) : (qP f 4).size = (jb g 4).toArray.size := kR f g 4
theorem qcO (f : Nat → Pt) (n : Nat) : (jb f n).toArray.all (·.oneCell') = true := YV f n
theorem qhC (f : Nat → Pt) (n : Nat) : qP f n = (jb f n).toArray := rfl
section
attribute [local irreducible] qb nL pA qP jb pL
theorem qpi (p : Pt) (hp : p.Ok) (w : World) :
  zC 137 #[.agg (pA p)] w (.agg (qP (qR p) 4)) := by
 have hz := qfT
 have hzp := yK
 have Hp := qa hp
 clear hp
 go_enter Tryz.func137, Tryz.ntmps137
 go_upto_region 1 with fail
 go_wp2_with (first
  | (refine zg (by rfl) 82 (.tmp 1) (by rfl) w.heap.size (by rfl) 82 (pA p) (0, 0) _ ((zb _ _ (by simp)).trans (za _ _)) Tryz.underlying82 rfl (jO _) ?_)
  | (refine qab (by rfl) 84 _ (by rfl) (qP (QY jH 0 p) 4) [(0, .agg (pA p))] (by kernel_rfl) (qqN p) ?_)
  | (refine qB 84 (.tmp 3) (.tmp 6) (w.heap.size + 2) (qP (QY jH 0 p) 4) (Jb _ _ _ _) (yO _) (kR _ _ _) (YV _ _) ?_))
 try rw [qH]
 generalize hW0 : World.setRow _ _ _ = W0
 have H0 : Hid (jv W0 (w.heap.size + 1 + 1) 4 (yU p 1)) := by
  refine (jv.of_row (T := 84) (f := QY jH 0 p) ?_).ext (fun i _ => qqW p i)
  rw [← hW0]; exact zd _ _ _ _ _ _ (Jb _ _ _ _)
 have HZ : Hid (qi W0 (w.heap.size + 1) (qP jH 4) 84) := by
  rw [← hW0]; exact (zc _ _ _ _ (by omega)).trans (Jm _ _ _ _)
 have HB : Hid (zB w W0) := by
  rw [← hW0]; exact ze (by show Below _ _ _; go_grown) (by omega) _
 clear hW0
 obtain ⟨b, hb⟩ := zy (w.heap.size + 1 + 1)
 rw [← hb] at H0 ⊢
 have lb : w.heap.size + 1 < b := by omega
 clear hb
 go_loopw [4] (fun i wr => ∃ k : Nat, 1 ≤ k ∧ k ≤ 4 ∧ i = .int .i64 k ∧ Hid (jv wr b 4 (yU p k)) ∧ Hid (qi wr (w.heap.size + 1) (qP jH 4) 84) ∧ Hid (zB w wr)) (fun i _ => 4 - (intOf i).toNat)
 case atStart => exact ⟨1, by omega, by omega, rfl, H0, HZ, HB⟩
 case round =>
  clear H0 HZ HB
  obtain ⟨k, hk1, hk4, rfl, H0, HZ, HB⟩ := hrel
  by_cases hlt : k < 4
  ·
   obtain ⟨m, hm⟩ : ∃ m, Hid (k = m + 1) := ⟨k - 1, by show _ = _; omega⟩
   have e1 : (k : Int) - 1 = (m : Int) := by have := hm.o; omega
   have bk : (k : Int) < 4 := by omega
   have hi1 := qsT b k hlt
   have hi2 := qsT b m (by have := hm.o; omega)
   have RD : Hid (wr.rangeAt b (16 * m) (pL (qR p m))) := by
    have := H0.o.rd m (by have := hm.o; omega)
    have e : yU p k m = qR p m := if_pos (by have := hm.o; omega)
    rw [e] at this
    exact this
   have TH : Hid (wr.there b (16 * k) (pL (qR p m)).toArray.size) := by
    show World.there _ _ _ _
    rw [List.size_toArray, kh]; exact H0.o.at' hlt
   go_upto_region 6 with (first
    | (refine zG (by rfl) 82 (.tmp 14) (by rfl) b (16 * m) (by rfl) (pL (qR p m)) _ RD.o Tryz.underlying82 rfl (qfm _) ?_)
    | (refine wpList_store_mid (by rfl) 82 (.tmp 16) (.tmp 15) (by rfl) b (16 * k) (pL (qR p m)).toArray (by rfl) (by rfl) TH.o (qm9 _) (qqE _) ?_))
   try rw [qH]
   generalize hW1 : World.setCells _ _ _ _ = W1
   have G0 : Hid (jv W1 b 4 (QY (yU p k) k (ZR 0 (qR p m)))) := by rw [← hW1]; exact H0.o.set hlt _
   have GZ : Hid (qi W1 (w.heap.size + 1) (qP jH 4) 84) := by rw [← hW1]; exact (Y8 _ _ _ _ _ (by omega)).trans HZ.o
   have GB : Hid (zB w W1) := by rw [← hW1]; exact qaf (by omega) _ _ _ HB.o
   clear hW1 H0 HZ HB RD TH hi2 e1
   go_wp2_with fail
   simp only [qt3]
   go_loopw [17] (fun i wr => ∃ j : Nat, j ≤ 64 ∧ i = .int .i64 j ∧ Hid (jv wr b 4 (QY (yU p k) k (ZR j (qR p m)))) ∧ Hid (qi wr (w.heap.size + 1) (qP jH 4) 84) ∧ Hid (zB w wr)) (fun i _ => 64 - (intOf i).toNat)
   case atStart => exact ⟨0, by omega, rfl, G0, GZ, GB⟩
   case round =>
    clear G0 GZ GB
    obtain ⟨j, hj, rfl, H0, HZ, HB⟩ := hrel
    by_cases hl2 : j < 64
    ·
     have bj : (j : Int) < 64 := by omega
     have RD := qa (H0.o.rd k hlt)
     rw [qni] at RD
     go_upto_region 9 with (first
      | (refine zG (by rfl) 82 (.tmp 21) (by rfl) b (16 * k) (by rfl) (pL (ZR j (qR p m))) _ RD.o Tryz.underlying82 rfl (qfm _) ?_))
     simp only [qt3]
     refine (qpc (ZR j (qR p m)) (qdr (qdr Hp.o _) _) _).mono ?_
     rintro e W2 ⟨rfl, hB⟩
     rw [show kM (ZR j (qR p m)) = ZR (j + 1) (qR p m) from rfl]
     have lz := qh HZ.o
     have ls := H0.o.size (by omega)
     have G0 := qa (H0.o.below hB ls)
     have GZ : Hid (qi W2 (w.heap.size + 1) (qP jH 4) 84) := qk HZ.o hB
     have GB : Hid (zB w W2) := HB.o.trans (hB.mono (by omega))
     have TH : Hid (W2.there b (16 * k) (pA (ZR (j + 1) (qR p m))).size) := by
      show World.there _ _ _ _
      rw [qlA]; exact G0.o.at' hlt
     clear hB H0 HZ HB RD
     go_upto_region 9 with (first
      | (refine wpList_store_mid (by rfl) 82 (.tmp 24) (.tmp 23) (by rfl) b (16 * k) (pA (ZR (j + 1) (qR p m))) (by rfl) (by rfl) TH.o (jO _) (QJ _) ?_))
     try rw [qH]
     generalize hW1 : World.setCells _ _ _ _ = W3
     have F0 : Hid (jv W3 b 4 (QY (yU p k) k (ZR (j + 1) (qR p m)))) := by
      rw [← hW1, qua]; exact (G0.o.set hlt _).ext (fun i _ => qrE _ _ _ _ i)
     have FZ : Hid (qi W3 (w.heap.size + 1) (qP jH 4) 84) := by rw [← hW1]; exact (Y8 _ _ _ _ _ (by omega)).trans GZ.o
     have FB : Hid (zB w W3) := by rw [← hW1]; exact qaf (by omega) _ _ _ GB.o
     clear hW1 G0 GZ GB TH
     go_wp2_with fail
     exact ⟨⟨j + 1, by omega, by go_num, F0, FZ, FB⟩, by simp [intOf]; omega⟩
    ·
     obtain rfl : j = 64 := by omega
     have bj : (64 : Int) ≤ ((64 : Nat) : Int) := by omega
     have F0 : Hid (jv wr b 4 (yU p (k + 1))) := by
      have e : m = k - 1 := by have := hm.o; omega
      have := H0.o
      rw [e] at this
      exact this.ext (fun i _ => qm7 p k i hk1)
     clear H0 hl2 hj
     go_wp2_with fail
     exact ⟨⟨k + 1, by omega, by omega, by go_num, F0, HZ, HB⟩, by simp [intOf]; omega⟩
  ·
   obtain rfl : k = 4 := by omega
   have bk : (4 : Int) ≤ ((4 : Nat) : Int) := by omega
   have F0 : Hid (jv wr b 4 (qR p)) := H0.o.ext (fun i hi => if_pos hi)
   have WH := qa F0.o.whole
   clear H0 hlt hk1 hk4
   go_wp2_with (first
    | (refine zG (by rfl) 84 (.tmp 3) (by rfl) b 0 (by rfl) (jb (qR p) 4) _ WH.o JS rfl (qff _) ?_)
    | (refine qB 84 (.tmp 2) (.tmp 26) (w.heap.size + 1) (jb (qR p) 4).toArray HZ.o (qaS _) (qeN _ _) (qcO _ _) ?_))
   refine zh (v := .agg (jb (qR p) 4).toArray) (results_cell_row Tryz.results137 _ _ (w.heap.size + 1) 84 _ (0, 0) _ (by rfl) (zd _ _ _ _ _ _ HZ.o) JS rfl (qaS _)) rfl ⟨by rw [qhC], ze HB.o (by omega) _⟩
end
def yr : Pt := ⟨0, 1, 1, 0⟩
theorem qdJ : yr.Ok := ⟨j3, Yu, Yu, j3⟩
theorem qjB (a0 a1 a2 a3 b0 b1 b2 b3 : Value) : Tryz.prog.built 82 [(1, .agg #[a0, a1, a2, a3]), (2, .agg #[b0, b1, b2, b3])] = some (nL 0 ++ ([a0, a1, a2, a3] ++ ([b0, b1, b2, b3] ++ nL 0))).toArray := by kernel_rfl
theorem qsr : Tryz.prog.built 82 [(1, .agg (qb 1)), (2, .agg (qb 1))] = some (pA yr) := qjB _ _ _ _ _ _ _ _
theorem qdf (p q : Pt) (hp : p.Ok) (hq : q.Ok) (w : World) (hG : Gl w) : zC 79 #[.agg (pA p), .agg (pA q)] w (.agg (pA (ZI p q))) := by
 obtain ⟨TT, frr, hg0⟩ := hG.g0
 rw [← que] at hg0
 exact qtw p q hp hq w TT frr hg0
section
attribute [local irreducible] qb nL pA qP jb pL
theorem qmG (w : World) (hG : Gl w) : zC 139 #[] w (.agg (pA yr)) := by
 have hzp := yK
 obtain ⟨TT, frr, hg1⟩ := hG.g1
 have HG := qa hg1
 have lG := qh hg1
 clear hg1 hG
 go_enter Tryz.func139, Tryz.ntmps139
 go_upto_region 1 with fail
 have HR : Hid ((w.alloc (.cells (pA p0) 82)).heap[8]? = some (.cells (qb 1) TT frr)) := (zb _ _ lG).trans HG.o
 go_wp2_with (first
  | (refine zg (by rfl) 80 (.global 8) (by rfl) 8 (by rfl) TT (qb 1) frr _ HR.o jC rfl (jc _) ?_)
  | (refine qab (by rfl) 82 _ (by rfl) (pA yr) [(1, .agg (qb 1)), (2, .agg (qb 1))] (by kernel_rfl) qsr ?_)
  | (refine qB 82 (.tmp 0) (.tmp 3) w.heap.size (pA yr) (za _ _) (jO _) (ZK _ _) (QJ _) ?_))
 refine zh (v := .agg (pA yr)) (results_cell_row Tryz.results139 _ _ w.heap.size 82 _ (0, 0) _ (by rfl) (zd _ _ _ _ _ _ (za _ _)) Tryz.underlying82 rfl (jO _)) rfl ⟨rfl, ze (by show Below _ _ _; go_grown) (zm _) _⟩
end
def jW (f : Nat → Pt) : Nat → Nat → Pt
 | 0, _ => yr
 | i + 1, c => if c < 2 ^ i then jW f i c else ZI (jW f i (c - 2 ^ i)) (f i)
theorem qlC (f : Nat → Pt) : ∀ i c, (jW f i c).Ok
 | 0, _ => qdJ
 | i + 1, c => by
  rw [jW]; split
  · exact qlC f i c
  · exact qaN _ _ _ _
def JW (f : Nat → Pt) (i j : Nat) : Nat → Pt := fun c => if c < 2 ^ i then jW f i c else if c < 2 ^ i + j then jW f (i + 1) c else p0
theorem qlT (f : Nat → Pt) (c : Nat) : QY jH 0 yr c = JW f 0 0 c := by
 unfold QY jH JW
 by_cases h : c = 0
 · subst h; rfl
 · rw [if_neg h, if_neg (by simp; omega), if_neg (by simp; omega)]
theorem qpx (f : Nat → Pt) (i j c : Nat) (h : c < 2 ^ i) : JW f i j c = jW f i c := if_pos h
theorem qmZ (f : Nat → Pt) (i j c : Nat) (_ : j < 2 ^ i) : QY (JW f i j) (2 ^ i + j) (ZI (jW f i j) (f i)) c = JW f i (j + 1) c := by
 unfold QY JW
 by_cases h : c = 2 ^ i + j
 ·
  subst h
  rw [if_pos rfl, if_neg (by omega), if_pos (by omega), jW, if_neg (by omega), Nat.add_sub_cancel_left]
 ·
  rw [if_neg h]
  by_cases h1 : c < 2 ^ i
  · rw [if_pos h1, if_pos h1]
  ·
   rw [if_neg h1, if_neg h1]
   by_cases h2 : c < 2 ^ i + j
   · rw [if_pos h2, if_pos (by omega)]
   · rw [if_neg h2, if_neg (by omega)]
theorem qne (f : Nat → Pt) (i c : Nat) : JW f i (2 ^ i) c = JW f (i + 1) 0 c := by
 unfold JW
 have e : 2 ^ (i + 1) = 2 ^ i + 2 ^ i := by rw [Zk]; omega
 rw [e, Nat.add_zero]
 by_cases h1 : c < 2 ^ i
 · rw [if_pos h1, if_pos (by omega), jW, if_pos h1]
 ·
  rw [if_neg h1]
  by_cases h2 : c < 2 ^ i + 2 ^ i
  · rw [if_pos h2, if_pos h2]
  · rw [if_neg h2, if_neg h2, if_neg (by omega)]
theorem qaD {a : Act} {o : Oper} (x y : Operand) (ho : o.op = .call { callee := .value (.func 79), args := #[x, y], argTypes := #[82, 82] }) (v1 v2 : Value) (hx : a.eval x = v1) (hy : a.eval y = v2) (w : World) :
  (execOp a.eval o).run Tryz.prog w = .ok (.enter 79 #[v1, v2]) w := by
 unfold execOp
 simp only [ho]
 subst hx hy
 go_simp
theorem qt5 {ops : Array Oper} {S : World → Prop} {op : Oper} {a : Act} (hw : Region.wanted op (yielded ops a.tmps) = true) (x : Operand) (ho : op.op = .load 82 x)
  (b o : Nat) (p : Pt) (hx : a.eval x = .pointer (some ⟨b, o, none⟩)) (hS : ∀ w, S w → w.rangeAt b o (pL p)) : YieldsIf Tryz.prog ops S op (.agg (pA p)) a :=
 YE hw _ x ho b o hx (pL p) (pA p) rfl _ hS Tryz.underlying82 rfl (qfm p)
theorem qbB {P : Program} {w : World} {ops : Array Oper} {o : Oper} {a : Act} {K : Act → World → Prop} {Q : Exit → Act → World → Prop} {E : Prop} (hgd : o.guard = none) (ty : TypeId) (x y : Operand) (ho : o.op = .store ty x y)
  (b off : Nat) (cells : Array Value) (hx : a.eval x = .pointer (some ⟨b, off, none⟩)) (hy : a.eval y = .agg cells)
  (ht : w.there b off cells.size) (hi : (P.info? ty).map (·.size) = some cells.size) (h1 : cells.all (·.oneCell') = true) (h : K (a.put o.dst undef) (w.setCells b off cells.toList)) :
  if Region.wanted o (yielded ops a.tmps) = true then Oper.wp P o a w K Q else E := by
 rw [if_pos (by simp [Region.wanted, hgd])]
 exact wp_store_mid ty x y ho b off cells hx hy ht hi h1 h
theorem qdB (f : Nat → Pt) : (Tryz.prog.info? 231).map (·.size) = some (jb f 16).toArray.size := qkZ f
theorem qjr (f g : Nat → Pt) : (qP f 16).size = (jb g 16).toArray.size := kR f g 16
theorem qdw {w : World} {b : Nat} {p : Pt} {T : TypeId} {fr : Nat × Nat} (h : w.heap[b]? = some (.cells (pA p) T fr)) : w.rangeAt b 0 (pL p) := by
 intro j v hv
 rw [Zb, zj w b j _ T _ h, ← qt3, zV]
 exact hv
theorem jv.rdB {w v : World} {b n : Nat} {f : Nat → Pt} (_ : jv v b n f) (j : Nat) (_ : j < n) {p : Pt} (h : w.rangeAt b (16 * j) (pL p)) {B : Nat} (hB : Below B w v) (hb : b < B) : v.rangeAt b (16 * j) (pL p) := q8 h hB hb
theorem qom {k q : Nat} (hk : k < 4) (hq : q = 2 ^ k) : wrap64 (2 ^ k) = (q : Int) := by
 have h4 : k = 0 ∨ k = 1 ∨ k = 2 ∨ k = 3 := by omega
 rcases h4 with rfl | rfl | rfl | rfl <;> subst hq <;> simp [wrap64]
section
attribute [local irreducible] qb nL pA qP jb pL
theorem qp8 (f : Nat → Pt) (hf : ∀ i, i < 4 → (f i).Ok) (w : World) (hG : Gl w) :
  zC 138 #[.agg (qP f 4)] w (.agg (qP (jW f 4) 16)) := by
 have hz := qlx
 have hzp := yK
 have Hf := qa hf
 have HG := qa hG
 clear hf hG
 go_enter Tryz.func138, Tryz.ntmps138
 go_upto_region 2 with fail
 generalize hW0 : World.alloc _ _ = W0
 have R1 : Hid (qi W0 w.heap.size (qP f 4) 84) := by rw [← hW0]; exact JO _ _ _ _
 have RZ : Hid (qi W0 (w.heap.size + 1) (qP jH 16) 231) := by rw [← hW0]; exact Jm _ _ _ _
 have R3 : Hid (jv W0 (w.heap.size + 1 + 1) 16 jH) := by rw [← hW0]; exact jv.of_row (Jb _ _ _ _)
 have BL : Hid (zB w W0) := by rw [← hW0]; show Below _ _ _; go_grown
 clear hW0
 obtain ⟨b, hb⟩ := zy (w.heap.size + 1 + 1)
 rw [← hb] at R3 ⊢
 have lb : w.heap.size + 1 < b := by omega
 clear hb
 have hix := qoD .i64 b 0 (by decide)
 go_wp2_with fail
 refine (qmG _ (HG.o.keep BL.o)).mono ?_
 rintro e W1 ⟨rfl, hB⟩
 have l1 := qh RZ.o
 have l3 := R3.o.size (by decide)
 have R1 := qa (qk R1.o hB)
 have RZ := qa (qk RZ.o hB)
 have R3 := qa (R3.o.below hB l3)
 have BL : Hid (zB w W1) := BL.o.trans (hB.mono (by omega))
 have TH : Hid (W1.there b (16 * 0) (pA yr).size) := by
  show World.there _ _ _ _
  rw [qlA]; exact R3.o.at' (by decide)
 clear hB
 go_upto_region 3 with (first
  | (refine wpList_store_mid (by rfl) 82 (.tmp 8) (.tmp 7) (by rfl) b (16 * 0) (pA yr) (by rfl) (by rfl) TH.o (jO _) (QJ _) ?_))
 try rw [qH]
 generalize hW2 : World.setCells _ _ _ _ = W2
 have G1 : Hid (qi W2 w.heap.size (qP f 4) 84) := by rw [← hW2]; exact (Y8 _ _ _ _ _ (by omega)).trans R1.o
 have GZ : Hid (qi W2 (w.heap.size + 1) (qP jH 16) 231) := by rw [← hW2]; exact (Y8 _ _ _ _ _ (by omega)).trans RZ.o
 have G3 : Hid (jv W2 b 16 (JW f 0 0)) := by rw [← hW2, qua]; exact (R3.o.set (by decide) yr).ext (fun i _ => qlT f i)
 have GB : Hid (zB w W2) := by rw [← hW2]; exact qaf (by omega) _ _ _ BL.o
 clear hW2 TH
 clear R1 RZ R3 BL hix l1 l3
 go_wp2_with (first
  | (refine zL 84 (.tmp 1) w.heap.size (qP f 4) G1.o JS (yO _) ?_))
 go_loopw [10] (fun i wr => ∃ k : Nat, k ≤ 4 ∧ i = .int .i64 k ∧ Hid (jv wr b 16 (JW f k 0)) ∧ Hid (qi wr (w.heap.size + 1) (qP jH 16) 231) ∧ Hid (zB w wr)) (fun i _ => 4 - (intOf i).toNat)
 case atStart => exact ⟨0, by omega, rfl, G3, GZ, GB⟩
 case round =>
  clear G1 GZ G3 GB
  obtain ⟨k, hk, rfl, H3, HZ, HB⟩ := hrel
  by_cases hlt : k < 4
  ·
   have bk : (k : Int) < 4 := by omega
   have hix := qqH f k hlt
   go_upto_region 6 with (first
    | (refine qB 82 (.tmp 5) (.tmp 13) wr.heap.size (pA (f k)) (za _ _) (jO _) (ZK _ _) (QJ _) ?_))
   try rw [qH]
   obtain ⟨g, hg⟩ := zy wr.heap.size
   generalize hW3 : World.setRow _ _ _ = W3
   have l1 := qh HZ.o
   have l3 := H3.o.size (by decide)
   have F5 : Hid (qi W3 g ((pA (f k))) 82) := by rw [← hW3, hg]; exact zd _ _ _ _ _ _ (za _ _)
   have FZ : Hid (qi W3 (w.heap.size + 1) (qP jH 16) 231) := by rw [← hW3]; exact (zc _ _ _ _ (by omega)).trans ((zb _ _ l1).trans HZ.o)
   have F3 : Hid (jv W3 b 16 (JW f k 0)) := by
    rw [← hW3]; exact H3.o.keep ((zc _ _ _ _ (by omega)).trans (zb _ _ l3))
   have FB : Hid (zB w W3) := by rw [← hW3]; exact ze (HB.o.alloc HB.o.size _) HB.o.size _
   have lg : b < g := by omega
   rw [← hg]
   clear hW3 hg l1 l3 H3 HZ HB hix
   obtain ⟨q, Eq⟩ : ∃ q, Hid (q = 2 ^ k) := ⟨2 ^ k, qa rfl⟩
   have hs := qom hlt Eq.o
   have hs2 : IntKind.i64.wrap (2 ^ k) = (q : Int) := (IntWalk.i64_left _).trans hs
   have hq8 : q ≤ 8 := by
    have h4 : k = 0 ∨ k = 1 ∨ k = 2 ∨ k = 3 := by omega
    have := Eq.o
    rcases h4 with rfl | rfl | rfl | rfl <;> omega
   go_wp2_with fail
   go_loopw [16] (fun i wr => ∃ j : Nat, j ≤ q ∧ i = .int .i64 j ∧ Hid (qi wr g ((pA (f k))) 82) ∧ Hid (jv wr b 16 (JW f k j)) ∧ Hid (qi wr (w.heap.size + 1) (qP jH 16) 231) ∧ Hid (zB w wr)) (fun i _ => q - (intOf i).toNat)
   case atStart => exact ⟨0, by omega, rfl, F5, F3, FZ, FB⟩
   case round =>
    clear F5 F3 FZ FB
    obtain ⟨j, hj, rfl, H5, H3, HZ, HB⟩ := hrel
    by_cases hl2 : j < q
    ·
     have bj : (j : Int) < (q : Int) := by omega
     obtain ⟨c, Ec⟩ := zx (q + j)
     have hc : (q : Int) + (j : Int) = (c : Int) := by have := Ec.o; omega
     have hc16 : c < 16 := by have := Ec.o; omega
     have hw : IntKind.i64.wrap (c : Int) = (c : Int) := by rw [zq]; omega
     have hi1 := qoD .i64 b j (by omega)
     have hi2 := qoD .i64 b c hc16
     have lB := H3.o.size (by decide)
     have lG := qh H5.o
     have RD : Hid (wr.rangeAt b (16 * j) (pL (jW f k j))) := by
      have := H3.o.rd j (by omega)
      rw [qpx f k j j (by rw [← Eq.o]; exact hl2)] at this
      exact this
     have RG : Hid (wr.rangeAt g 0 (pL (f k))) := qdw H5.o
     go_wp2_with fail
     refine zM (S := fun w' => w'.rangeAt b (16 * j) (pL (jW f k j)) ∧ w'.rangeAt g 0 (pL (f k))) (by kernel_rfl) ⟨RD.o, RG.o⟩ (fun hHeld => ?_)
     have KV : Hid (zB wr wr.drew) := (zJ _ _).drew
     obtain ⟨V1, hV1⟩ := zy wr.drew
     rw [← hV1] at hHeld KV ⊢
     clear hV1
     refine zU 0 ⟨some 19, .move (.tmp 4), 3, "times.go:41", #[], none⟩ (.int .i64 k) ?_
     simp only [qd]
     refine zU 1 ⟨some 20, .binOp .shl 3 (.const (.int .i64 1)) (.tmp 19) 3, 3, "times.go:41", #[ql 0], none⟩ (.int .i64 q) ?_
     simp only [qd]
     refine zU 2 ⟨some 21, .move (.tmp 6), 3, "times.go:41", #[], none⟩ (.int .i64 j) ?_
     simp only [qd]
     refine zU 3 ⟨some 22, .binOp .add 3 (.tmp 20) (.tmp 21) 3, 3, "times.go:41", #[ql 1, ql 2], none⟩ (.int .i64 c) ?_
     simp only [qd]
     refine zU 4 ⟨some 23, .move (.tmp 6), 3, "times.go:41", #[], none⟩ (.int .i64 j) ?_
     simp only [qd]
     refine zU 5 ⟨some 24, .indexAddr 231 (.tmp 3) (.tmp 23), 0, "times.go:41", #[ql 4], none⟩ (.pointer (some ⟨b, 16 * j, none⟩)) ?_
     simp only [qd]
     refine zT 6 ⟨some 25, .load 82 (.tmp 24), 82, "times.go:41", #[ql 5], none⟩ (.agg (pA (jW f k j))) (qt5 (by rfl) _ rfl b (16 * j) (jW f k j) rfl (fun w h => h.1)) ?_
     simp only [qd]
     refine zT 7 ⟨some 26, .load 82 (.tmp 5), 82, "times.go:41", #[], none⟩ (.agg (pA (f k))) (qt5 (by rfl) _ rfl g 0 (f k) rfl (fun w h => h.2)) ?_
     simp only [qd]
     refine zR 8 ⟨some 27, .call ⟨.value (.func 79), #[.tmp 25, .tmp 26], #[82, 82]⟩, 82, "times.go:41", #[ql 6, ql 7], none⟩ fun K hK => ?_
     refine zE (qaD _ _ rfl (.agg (pA (jW f k j))) (.agg (pA (f k))) rfl rfl V1) (qdf (jW f k j) (f k) (qlC f k j) (Hf.o k hlt) V1 (HG.o.keep (HB.o.trans (KV.o.mono HB.o.size)))) fun V2 HBx => ?_
     have KV2 := qq KV HBx
     clear HBx KV
     refine hK.o _ _ ⟨q8 RD.o KV2.o lB, q8 RG.o KV2.o lG⟩ (fun hHeld => ?_)
     try simp only [qd]
     refine zU 9 ⟨some 28, .indexAddr 231 (.tmp 3) (.tmp 22), 0, "times.go:41", #[ql 3, qj 0, qj 1, qj 2, qj 3, qj 4, qj 5, qj 6, qj 7, qj 8], none⟩ (.pointer (some ⟨b, 16 * c, none⟩)) ?_
     simp only [qd]
     refine zR 10 ⟨none, .store 82 (.tmp 28) (.tmp 27), 0, "times.go:41", #[ql 9, ql 8, qT 8, qj 0, qj 1, qj 2, qj 3, qj 4, qj 5, qj 6, qj 7, qj 8], none⟩ fun K hK => ?_
     have P2 := qa (H3.o.below KV2.o lB)
     refine qbB (by rfl) 82 (.tmp 28) (.tmp 27) (by rfl) b (16 * c) (pA (ZI (jW f k j) (f k))) (by rfl) (by rfl) (by rw [qlA]; exact P2.o.at' hc16) (jO _) (QJ _) ?_
     rw [qH]
     refine hK.o _ _ ⟨World.rangeAt_setCells_apart (P2.o.rdB j (by omega) RD.o KV2.o lB) _ _ _ (Or.inr (Or.inl (by rw [kh]; omega))), World.rangeAt_setCells_apart (q8 RG.o KV2.o lG) _ _ _ (Or.inl (by omega))⟩ (fun _ => ?_)
     try simp only [qd]
     refine zi (by kernel_rfl) ?_ _
     generalize hW4 : World.setCells _ _ _ _ = W4
     have E3 : Hid (jv W4 b 16 (JW f k (j + 1))) := by
      rw [← hW4, qua]
      refine (P2.o.set hc16 _).ext (fun i _ => ?_)
      rw [Ec.o, Eq.o]
      exact qmZ f k j i (by rw [← Eq.o]; exact hl2)
     have E5 : Hid (qi W4 g ((pA (f k))) 82) := by rw [← hW4]; exact (Y8 _ _ _ _ _ (by omega)).trans (qk H5.o KV2.o)
     have EZ : Hid (qi W4 (w.heap.size + 1) (qP jH 16) 231) := by rw [← hW4]; exact (Y8 _ _ _ _ _ (by omega)).trans (qk HZ.o KV2.o)
     have EB : Hid (zB w W4) := by rw [← hW4]; exact qaf (by omega) _ _ _ (HB.o.trans (KV2.o.mono HB.o.size))
     clear hW4
     go_wp2_with fail
     exact ⟨⟨j + 1, by omega, by go_num, E5, E3, EZ, EB⟩, by simp [intOf]; omega⟩
    ·
     obtain rfl : j = q := by omega
     have bj : (j : Int) ≤ (j : Int) := by omega
     have E3 : Hid (jv wr b 16 (JW f (k + 1) 0)) := by
      have := H3.o
      rw [Eq.o] at this
      exact this.ext (fun i _ => qne f k i)
     clear H3
     go_wp2_with fail
     exact ⟨⟨k + 1, by omega, by go_num, E3, HZ, HB⟩, by simp [intOf]; omega⟩
  ·
   obtain rfl : k = 4 := by omega
   have bk : (4 : Int) ≤ ((4 : Nat) : Int) := by omega
   have F0 : Hid (jv wr b 16 (jW f 4)) := H3.o.ext (fun i hi => qpx f 4 0 i (by simpa using hi))
   have WH := qa F0.o.whole
   clear H3 hlt hk
   go_wp2_with (first
    | (refine zG (by rfl) 231 (.tmp 3) (by rfl) b 0 (by rfl) (jb (jW f 4) 16) _ WH.o qeJ rfl (qrg _) ?_)
    | (refine qB 231 (.tmp 2) (.tmp 31) (w.heap.size + 1) (jb (jW f 4) 16).toArray HZ.o (qdB _) (qjr _ _) (qcO _ _) ?_))
   refine zh (v := .agg (jb (jW f 4) 16).toArray) (results_cell_row Tryz.results138 _ _ (w.heap.size + 1) 231 _ (0, 0) _ (by rfl) (zd _ _ _ _ _ _ HZ.o) qeJ rfl (qdB _)) rfl ⟨by rw [qhC], ze HB.o (by omega) _⟩
end
def yH (n a : Nat) : Nat → Nat
 | 0 => 0
 | i + 1 => yH n a i + wd n i / 2 ^ a % 2 * 2 ^ i
theorem qiF (n a : Nat) : ∀ i, yH n a i < 2 ^ i
 | 0 => by simp [yH]
 | i + 1 => by
  rw [yH, Zk]
  have h := qiF n a i
  have : wd n i / 2 ^ a % 2 < 2 := Nat.mod_lt _ (by decide)
  have h2 : wd n i / 2 ^ a % 2 = 0 ∨ wd n i / 2 ^ a % 2 = 1 := by omega
  rcases h2 with e | e <;> rw [e] <;> omega
def qV (f : Nat → Pt) (n : Nat) : Nat → Pt
 | 0 => yr
 | k + 1 => ZI (kM (qV f n k)) (jW f 4 (yH n (63 - k) 4))
theorem JR (f : Nat → Pt) (n : Nat) : ∀ k, (qV f n k).Ok
 | 0 => qdJ
 | _ + 1 => qaN _ _ _ _
theorem qtd (n : Nat) : (Tryz.prog.info? 60).map (·.size) = some (qb n).size := Ju
theorem qnM (n t : Nat) (ht : t < 4) : (qb n)[t]? = some (nv (wd n t)) := by
 have h4 : t = 0 ∨ t = 1 ∨ t = 2 ∨ t = 3 := by omega
 rcases h4 with rfl | rfl | rfl | rfl <;> rfl
theorem qrY (n t : Nat) (ht : t < 4) (w : World) : (Instr.index 60 (.agg (qb n)) (.int .i64 t)).run Tryz.prog w = .ok (nv (wd n t)) w := by
 cases hq : Tryz.prog.info? 59 with
 | none => have := qbi; rw [hq] at this; cases this
 | some inf =>
  have hs : inf.size = 1 := by have := qbi; rw [hq] at this; simpa using this
  have h0 := qnM n t ht
  simp [Instr.index, asIntOf, run_underlying Jr, sizeOf, typeInfo, hq, hs, Y9 _ t _ h0]
  intro h; omega
theorem qly {a : Act} {o : Oper} (x : Operand) (ho : o.op = .call { callee := .value (.func 140), args := #[x], argTypes := #[82] }) (v1 : Value) (hx : a.eval x = v1) (w : World) :
  (execOp a.eval o).run Tryz.prog w = .ok (.enter 140 #[v1]) w := by
 unfold execOp
 simp only [ho]
 subst hx
 go_simp
theorem yM {P : Program} {w : World} {ops : Array Oper} {o : Oper} {a : Act} {K : Act → World → Prop} {Q : Exit → Act → World → Prop} {E : Prop} (hgd : o.guard = none) (ty : TypeId) (x : Operand) (ho : o.op = .load ty x)
  (b off : Nat) (hx : a.eval x = .pointer (some ⟨b, off, none⟩)) (cs : List Value) (d : TypeDesc) (hc : w.rangeAt b off cs) (hu : P.underlying ty = some d) (hd : d.isRow = true) (hi : (P.info? ty).map (·.size) = some cs.length)
  (h : K (a.put o.dst (.agg cs.toArray)) w) : if Region.wanted o (yielded ops a.tmps) = true then Oper.wp P o a w K Q else E := by
 rw [if_pos (by simp [Region.wanted, hgd])]
 exact wp_load_mid ty x ho b off hx cs d hc hu hd hi h
theorem qti (n a t : Nat) (ht : t < 4) : bits .or .u64 (V (yH n a t)) (IntKind.u64.wrap (bits .and .u64 (V (wd n t) / 2 ^ a) 1 * 2 ^ t)) = V (yH n a (t + 1)) := by
 have hw := qpY n t
 have e1 : V (wd n t) / 2 ^ a = ((wd n t / 2 ^ a : Nat) : Int) := by unfold V; rw [Int.natCast_ediv, Int.natCast_pow]; rfl
 have hx : wd n t / 2 ^ a < 18446744073709551616 := Nat.lt_of_le_of_lt (Nat.div_le_self _ _) hw
 rw [e1, show (1 : Int) = ((1 : Nat) : Int) from rfl, bits_and_u64_nat _ _ hx (by decide), Nat.and_one_is_mod]
 have hc := qiF n a t
 rw [yH]
 have hy : wd n t / 2 ^ a % 2 < 2 := Nat.mod_lt _ (by decide)
 generalize wd n t / 2 ^ a % 2 = y at *
 have b1 : 2 ^ t ≤ 2 ^ 3 := Nat.pow_le_pow_right (by decide) (by omega)
 have b2 : y * 2 ^ t ≤ 1 * 2 ^ 3 := Nat.mul_le_mul (by omega) b1
 have e2 : IntKind.u64.wrap ((y : Int) * 2 ^ t) = V (y * 2 ^ t) := by
  unfold V
  rw [Zf, show ((y : Int) * 2 ^ t) = ((y * 2 ^ t : Nat) : Int) by rw [Int.natCast_mul, Int.natCast_pow]; rfl]
  omega
 rw [e2]
 unfold V
 rw [bits_or_u64_nat _ _ (by omega) (by omega)]
 congr 1
 rw [Nat.or_comm, Nat.add_comm, Zl]
 exact (Nat.two_pow_add_eq_or_of_lt hc y).symm
section
attribute [local irreducible] qb nL pA qP jb pL
theorem qbQ (f : Nat → Pt) (hf : ∀ i, i < 4 → (f i).Ok) (n : Nat) (w : World) (hG : Gl w) :
  zC 91 #[.agg (qP f 4), .agg (qb n)] w (.agg (pA (qV f n 64))) := by
 have hz := qlx
 have hzp := yK
 have Hf := qa hf
 have HG := qa hG
 clear hf hG
 go_enter Tryz.func91, Tryz.ntmps91
 go_upto_region 1 with fail
 generalize hW0 : World.alloc _ _ = W0
 have R2 : Hid (qi W0 w.heap.size (qP f 4) 84) := by rw [← hW0]; exact JO _ _ _ _
 have R3 : Hid (qi W0 (w.heap.size + 1) (qb n) 60) := by rw [← hW0]; exact Jm _ _ _ _
 have RZ : Hid (qi W0 (w.heap.size + 1 + 1) (pA p0) 82) := by rw [← hW0]; exact Jb _ _ _ _
 have BL : Hid (zB w W0) := by rw [← hW0]; show Below _ _ _; go_grown
 clear hW0
 obtain ⟨z, hzb⟩ := zy (w.heap.size + 1 + 1)
 rw [← hzb] at RZ ⊢
 have lz : w.heap.size + 1 < z := by omega
 clear hzb
 go_wp2_with (first
  | (refine zL 84 (.tmp 2) w.heap.size (qP f 4) R2.o JS (yO _) ?_))
 refine (qp8 f Hf.o _ (HG.o.keep BL.o)).mono ?_
 rintro e W1 ⟨rfl, hB⟩
 have R3 := qa (qk R3.o hB)
 have RZ := qa (qk RZ.o hB)
 have BL := qq BL hB
 clear hB
 go_upto_region 2 with (first
  | (refine qB 231 (.tmp 5) (.tmp 12) W1.heap.size (qP (jW f 4) 16) (za _ _) (qkZ _) (kR _ _ _) (YV _ _) ?_))
 try rw [qH]
 obtain ⟨s, hs⟩ := zy W1.heap.size
 generalize hW2 : World.setRow _ _ _ = W2
 have l3 := qh R3.o
 have lzz := qh RZ.o
 have G3 : Hid (qi W2 (w.heap.size + 1) (qb n) 60) := by rw [← hW2]; exact (zc _ _ _ _ (by omega)).trans ((zb _ _ l3).trans R3.o)
 have GZ : Hid (qi W2 z (pA p0) 82) := by rw [← hW2]; exact (zc _ _ _ _ (by omega)).trans ((zb _ _ lzz).trans RZ.o)
 have G5 : Hid (qi W2 s ((qP (jW f 4) 16)) 231) := by rw [← hW2, hs]; exact zd _ _ _ _ _ _ (za _ _)
 have GB : Hid (zB w W2) := by rw [← hW2]; exact ze (BL.o.alloc BL.o.size _) BL.o.size _
 have ls : z < s := by omega
 rw [← hs]
 clear hW2 hs l3 lzz R3 RZ BL
 go_wp2_with fail
 refine (qmG _ (HG.o.keep GB.o)).mono ?_
 rintro e W3 ⟨rfl, hB⟩
 have G3 := qa (qk G3.o hB)
 have GZ := qa (qk GZ.o hB)
 have G5 := qa (qk G5.o hB)
 have GB := qq GB hB
 clear hB
 go_upto_region 3 with (first
  | (refine qB 82 (.tmp 6) (.tmp 13) W3.heap.size (pA yr) (za _ _) (jO _) (ZK _ _) (QJ _) ?_))
 try rw [qH]
 obtain ⟨g, hg⟩ := zy W3.heap.size
 generalize hW4 : World.setRow _ _ _ = W4
 have l3 := qh G3.o
 have lzz := qh GZ.o
 have l5 := qh G5.o
 have F3 : Hid (qi W4 (w.heap.size + 1) (qb n) 60) := by rw [← hW4]; exact (zc _ _ _ _ (by omega)).trans ((zb _ _ l3).trans G3.o)
 have FZ : Hid (qi W4 z (pA p0) 82) := by rw [← hW4]; exact (zc _ _ _ _ (by omega)).trans ((zb _ _ lzz).trans GZ.o)
 have F5 : Hid (jv W4 s 16 (jW f 4)) := by rw [← hW4]; exact jv.of_row ((zc _ _ _ _ (by omega)).trans ((zb _ _ l5).trans G5.o))
 have F6 : Hid (qi W4 g ((pA (qV f n 0))) 82) := by rw [← hW4, hg]; exact zd _ _ _ _ _ _ (za _ _)
 have FB : Hid (zB w W4) := by rw [← hW4]; exact ze (GB.o.alloc GB.o.size _) GB.o.size _
 have lg : s < g := by omega
 rw [← hg]
 clear hW4 hg l3 lzz l5 G3 GZ G5 GB
 go_wp2_with fail
 go_loopw [7] (fun i wr => ∃ k : Nat, k ≤ 64 ∧ i = .int .i64 (63 - (k : Int)) ∧ Hid (qi wr (w.heap.size + 1) (qb n) 60) ∧ Hid (qi wr z (pA p0) 82) ∧ Hid (jv wr s 16 (jW f 4)) ∧ Hid (qi wr g ((pA (qV f n k))) 82) ∧ Hid (zB w wr)) (fun i _ => (intOf i + 1).toNat)
 case atStart => exact ⟨0, by omega, rfl, F3, FZ, F5, F6, FB⟩
 case round =>
  clear F3 FZ F5 F6 FB
  obtain ⟨k, hk, rfl, H3, HZ, H5, H6, HB⟩ := hrel
  by_cases hlt : k < 64
  ·
   obtain ⟨a, Ea⟩ := zx (63 - k)
   have ea : (63 : Int) - (k : Int) = (a : Int) := by have := Ea.o; omega
   have ha : a < 64 := by have := Ea.o; omega
   have ba : (0 : Int) ≤ (a : Int) := by omega
   go_wp2_with (first
    | (refine zL 60 (.tmp 3) (w.heap.size + 1) (qb n) H3.o Jr (qtd _) ?_))
   go_loopw [8, 19] (fun c i wx => ∃ t : Nat, t ≤ 4 ∧ c = nv (yH n a t) ∧ i = .int .i64 t ∧ wx = wr) (fun _ i _ => 4 - (intOf i).toNat)
   case atStart => exact ⟨0, by omega, rfl, rfl, rfl⟩
   case round =>
    obtain ⟨t, ht, rfl, rfl, rfl⟩ := hrel
    by_cases hl2 : t < 4
    ·
     have bt : (t : Int) < 4 := by omega
     have hix := qrY n t hl2
     have hor := qti n a t hl2
     go_wp2_with fail
     exact ⟨⟨t + 1, by omega, rfl, by go_num, trivial⟩, by simp [intOf]; omega⟩
    ·
     obtain rfl : t = 4 := by omega
     have bt : (4 : Int) ≤ ((4 : Nat) : Int) := by omega
     obtain ⟨c, Ec⟩ := zx (yH n a 4)
     have hc : c < 16 := by rw [Ec.o]; exact qiF n a 4
     have ec : V (yH n a 4) = (c : Int) := by unfold V; rw [← Ec.o]
     have hix := qoD .u64 s c hc
     have lS := H5.o.size (by decide)
     have lG := qh H6.o
     have RG := qa (qdw H6.o)
     have RD := qa (H5.o.rd c hc)
     go_wp2_with fail
     refine zM (S := fun w' => w'.rangeAt s (16 * c) (pL (jW f 4 c))) (by kernel_rfl) RD.o (fun hHeld => ?_)
     have KV : Hid (zB wr wr.drew) := (zJ _ _).drew
     obtain ⟨V1, hV1⟩ := zy wr.drew
     rw [← hV1] at hHeld KV ⊢
     clear hV1
     refine zU 2 ⟨some 34, .move (.tmp 8), 59, "times.go:29", #[], none⟩ (.int .u64 (c : Int)) ?_
     simp only [qd]
     refine zU 3 ⟨some 35, .indexAddr 231 (.tmp 5) (.tmp 34), 0, "times.go:29", #[ql 2], none⟩ (.pointer (some ⟨s, 16 * c, none⟩)) ?_
     simp only [qd]
     refine zT 4 ⟨some 36, .load 82 (.tmp 35), 82, "times.go:29", #[ql 3], none⟩ (.agg (pA (jW f 4 c))) (qt5 (by rfl) _ rfl s (16 * c) (jW f 4 c) rfl (fun w h => h)) ?_
     simp only [qd]
     refine zR 0 ⟨some 32, .load 82 (.tmp 6), 82, "times.go:29", #[], none⟩ fun K hK => ?_
     refine yM (by rfl) 82 (.tmp 6) (by rfl) g 0 (by rfl) (pL (qV f n k)) _ (q8 RG.o KV.o lG) Tryz.underlying82 rfl (qfm _) ?_
     rw [qt3]
     refine hK.o _ _ (q8 RD.o KV.o lS) (fun hHeld => ?_)
     try simp only [qd]
     refine zR 1 ⟨some 33, .call ⟨.value (.func 140), #[.tmp 32], #[82]⟩, 82, "times.go:29", #[ql 0], none⟩ fun K hK => ?_
     refine zE (qly _ rfl (.agg (pA (qV f n k))) rfl V1) (qpc (qV f n k) (JR f n k) V1) fun V2 HBx => ?_
     have KV2 := qq KV HBx
     clear HBx KV
     refine hK.o _ _ (q8 RD.o KV2.o lS) (fun hHeld => ?_)
     try simp only [qd]
     refine zR 5 ⟨some 37, .call ⟨.value (.func 79), #[.tmp 33, .tmp 36], #[82, 82]⟩, 82, "times.go:29", #[ql 1, ql 4, qT 1], none⟩ fun K hK => ?_
     refine zE (qaD _ _ rfl (.agg (pA (kM (qV f n k)))) (.agg (pA (jW f 4 c))) rfl rfl V2) (qdf (kM (qV f n k)) (jW f 4 c) (qaN _ _ _ _) (qlC f 4 c) V2 (HG.o.keep (HB.o.trans (KV2.o.mono HB.o.size)))) fun V3 HBx => ?_
     have KV3 := qq KV2 HBx
     clear HBx KV2
     refine hK.o _ _ (q8 RD.o KV3.o lS) (fun hHeld => ?_)
     try simp only [qd]
     rw [show ZI (kM (qV f n k)) (jW f 4 c) = qV f n (k + 1) from by rw [Ec.o, Ea.o]; rfl]
     refine zR 6 ⟨none, .store 82 (.tmp 6) (.tmp 37), 0, "times.go:29", #[ql 5, qT 5, qj 0, qj 1, qj 2, qj 3, qj 4, qj 5], none⟩ fun K hK => ?_
     have P6 := qa (qs H6.o KV3.o lG)
     refine zQ 82 (.tmp 6) (.tmp 37) g (pA (qV f n (k + 1))) P6.o (jO _) (ZK _ _) (QJ _) ?_
     rw [qH]
     generalize hW5 : World.setRow _ _ _ = W5
     have E6 : Hid (qi W5 g ((pA (qV f n (k + 1)))) 82) := by rw [← hW5]; exact zd _ _ _ _ _ _ P6.o
     have E5 : Hid (jv W5 s 16 (jW f 4)) := by rw [← hW5]; exact (H5.o.below KV3.o lS).keep (zc _ _ _ _ (by omega))
     have E3 : Hid (qi W5 (w.heap.size + 1) (qb n) 60) := by rw [← hW5]; exact (zc _ _ _ _ (by omega)).trans (qk H3.o KV3.o)
     have EZ : Hid (qi W5 z (pA p0) 82) := by rw [← hW5]; exact (zc _ _ _ _ (by omega)).trans (qk HZ.o KV3.o)
     have EB : Hid (zB w W5) := by rw [← hW5]; exact ze (HB.o.trans (KV3.o.mono HB.o.size)) (by omega) _
     refine hK.o _ _ (by rw [← hW5]; exact qF (q8 RD.o KV3.o lS) (by omega)) (fun _ => ?_)
     clear hW5 hK K
     try simp only [qd]
     refine zi (by kernel_rfl) ?_ _
     have e63 : (a : Int) - 1 = 63 - ((k + 1 : Nat) : Int) := by have := Ea.o; omega
     go_wp2_with fail
     exact ⟨⟨k + 1, by omega, rfl, E3, EZ, E5, E6, EB⟩, by simp [intOf]; omega⟩
  ·
   obtain rfl : k = 64 := by omega
   have bk : ¬ (0 : Int) ≤ 63 - ((64 : Nat) : Int) := by omega
   have bk2 : (63 : Int) - ((64 : Nat) : Int) = -1 := by omega
   clear hlt hk
   go_wp2_with (first
    | (refine zg (by rfl) 82 (.tmp 6) (by rfl) g (by rfl) 82 (pA (qV f n 64)) (0, 0) _ H6.o Tryz.underlying82 rfl (jO _) ?_)
    | (refine qB 82 (.tmp 4) (.tmp 38) z (pA (qV f n 64)) HZ.o (jO _) (ZK _ _) (QJ _) ?_))
   refine zh (v := .agg (pA (qV f n 64))) (results_cell_row Tryz.results91 _ _ z 82 _ (0, 0) _ (by rfl) (zd _ _ _ _ _ _ HZ.o) Tryz.underlying82 rfl (jO _)) rfl ⟨rfl, ze HB.o (by omega) _⟩
end
end Go.Proofs.YtccgfabojbjmjaaGreatDoor
