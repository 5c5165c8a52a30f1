import Derived.Test.YtemdlpcljjdfjaaDoorPow2
import Derived.Test.YtemdlpcljjdfjaaDoorRoot
/- The powers that the program works out. Plain mathematics. -/
namespace Go.Proofs.YtemdlpcljjdfjaaDoor
/-- x is the e-th power of a. -/
def Cg (a x e : Nat) : Prop := x % P = a ^ e % P
theorem Cg.one (a : Nat) : Cg a a 1 := by unfold Cg; rw [Nat.pow_one]
theorem Cg.mP {a x y e f : Nat} (hx : Cg a x e) (hy : Cg a y f) : Cg a (mP x y) (e + f) := by
  unfold Cg Proofs.YtemdlpcljjdfjaaDoor.mP at *
  rw [Nat.mod_mod, Nat.mul_mod, hx, hy, ← Nat.mul_mod, Nat.pow_add]
theorem Cg.sqN {a x e : Nat} (k : Nat) (hx : Cg a x e) : Cg a (sqN k x) (e * 2 ^ k) := by
  induction k generalizing x e with
  | zero => rw [Nat.pow_zero, Nat.mul_one]; exact hx
  | succ k ih =>
    have := ih (Cg.mP hx hx)
    rw [Nat.pow_succ, Nat.mul_comm (2 ^ k) 2, ← Nat.mul_assoc, Nat.mul_two]
    exact this
theorem Cg.cast {a x e f : Nat} (h : Cg a x e) (hf : e = f) : Cg a x f := hf ▸ h
theorem lgN_pow (a : Nat) : Cg a (lgN a) 1809251394333065553493296640760748560207343510400633813116524750123642650623 := by
  have c1 := Cg.one a
  have c2 := ((c1.sqN 1).mP c1).cast (show 1 * 2 ^ 1 + 1 = 3 by decide)
  have c4 := ((c2.sqN 2).mP c2).cast (show 3 * 2 ^ 2 + 3 = 15 by decide)
  have c5 := ((c4.sqN 1).mP c1).cast (show 15 * 2 ^ 1 + 1 = 31 by decide)
  have c10 := ((c5.sqN 5).mP c5).cast (show 31 * 2 ^ 5 + 31 = 1023 by decide)
  have c20 := ((c10.sqN 10).mP c10).cast (show 1023 * 2 ^ 10 + 1023 = 1048575 by decide)
  have c40 := ((c20.sqN 20).mP c20).cast (show 1048575 * 2 ^ 20 + 1048575 = 1099511627775 by decide)
  have c50 := ((c40.sqN 10).mP c10).cast (show 1099511627775 * 2 ^ 10 + 1023 = 1125899906842623 by decide)
  have c100 := ((c50.sqN 50).mP c50).cast (show 1125899906842623 * 2 ^ 50 + 1125899906842623 = 1267650600228229401496703205375 by decide)
  have c200 := ((c100.sqN 100).mP c100).cast (show 1267650600228229401496703205375 * 2 ^ 100 + 1267650600228229401496703205375 = 1606938044258990275541962092341162602522202993782792835301375 by decide)
  exact ((c200.sqN 50).mP c50).cast (by decide)
def E8 : Nat := 7237005577332262213973186563042994240829374041602535252466099000494570602493
theorem rpN_pow (a : Nat) : Cg a (rpN a) E8 :=
  (((lgN_pow a).sqN 2).mP (Cg.one a)).cast (by decide)
def Pm2 : Nat := 57896044618658097711785492504343953926634992332820282019728792003956564819947
theorem Pm2_succ : Pm2 + 1 = P - 1 := by decide
theorem invN_pow (a : Nat) : Cg a (invN a) Pm2 := by
  have c1 := Cg.one a
  exact (((lgN_pow a).sqN 5).mP ((c1.mP (c1.sqN 1)).mP (c1.sqN 3))).cast (by decide)
theorem invN_eq (a : Nat) : invN a = a ^ Pm2 % P := by
  have := invN_pow a
  unfold Cg at this
  rw [Nat.mod_eq_of_lt (invN_lt a)] at this; exact this
/-- FERMAT. -/
theorem fermat {a : Nat} (h : a % P ≠ 0) : a ^ (P - 1) % P = 1 := prP.2 a h
theorem inv_mul {a : Nat} (h : a % P ≠ 0) : a * invN a % P = 1 := by
  have e := invN_eq a
  rw [e, Nat.mul_mod, Nat.mod_mod, ← Nat.mul_mod, ← Nat.pow_succ', show Pm2.succ = P - 1 from Pm2_succ]
  exact fermat h
end Go.Proofs.YtemdlpcljjdfjaaDoor
/- The program's root is the document's. Plain mathematics. -/
namespace Go.Proofs.YtemdlpcljjdfjaaDoor
theorem mP_comm (a b : Nat) : mP a b = mP b a := by unfold mP; rw [Nat.mul_comm]
theorem mP_assoc (a b c : Nat) : mP (mP a b) c = mP a (mP b c) := by
  unfold mP
  rw [Nat.mul_mod (a * b % P) c, Nat.mod_mod, ← Nat.mul_mod, Nat.mul_mod a (b * c % P), Nat.mod_mod, ← Nat.mul_mod, Nat.mul_assoc]
theorem mP_one {a : Nat} (h : a < P) : mP a 1 = a := by unfold mP; rw [Nat.mul_one, Nat.mod_eq_of_lt h]
theorem mP_inv {v : Nat} (h : v % P ≠ 0) : mP v (invN v) = 1 := inv_mul h
theorem E8_id : Pm2 * (E8 + 1) = 3 + 7 * E8 + (P - 1) * E8 := by decide +kernel
/-- A power modulo P. -/
def pwP (a e : Nat) : Nat := a ^ e % P
theorem pwP_mP (a b e : Nat) : pwP (mP a b) e = mP (pwP a e) (pwP b e) := by
  unfold pwP mP
  rw [← Nat.pow_mod, Nat.mul_pow, Nat.mul_mod]
theorem pwP_add (a e f : Nat) : pwP a (e + f) = mP (pwP a e) (pwP a f) := by
  unfold pwP mP
  rw [Nat.pow_add, Nat.mul_mod]
theorem pwP_mul (a e f : Nat) : pwP (pwP a e) f = pwP a (e * f) := by
  unfold pwP
  rw [← Nat.pow_mod, ← Nat.pow_mul]
theorem pwP_lt (a e : Nat) : pwP a e < P := Nat.mod_lt _ P_pos
theorem pwP_one {a : Nat} (h : a < P) : pwP a 1 = a := by unfold pwP; rw [Nat.pow_one, Nat.mod_eq_of_lt h]
theorem one_pwP (e : Nat) : pwP 1 e = 1 := by unfold pwP; rw [Nat.one_pow]; decide
theorem pwP_fermat {v : Nat} (h : v % P ≠ 0) (e : Nat) : pwP v ((P - 1) * e) = 1 := by
  rw [← pwP_mul, show pwP v (P - 1) = 1 from fermat h, one_pwP]
theorem rpN_pw (a : Nat) : rpN a = pwP a E8 := by
  have := rpN_pow a
  unfold Cg at this
  rw [Nat.mod_eq_of_lt (rpN_lt a)] at this
  exact this
theorem invN_pw (a : Nat) : invN a = pwP a Pm2 := invN_eq a
theorem cbN_pw {v : Nat} (h : v < P) : cbN v = pwP v 3 := by
  rw [show 3 = 1 + 1 + 1 from rfl, pwP_add, pwP_add, pwP_one h]; rfl
theorem svN_pw {v : Nat} (h : v < P) : svN v = pwP v 7 := by
  rw [show 7 = 3 + 3 + 1 from rfl, pwP_add, pwP_add, pwP_one h, ← cbN_pw h]; rfl
/-- THE ROOT. -/
theorem root_same {u v : Nat} (hu : u < P) (hv : v < P) (h0 : v % P ≠ 0) : rtN u v = pwP (mP u (invN v)) (E8 + 1) := by
  unfold rtN
  rw [rpN_pw, pwP_mP, cbN_pw hv, svN_pw hv, pwP_mP, invN_pw, pwP_mul, pwP_mul, E8_id, pwP_add v (3 + 7 * E8), pwP_fermat h0, mP_one (pwP_lt _ _), pwP_add v 3, Nat.add_comm E8 1, pwP_add u 1, pwP_one hu]
  rw [mP_assoc, mP_assoc, ← mP_assoc (pwP v 3) (pwP u E8), mP_comm (pwP v 3) (pwP u E8), mP_assoc]
theorem test_one {u v : Nat} (hu : u < P) (h0 : v % P ≠ 0) : sqrN u v = u ↔ mP (rtN u v) (rtN u v) = mP u (invN v) := by
  unfold sqrN
  constructor
  · intro h
    have e : mP (mP (mP (rtN u v) (rtN u v)) v) (invN v) = mP u (invN v) := by rw [h]
    rw [mP_assoc _ v, mP_inv h0, mP_one (mP_lt _ _)] at e
    exact e
  · intro h
    rw [h, mP_assoc, mP_comm (invN v) v, mP_inv h0, mP_one hu]
theorem sP_mP (u x : Nat) (hu : u < P) : mP (sP 0 u) x = sP 0 (mP u x) := by
  unfold mP sP
  rw [Nat.zero_add, Nat.zero_add]
  have h1 : u * x % P < P := Nat.mod_lt _ P_pos
  have e1 : ((P - u) * x + u * x) % P = 0 := by rw [← Nat.add_mul, Nat.sub_add_cancel (Nat.le_of_lt hu), Nat.mul_mod_right]
  have e2 : (P - u) % P * x % P = (P - u) * x % P := by rw [Nat.mul_mod, Nat.mod_mod, ← Nat.mul_mod]
  rw [e2]
  rw [Nat.add_mod] at e1
  have h2 : (P - u) * x % P < P := Nat.mod_lt _ P_pos
  generalize (P - u) * x % P = a at *
  generalize u * x % P = b at *
  rw [P_val] at *
  omega
theorem test_two {u v : Nat} (hu : u < P) (h0 : v % P ≠ 0) : sqrN u v = sP 0 u ↔ mP (rtN u v) (rtN u v) = sP 0 (mP u (invN v)) := by
  unfold sqrN
  rw [← sP_mP u (invN v) hu]
  constructor
  · intro h
    have e : mP (mP (mP (rtN u v) (rtN u v)) v) (invN v) = mP (sP 0 u) (invN v) := by rw [h]
    rw [mP_assoc _ v, mP_inv h0, mP_one (mP_lt _ _)] at e
    exact e
  · intro h
    rw [h, mP_assoc, mP_comm (invN v) v, mP_inv h0, mP_one (sP_lt _ _)]
end Go.Proofs.YtemdlpcljjdfjaaDoor
