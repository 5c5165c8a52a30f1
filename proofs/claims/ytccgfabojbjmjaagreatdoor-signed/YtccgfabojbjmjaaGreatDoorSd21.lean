import Derived.Test.YtccgfabojbjmjaaGreatDoorSd20
import Derived.Test.YtccgfabojbjmjaaGreatDoorSd17
namespace Go.Proofs.YtccgfabojbjmjaaGreatDoor
def Hf : Nat := 28948022309329048855892746252171976963317496166410141009864396001978282409974
theorem Hf_two : Hf + Hf = P - 1 := by decide +kernel
theorem pw_of_pm (a e c f : Nat) (he : e < 2 ^ f) (h : pm P f a e = c) : pwP a e = c := (pm_eq P f a e he).symm.trans h
theorem dN_Hf : pwP dN Hf = P - 1 := pw_of_pm dN Hf (P - 1) 255 (by decide +kernel) (by decide +kernel)
theorem neg_Hf : pwP (P - 1) Hf = 1 := pw_of_pm (P - 1) Hf 1 255 (by decide +kernel) (by decide +kernel)
theorem vN_ne (y : Nat) : vN y % P ≠ 0 := by
 intro h
 have hlt : vN y < P := aP_lt _ _
 rw [Nat.mod_eq_of_lt hlt] at h
 have e : mP (mP y y) dN = P - 1 := by
  have hl := mP_lt (mP y y) dN
  unfold vN aP at h
  generalize mP (mP y y) dN = a at *
  rw [P_val] at *
  omega
 by_cases hy : y % P = 0
 ·
  have e0 : mP y y = 0 := by unfold mP; rw [Nat.mul_mod, hy]; rfl
  rw [e0] at e
  have e1 : mP 0 dN = 0 := by unfold mP; rw [Nat.zero_mul]; rfl
  rw [e1] at e
  have : 0 ≠ P - 1 := by decide
  exact this e
 ·
  have e2 : pwP (mP (mP y y) dN) Hf = 1 := by rw [e, neg_Hf]
  rw [pwP_mP, pwP_mP, ← pwP_add, Hf_two, show pwP y (P - 1) = 1 from fermat hy, dN_Hf] at e2
  have e3 : mP 1 (P - 1) = P - 1 := by decide
  rw [e3] at e2
  have : P - 1 ≠ 1 := by decide
  exact this e2
end Go.Proofs.YtccgfabojbjmjaaGreatDoor
namespace Go.Proofs.YtccgfabojbjmjaaGreatDoor
instance nzP : NeZero P := ⟨by decide⟩
def tau (n : Nat) : Fin P := Fin.ofNat P n
theorem tau_inj {a b : Nat} (ha : a < P) (hb : b < P) (h : tau a = tau b) : a = b := by
 have := congrArg Fin.val h
 simp only [tau, Fin.val_ofNat] at this
 rw [Nat.mod_eq_of_lt ha, Nat.mod_eq_of_lt hb] at this
 exact this
theorem tau_mP (a b : Nat) : tau (mP a b) = tau a * tau b := by
 apply Fin.ext
 simp only [tau, Fin.val_ofNat, Fin.val_mul, mP]
 rw [Nat.mod_mod, Nat.mul_mod]
theorem tau_aP (a b : Nat) : tau (aP a b) = tau a + tau b := by
 apply Fin.ext
 simp only [tau, Fin.val_ofNat, Fin.val_add, aP]
 rw [Nat.mod_mod, Nat.add_mod]
theorem tau_sP (a b : Nat) (hb : b < P) : tau (sP a b) = tau a - tau b := by
 have h : tau (sP a b) + tau b = tau a := by
  rw [← tau_aP]
  apply Fin.ext
  simp only [tau, Fin.val_ofNat, aP, sP]
  rw [P_val] at *
  omega
 grind
theorem tau_zero : tau 0 = 0 := rfl
theorem tau_one : tau 1 = 1 := by apply Fin.ext; decide
theorem tau_zero_iff {a : Nat} (ha : a < P) : tau a = 0 ↔ a = 0 := by
 constructor
 · intro h; exact tau_inj ha P_pos (h.trans tau_zero.symm)
 · intro h; rw [h]; rfl
def tdN : Nat := 16295367250680780974490674513165176452449235426866156013048779062215315747161
theorem tdN_lt : tdN < P := by decide
theorem tdN_eq : tdN = aP dN dN := by decide
structure Pt where
 x : Nat
 y : Nat
 z : Nat
 t : Nat
structure Pt.Ok (p : Pt) : Prop where
 x : p.x < P
 y : p.y < P
 z : p.z < P
 t : p.t < P
def partsP (e f g h : Nat) : Pt := ⟨mP e f, mP g h, mP f g, mP e h⟩
theorem partsP_ok (e f g h : Nat) : (partsP e f g h).Ok := ⟨mP_lt _ _, mP_lt _ _, mP_lt _ _, mP_lt _ _⟩
def aA (p q : Pt) : Nat := mP (sP p.y p.x) (sP q.y q.x)
def bB (p q : Pt) : Nat := mP (aP p.y p.x) (aP q.y q.x)
def cC (p q : Pt) : Nat := mP (mP p.t tdN) q.t
def zZ (p q : Pt) : Nat := mP p.z q.z
def addP (p q : Pt) : Pt := partsP (sP (bB p q) (aA p q)) (sP (aP (zZ p q) (zZ p q)) (cC p q)) (aP (aP (zZ p q) (zZ p q)) (cC p q)) (aP (bB p q) (aA p q))
structure Q3 where
 x : Nat
 y : Nat
 z : Nat
def ptOf (x y : Nat) : Pt := ⟨x, y, 1, mP x y⟩
theorem tau_tdN : tau tdN = tau dN + tau dN := by rw [tdN_eq, tau_aP]
def codeX (x z : Nat) : Nat := mP x (invN z)
def Qt : Nat := 14474011154664524427946373126085988481658748083205070504932198000989141204987
theorem rmN_pw : pwP 2 Qt = rmN := pw_of_pm 2 Qt rmN 255 (by decide +kernel) (by decide +kernel)
theorem rmN_sq : mP rmN rmN = P - 1 := by decide +kernel
theorem neg_sq (x r a m : Fin P) (e : r * r + 1 = 0) (h : x * r * (x * r) = a) (hm : m + a = 0) : x * x = m := by grind
theorem neg_sq' (x r a m : Fin P) (e : r * r + 1 = 0) (h : x * x = m) (hm : m + a = 0) : x * r * (x * r) = a := by grind
theorem rm_e : tau rmN * tau rmN + 1 = 0 := by
 rw [← tau_mP, rmN_sq]; apply Fin.ext; decide +kernel
theorem opp_e {a : Nat} (ha : a < P) : tau (sP 0 a) + tau a = 0 := by
 rw [tau_sP _ _ ha, tau_zero]; generalize tau a = x; grind
theorem test_doc {x a : Nat} (ha : a < P) : mP (mP x rmN) (mP x rmN) = a ↔ mP x x = sP 0 a := by
 constructor
 ·
  intro h
  apply tau_inj (mP_lt _ _) (sP_lt _ _)
  rw [tau_mP]
  refine neg_sq _ (tau rmN) (tau a) _ rm_e ?_ (opp_e ha)
  rw [← tau_mP, ← tau_mP, h]
 ·
  intro h
  apply tau_inj (mP_lt _ _) ha
  rw [tau_mP, tau_mP]
  refine neg_sq' _ (tau rmN) (tau a) _ rm_e ?_ (opp_e ha)
  rw [← tau_mP, h]
theorem opp_val {x : Nat} (h0 : x ≠ 0) : sP 0 x = P - x := by
 unfold sP
 rw [Nat.zero_add, Nat.mod_eq_of_lt (Nat.sub_lt P_pos (by omega))]
theorem opp_odd {x : Nat} (hx : x < P) (h0 : x ≠ 0) : sP 0 x % 2 = 1 ↔ x % 2 = 0 := by
 rw [opp_val h0]
 obtain ⟨k, hk⟩ : ∃ k, P = 2 * k + 1 := ⟨28948022309329048855892746252171976963317496166410141009864396001978282409974, by decide +kernel⟩
 rw [hk]
 rw [hk] at hx
 omega
theorem opp_zero : sP 0 0 = 0 := by decide +kernel
end Go.Proofs.YtccgfabojbjmjaaGreatDoor
