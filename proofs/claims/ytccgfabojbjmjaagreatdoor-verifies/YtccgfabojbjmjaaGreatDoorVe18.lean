import Derived.Test.YtccgfabojbjmjaaGreatDoorVe11
import Derived.Test.YtccgfabojbjmjaaGreatDoorVe17
import Derived.Deep.CutRange
import Derived.Deep.DeepHandedRow
namespace Go.Proofs.YtccgfabojbjmjaaGreatDoor
def Cg (a x e : Nat) : Prop := x % P = a ^ e % P
theorem Cg.one (a : Nat) : Cg a a 1 := by unfold Cg; rw [Nat.pow_one]
theorem Cg.mP {a x y e f : Nat} (hx : Cg a x e) (hy : Cg a y f) : Cg a (mP x y) (e + f) := by
 unfold Cg Proofs.YtccgfabojbjmjaaGreatDoor.mP at *
 rw [Nat.mod_mod, Nat.mul_mod, hx, hy, ← Nat.mul_mod, Nat.pow_add]
theorem Cg.sqN {a x e : Nat} (k : Nat) (hx : Cg a x e) : Cg a (sqN k x) (e * 2 ^ k) := by
 induction k generalizing x e with
 | zero => rw [Nat.pow_zero, Nat.mul_one]; exact hx
 | succ k ih =>
  have := ih (Cg.mP hx hx)
  rw [Nat.pow_succ, Nat.mul_comm (2 ^ k) 2, ← Nat.mul_assoc, Nat.mul_two]
  exact this
theorem Cg.cast {a x e f : Nat} (h : Cg a x e) (hf : e = f) : Cg a x f := hf ▸ h
theorem lgN_pow (a : Nat) : Cg a (lgN a) 1809251394333065553493296640760748560207343510400633813116524750123642650623 := by
 have c1 := Cg.one a
 have c2 := ((c1.sqN 1).mP c1).cast (show 1 * 2 ^ 1 + 1 = 3 by decide)
 have c4 := ((c2.sqN 2).mP c2).cast (show 3 * 2 ^ 2 + 3 = 15 by decide)
 have c5 := ((c4.sqN 1).mP c1).cast (show 15 * 2 ^ 1 + 1 = 31 by decide)
 have c10 := ((c5.sqN 5).mP c5).cast (show 31 * 2 ^ 5 + 31 = 1023 by decide)
 have c20 := ((c10.sqN 10).mP c10).cast (show 1023 * 2 ^ 10 + 1023 = 1048575 by decide)
 have c40 := ((c20.sqN 20).mP c20).cast (show 1048575 * 2 ^ 20 + 1048575 = 1099511627775 by decide)
 have c50 := ((c40.sqN 10).mP c10).cast (show 1099511627775 * 2 ^ 10 + 1023 = 1125899906842623 by decide)
 have c100 := ((c50.sqN 50).mP c50).cast (show 1125899906842623 * 2 ^ 50 + 1125899906842623 = 1267650600228229401496703205375 by decide)
 have c200 := ((c100.sqN 100).mP c100).cast (show 1267650600228229401496703205375 * 2 ^ 100 + 1267650600228229401496703205375 = 1606938044258990275541962092341162602522202993782792835301375 by decide)
 exact ((c200.sqN 50).mP c50).cast (by decide)
def E8 : Nat := 7237005577332262213973186563042994240829374041602535252466099000494570602493
theorem rpN_pow (a : Nat) : Cg a (rpN a) E8 :=
 (((lgN_pow a).sqN 2).mP (Cg.one a)).cast (by decide)
def Pm2 : Nat := 57896044618658097711785492504343953926634992332820282019728792003956564819947
theorem Pm2_succ : Pm2 + 1 = P - 1 := by decide
theorem invN_pow (a : Nat) : Cg a (invN a) Pm2 := by
 have c1 := Cg.one a
 exact (((lgN_pow a).sqN 5).mP ((c1.mP (c1.sqN 1)).mP (c1.sqN 3))).cast (by decide)
theorem invN_eq (a : Nat) : invN a = a ^ Pm2 % P := by
 have := invN_pow a
 unfold Cg at this
 rw [Nat.mod_eq_of_lt (invN_lt a)] at this; exact this
theorem fermat {a : Nat} (h : a % P ≠ 0) : a ^ (P - 1) % P = 1 := prP.2 a h
theorem inv_mul {a : Nat} (h : a % P ≠ 0) : a * invN a % P = 1 := by
 have e := invN_eq a
 rw [e, Nat.mul_mod, Nat.mod_mod, ← Nat.mul_mod, ← Nat.pow_succ', show Pm2.succ = P - 1 from Pm2_succ]
 exact fermat h
end Go.Proofs.YtccgfabojbjmjaaGreatDoor
namespace Go.Proofs.YtccgfabojbjmjaaGreatDoor
open Go.RowKit
theorem mP_comm (a b : Nat) : mP a b = mP b a := by unfold mP; rw [Nat.mul_comm]
theorem mP_assoc (a b c : Nat) : mP (mP a b) c = mP a (mP b c) := by
 unfold mP
 rw [Nat.mul_mod (a * b % P) c, Nat.mod_mod, ← Nat.mul_mod, Nat.mul_mod a (b * c % P), Nat.mod_mod, ← Nat.mul_mod, Nat.mul_assoc]
theorem mP_one {a : Nat} (h : a < P) : mP a 1 = a := by unfold mP; rw [Nat.mul_one, Nat.mod_eq_of_lt h]
theorem mP_inv {v : Nat} (h : v % P ≠ 0) : mP v (invN v) = 1 := inv_mul h
theorem E8_id : Pm2 * (E8 + 1) = 3 + 7 * E8 + (P - 1) * E8 := by decide +kernel
def pwP (a e : Nat) : Nat := a ^ e % P
theorem pwP_mP (a b e : Nat) : pwP (mP a b) e = mP (pwP a e) (pwP b e) := by
 unfold pwP mP
 rw [← Nat.pow_mod, Nat.mul_pow, Nat.mul_mod]
theorem pwP_add (a e f : Nat) : pwP a (e + f) = mP (pwP a e) (pwP a f) := by
 unfold pwP mP
 rw [Nat.pow_add, Nat.mul_mod]
theorem pwP_mul (a e f : Nat) : pwP (pwP a e) f = pwP a (e * f) := by
 unfold pwP
 rw [← Nat.pow_mod, ← Nat.pow_mul]
theorem pwP_lt (a e : Nat) : pwP a e < P := Nat.mod_lt _ P_pos
theorem pwP_one {a : Nat} (h : a < P) : pwP a 1 = a := by unfold pwP; rw [Nat.pow_one, Nat.mod_eq_of_lt h]
theorem one_pwP (e : Nat) : pwP 1 e = 1 := by unfold pwP; rw [Nat.one_pow]; decide
theorem pwP_fermat {v : Nat} (h : v % P ≠ 0) (e : Nat) : pwP v ((P - 1) * e) = 1 := by
 rw [← pwP_mul, show pwP v (P - 1) = 1 from fermat h, one_pwP]
theorem rpN_pw (a : Nat) : rpN a = pwP a E8 := by
 have := rpN_pow a
 unfold Cg at this
 rw [Nat.mod_eq_of_lt (rpN_lt a)] at this
 exact this
theorem invN_pw (a : Nat) : invN a = pwP a Pm2 := invN_eq a
theorem cbN_pw {v : Nat} (h : v < P) : cbN v = pwP v 3 := by
 rw [show 3 = 1 + 1 + 1 from rfl, pwP_add, pwP_add, pwP_one h]; rfl
theorem svN_pw {v : Nat} (h : v < P) : svN v = pwP v 7 := by
 rw [show 7 = 3 + 3 + 1 from rfl, pwP_add, pwP_add, pwP_one h, ← cbN_pw h]; rfl
theorem root_same {u v : Nat} (hu : u < P) (hv : v < P) (h0 : v % P ≠ 0) : rtN u v = pwP (mP u (invN v)) (E8 + 1) := by
 unfold rtN
 rw [rpN_pw, pwP_mP, cbN_pw hv, svN_pw hv, pwP_mP, invN_pw, pwP_mul, pwP_mul, E8_id, pwP_add v (3 + 7 * E8), pwP_fermat h0, mP_one (pwP_lt _ _), pwP_add v 3, Nat.add_comm E8 1, pwP_add u 1, pwP_one hu]
 rw [mP_assoc, mP_assoc, ← mP_assoc (pwP v 3) (pwP u E8), mP_comm (pwP v 3) (pwP u E8), mP_assoc]
theorem test_one {u v : Nat} (hu : u < P) (h0 : v % P ≠ 0) : sqrN u v = u ↔ mP (rtN u v) (rtN u v) = mP u (invN v) := by
 unfold sqrN
 constructor
 ·
  intro h
  have e : mP (mP (mP (rtN u v) (rtN u v)) v) (invN v) = mP u (invN v) := by rw [h]
  rw [mP_assoc _ v, mP_inv h0, mP_one (mP_lt _ _)] at e
  exact e
 ·
  intro h
  rw [h, mP_assoc, mP_comm (invN v) v, mP_inv h0, mP_one hu]
theorem sP_mP (u x : Nat) (hu : u < P) : mP (sP 0 u) x = sP 0 (mP u x) := by
 unfold mP sP
 rw [Nat.zero_add, Nat.zero_add]
 have h1 : u * x % P < P := Nat.mod_lt _ P_pos
 have e1 : ((P - u) * x + u * x) % P = 0 := by rw [← Nat.add_mul, Nat.sub_add_cancel (Nat.le_of_lt hu), Nat.mul_mod_right]
 have e2 : (P - u) % P * x % P = (P - u) * x % P := by rw [Nat.mul_mod, Nat.mod_mod, ← Nat.mul_mod]
 rw [e2]
 rw [Nat.add_mod] at e1
 have h2 : (P - u) * x % P < P := Nat.mod_lt _ P_pos
 generalize (P - u) * x % P = a at *
 generalize u * x % P = b at *
 rw [P_val] at *
 omega
theorem test_two {u v : Nat} (hu : u < P) (h0 : v % P ≠ 0) : sqrN u v = sP 0 u ↔ mP (rtN u v) (rtN u v) = sP 0 (mP u (invN v)) := by
 unfold sqrN
 rw [← sP_mP u (invN v) hu]
 constructor
 ·
  intro h
  have e : mP (mP (mP (rtN u v) (rtN u v)) v) (invN v) = mP (sP 0 u) (invN v) := by rw [h]
  rw [mP_assoc _ v, mP_inv h0, mP_one (mP_lt _ _)] at e
  exact e
 ·
  intro h
  rw [h, mP_assoc, mP_comm (invN v) v, mP_inv h0, mP_one (sP_lt _ _)]
theorem fd_inj' {a b : Nat} (ha : a < 57896044618658097711785492504343953926634992332820282019728792003956564819968) (hb : b < 57896044618658097711785492504343953926634992332820282019728792003956564819968) (h : fd a = fd b) : a = b := by
 have e := congrArg (vB 67108864) h
 unfold fd at e
 rw [vB_dB _ (by decide), vB_dB _ (by decide), show (67108864 : Int) ^ 10 = 1852673427797059126777135760139006525652319754650249024631321344126610074238976 from by decide] at e
 omega
theorem eqA' (a b : Nat) (ha : a < 57896044618658097711785492504343953926634992332820282019728792003956564819968) (hb : b < 57896044618658097711785492504343953926634992332820282019728792003956564819968) (w : World) :
  (Op.equalIn 10000 95 (.agg (fA a)) (.agg (fA b))).run Tryz.prog w = .ok (decide (a = b)) w := by
 refine (eqF (fd a) (fd b) (fd_length a) (fd_length b) w).trans ?_
 congr 1
 by_cases h : a = b
 · subst h; simp
 · rw [decide_eq_false h, decide_eq_false (fun e => h (fd_inj' ha hb e))]
theorem stl_fd (n : Nat) (h : n < 57896044618658097711785492504343953926634992332820282019728792003956564819968) : stl (fd n) = n % P := by
 unfold stl fd
 have e : (n : Int) % 1852673427797059126777135760139006525652319754650249024631321344126610074238976 = n := by omega
 rw [vB_dB _ (by decide), show (67108864 : Int) ^ 10 = 1852673427797059126777135760139006525652319754650249024631321344126610074238976 from by decide, e, P_val]
 omega
theorem settledA (n : Nat) (h : n < 57896044618658097711785492504343953926634992332820282019728792003956564819968) (w : World) :
  Calls Tryz.prog 106 #[.agg (fA n)] w fun e w' => e = .returned (.agg (fA (n % P))) ∧ Below w.heap.size w w' := by
 have e := settled_any (fd n) (fd_length n) (fun x hx => by have := fd_lt n x hx; omega) w
 rw [stl_fd n h] at e
 exact e
def yOf (s : ByteArray) : Nat := valLE (bytesOf s) % 57896044618658097711785492504343953926634992332820282019728792003956564819968
theorem yOf_lt (s : ByteArray) : yOf s < 57896044618658097711785492504343953926634992332820282019728792003956564819968 := Nat.mod_lt _ (by decide)
section
attribute [local irreducible] fA fc
attribute [local go_sem] fold10
set_option maxRecDepth 100000 in
set_option maxHeartbeats 400000 in
theorem fieldOfA (s : ByteArray) (hs : s.size = 32) (w : World) :
  Calls Tryz.prog 110 #[.string s] w fun e w' => e = .returned (.tuple #[.agg (fA (yOf s % P)), .bool (decide (yOf s = yOf s % P))]) ∧ Below w.heap.size w w' := by
 have hz := zeroFA
 obtain ⟨N, HN⟩ : ∃ N, Hid (N = valLE (bytesOf s)) := ⟨_, rfl⟩
 have HS := hide hs
 clear hs
 go_enter Tryz.func110, Tryz.ntmps110
 go_wp2_with fail
 go_loopw [5] (fun iV wr => ∃ (i : Nat), i ≤ 255 ∧ iV = .int .i64 i ∧ Hid (wr.heap[w.heap.size]? = some (.cells (fA 0) 95 (0, 0))) ∧ Hid (wr.heap[w.heap.size + 1]? = some (.cells (fA (N % 2 ^ i)) 95 (0, 0))) ∧ Hid (Below w.heap.size w wr)) (fun i _ => 255 - (intOf i).toNat)
 case atStart => exact ⟨0, Nat.zero_le _, rfl, at2_0 _ _ _, by rw [Nat.pow_zero, Nat.mod_one]; exact at2_1 _ _ _, by show Below _ _ _; go_grown⟩
 case round =>
  obtain ⟨i, hi, rfl, H0, H1, HB⟩ := hrel
  by_cases hlt : i < 255
  ·
   have bi : (i : Int) < 255 := by omega
   obtain ⟨q, hq⟩ : ∃ q, q = i / 8 := ⟨_, rfl⟩
   obtain ⟨r, hr⟩ : ∃ r, r = i % 8 := ⟨_, rfl⟩
   obtain ⟨j, hj⟩ : ∃ j, j = i / 26 := ⟨_, rfl⟩
   obtain ⟨t, ht⟩ : ∃ t, t = i % 26 := ⟨_, rfl⟩
   have e8 : (i : Int) / 8 = (q : Int) := by omega
   have er : (i : Int) % 8 = (r : Int) := by omega
   have e26 : (i : Int) / 26 = (j : Int) := by omega
   have et : (i : Int) % 26 = (t : Int) := by omega
   have hs32 : s.size = 32 := HS.out
   have bq : (q : Int) < (s.size : Int) := by omega
   have br : (r : Int) < 8 := by omega
   have bj : (j : Int) < 10 := by omega
   have bt : (t : Int) < 26 := by omega
   have hidx := strAt s q (by omega)
   obtain ⟨x, HX⟩ : ∃ x, Hid (x = C8 ((bytesOf s).getD q 0)) := ⟨_, rfl⟩
   rw [← HX.out] at hidx
   have x0 : 0 ≤ x := by rw [HX.out]; exact C8_nonneg _
   have x1 : x < 256 := by rw [HX.out]; exact C8_lt _
   have HBit : Hid (x / 2 ^ r % 2 = ((N / 2 ^ i % 2 : Nat) : Int)) := by
    show _ = _
    rw [HN.out, valLE_bit, ← hq, ← hr, HX.out]
    unfold C8
    generalize ((bytesOf s).getD q 0).toNat = u
    rw [Int.natCast_emod, Int.natCast_ediv, Int.natCast_pow]; rfl
   clear hs32
   have hnn : 0 ≤ x / 2 ^ r := Int.ediv_nonneg x0 (Int.le_of_lt (Int.pow_pos (by decide)))
   have hcase : (((x / 2 ^ r).tmod 2 == 1) = true ∧ N / 2 ^ i % 2 = 1) ∨ (((x / 2 ^ r).tmod 2 == 1) = false ∧ ¬ N / 2 ^ i % 2 = 1) := by
    rw [Int.tmod_eq_emod_of_nonneg hnn, HBit.out]
    by_cases hp : N / 2 ^ i % 2 = 1
    · exact .inl ⟨by rw [hp]; rfl, hp⟩
    · exact .inr ⟨by rw [beq_eq_false_iff_ne]; omega, hp⟩
   clear hnn
   rcases hcase with ⟨hb, hp⟩ | ⟨hb, hp⟩
   ·
    have hE : N % 2 ^ (i + 1) = N % 2 ^ i + 2 ^ i := by rw [mod_bit, if_pos hp]
    obtain ⟨m, HM⟩ : ∃ m, Hid (m = N % 2 ^ i) := ⟨_, rfl⟩
    have hml : m < 2 ^ i := by rw [HM.out]; exact Nat.mod_lt _ (Nat.pow_pos (by decide))
    rw [← HM.out] at hE H1
    have hbit := fd_bit m i hml hlt
    have hdg := fd_lt m _ (getD_mem (l := fd m) (i := j) (by rw [fd_length]; omega))
    have hp26 := pow26_le i
    rw [← hj, ← ht] at hbit
    rw [← ht] at hp26
    have c1 := ivs_get (l := fd m) (T := 95) (fr := (0, 0)) (by have e := H1.out; unfold fA at e; exact e) j (by rw [fd_length]; omega)
    have f1 := frozen_of_row wr (w.heap.size + 1) j _ _ H1.out
    obtain ⟨y, HY⟩ : ∃ y, Hid (y = (fd m).getD j 0) := ⟨_, rfl⟩
    rw [← HY.out] at c1 hbit hdg
    obtain ⟨y0, y1⟩ := hdg
    have ep : ((2 ^ t : Nat) : Int) = (2 : Int) ^ t := Int.natCast_pow 2 t
    have hsh : IntKind.i64.wrap (2 ^ t) = 2 ^ t := by
     rw [← ep, IntKind.wrap_i64]; generalize 2 ^ t = p at *; omega
    have hsh1 : IntKind.i64.wrap (1 * 2 ^ t) = 2 ^ t := by rw [Int.one_mul]; exact hsh
    have hadd : IntKind.i64.wrap (y + 2 ^ t) = y + 2 ^ t := by
     rw [← ep, IntKind.wrap_i64]; generalize 2 ^ t = p at *; omega
    have HR : Hid ((fd m).set j (y + 2 ^ t) = fd (N % 2 ^ (i + 1))) := by
     show _ = _
     rw [hE, ← hbit, ep]
    clear ep
    clear hE hp hq hr hj ht hbit hp26 hml
    go_wp2_with fail
    go_region
    go_wp2_with fail
    refine ⟨⟨i + 1, by omega, by go_num, far_drew _ _ H0.out (by omega), ?_, (HB.out.setCell (by show _ ≤ _; simp) _).drew⟩, by simp [intOf]; omega⟩
    show _ = some (Obj.cells (fA (N % 2 ^ (i + 1))) _ _)
    have e0 : wr.heap[w.heap.size + 1]? = some (.cells ((fd m).map iv).toArray 95 (0, 0)) := by have e := H1.out; unfold fA at e; exact e
    have e := row_store e0 j (iv (y + 2 ^ t))
    rw [← List.map_set, HR.out] at e
    unfold fA
    exact e
   ·
    have hE : N % 2 ^ (i + 1) = N % 2 ^ i := by rw [mod_bit, if_neg hp, Nat.add_zero]
    have HE := hide hE
    clear hE hp hq hr hj ht
    go_wp2_with fail
    exact ⟨⟨i + 1, by omega, by go_num, H0, by rw [HE.out]; exact H1, HB⟩, by simp [intOf]; omega⟩
  ·
   obtain rfl : i = 255 := by omega
   have bi : (255 : Int) ≤ ((255 : Nat) : Int) := by omega
   obtain ⟨y, HY⟩ : ∃ y, Hid (y = yOf s) := ⟨_, rfl⟩
   have Hy : Hid (y < 57896044618658097711785492504343953926634992332820282019728792003956564819968) := by rw [HY.out]; exact yOf_lt s
   have H1' : Hid (wr.heap[w.heap.size + 1]? = some (.cells (fA y) 95 (0, 0))) := by
    rw [HY.out]; unfold yOf; rw [← HN.out]; exact H1.out
   clear H1
   go_wp2_with (first | (refine wpList_load_row (by rfl) 95 (.tmp 4) (by rfl) (w.heap.size + 1) (by rfl) 95 (fA y) (0, 0) _ H1'.out underF rfl (fA_size _) ?_))
   refine (settledA y Hy.out _).mono ?_
   rintro e W1 ⟨rfl, hB1⟩
   have R0 := hide (row_keep' H0.out hB1)
   have R1 := hide (row_keep' H1'.out hB1)
   have BL : Hid (Below w.heap.size w W1) := HB.out.trans (hB1.mono HB.out.size)
   clear hB1 H0 H1' HB hlt hi
   obtain ⟨z, HZ⟩ : ∃ z, Hid (z = y % P) := ⟨_, rfl⟩
   have Hz : Hid (z < 57896044618658097711785492504343953926634992332820282019728792003956564819968) := by
    show z < _
    rw [HZ.out]; exact Nat.lt_of_le_of_lt (Nat.mod_le _ _) Hy.out
   rw [← HZ.out]
   go_wp2_with (first | (refine wpList_store_row (by rfl) 95 (.tmp 6) (.tmp 32) (by rfl) W1.heap.size (fA z) (by rfl) (by rfl) 95 _ (heap_alloc_new _ _) (fA_size _) (fA_old _ _) (fA_all _) ?_))
   obtain ⟨q, hq⟩ : ∃ q, q = W1.heap.size := ⟨_, rfl⟩
   obtain ⟨W2, hW2⟩ : ∃ W, W = (W1.alloc (.cells (fA 0) 95)).setRow W1.heap.size (fA z) := ⟨_, rfl⟩
   have hq1 : w.heap.size + 1 < q := by rw [hq]; exact lt_row R1.out
   have B0 : Hid (W2.heap[w.heap.size]? = some (.cells (fA 0) 95 (0, 0))) := by
    rw [hW2]; exact (setRow_other _ _ _ _ (by omega)).trans ((heap_alloc_old _ _ (by omega)).trans R0.out)
   have B1 : Hid (W2.heap[w.heap.size + 1]? = some (.cells (fA y) 95 (0, 0))) := by
    rw [hW2]; exact (setRow_other _ _ _ _ (by omega)).trans ((heap_alloc_old _ _ (by omega)).trans R1.out)
   have B2 : Hid (W2.heap[q]? = some (.cells (fA z) 95 (0, 0))) := by
    rw [hW2, hq]; exact setRow_heap _ _ _ _ _ _ (heap_alloc_new _ _)
   have BB : Hid (Below w.heap.size w W2) := by
    rw [hW2]; exact below_setRow (BL.out.alloc BL.out.size _) (by omega) _
   rw [← hW2, ← hq]
   clear hW2 hq R0 R1 BL hz
   have heq := eqA' y z Hy.out Hz.out
   have hst := storeRow_run (P := Tryz.prog) (w := W2.drew) (cs := fA z) B0.out (fA_old _ _) (fA_all _)
   have hs10 := fA_len z
   obtain ⟨c0, c1, c2, c3, c4, c5, c6, c7, c8, c9⟩ := c10_of B1.out
   obtain ⟨d0, d1, d2, d3, d4, d5, d6, d7, d8, d9⟩ := c10_of B2.out
   obtain ⟨a0, a1, a2, a3, a4, a5, a6, a7, a8, a9⟩ := c10_of (w := W2.drew.setRow w.heap.size (fA z)) ((setRow_other _ _ _ _ (by omega)).trans B1.out)
   obtain ⟨b0, b1, b2, b3, b4, b5, b6, b7, b8, b9⟩ := c10_of (w := W2.drew.setRow w.heap.size (fA z)) ((setRow_other _ _ _ _ (by omega)).trans B2.out)
   try rw [put_none']
   go_region
   clear a0 a1 a2 a3 a4 a5 a6 a7 a8 a9 b0 b1 b2 b3 b4 b5 b6 b7 b8 b9
   clear heq hst hs10 c0 c1 c2 c3 c4 c5 c6 c7 c8 c9 d0 d1 d2 d3 d4 d5 d6 d7 d8 d9
   go_wp2_with fail
   refine bodyPost_ret (v := .tuple #[.agg (fA z), .bool (decide (y = z))]) (results_cell_tmp_row Tryz.results110 _ _ (w.heap.size) 95 (fA z) (0, 0) _ (by rfl) (setRow_heap W2.drew _ _ _ _ _ B0.out) underF rfl (fA_size _)) rfl ⟨by rw [HZ.out, HY.out], below_setRow BB.out.drew (Nat.le_refl _) _⟩
end
theorem sizeU8 : (Tryz.prog.info? 5).map (·.size) = some 1 := by kernel_rfl
theorem underU8 : Tryz.prog.underlying 5 = some (.int .u8) := by kernel_rfl
theorem underStr : Tryz.prog.underlying 9 = some .string := by kernel_rfl
theorem underSl8 : Tryz.prog.underlying 89 = some (.slice 5) := by kernel_rfl
theorem conv32 (w : World) (q : Nat) (l : List UInt8) (hl : l.length = 32) (T : TypeId) (h : w.heap[q]? = some (.cells (l.map cv).toArray T (0, 0))) :
  (convert 89 9 (.slice (some ⟨q, 0, none⟩) 32 32)).run Tryz.prog w = .ok (.string (strOf l)) w := by
 have e := run_convert_bytes_back (P := Tryz.prog) w 89 9 5 ⟨q, 0, none⟩ 32 l underSl8 underU8 underStr (fun i hi => by
  rw [Addr.add_mid, Nat.zero_add, cell_of_row w q i _ T _ h]
  simp [hi, C8])
 rw [hl] at e
 exact e
theorem leB_zero : leB 0 32 = List.replicate 32 0 := by decide +kernel
theorem z32_le : z32 = ((leB 0 32).map cv).toArray := by rw [leB_zero]; rfl
theorem make32 (w : World) : (Instr.makeSlice 89 (.int .i64 32) (.int .i64 32)).run Tryz.prog w = .ok (.slice (some ⟨w.heap.size, 0, none⟩) 32 32) (w.alloc (.cells z32 5)) := by kernel_rfl
def codeN (y : Nat) (odd : Bool) : Nat := if odd then y + 57896044618658097711785492504343953926634992332820282019728792003956564819968 else y
section
attribute [local irreducible] fA
set_option maxRecDepth 100000 in
set_option maxHeartbeats 400000 in
theorem textA (a : Nat) (odd : Bool) (ha : a < P) (w : World) :
  Calls Tryz.prog 69 #[.agg (fA a), .bool odd] w fun e w' => e = .returned (.string (strOf (leB (codeN a odd) 32))) ∧ Below w.heap.size w w' := by
 have hmk := make32
 have Ha := hide ha
 clear ha
 go_enter Tryz.func69, Tryz.ntmps69
 go_wp2_with fail
 go_loopw [6] (fun iV wr => ∃ (i : Nat), i ≤ 255 ∧ iV = .int .i64 i ∧ Hid (wr.heap[w.heap.size]? = some (.cells (fA a) 95 (0, 0))) ∧ Hid (wr.heap[w.heap.size + 1]? = some (.cells ((leB (a % 2 ^ i) 32).map cv).toArray 5 (0, 0))) ∧ Hid (Below w.heap.size w wr)) (fun i _ => 255 - (intOf i).toNat)
 case atStart => exact ⟨0, Nat.zero_le _, rfl, at2_0 _ _ _, by rw [Nat.pow_zero, Nat.mod_one, ← z32_le]; exact at2_1 _ _ _, by show Below _ _ _; go_grown⟩
 case round =>
  clear hmk
  obtain ⟨i, hi, rfl, H0, H1, HB⟩ := hrel
  by_cases hlt : i < 255
  ·
   have bi : (i : Int) < 255 := by omega
   obtain ⟨q, hq⟩ : ∃ q, q = i / 8 := ⟨_, rfl⟩
   obtain ⟨r, hr⟩ : ∃ r, r = i % 8 := ⟨_, rfl⟩
   obtain ⟨j, hj⟩ : ∃ j, j = i / 26 := ⟨_, rfl⟩
   obtain ⟨t, ht⟩ : ∃ t, t = i % 26 := ⟨_, rfl⟩
   have e8 : (i : Int) / 8 = (q : Int) := by omega
   have er : (i : Int) % 8 = (r : Int) := by omega
   have e26 : (i : Int) / 26 = (j : Int) := by omega
   have et : (i : Int) % 26 = (t : Int) := by omega
   have bq : (q : Int) < 32 := by omega
   have br : (r : Int) < 8 := by omega
   have bj : (j : Int) < 10 := by omega
   have bt : (t : Int) < 26 := by omega
   have c1 := ivs_get (l := fd a) (T := 95) (fr := (0, 0)) (by have e := H0.out; unfold fA at e; exact e) j (by rw [fd_length]; omega)
   have hdg := fd_lt a _ (getD_mem (l := fd a) (i := j) (by rw [fd_length]; omega))
   obtain ⟨x, HX⟩ : ∃ x, Hid (x = (fd a).getD j 0) := ⟨_, rfl⟩
   rw [← HX.out] at c1 hdg
   obtain ⟨x0, x1⟩ := hdg
   have HBit : Hid (x / 2 ^ t % 2 = ((a / 2 ^ i % 2 : Nat) : Int)) := by
    show _ = _
    have e := fd_bitOf a i hlt
    rw [← hj, ← ht, ← HX.out, Int.natCast_pow] at e
    exact e
   have hnn : 0 ≤ x / 2 ^ t := Int.ediv_nonneg x0 (Int.le_of_lt (Int.pow_pos (by decide)))
   have hcase : (((x / 2 ^ t).tmod 2 == 1) = true ∧ a / 2 ^ i % 2 = 1) ∨ (((x / 2 ^ t).tmod 2 == 1) = false ∧ ¬ a / 2 ^ i % 2 = 1) := by
    rw [Int.tmod_eq_emod_of_nonneg hnn, HBit.out]
    by_cases hp : a / 2 ^ i % 2 = 1
    · exact .inl ⟨by rw [hp]; rfl, hp⟩
    · exact .inr ⟨by rw [beq_eq_false_iff_ne]; omega, hp⟩
   clear hnn
   rcases hcase with ⟨hb, hp⟩ | ⟨hb, hp⟩
   ·
    have hE : a % 2 ^ (i + 1) = a % 2 ^ i + 2 ^ i := by rw [mod_bit, if_pos hp]
    obtain ⟨m, HM⟩ : ∃ m, Hid (m = a % 2 ^ i) := ⟨_, rfl⟩
    have hml : m < 2 ^ i := by rw [HM.out]; exact Nat.mod_lt _ (Nat.pow_pos (by decide))
    rw [← HM.out] at hE H1
    have hlow := leB_low m i hml
    have hp8 := pow8_le i
    have hby := byteLE_nat m (i / 8)
    rw [← hq, ← hr] at hlow
    rw [← hr] at hp8
    rw [← hq] at hby
    have c2 := cvs_get H1.out q (by rw [leB_length]; omega)
    rw [leB_getD m 32 q (by omega)] at c2
    have f2 := frozen_of_row wr (w.heap.size + 1) q _ _ H1.out
    obtain ⟨c, HC⟩ : ∃ c, Hid (c = byteLE m q) := ⟨_, rfl⟩
    rw [← HC.out] at c2 hby
    obtain ⟨y, HY⟩ : ∃ y, Hid (y = C8 c) := ⟨_, rfl⟩
    have hyv : y = (c.toNat : Int) := HY.out
    have hcl : c.toNat < 2 ^ r := by rw [hby]; exact Nat.lt_of_le_of_lt (Nat.mod_le _ _) hlow
    rw [show cv c = .int .u8 (C8 c) from rfl, ← HY.out] at c2
    have ep : ((2 ^ r : Nat) : Int) = (2 : Int) ^ r := Int.natCast_pow 2 r
    have hsh : IntKind.u8.wrap (2 ^ r) = 2 ^ r := by
     rw [← ep, IntKind.wrap_u8]; generalize 2 ^ r = p at *; omega
    have hsh1 : IntKind.u8.wrap (1 * 2 ^ r) = 2 ^ r := by rw [Int.one_mul]; exact hsh
    have hadd : IntKind.u8.wrap (y + 2 ^ r) = y + 2 ^ r := by
     rw [← ep, IntKind.wrap_u8, hyv]; generalize 2 ^ r = p at *; omega
    have HR : Hid (((leB m 32).map cv).set q (.int .u8 (y + 2 ^ r)) = (leB (a % 2 ^ (i + 1)) 32).map cv) := by
     show _ = _
     have hcn : (UInt8.ofNat (c.toNat + 2 ^ r)).toNat = c.toNat + 2 ^ r := by
      rw [UInt8.toNat_ofNat']; generalize 2 ^ r = p at *; omega
     have e := leB_bit m i hml (by omega) (UInt8.ofNat (c.toNat + 2 ^ r)) (by rw [hcn, HC.out, hq, hr])
     rw [hE, ← e, List.map_set, ← hq]
     congr 1
     show Value.int .u8 (y + 2 ^ r) = Value.int .u8 (C8 _)
     unfold C8
     rw [hcn, hyv, ← ep]; rfl
    clear hE hp hq hr hj ht hlow hp8 hml ep hyv hcl hby
    go_wp2_with fail
    go_region
    go_wp2_with fail
    refine ⟨⟨i + 1, by omega, by go_num, far_drew _ _ H0.out (by omega), ?_, (HB.out.setCell (by show _ ≤ _; simp) _).drew⟩, by simp [intOf]; omega⟩
    rw [← HR.out]
    exact row_store H1.out q _
   ·
    have hE : a % 2 ^ (i + 1) = a % 2 ^ i := by rw [mod_bit, if_neg hp, Nat.add_zero]
    have HE := hide hE
    clear hE hp hq hr hj ht
    go_wp2_with fail
    exact ⟨⟨i + 1, by omega, by go_num, H0, by rw [HE.out]; exact H1, HB⟩, by simp [intOf]; omega⟩
  ·
   obtain rfl : i = 255 := by omega
   have bi : (255 : Int) ≤ ((255 : Nat) : Int) := by omega
   have ham : a % 2 ^ 255 = a := Nat.mod_eq_of_lt (Nat.lt_of_lt_of_le Ha.out (by decide))
   rw [ham] at H1
   clear hlt hi ham
   cases odd
   ·
    have hcv : (convert 89 9 (.slice (some ⟨w.heap.size + 1, 0, none⟩) 32 32)).run Tryz.prog wr = .ok (.string (strOf (leB a 32))) wr := conv32 _ _ (leB a 32) (leB_length _ _) _ H1.out
    obtain ⟨T, HT⟩ : ∃ T, Hid (T = strOf (leB a 32)) := ⟨_, rfl⟩
    rw [← HT.out] at hcv
    go_wp2_with fail
    go_ret
    exact ⟨by rw [HT.out]; rfl, HB.out⟩
   ·
    have c2 := cvs_get H1.out 31 (by rw [leB_length]; decide)
    rw [leB_getD a 32 31 (by decide)] at c2
    have f2 := frozen_of_row wr (w.heap.size + 1) 31 _ _ H1.out
    obtain ⟨c, HC⟩ : ∃ c, Hid (c = byteLE a 31) := ⟨_, rfl⟩
    have hcl : c.toNat < 128 := by
     have h := Ha.out
     rw [P_val] at h
     rw [HC.out, byteLE_nat, show (256 : Nat) ^ 31 = 452312848583266388373324160190187140051835877600158453279131187530910662656 from by decide]
     omega
    rw [← HC.out] at c2
    obtain ⟨y, HY⟩ : ∃ y, Hid (y = C8 c) := ⟨_, rfl⟩
    have hyv : y = (c.toNat : Int) := HY.out
    rw [show cv c = .int .u8 (C8 c) from rfl, ← HY.out] at c2
    have hadd : IntKind.u8.wrap (y + 128) = y + 128 := by rw [IntKind.wrap_u8, hyv]; omega
    obtain ⟨W2, hW2⟩ : ∃ W, W = wr.setCell ⟨w.heap.size + 1, 31, none⟩ (.int .u8 (y + 128)) := ⟨_, rfl⟩
    have HR : Hid (W2.heap[w.heap.size + 1]? = some (.cells ((leB (codeN a true) 32).map cv).toArray 5 (0, 0))) := by
     have hcn : (UInt8.ofNat (c.toNat + 128)).toNat = c.toNat + 128 := by rw [UInt8.toNat_ofNat']; omega
     have e := leB_bit a 255 (Nat.lt_of_lt_of_le Ha.out (by decide)) (by decide) (UInt8.ofNat (c.toNat + 128)) (by rw [hcn, HC.out])
     have e2 : codeN a true = a + 2 ^ 255 := rfl
     show _ = _
     rw [e2, ← e, List.map_set, hW2]
     have e3 : cv (UInt8.ofNat (c.toNat + 128)) = .int .u8 (y + 128) := by
      show Value.int .u8 (C8 _) = _
      unfold C8
      rw [hcn, hyv]; rfl
     rw [e3]
     exact row_store H1.out 31 _
    have HB2 : Hid (Below w.heap.size w W2) := by rw [hW2]; exact HB.out.setCell (by show _ ≤ _; simp) _
    have hcv : (convert 89 9 (.slice (some ⟨w.heap.size + 1, 0, none⟩) 32 32)).run Tryz.prog W2 = .ok (.string (strOf (leB (codeN a true) 32))) W2 := conv32 _ _ (leB (codeN a true) 32) (leB_length _ _) _ HR.out
    obtain ⟨T, HT⟩ : ∃ T, Hid (T = strOf (leB (codeN a true) 32)) := ⟨_, rfl⟩
    rw [← HT.out, hW2] at hcv
    clear hcl hyv HR
    go_wp2_with fail
    go_ret
    exact ⟨by rw [HT.out]; rfl, by rw [← hW2]; exact HB2.out⟩
end
def kws : List (BitVec 64) := [
 4794697086780616226#64, 8158064640168781261#64, 13096744586834688815#64, 16840607885511220156#64,
 4131703408338449720#64, 6480981068601479193#64, 10538285296894168987#64, 12329834152419229976#64,
 15566598209576043074#64, 1334009975649890238#64, 2608012711638119052#64, 6128411473006802146#64,
 8268148722764581231#64, 9286055187155687089#64, 11230858885718282805#64, 13951009754708518548#64,
 16472876342353939154#64, 17275323862435702243#64, 1135362057144423861#64, 2597628984639134821#64,
 3308224258029322869#64, 5365058923640841347#64, 6679025012923562964#64, 8573033837759648693#64,
 10970295158949994411#64, 12119686244451234320#64, 12683024718118986047#64, 13788192230050041572#64,
 14330467153632333762#64, 15395433587784984357#64, 489312712824947311#64, 1452737877330783856#64,
 2861767655752347644#64, 3322285676063803686#64, 5560940570517711597#64, 5996557281743188959#64,
 7280758554555802590#64, 8532644243296465576#64, 9350256976987008742#64, 10552545826968843579#64,
 11727347734174303076#64, 12113106623233404929#64, 14000437183269869457#64, 14369950271660146224#64,
 15101387698204529176#64, 15463397548674623760#64, 17586052441742319658#64, 1182934255886127544#64,
 1847814050463011016#64, 2177327727835720531#64, 2830643537854262169#64, 3796741975233480872#64,
 4115178125766777443#64, 5681478168544905931#64, 6601373596472566643#64, 7507060721942968483#64,
 8399075790359081724#64, 8693463985226723168#64, 9568029438360202098#64, 10144078919501101548#64,
 10430055236837252648#64, 11840083180663258601#64, 13761210420658862357#64, 14299343276471374635#64,
 14566680578165727644#64, 15097957966210449927#64, 16922976911328602910#64, 17689382322260857208#64,
 500013540394364858#64, 748580250866718886#64, 1242879168328830382#64, 1977374033974150939#64,
 2944078676154940804#64, 3659926193048069267#64, 4368137639120453308#64, 4836135668995329356#64,
 5532061633213252278#64, 6448918945643986474#64, 6902733635092675308#64, 7801388544844847127#64]
def kw (i : Nat) : BitVec 64 := kws.getD i 0
def stepW (kk ww : BitVec 64) (s : S8) : S8 :=
 ⟨(s.h + bigSigma1W s.e + chooseW s.e s.f s.g + kk + ww) + (bigSigma0W s.a + majorityW s.a s.b s.c), s.a, s.b, s.c,
  s.d + (s.h + bigSigma1W s.e + chooseW s.e s.f s.g + kk + ww), s.e, s.f, s.g⟩
def rnds (l : List (BitVec 64)) (s : S8) : Nat → S8
 | 0 => s
 | n + 1 => stepW (kw n) (l.getD n 0) (rnds l s n)
theorem sch64_ex : ∃ f : List UInt8 → List (BitVec 64), ∀ blk, f blk = sch blk 64 := ⟨_, fun _ => rfl⟩
noncomputable def sch64 : List UInt8 → List (BitVec 64) := Classical.choose sch64_ex
theorem sch64_eq (blk : List UInt8) : sch64 blk = sch blk 64 := Classical.choose_spec sch64_ex blk
theorem rnd80_ex : ∃ f : List (BitVec 64) → S8 → S8, ∀ l s, f l s = rnds l s 80 := ⟨_, fun _ _ => rfl⟩
noncomputable def rnd80 : List (BitVec 64) → S8 → S8 := Classical.choose rnd80_ex
theorem rnd80_eq (l : List (BitVec 64)) (s : S8) : rnd80 l s = rnds l s 80 := Classical.choose_spec rnd80_ex l s
noncomputable def mixS (s : S8) (blk : List UInt8) : S8 := s.add (rnd80 (sch64 blk) s)
noncomputable def HS.mix (H : HS) : HS := { H with st := mixS H.st H.blk }
def Tab (w : World) : Prop := ∀ i, i < 80 → w.cell? ⟨9, i, none⟩ = some (.int .u64 (U (kw i)))
theorem Tab.lt {w : World} (h : Tab w) : 9 < w.heap.size := World.block_lt_of_cell? w _ (h 0 (by omega))
theorem Tab.turn {b : Nat} {w w' : World} (h : Tab w) (ht : Turn b w w') (hb : 9 ≠ b) : Tab w' := fun i hi =>
 (World.cell?_of_block (w := w) (ht.block 9 h.lt hb)).trans (h i hi)
theorem Tab.below {B : Nat} {w w' : World} (h : Tab w) (ht : Below B w w') (hb : 9 < B) : Tab w' := fun i hi =>
 (ht.cell (by exact hb)).trans (h i hi)
def rowLH (l : List (BitVec 64)) (H : HS) : List Value := l.map uv ++ (H.blk.map cv ++ [uv H.hi, uv H.lo])
theorem rowL_set (l : List (BitVec 64)) (H : HS) (i : Nat) (h : i < l.length) (x : BitVec 64) : (rowLH l H).set i (uv x) = rowLH (l.set i x) H := by
 unfold rowLH; rw [List.set_append_left _ _ (by simpa using h), ← List.map_set]
def addTo (s t : S8) : Nat → List (BitVec 64)
 | 0 => s.words
 | k + 1 => (addTo s t k).set k (s.words.getD k 0 + t.words.getD k 0)
theorem addTo_length (s t : S8) (k : Nat) : (addTo s t k).length = 8 := by
 induction k with
 | zero => rfl
 | succ k ih => simp [addTo, ih]
theorem addTo_all (s t : S8) : addTo s t 8 = (s.add t).words := rfl
theorem rowL_get (l : List (BitVec 64)) (H : HS) (i : Nat) (h : i < l.length) : (rowLH l H)[i]? = some (uv (l.getD i 0)) := by
 unfold rowLH; rw [List.getElem?_append_left (by simpa using h)]; simp [h]
theorem addTo_get (s t : S8) (k i : Nat) (h : k ≤ i) : (addTo s t k).getD i 0 = s.words.getD i 0 := by
 induction k with
 | zero => rfl
 | succ k ih =>
  have := ih (by omega)
  simp only [addTo, List.getD_eq_getElem?_getD, List.getElem?_set] at this ⊢
  rw [if_neg (by omega)]; exact this
theorem words_cell (s : S8) : ∀ v ∈ s.words.map uv, v.oneCell' = true := by
 intro v hv; obtain ⟨x, _, rfl⟩ := List.mem_map.1 hv; rfl
theorem under8 : Tryz.prog.underlying 163 = some (.array 8 59) := by kernel_rfl
theorem size8 : (Tryz.prog.info? 163).map (·.size) = some 8 := by kernel_rfl
theorem zero8 (w : World) : (zeroValue 163).run Tryz.prog w = .ok (.agg ((List.replicate 8 (0#64)).map uv).toArray) w := by kernel_rfl
end Go.Proofs.YtccgfabojbjmjaaGreatDoor
