import Derived.Test.YtccgfabojbjmjaaGreatDoorRows
import Derived.WalkSpells
import Derived.WalkLawsBesides
import Derived.Handy
import Derived.Test.YtccgfabojbjmjaaGreatDoorLo14
import Derived.Test.YtccgfabojbjmjaaGreatDoorLo10
set_option maxRecDepth 100000
set_option maxHeartbeats 8000000
namespace Go.Proofs.YtccgfabojbjmjaaGreatDoor
open Go.RowKit
theorem qb9 (l : List UInt8) : qC l < 256 ^ l.length := by
 induction l with
 | nil => simp [qC]
 | cons c l ih =>
  have := c.toNat_lt
  simp only [qC, List.length_cons, Zk]
  omega
theorem qar (l : List UInt8) (j : Nat) : qC l / 256 ^ j % 256 = (l.getD j 0).toNat := by
 induction l generalizing j with
 | nil => simp [qC]
 | cons c l ih =>
  have := c.toNat_lt
  cases j with
  | zero => simp [qC]
  | succ j =>
   have e : (c.toNat + 256 * qC l) / 256 = qC l := by omega
   simp only [qC, Zk, Zl (256 ^ j) 256, ← Nat.div_div_eq_div_mul, e]
   rw [ih j]; simp
theorem Jw (s : ByteArray) (i : Nat) (h : i < s.size) (w : World) : (Instr.index 9 (.string s) (.int .i64 i)).run Tryz.prog w = .ok (.int .u8 (C8 ((bytesOf s).getD i 0))) w := by
 rw [run_index_string w _ _ _ _ (show Tryz.prog.underlying 9 = some .string by kernel_rfl), dif_pos ⟨by omega, by omega⟩]
 have h' : i < s.data.size := h
 simp [bytesOf, C8, ByteArray.getElem_eq_getElem_data, Zj h']
theorem qsk (B : Int) (hB : 0 < B) (k : Nat) (n : Int) (j : Nat) (h : j < k) : (dB B k n).getD j 0 = n / B ^ j % B := by
 induction k generalizing n j with
 | zero => omega
 | succ k ih =>
  cases j with
  | zero => simp [dB]
  | succ j =>
   simp only [dB, List.getD_cons_succ]
   rw [ih (n / B) j (by omega), Int.pow_succ, Int.mul_comm (B ^ j) B, Int.ediv_ediv_of_nonneg (by omega)]
theorem qhA (n j : Nat) (h : j < 10) : (fd n).getD j 0 = ((n / 67108864 ^ j % 67108864 : Nat) : Int) := by
 unfold fd
 rw [qsk _ (by decide) _ _ _ h, Int.natCast_emod, Int.natCast_ediv, Int.natCast_pow, show ((67108864 : Nat) : Int) = 67108864 from rfl]
theorem qdc (i : Nat) : (2 : Nat) ^ i = 67108864 ^ (i / 26) * 2 ^ (i % 26) := by
 rw [show (67108864 : Nat) = 2 ^ 26 by decide, ← Nat.pow_mul, ← Nat.pow_add]; congr 1; omega
theorem qbl (i : Nat) : (2 : Nat) ^ i = 256 ^ (i / 8) * 2 ^ (i % 8) := by
 rw [show (256 : Nat) = 2 ^ 8 by decide, ← Nat.pow_mul, ← Nat.pow_add]; congr 1; omega
theorem qia (i : Nat) : 2 ^ (i % 26) ≤ 33554432 := by
 have : (2 : Nat) ^ (i % 26) ≤ 2 ^ 25 := Nat.pow_le_pow_right (by decide) (by omega)
 exact this
theorem qlm (i : Nat) : 2 ^ (i % 8) ≤ 128 := by
 have : (2 : Nat) ^ (i % 8) ≤ 2 ^ 7 := Nat.pow_le_pow_right (by decide) (by omega)
 exact this
theorem qtg (m i : Nat) (hm : m < 2 ^ i) (_hi : i < 255) : m / 67108864 ^ (i / 26) < 2 ^ (i % 26) := by
 rw [Nat.div_lt_iff_lt_mul (Nat.pow_pos (by decide)), Zl, ← qdc]; exact hm
theorem qr1 (m i : Nat) (hm : m < 2 ^ i) (hi : i < 255) : (fd m).set (i / 26) ((fd m).getD (i / 26) 0 + ((2 ^ (i % 26) : Nat) : Int)) = fd (m + 2 ^ i) := by
 have hj : i / 26 < 10 := by omega
 have hlow := qtg m i hm hi
 have hle := qia i
 have hd : (fd m).getD (i / 26) 0 = ((m / 67108864 ^ (i / 26) : Nat) : Int) := by
  rw [qhA m _ hj, z6 (by omega)]
 have hall : ∀ x ∈ (fd m).set (i / 26) ((fd m).getD (i / 26) 0 + ((2 ^ (i % 26) : Nat) : Int)), 0 ≤ x ∧ x < 67108864 := by
  intro x hx
  rcases List.mem_or_eq_of_mem_set hx with h | h
  · exact yZ m x h
  ·
   rw [h, hd]
   generalize 2 ^ (i % 26) = p at *
   generalize m / 67108864 ^ (i / 26) = q at *
   omega
 have e := qnV 67108864 (by decide) _ hall
 rw [List.length_set, Qo] at e
 rw [← e]
 unfold fd
 refine congrArg (dB 67108864 10) ?_
 have hv : vB 67108864 (dB 67108864 10 (m : Int)) = m := by
  have h255 : m < 57896044618658097711785492504343953926634992332820282019728792003956564819968 := zl hm (Nat.pow_le_pow_right (by decide) (show i ≤ 255 by omega))
  rw [Yd _ (by decide), show (67108864 : Int) ^ 10 = 1852673427797059126777135760139006525652319754650249024631321344126610074238976 from by decide]
  omega
 have hlen : i / 26 < (dB 67108864 10 (m : Int)).length := by rw [ZG]; exact hj
 rw [YI _ _ _ _ hlen, hv, kZ, Int.natCast_add]
 refine congrArg (fun z => (m : Int) + z) ?_
 rw [qdc i, Int.natCast_mul, Int.natCast_pow 67108864, show ((67108864 : Nat) : Int) = 67108864 from rfl, Int.mul_comm]
theorem qeK (N i : Nat) : N % 2 ^ (i + 1) = N % 2 ^ i + if N / 2 ^ i % 2 = 1 then 2 ^ i else 0 := by
 rw [Nat.mod_pow_succ]
 have h := Nat.mod_lt (N / 2 ^ i) (show 0 < 2 by decide)
 split
 · next e => rw [e, Nat.mul_one]
 · next e => rw [show N / 2 ^ i % 2 = 0 by omega, Nat.mul_zero]
theorem qiD (x b r : Nat) (hr : r < b) : x % 2 ^ b / 2 ^ r % 2 = x / 2 ^ r % 2 := by
 obtain ⟨d, rfl⟩ : ∃ d, b = r + (d + 1) := ⟨b - r - 1, by omega⟩
 rw [Nat.pow_add 2 r, Nat.mod_mul_right_div_self, Zk, Zl (2 ^ d) 2, Nat.mod_mul_right_mod]
theorem qkv (l : List UInt8) (i : Nat) : qC l / 2 ^ i % 2 = (l.getD (i / 8) 0).toNat / 2 ^ (i % 8) % 2 := by
 rw [← qar, qbl i, ← Nat.div_div_eq_div_mul, show (256 : Nat) = 2 ^ 8 by decide, qiD _ 8 (i % 8) (by omega)]
theorem qnr (n i : Nat) (hi : i < 255) : (fd n).getD (i / 26) 0 / ((2 ^ (i % 26) : Nat) : Int) % 2 = ((n / 2 ^ i % 2 : Nat) : Int) := by
 rw [qhA n _ (by omega), qdc i, ← Nat.div_div_eq_div_mul]
 have e := qiD (n / 67108864 ^ (i / 26)) 26 (i % 26) (by omega)
 rw [show (2 : Nat) ^ 26 = 67108864 by decide] at e
 rw [← e]
 generalize n / 67108864 ^ (i / 26) % 67108864 = u
 generalize 2 ^ (i % 26) = p
 show ((u : Nat) : Int) / ((p : Nat) : Int) % ((2 : Nat) : Int) = _
 rw [← Int.natCast_ediv, ← Int.natCast_emod]
theorem qbX (n k j : Nat) (h : j < k) : (qI n k).getD j 0 = Qe n j := by simp [qI, List.getD, h]
theorem Ja (n j : Nat) : (Qe n j).toNat = n / 256 ^ j % 256 := by
 unfold Qe
 rw [UInt8.toNat_ofNat']
theorem qls (m i : Nat) (hm : m < 2 ^ i) : m / 256 ^ (i / 8) < 2 ^ (i % 8) := by
 rw [Nat.div_lt_iff_lt_mul (Nat.pow_pos (by decide)), Zl, ← qbl]; exact hm
theorem qgs (m i : Nat) (hm : m < 2 ^ i) (_hi : i < 256) (c : UInt8) (hc : c.toNat = (Qe m (i / 8)).toNat + 2 ^ (i % 8)) : (qI m 32).set (i / 8) c = qI (m + 2 ^ i) 32 := by
 have hlow := qls m i hm
 have hle := qlm i
 apply List.ext_getElem
 · simp [jM]
 ·
  intro j h1 h2
  rw [jM] at h2
  rw [List.getElem_set]
  have g : ∀ n : Nat, ∀ h : j < (qI n 32).length, (qI n 32)[j] = Qe n j := by intro n h; simp [qI]
  rw [g (m + 2 ^ i)]
  apply UInt8.toNat_inj.1
  by_cases hj : i / 8 = j
  ·
   subst hj
   have e : (m + 2 ^ i) / 256 ^ (i / 8) = m / 256 ^ (i / 8) + 2 ^ (i % 8) := by
    rw [qbl i, Zn _ _ (Nat.pow_pos (by decide))]
   rw [if_pos rfl, hc, Ja, Ja, e]
   generalize m / 256 ^ (i / 8) = x at *
   generalize 2 ^ (i % 8) = y at *
   rw [z6 (show x < 256 by omega), z6 (show x + y < 256 by omega)]
  ·
   rw [if_neg hj, g m, Ja, Ja]
   rcases Nat.lt_or_ge j (i / 8) with k | k
   ·
    obtain ⟨d, hd⟩ : ∃ d, i / 8 = j + (d + 1) := ⟨i / 8 - j - 1, by omega⟩
    rw [qbl i, hd, Nat.pow_add 256 j, Zm, Zn _ _ (Nat.pow_pos (by decide)), Zk, Zl (256 ^ d) 256, Zm, Nat.add_mul_mod_self_left]
   ·
    have hlt : m + 2 ^ i < 256 ^ j := by
     have h3 : 2 ^ i + 2 ^ i ≤ 256 ^ j := by
      rw [← Nat.two_mul, ← Nat.pow_succ', show (256 : Nat) = 2 ^ 8 by decide, ← Nat.pow_mul]
      exact Nat.pow_le_pow_right (by decide) (by omega)
     omega
    rw [Nat.div_eq_of_lt hlt, Nat.div_eq_of_lt (by omega)]
open Go.RowKit
def YF (x y z t : Nat) : Array Value := #[nv (wd x 0), nv (wd x 1), nv (wd x 2), nv (wd x 3), nv (wd y 0), nv (wd y 1), nv (wd y 2), nv (wd y 3), nv (wd z 0), nv (wd z 1), nv (wd z 2), nv (wd z 3), nv (wd t 0), nv (wd t 1), nv (wd t 2), nv (wd t 3)]
abbrev pt (x y z t : Nat) : Value := .agg (YF x y z t)
abbrev qpB : Array Value := #[.int .u64 0, .int .u64 0, .int .u64 0, .int .u64 0, .int .u64 0, .int .u64 0, .int .u64 0, .int .u64 0, .int .u64 0, .int .u64 0, .int .u64 0, .int .u64 0, .int .u64 0, .int .u64 0, .int .u64 0, .int .u64 0]
theorem qrk : ∃ fs, Tryz.prog.underlying 82 = some (.struct fs) := ⟨_, Tryz.underlying82⟩
theorem qr9 : (Tryz.prog.info? 82).map (·.size) = some 16 := by kernel_rfl
theorem qhE (x y z t : Nat) : (Tryz.prog.info? 82).map (·.size) = some (YF x y z t).size := qr9
theorem qmm (x y z t : Nat) : (YF x y z t).all (·.oneCell') = true :=
 all_oneCell_toArray (cs := [nv (wd x 0), nv (wd x 1), nv (wd x 2), nv (wd x 3), nv (wd y 0), nv (wd y 1), nv (wd y 2), nv (wd y 3), nv (wd z 0), nv (wd z 1), nv (wd z 2), nv (wd z 3), nv (wd t 0), nv (wd t 1), nv (wd t 2), nv (wd t 3)]) (by intro v hv; simp at hv; rcases hv with rfl | rfl | rfl | rfl | rfl | rfl | rfl | rfl | rfl | rfl | rfl | rfl | rfl | rfl | rfl | rfl <;> rfl)
theorem qqZ (x y z t : Nat) : Tryz.prog.built 82 [(0, .agg (qb x)), (1, .agg (qb y)), (2, .agg (qb z)), (3, .agg (qb t))] = some (YF x y z t) := by kernel_rfl
section
variable {P : Program} (w : World)
end
theorem qt2 (x y z t : Nat) : (Value.agg #[nv (wd x 0), nv (wd x 1), nv (wd x 2), nv (wd x 3), nv (wd y 0), nv (wd y 1), nv (wd y 2), nv (wd y 3), nv (wd z 0), nv (wd z 1), nv (wd z 2), nv (wd z 3), nv (wd t 0), nv (wd t 1), nv (wd t 2), nv (wd t 3)]) = .agg (YF x y z t) := rfl
theorem qcX (a b : Nat) (ha : a < P) (hb : b < P) (w : World) :
  zC 93 #[fe a, fe b] w (.agg #[nv (wd (mP a b) 0), nv (wd (mP a b) 1), nv (wd (mP a b) 2), nv (wd (mP a b) 3)]) := jF a b ha hb w
theorem qvv (w : World) (A B C D E : Obj) : (((((w.alloc A).alloc B).alloc C).alloc D).alloc E).heap[w.heap.size]? = some A := by
 rw [zb _ _ (by simp only [World.size_alloc]; omega), zb _ _ (by simp only [World.size_alloc]; omega)]; exact JO _ _ _ _
theorem quz (w : World) (A B C D E : Obj) : (((((w.alloc A).alloc B).alloc C).alloc D).alloc E).heap[w.heap.size + 1]? = some B := by
 rw [zb _ _ (by simp only [World.size_alloc]; omega), zb _ _ (by simp only [World.size_alloc]; omega)]; exact Jm _ _ _ _
theorem quL (w : World) (A B C D E : Obj) : (((((w.alloc A).alloc B).alloc C).alloc D).alloc E).heap[w.heap.size + 2]? = some C := by
 rw [zb _ _ (by simp only [World.size_alloc]; omega), zb _ _ (by simp only [World.size_alloc]; omega)]; exact Jb _ _ _ _
theorem quW (w : World) (A B C D E : Obj) : (((((w.alloc A).alloc B).alloc C).alloc D).alloc E).heap[w.heap.size + 3]? = some D := by
 have := Jm ((w.alloc A).alloc B) C D E
 simpa using this
theorem qvw (w : World) (A B C D E : Obj) : (((((w.alloc A).alloc B).alloc C).alloc D).alloc E).heap[w.heap.size + 4]? = some E := by
 have := Jb ((w.alloc A).alloc B) C D E
 simpa using this
section
attribute [local go_sem] qt2
theorem qpR (xa xb xc xd : Nat) (he : xa < P) (hf : xb < P) (hg : xc < P) (hh : xd < P) (w : World) :
  zC 121 #[fe xa, fe xb, fe xc, fe xd] w (pt (mP xa xb) (mP xc xd) (mP xb xc) (mP xa xd)) := by
 have He := qa he; have Hf := qa hf; have Hg := qa hg; have Hh := qa hh; clear he hf hg hh
 obtain ⟨fs, HU⟩ : ∃ fs, Hid (Tryz.prog.underlying 82 = some (.struct fs)) := qrk
 go_enter Tryz.func121, Tryz.ntmps121
 go_wp2_with fail
 obtain ⟨W0, hW0⟩ := zy ((((((w.alloc (.cells (qb xa) 80)).alloc (.cells (qb xb) 80)).alloc (.cells (qb xc) 80)).alloc (.cells (qb xd) 80)).alloc (.cells qpB 82)))
 rw [← hW0]
 have R0 : Hid (qi W0 w.heap.size (qb xa) 80) := by rw [hW0]; exact qvv _ _ _ _ _ _
 have R1 : Hid (qi W0 (w.heap.size + 1) (qb xb) 80) := by rw [hW0]; exact quz _ _ _ _ _ _
 have R2 : Hid (qi W0 (w.heap.size + 2) (qb xc) 80) := by rw [hW0]; exact quL _ _ _ _ _ _
 have R3 : Hid (qi W0 (w.heap.size + 3) (qb xd) 80) := by rw [hW0]; exact quW _ _ _ _ _ _
 have RZ : Hid (qi W0 (w.heap.size + 4) qpB 82) := by rw [hW0]; exact qvw _ _ _ _ _ _
 have BL0 : Hid (zB w W0) := by rw [hW0]; show Below _ _ _; go_grown
 have Z0 : Hid (w.heap.size + 4 < W0.heap.size) := qm RZ.o
 clear hW0
 obtain ⟨a0, a1, a2, a3⟩ := qn R0.o
 obtain ⟨b0, b1, b2, b3⟩ := qn R1.o
 obtain ⟨c0, c1, c2, c3⟩ := qn R2.o
 obtain ⟨d0, d1, d2, d3⟩ := qn R3.o
 go_region_held3 (fun w' => C4 w' w.heap.size xa ∧ C4 w' (w.heap.size + 1) xb ∧ C4 w' (w.heap.size + 2) xc ∧ C4 w' (w.heap.size + 3) xd)
  (first | exact ⟨jj (qr (qn R0.o) K3.o (qm R0.o)) (by omega), jj (qr (qn R1.o) K3.o (qm R1.o)) (by omega), jj (qr (qn R2.o) K3.o (qm R2.o)) (by omega), jj (qr (qn R3.o) K3.o (qm R3.o)) (by omega)⟩ | exact ⟨qr (qn R0.o) K3.o (qm R0.o), qr (qn R1.o) K3.o (qm R1.o), qr (qn R2.o) K3.o (qm R2.o), qr (qn R3.o) K3.o (qm R3.o)⟩ | exact ⟨qr (qn R0.o) K2.o (qm R0.o), qr (qn R1.o) K2.o (qm R1.o), qr (qn R2.o) K2.o (qm R2.o), qr (qn R3.o) K2.o (qm R3.o)⟩ | exact ⟨qr (qn R0.o) K1.o (qm R0.o), qr (qn R1.o) K1.o (qm R1.o), qr (qn R2.o) K1.o (qm R2.o), qr (qn R3.o) K1.o (qm R3.o)⟩ | exact ⟨qr (qn R0.o) K0.o (qm R0.o), qr (qn R1.o) K0.o (qm R1.o), qr (qn R2.o) K0.o (qm R2.o), qr (qn R3.o) K0.o (qm R3.o)⟩ | exact ⟨qn R0.o, qn R1.o, qn R2.o, qn R3.o⟩ | go_keep)
  (first
   | (go_at_call 93; (fail_if_success (have zz := K0)); refine (qcX xa xb He.o Hf.o _).mono ?_; rintro ee V0 ⟨rfl, HB⟩; have K0 : Hid (zB W0 V0) := qa (Zt HB); clear HB)
   | (go_at_call 93; (fail_if_success (have zz := K1)); (have zz := K0; clear zz); refine (qcX xc xd Hg.o Hh.o _).mono ?_; rintro ee V1 ⟨rfl, HB⟩; have K1 : Hid (zB W0 V1) := qa (K0.o.trans (HB.mono K0.o.size)); clear HB)
   | (go_at_call 93; (fail_if_success (have zz := K2)); (have zz := K1; clear zz); refine (qcX xb xc Hf.o Hg.o _).mono ?_; rintro ee V2 ⟨rfl, HB⟩; have K2 : Hid (zB W0 V2) := qa (K1.o.trans (HB.mono K1.o.size)); clear HB)
   | (go_at_call 93; (fail_if_success (have zz := K3)); (have zz := K2; clear zz); refine (qcX xa xd He.o Hh.o _).mono ?_; rintro ee V3 ⟨rfl, HB⟩; have K3 : Hid (zB W0 V3) := qa (K2.o.trans (HB.mono K2.o.size)); clear HB; have hst := jP (P := Tryz.prog) (cs := YF (mP xa xb) (mP xc xd) (mP xb xc) (mP xa xd)) ((K3.o.block _ Z0.o).trans RZ.o) rfl (qmm _ _ _ _); have hs16 : (YF (mP xa xb) (mP xc xd) (mP xb xc) (mP xa xd)).size = 16 := rfl))
 clear a0 a1 a2 a3 b0 b1 b2 b3 c0 c1 c2 c3 d0 d1 d2 d3 hst hs16
 go_wp2_with fail
 refine zh (v := pt (mP xa xb) (mP xc xd) (mP xb xc) (mP xa xd)) (results_cell_row Tryz.results121 _ _ (w.heap.size + 4) 82 (YF (mP xa xb) (mP xc xd) (mP xb xc) (mP xa xd)) (0, 0) _ (by rfl) (zd _ _ _ _ _ _ ((K3.o.block _ Z0.o).trans RZ.o)) HU.o rfl (qhE _ _ _ _)) rfl ⟨rfl, ze (BL0.o.trans (K3.o.mono BL0.o.size)) (by omega) _⟩
end
end Go.Proofs.YtccgfabojbjmjaaGreatDoor
