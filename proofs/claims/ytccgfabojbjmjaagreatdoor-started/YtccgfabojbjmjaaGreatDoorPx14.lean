import Derived.Test.YtccgfabojbjmjaaGreatDoorPx10
import Derived.Test.YtccgfabojbjmjaaGreatDoorPx12
import Derived.ChangeKeysEq
import Derived.Laws.ResultCell
import Derived.Test.YtccgfabojbjmjaaGreatDoorRows
import Derived.WalkSpells
import Derived.WalkLawsBesides
import Derived.Handy
import Derived.Test.YtccgfabojbjmjaaGreatDoorPx13
namespace Go.Proofs.YtccgfabojbjmjaaGreatDoor
open Go.RowKit
theorem and1 (x : Nat) (h : x < 18446744073709551616) : bits .and .u64 (V x) 1 = V (x % 2) := by
 have e := bits_and_u64_nat x 1 h (by omega)
 have e2 : x &&& 1 = x % 2 := Nat.and_two_pow_sub_one_eq_mod x 1
 rw [e2] at e
 exact e
theorem wd_lt (n q : Nat) : wd n q < 18446744073709551616 := Nat.mod_lt _ (by decide)
theorem wd0_mod2 (n : Nat) : wd n 0 % 2 = n % 2 := by unfold wd; rw [Nat.pow_zero, Nat.div_one]; omega
set_option maxHeartbeats 400000 in
theorem feIsOdd (a : Nat) (w : World) :
  Calls Tryz.prog 95 #[fe a] w fun e w' => e = .returned (.bool (decide (a % 2 = 1))) ∧ Below w.heap.size w w' := by
 have h1 := and1 (wd a 0) (wd_lt a 0)
 have HB : Hid ((V (wd a 0 % 2) == 1) = decide (a % 2 = 1)) := by
  show _ = _
  rw [wd0_mod2]
  have : a % 2 = 0 ∨ a % 2 = 1 := by omega
  rcases this with h | h <;> rw [h] <;> rfl
 show Calls Tryz.prog 95 #[.agg #[nv (wd a 0), nv (wd a 1), nv (wd a 2), nv (wd a 3)]] w _
 go_enter Tryz.func95, Tryz.ntmps95
 go_wp2_with fail
 go_returns
 exact ⟨by rw [← HB.out]; rfl, by go_grown⟩
set_option maxRecDepth 100000 in
set_option maxHeartbeats 400000 in
theorem feBytes (a : Nat) (w : World) :
  Calls Tryz.prog 94 #[fe a] w fun e w' => e = .returned (.agg ((leB a 32).map cv).toArray) ∧ Below w.heap.size w w' := by
 have hz := zero32
 show Calls Tryz.prog 94 #[.agg #[nv (wd a 0), nv (wd a 1), nv (wd a 2), nv (wd a 3)]] w _
 go_enter Tryz.func94, Tryz.ntmps94
 go_wp2_with fail
 refine (bytes_wd a _).mono ?_
 rintro e W1 ⟨rfl, hB⟩
 have hz1 := hB.size
 simp only [World.size_alloc] at hB hz1
 obtain ⟨R, HR⟩ : ∃ R, Hid (R = (leB a 32).map cv) := ⟨_, rfl⟩
 rw [← HR.out]
 have hRl : R.length = 32 := by rw [HR.out, List.length_map, leB_length]
 have HSz : Hid ((Tryz.prog.info? 61).map (·.size) = some R.toArray.size) := by show _ = _; rw [size32]; simp [hRl]
 have HOo : Hid (z32.size = R.toArray.size) := by show _ = _; simp [hRl]; rfl
 have HA : Hid (R.toArray.all (·.oneCell') = true) := by rw [HR.out]; exact all_oneCell_toArray (bytes_cell _)
 have H1 : Hid (W1.heap[w.heap.size + 1]? = some (.cells z32 61 (0, 0))) := (hB.block _ (by omega)).trans (heap_alloc2_new _ _ _)
 have HB : Hid (Below w.heap.size w W1) := (((Below.refl _ w).alloc (Nat.le_refl _) _).alloc (by simp) _).trans (hB.mono (by omega))
 clear hB hRl hz
 go_wp2_with (first | (refine wpList_store_row (by rfl) 61 (.tmp 2) (.tmp 4) (by rfl) (w.heap.size + 1) R.toArray (by rfl) (by rfl) 61 _ H1.out HSz.out HOo.out HA.out ?_))
 refine bodyPost_ret (v := .agg R.toArray) (results_cell_row Tryz.results94 _ _ (w.heap.size + 1) 61 R.toArray (0, 0) _ (by rfl) (setRow_heap _ _ _ _ _ _ H1.out) under32 rfl HSz.out) rfl ⟨by rw [HR.out], below_setRow HB.out (by omega) _⟩
def fA (n : Nat) : Array Value := ((fd n).map iv).toArray
theorem fd_small (n : Nat) (h : n < 67108864) : fd n = (n : Int) :: List.replicate 9 0 := by
 have hall : ∀ x ∈ (n : Int) :: List.replicate 9 (0 : Int), 0 ≤ x ∧ x < 67108864 := by
  intro x hx
  simp only [List.mem_cons, List.mem_replicate] at hx
  omega
 have e := dB_vB 67108864 (by decide) _ hall
 have e2 : vB 67108864 ((n : Int) :: List.replicate 9 0) = n := by simp [vB]
 rw [e2] at e
 exact e
theorem fA_small (n : Nat) (h : n < 67108864) : fA n = #[iv n, iv 0, iv 0, iv 0, iv 0, iv 0, iv 0, iv 0, iv 0, iv 0] := by
 unfold fA; rw [fd_small n h]; rfl
theorem row_keep' {w w' : World} {g : Nat} {o : Obj} (h : w.heap[g]? = some o) (hb : Below w.heap.size w w') : w'.heap[g]? = some o := (hb.block g (lt_row h)).trans h
section
attribute [local irreducible] fA
def onesN (a : Nat) : Nat → Nat
 | 0 => 1
 | n + 1 => mP (sqN 1 (onesN a n)) a
theorem onesN_lt (a n : Nat) : onesN a n < P := by
 cases n with
 | zero => exact (by decide : 1 < P)
 | succ n => exact mP_lt _ _
end
section
attribute [local irreducible] fA
def invD (a : Nat) : Nat := mP (sqN 1 (mP (sqN 2 (mP (sqN 2 (onesN a 250)) a)) a)) a
theorem invD_lt (a : Nat) : invD a < P := mP_lt _ _
def m1D : Nat := mP (sqN 1 (mP (sqN 2 (onesN 2 250)) 2)) 2
end
theorem valLE_lt (l : List UInt8) : valLE l < 256 ^ l.length := by
 induction l with
 | nil => simp [valLE]
 | cons c l ih =>
  have := c.toNat_lt
  simp only [valLE, List.length_cons, Nat.pow_succ]
  omega
theorem valLE_byte (l : List UInt8) (j : Nat) : valLE l / 256 ^ j % 256 = (l.getD j 0).toNat := by
 induction l generalizing j with
 | nil => simp [valLE]
 | cons c l ih =>
  have := c.toNat_lt
  cases j with
  | zero => simp [valLE]
  | succ j =>
   have e : (c.toNat + 256 * valLE l) / 256 = valLE l := by omega
   simp only [valLE, Nat.pow_succ, Nat.mul_comm (256 ^ j) 256, ← Nat.div_div_eq_div_mul, e]
   rw [ih j]; simp
theorem strAt (s : ByteArray) (i : Nat) (h : i < s.size) (w : World) : (Instr.index 9 (.string s) (.int .i64 i)).run Tryz.prog w = .ok (.int .u8 (C8 ((bytesOf s).getD i 0))) w := by
 rw [run_index_string w _ _ _ _ (show Tryz.prog.underlying 9 = some .string by kernel_rfl), dif_pos ⟨by omega, by omega⟩]
 have h' : i < s.data.size := h
 simp [bytesOf, C8, ByteArray.getElem_eq_getElem_data, Array.getElem?_eq_getElem h']
theorem pow_split8 (i : Nat) : (2 : Nat) ^ i = 256 ^ (i / 8) * 2 ^ (i % 8) := by
 rw [show (256 : Nat) = 2 ^ 8 by decide, ← Nat.pow_mul, ← Nat.pow_add]; congr 1; omega
theorem pow8_le (i : Nat) : 2 ^ (i % 8) ≤ 128 := by
 have : (2 : Nat) ^ (i % 8) ≤ 2 ^ 7 := Nat.pow_le_pow_right (by decide) (by omega)
 exact this
theorem leB_getD (n k j : Nat) (h : j < k) : (leB n k).getD j 0 = byteLE n j := by simp [leB, List.getD, h]
theorem byteLE_nat (n j : Nat) : (byteLE n j).toNat = n / 256 ^ j % 256 := by
 unfold byteLE
 rw [UInt8.toNat_ofNat']
theorem leB_low (m i : Nat) (hm : m < 2 ^ i) : m / 256 ^ (i / 8) < 2 ^ (i % 8) := by
 rw [Nat.div_lt_iff_lt_mul (Nat.pow_pos (by decide)), Nat.mul_comm, ← pow_split8]; exact hm
theorem leB_bit (m i : Nat) (hm : m < 2 ^ i) (_hi : i < 256) (c : UInt8) (hc : c.toNat = (byteLE m (i / 8)).toNat + 2 ^ (i % 8)) : (leB m 32).set (i / 8) c = leB (m + 2 ^ i) 32 := by
 have hlow := leB_low m i hm
 have hle := pow8_le i
 apply List.ext_getElem
 · simp [leB_length]
 ·
  intro j h1 h2
  rw [leB_length] at h2
  rw [List.getElem_set]
  have g : ∀ n : Nat, ∀ h : j < (leB n 32).length, (leB n 32)[j] = byteLE n j := by intro n h; simp [leB]
  rw [g (m + 2 ^ i)]
  apply UInt8.toNat_inj.1
  by_cases hj : i / 8 = j
  ·
   subst hj
   have e : (m + 2 ^ i) / 256 ^ (i / 8) = m / 256 ^ (i / 8) + 2 ^ (i % 8) := by
    rw [pow_split8 i, Nat.add_mul_div_left _ _ (Nat.pow_pos (by decide))]
   rw [if_pos rfl, hc, byteLE_nat, byteLE_nat, e]
   generalize m / 256 ^ (i / 8) = x at *
   generalize 2 ^ (i % 8) = y at *
   rw [Nat.mod_eq_of_lt (show x < 256 by omega), Nat.mod_eq_of_lt (show x + y < 256 by omega)]
  ·
   rw [if_neg hj, g m, byteLE_nat, byteLE_nat]
   rcases Nat.lt_or_ge j (i / 8) with k | k
   ·
    obtain ⟨d, hd⟩ : ∃ d, i / 8 = j + (d + 1) := ⟨i / 8 - j - 1, by omega⟩
    rw [pow_split8 i, hd, Nat.pow_add 256 j, Nat.mul_assoc, Nat.add_mul_div_left _ _ (Nat.pow_pos (by decide)), Nat.pow_succ, Nat.mul_comm (256 ^ d) 256, Nat.mul_assoc, Nat.add_mul_mod_self_left]
   ·
    have hlt : m + 2 ^ i < 256 ^ j := by
     have h3 : 2 ^ i + 2 ^ i ≤ 256 ^ j := by
      rw [← Nat.two_mul, ← Nat.pow_succ', show (256 : Nat) = 2 ^ 8 by decide, ← Nat.pow_mul]
      exact Nat.pow_le_pow_right (by decide) (by omega)
     omega
    rw [Nat.div_eq_of_lt hlt, Nat.div_eq_of_lt (by omega)]
def ptA (x y z t : Nat) : Array Value := #[nv (wd x 0), nv (wd x 1), nv (wd x 2), nv (wd x 3), nv (wd y 0), nv (wd y 1), nv (wd y 2), nv (wd y 3), nv (wd z 0), nv (wd z 1), nv (wd z 2), nv (wd z 3), nv (wd t 0), nv (wd t 1), nv (wd t 2), nv (wd t 3)]
abbrev pt (x y z t : Nat) : Value := .agg (ptA x y z t)
abbrev zero16 : Array Value := #[.int .u64 0, .int .u64 0, .int .u64 0, .int .u64 0, .int .u64 0, .int .u64 0, .int .u64 0, .int .u64 0, .int .u64 0, .int .u64 0, .int .u64 0, .int .u64 0, .int .u64 0, .int .u64 0, .int .u64 0, .int .u64 0]
theorem underPt : ∃ fs, Tryz.prog.underlying 82 = some (.struct fs) := ⟨_, Tryz.underlying82⟩
theorem sizePt : (Tryz.prog.info? 82).map (·.size) = some 16 := by kernel_rfl
theorem ptA_size (x y z t : Nat) : (Tryz.prog.info? 82).map (·.size) = some (ptA x y z t).size := sizePt
theorem ptA_all (x y z t : Nat) : (ptA x y z t).all (·.oneCell') = true :=
 all_oneCell_toArray (cs := [nv (wd x 0), nv (wd x 1), nv (wd x 2), nv (wd x 3), nv (wd y 0), nv (wd y 1), nv (wd y 2), nv (wd y 3), nv (wd z 0), nv (wd z 1), nv (wd z 2), nv (wd z 3), nv (wd t 0), nv (wd t 1), nv (wd t 2), nv (wd t 3)]) (by intro v hv; simp at hv; rcases hv with rfl | rfl | rfl | rfl | rfl | rfl | rfl | rfl | rfl | rfl | rfl | rfl | rfl | rfl | rfl | rfl <;> rfl)
theorem builtPt (x y z t : Nat) : Tryz.prog.built 82 [(0, .agg (num4A x)), (1, .agg (num4A y)), (2, .agg (num4A z)), (3, .agg (num4A t))] = some (ptA x y z t) := by kernel_rfl
section
variable {P : Program} (w : World)
end
theorem fold16 (x y z t : Nat) : (Value.agg #[nv (wd x 0), nv (wd x 1), nv (wd x 2), nv (wd x 3), nv (wd y 0), nv (wd y 1), nv (wd y 2), nv (wd y 3), nv (wd z 0), nv (wd z 1), nv (wd z 2), nv (wd z 3), nv (wd t 0), nv (wd t 1), nv (wd t 2), nv (wd t 3)]) = .agg (ptA x y z t) := rfl
theorem feTimesE (a b : Nat) (ha : a < P) (hb : b < P) (w : World) :
  Calls Tryz.prog 93 #[fe a, fe b] w fun e w' => e = .returned (.agg #[nv (wd (mP a b) 0), nv (wd (mP a b) 1), nv (wd (mP a b) 2), nv (wd (mP a b) 3)]) ∧ Below w.heap.size w w' := feTimes a b ha hb w
theorem at5_0 (w : World) (A B C D E : Obj) : (((((w.alloc A).alloc B).alloc C).alloc D).alloc E).heap[w.heap.size]? = some A := by
 rw [heap_alloc_old _ _ (by simp only [World.size_alloc]; omega), heap_alloc_old _ _ (by simp only [World.size_alloc]; omega)]; exact heap3_0 _ _ _ _
theorem at5_1 (w : World) (A B C D E : Obj) : (((((w.alloc A).alloc B).alloc C).alloc D).alloc E).heap[w.heap.size + 1]? = some B := by
 rw [heap_alloc_old _ _ (by simp only [World.size_alloc]; omega), heap_alloc_old _ _ (by simp only [World.size_alloc]; omega)]; exact heap3_1 _ _ _ _
theorem at5_2 (w : World) (A B C D E : Obj) : (((((w.alloc A).alloc B).alloc C).alloc D).alloc E).heap[w.heap.size + 2]? = some C := by
 rw [heap_alloc_old _ _ (by simp only [World.size_alloc]; omega), heap_alloc_old _ _ (by simp only [World.size_alloc]; omega)]; exact heap3_2 _ _ _ _
theorem at5_3 (w : World) (A B C D E : Obj) : (((((w.alloc A).alloc B).alloc C).alloc D).alloc E).heap[w.heap.size + 3]? = some D := by
 have := heap3_1 ((w.alloc A).alloc B) C D E
 simpa using this
theorem at5_4 (w : World) (A B C D E : Obj) : (((((w.alloc A).alloc B).alloc C).alloc D).alloc E).heap[w.heap.size + 4]? = some E := by
 have := heap3_2 ((w.alloc A).alloc B) C D E
 simpa using this
section
attribute [local go_sem] fold16
set_option maxRecDepth 100000 in
set_option maxHeartbeats 2000000 in
theorem feParts (xa xb xc xd : Nat) (he : xa < P) (hf : xb < P) (hg : xc < P) (hh : xd < P) (w : World) :
  Calls Tryz.prog 121 #[fe xa, fe xb, fe xc, fe xd] w fun e w' => e = .returned (pt (mP xa xb) (mP xc xd) (mP xb xc) (mP xa xd)) ∧ Below w.heap.size w w' := by
 have He := hide he; have Hf := hide hf; have Hg := hide hg; have Hh := hide hh; clear he hf hg hh
 obtain ⟨fs, HU⟩ : ∃ fs, Hid (Tryz.prog.underlying 82 = some (.struct fs)) := underPt
 go_enter Tryz.func121, Tryz.ntmps121
 go_wp2_with fail
 obtain ⟨W0, hW0⟩ : ∃ W0, W0 = (((((w.alloc (.cells (num4A xa) 80)).alloc (.cells (num4A xb) 80)).alloc (.cells (num4A xc) 80)).alloc (.cells (num4A xd) 80)).alloc (.cells zero16 82)) := ⟨_, rfl⟩
 rw [← hW0]
 have R0 : Hid (W0.heap[w.heap.size]? = some (.cells (num4A xa) 80 (0, 0))) := by rw [hW0]; exact at5_0 _ _ _ _ _ _
 have R1 : Hid (W0.heap[w.heap.size + 1]? = some (.cells (num4A xb) 80 (0, 0))) := by rw [hW0]; exact at5_1 _ _ _ _ _ _
 have R2 : Hid (W0.heap[w.heap.size + 2]? = some (.cells (num4A xc) 80 (0, 0))) := by rw [hW0]; exact at5_2 _ _ _ _ _ _
 have R3 : Hid (W0.heap[w.heap.size + 3]? = some (.cells (num4A xd) 80 (0, 0))) := by rw [hW0]; exact at5_3 _ _ _ _ _ _
 have RZ : Hid (W0.heap[w.heap.size + 4]? = some (.cells zero16 82 (0, 0))) := by rw [hW0]; exact at5_4 _ _ _ _ _ _
 have BL0 : Hid (Below w.heap.size w W0) := by rw [hW0]; show Below _ _ _; go_grown
 have Z0 : Hid (w.heap.size + 4 < W0.heap.size) := lt_of_row RZ.out
 clear hW0
 obtain ⟨a0, a1, a2, a3⟩ := c4_of R0.out
 obtain ⟨b0, b1, b2, b3⟩ := c4_of R1.out
 obtain ⟨c0, c1, c2, c3⟩ := c4_of R2.out
 obtain ⟨d0, d1, d2, d3⟩ := c4_of R3.out
 go_region_held3 (fun w' => C4 w' w.heap.size xa ∧ C4 w' (w.heap.size + 1) xb ∧ C4 w' (w.heap.size + 2) xc ∧ C4 w' (w.heap.size + 3) xd)
  (first | exact ⟨c4_set (c4_below (c4_of R0.out) K3.out (lt_of_row R0.out)) (by omega), c4_set (c4_below (c4_of R1.out) K3.out (lt_of_row R1.out)) (by omega), c4_set (c4_below (c4_of R2.out) K3.out (lt_of_row R2.out)) (by omega), c4_set (c4_below (c4_of R3.out) K3.out (lt_of_row R3.out)) (by omega)⟩ | exact ⟨c4_below (c4_of R0.out) K3.out (lt_of_row R0.out), c4_below (c4_of R1.out) K3.out (lt_of_row R1.out), c4_below (c4_of R2.out) K3.out (lt_of_row R2.out), c4_below (c4_of R3.out) K3.out (lt_of_row R3.out)⟩ | exact ⟨c4_below (c4_of R0.out) K2.out (lt_of_row R0.out), c4_below (c4_of R1.out) K2.out (lt_of_row R1.out), c4_below (c4_of R2.out) K2.out (lt_of_row R2.out), c4_below (c4_of R3.out) K2.out (lt_of_row R3.out)⟩ | exact ⟨c4_below (c4_of R0.out) K1.out (lt_of_row R0.out), c4_below (c4_of R1.out) K1.out (lt_of_row R1.out), c4_below (c4_of R2.out) K1.out (lt_of_row R2.out), c4_below (c4_of R3.out) K1.out (lt_of_row R3.out)⟩ | exact ⟨c4_below (c4_of R0.out) K0.out (lt_of_row R0.out), c4_below (c4_of R1.out) K0.out (lt_of_row R1.out), c4_below (c4_of R2.out) K0.out (lt_of_row R2.out), c4_below (c4_of R3.out) K0.out (lt_of_row R3.out)⟩ | exact ⟨c4_of R0.out, c4_of R1.out, c4_of R2.out, c4_of R3.out⟩ | go_keep)
  (first
   | (go_at_call 93; (fail_if_success (have zz := K0)); refine (feTimesE xa xb He.out Hf.out _).mono ?_; rintro ee V0 ⟨rfl, HB⟩; have K0 : Hid (Below W0.heap.size W0 V0) := hide (undrew HB); clear HB)
   | (go_at_call 93; (fail_if_success (have zz := K1)); (have zz := K0; clear zz); refine (feTimesE xc xd Hg.out Hh.out _).mono ?_; rintro ee V1 ⟨rfl, HB⟩; have K1 : Hid (Below W0.heap.size W0 V1) := hide (K0.out.trans (HB.mono K0.out.size)); clear HB)
   | (go_at_call 93; (fail_if_success (have zz := K2)); (have zz := K1; clear zz); refine (feTimesE xb xc Hf.out Hg.out _).mono ?_; rintro ee V2 ⟨rfl, HB⟩; have K2 : Hid (Below W0.heap.size W0 V2) := hide (K1.out.trans (HB.mono K1.out.size)); clear HB)
   | (go_at_call 93; (fail_if_success (have zz := K3)); (have zz := K2; clear zz); refine (feTimesE xa xd He.out Hh.out _).mono ?_; rintro ee V3 ⟨rfl, HB⟩; have K3 : Hid (Below W0.heap.size W0 V3) := hide (K2.out.trans (HB.mono K2.out.size)); clear HB; have hst := storeRow_run (P := Tryz.prog) (cs := ptA (mP xa xb) (mP xc xd) (mP xb xc) (mP xa xd)) ((K3.out.block _ Z0.out).trans RZ.out) rfl (ptA_all _ _ _ _); have hs16 : (ptA (mP xa xb) (mP xc xd) (mP xb xc) (mP xa xd)).size = 16 := rfl))
 clear a0 a1 a2 a3 b0 b1 b2 b3 c0 c1 c2 c3 d0 d1 d2 d3 hst hs16
 go_wp2_with fail
 refine bodyPost_ret (v := pt (mP xa xb) (mP xc xd) (mP xb xc) (mP xa xd)) (results_cell_row Tryz.results121 _ _ (w.heap.size + 4) 82 (ptA (mP xa xb) (mP xc xd) (mP xb xc) (mP xa xd)) (0, 0) _ (by rfl) (setRow_heap _ _ _ _ _ _ ((K3.out.block _ Z0.out).trans RZ.out)) HU.out rfl (ptA_size _ _ _ _)) rfl ⟨rfl, below_setRow (BL0.out.trans (K3.out.mono BL0.out.size)) (by omega) _⟩
end
end Go.Proofs.YtccgfabojbjmjaaGreatDoor
