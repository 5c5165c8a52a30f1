import Derived.Test.YtccgfabojbjmjaaGreatDoorVe10
import Derived.Test.YtccgfabojbjmjaaGreatDoorVe13
import Derived.ChangeKeysEq
import Derived.Laws.ResultCell
import Derived.Test.YtccgfabojbjmjaaGreatDoorRows
import Derived.WalkSpells
import Derived.WalkLawsBesides
import Derived.Handy
import Derived.Test.YtccgfabojbjmjaaGreatDoorVe12
namespace Go.Proofs.YtccgfabojbjmjaaGreatDoor
open Go.RowKit
theorem and1 (x : Nat) (h : x < 18446744073709551616) : bits .and .u64 (V x) 1 = V (x % 2) := by
 have e := bits_and_u64_nat x 1 h (by omega)
 have e2 : x &&& 1 = x % 2 := Nat.and_two_pow_sub_one_eq_mod x 1
 rw [e2] at e
 exact e
theorem wd_lt (n q : Nat) : wd n q < 18446744073709551616 := Nat.mod_lt _ (by decide)
theorem wd0_mod2 (n : Nat) : wd n 0 % 2 = n % 2 := by unfold wd; rw [Nat.pow_zero, Nat.div_one]; omega
set_option maxHeartbeats 400000 in
theorem feIsOdd (a : Nat) (w : World) :
  Calls Tryz.prog 95 #[fe a] w fun e w' => e = .returned (.bool (decide (a % 2 = 1))) ∧ Below w.heap.size w w' := by
 have h1 := and1 (wd a 0) (wd_lt a 0)
 have HB : Hid ((V (wd a 0 % 2) == 1) = decide (a % 2 = 1)) := by
  show _ = _
  rw [wd0_mod2]
  have : a % 2 = 0 ∨ a % 2 = 1 := by omega
  rcases this with h | h <;> rw [h] <;> rfl
 show Calls Tryz.prog 95 #[.agg #[nv (wd a 0), nv (wd a 1), nv (wd a 2), nv (wd a 3)]] w _
 go_enter Tryz.func95, Tryz.ntmps95
 go_wp2_with fail
 go_returns
 exact ⟨by rw [← HB.out]; rfl, by go_grown⟩
set_option maxRecDepth 100000 in
set_option maxHeartbeats 400000 in
theorem feBytes (a : Nat) (w : World) :
  Calls Tryz.prog 94 #[fe a] w fun e w' => e = .returned (.agg ((leB a 32).map cv).toArray) ∧ Below w.heap.size w w' := by
 have hz := zero32
 show Calls Tryz.prog 94 #[.agg #[nv (wd a 0), nv (wd a 1), nv (wd a 2), nv (wd a 3)]] w _
 go_enter Tryz.func94, Tryz.ntmps94
 go_wp2_with fail
 refine (bytes_wd a _).mono ?_
 rintro e W1 ⟨rfl, hB⟩
 have hz1 := hB.size
 simp only [World.size_alloc] at hB hz1
 obtain ⟨R, HR⟩ : ∃ R, Hid (R = (leB a 32).map cv) := ⟨_, rfl⟩
 rw [← HR.out]
 have hRl : R.length = 32 := by rw [HR.out, List.length_map, leB_length]
 have HSz : Hid ((Tryz.prog.info? 61).map (·.size) = some R.toArray.size) := by show _ = _; rw [size32]; simp [hRl]
 have HOo : Hid (z32.size = R.toArray.size) := by show _ = _; simp [hRl]; rfl
 have HA : Hid (R.toArray.all (·.oneCell') = true) := by rw [HR.out]; exact all_oneCell_toArray (bytes_cell _)
 have H1 : Hid (W1.heap[w.heap.size + 1]? = some (.cells z32 61 (0, 0))) := (hB.block _ (by omega)).trans (heap_alloc2_new _ _ _)
 have HB : Hid (Below w.heap.size w W1) := (((Below.refl _ w).alloc (Nat.le_refl _) _).alloc (by simp) _).trans (hB.mono (by omega))
 clear hB hRl hz
 go_wp2_with (first | (refine wpList_store_row (by rfl) 61 (.tmp 2) (.tmp 4) (by rfl) (w.heap.size + 1) R.toArray (by rfl) (by rfl) 61 _ H1.out HSz.out HOo.out HA.out ?_))
 refine bodyPost_ret (v := .agg R.toArray) (results_cell_row Tryz.results94 _ _ (w.heap.size + 1) 61 R.toArray (0, 0) _ (by rfl) (setRow_heap _ _ _ _ _ _ H1.out) under32 rfl HSz.out) rfl ⟨by rw [HR.out], below_setRow HB.out (by omega) _⟩
theorem sizeInt : (Tryz.prog.info? 3).map (·.size) = some 1 := by kernel_rfl
theorem underInt : Tryz.prog.underlying 3 = some (.int .i64) := by kernel_rfl
theorem cellsInt : Tryz.prog.cellsOf 3 = 1 := by kernel_rfl
theorem partInt (xs : Array Value) (i : Nat) (x : Int) (h : xs[i]? = some (.int .i64 x)) (w : World) : (part 3 xs i).run Tryz.prog w = .ok (.int .i64 x) w := by
 cases hq : Tryz.prog.info? 3 with
 | none => have := sizeInt; rw [hq] at this; cases this
 | some inf =>
  have hi : inf.size = 1 := by have := sizeInt; rw [hq] at this; simpa using this
  simp [part, sizeOf, typeInfo, hq, hi, h]
theorem iv_at (a : List Int) (i : Nat) (h : i < a.length) : ((a.map iv).toArray)[i]? = some (.int .i64 (a.getD i 0)) := by simp [h, List.getD]
theorem eqItems_iv (d : Nat) (a b : List Int) (w : World) : ∀ (is : List Nat), (∀ i ∈ is, i < a.length ∧ i < b.length) →
  (Op.eqItems (d + 1) 3 1 (a.map iv).toArray (b.map iv).toArray is).run Tryz.prog w = .ok (is.all fun i => a.getD i 0 == b.getD i 0) w
 | [], _ => by simp [Op.eqItems]
 | i :: is, h => by
  obtain ⟨h1, h2⟩ := h i List.mem_cons_self
  have ih := eqItems_iv d a b w is (fun j hj => h j (List.mem_cons_of_mem _ hj))
  have p := partInt _ i _ (iv_at a i h1) w
  have q := partInt _ i _ (iv_at b i h2) w
  have e := run_equalIn_int (P := Tryz.prog) w d 3 .i64 .i64 (a.getD i 0) (b.getD i 0) underInt
  simp only [Op.eqItems, Sem.run_bind, Nat.mul_one, p, q, Result.andThen_ok, e, List.all_cons]
  cases (a.getD i 0 == b.getD i 0)
  · simp
  · simpa using ih
theorem list_eq_of (a b : List Int) (hl : a.length = b.length) : ((List.range a.length).all fun i => a.getD i 0 == b.getD i 0) = decide (a = b) := by
 by_cases h : a = b
 · subst h; simp
 ·
  rw [decide_eq_false h]
  rw [Bool.eq_false_iff]
  intro hh
  apply h
  apply List.ext_getElem hl
  intro i h1 h2
  have := (List.all_eq_true.1 hh) i (List.mem_range.2 h1)
  simpa [List.getD, h1, h2] using this
theorem eqF (a b : List Int) (ha : a.length = 10) (hb : b.length = 10) (w : World) :
  (Op.equalIn 10000 95 (.agg (a.map iv).toArray) (.agg (b.map iv).toArray)).run Tryz.prog w = .ok (decide (a = b)) w := by
 cases hq : Tryz.prog.info? 3 with
 | none => have := sizeInt; rw [hq] at this; cases this
 | some inf =>
  rw [show (10000 : Nat) = 9998 + 1 + 1 from rfl, run_equalIn_array w _ _ _ underF hq, cellsInt, eqItems_iv 9998 a b w _ (fun i hi => by rw [List.mem_range] at hi; omega)]
  have e := list_eq_of a b (by rw [ha, hb])
  rw [ha] at e
  rw [e]
theorem fd_inj {a b : Nat} (ha : a < P) (hb : b < P) (h : fd a = fd b) : a = b := by
 have e := congrArg (vB 67108864) h
 rw [fd_val a ha, fd_val b hb] at e
 omega
theorem eqA (a b : Nat) (ha : a < P) (hb : b < P) (w : World) :
  (Op.equalIn 10000 95 (.agg (fA a)) (.agg (fA b))).run Tryz.prog w = .ok (decide (a = b)) w := by
 refine (eqF (fd a) (fd b) (fd_length a) (fd_length b) w).trans ?_
 congr 1
 by_cases h : a = b
 · subst h; simp
 · rw [decide_eq_false h, decide_eq_false (fun e => h (fd_inj ha hb e))]
theorem valLE_lt (l : List UInt8) : valLE l < 256 ^ l.length := by
 induction l with
 | nil => simp [valLE]
 | cons c l ih =>
  have := c.toNat_lt
  simp only [valLE, List.length_cons, Nat.pow_succ]
  omega
theorem valLE_byte (l : List UInt8) (j : Nat) : valLE l / 256 ^ j % 256 = (l.getD j 0).toNat := by
 induction l generalizing j with
 | nil => simp [valLE]
 | cons c l ih =>
  have := c.toNat_lt
  cases j with
  | zero => simp [valLE]
  | succ j =>
   have e : (c.toNat + 256 * valLE l) / 256 = valLE l := by omega
   simp only [valLE, Nat.pow_succ, Nat.mul_comm (256 ^ j) 256, ← Nat.div_div_eq_div_mul, e]
   rw [ih j]; simp
theorem strAt (s : ByteArray) (i : Nat) (h : i < s.size) (w : World) : (Instr.index 9 (.string s) (.int .i64 i)).run Tryz.prog w = .ok (.int .u8 (C8 ((bytesOf s).getD i 0))) w := by
 rw [run_index_string w _ _ _ _ (show Tryz.prog.underlying 9 = some .string by kernel_rfl), dif_pos ⟨by omega, by omega⟩]
 have h' : i < s.data.size := h
 simp [bytesOf, C8, ByteArray.getElem_eq_getElem_data, Array.getElem?_eq_getElem h']
theorem dB_get (B : Int) (hB : 0 < B) (k : Nat) (n : Int) (j : Nat) (h : j < k) : (dB B k n).getD j 0 = n / B ^ j % B := by
 induction k generalizing n j with
 | zero => omega
 | succ k ih =>
  cases j with
  | zero => simp [dB]
  | succ j =>
   simp only [dB, List.getD_cons_succ]
   rw [ih (n / B) j (by omega), Int.pow_succ, Int.mul_comm (B ^ j) B, Int.ediv_ediv_of_nonneg (by omega)]
theorem fd_get (n j : Nat) (h : j < 10) : (fd n).getD j 0 = ((n / 67108864 ^ j % 67108864 : Nat) : Int) := by
 unfold fd
 rw [dB_get _ (by decide) _ _ _ h, Int.natCast_emod, Int.natCast_ediv, Int.natCast_pow, show ((67108864 : Nat) : Int) = 67108864 from rfl]
theorem pow_split (i : Nat) : (2 : Nat) ^ i = 67108864 ^ (i / 26) * 2 ^ (i % 26) := by
 rw [show (67108864 : Nat) = 2 ^ 26 by decide, ← Nat.pow_mul, ← Nat.pow_add]; congr 1; omega
theorem pow_split8 (i : Nat) : (2 : Nat) ^ i = 256 ^ (i / 8) * 2 ^ (i % 8) := by
 rw [show (256 : Nat) = 2 ^ 8 by decide, ← Nat.pow_mul, ← Nat.pow_add]; congr 1; omega
theorem pow26_le (i : Nat) : 2 ^ (i % 26) ≤ 33554432 := by
 have : (2 : Nat) ^ (i % 26) ≤ 2 ^ 25 := Nat.pow_le_pow_right (by decide) (by omega)
 exact this
theorem pow8_le (i : Nat) : 2 ^ (i % 8) ≤ 128 := by
 have : (2 : Nat) ^ (i % 8) ≤ 2 ^ 7 := Nat.pow_le_pow_right (by decide) (by omega)
 exact this
theorem fd_low (m i : Nat) (hm : m < 2 ^ i) (_hi : i < 255) : m / 67108864 ^ (i / 26) < 2 ^ (i % 26) := by
 rw [Nat.div_lt_iff_lt_mul (Nat.pow_pos (by decide)), Nat.mul_comm, ← pow_split]; exact hm
theorem fd_bit (m i : Nat) (hm : m < 2 ^ i) (hi : i < 255) : (fd m).set (i / 26) ((fd m).getD (i / 26) 0 + ((2 ^ (i % 26) : Nat) : Int)) = fd (m + 2 ^ i) := by
 have hj : i / 26 < 10 := by omega
 have hlow := fd_low m i hm hi
 have hle := pow26_le i
 have hd : (fd m).getD (i / 26) 0 = ((m / 67108864 ^ (i / 26) : Nat) : Int) := by
  rw [fd_get m _ hj, Nat.mod_eq_of_lt (by omega)]
 have hall : ∀ x ∈ (fd m).set (i / 26) ((fd m).getD (i / 26) 0 + ((2 ^ (i % 26) : Nat) : Int)), 0 ≤ x ∧ x < 67108864 := by
  intro x hx
  rcases List.mem_or_eq_of_mem_set hx with h | h
  · exact fd_lt m x h
  ·
   rw [h, hd]
   generalize 2 ^ (i % 26) = p at *
   generalize m / 67108864 ^ (i / 26) = q at *
   omega
 have e := dB_vB 67108864 (by decide) _ hall
 rw [List.length_set, fd_length] at e
 rw [← e]
 unfold fd
 refine congrArg (dB 67108864 10) ?_
 have hv : vB 67108864 (dB 67108864 10 (m : Int)) = m := by
  have h255 : m < 57896044618658097711785492504343953926634992332820282019728792003956564819968 := Nat.lt_of_lt_of_le hm (Nat.pow_le_pow_right (by decide) (show i ≤ 255 by omega))
  rw [vB_dB _ (by decide), show (67108864 : Int) ^ 10 = 1852673427797059126777135760139006525652319754650249024631321344126610074238976 from by decide]
  omega
 have hlen : i / 26 < (dB 67108864 10 (m : Int)).length := by rw [dB_length]; exact hj
 rw [vB_set _ _ _ _ hlen, hv, int_cancel, Int.natCast_add]
 refine congrArg (fun z => (m : Int) + z) ?_
 rw [pow_split i, Int.natCast_mul, Int.natCast_pow 67108864, show ((67108864 : Nat) : Int) = 67108864 from rfl, Int.mul_comm]
theorem mod_bit (N i : Nat) : N % 2 ^ (i + 1) = N % 2 ^ i + if N / 2 ^ i % 2 = 1 then 2 ^ i else 0 := by
 rw [Nat.mod_pow_succ]
 have h := Nat.mod_lt (N / 2 ^ i) (show 0 < 2 by decide)
 split
 · next e => rw [e, Nat.mul_one]
 · next e => rw [show N / 2 ^ i % 2 = 0 by omega, Nat.mul_zero]
theorem part_bit (x b r : Nat) (hr : r < b) : x % 2 ^ b / 2 ^ r % 2 = x / 2 ^ r % 2 := by
 obtain ⟨d, rfl⟩ : ∃ d, b = r + (d + 1) := ⟨b - r - 1, by omega⟩
 rw [Nat.pow_add 2 r, Nat.mod_mul_right_div_self, Nat.pow_succ, Nat.mul_comm (2 ^ d) 2, Nat.mod_mul_right_mod]
theorem valLE_bit (l : List UInt8) (i : Nat) : valLE l / 2 ^ i % 2 = (l.getD (i / 8) 0).toNat / 2 ^ (i % 8) % 2 := by
 rw [← valLE_byte, pow_split8 i, ← Nat.div_div_eq_div_mul, show (256 : Nat) = 2 ^ 8 by decide, part_bit _ 8 (i % 8) (by omega)]
theorem fd_bitOf (n i : Nat) (hi : i < 255) : (fd n).getD (i / 26) 0 / ((2 ^ (i % 26) : Nat) : Int) % 2 = ((n / 2 ^ i % 2 : Nat) : Int) := by
 rw [fd_get n _ (by omega), pow_split i, ← Nat.div_div_eq_div_mul]
 have e := part_bit (n / 67108864 ^ (i / 26)) 26 (i % 26) (by omega)
 rw [show (2 : Nat) ^ 26 = 67108864 by decide] at e
 rw [← e]
 generalize n / 67108864 ^ (i / 26) % 67108864 = u
 generalize 2 ^ (i % 26) = p
 show ((u : Nat) : Int) / ((p : Nat) : Int) % ((2 : Nat) : Int) = _
 rw [← Int.natCast_ediv, ← Int.natCast_emod]
theorem leB_getD (n k j : Nat) (h : j < k) : (leB n k).getD j 0 = byteLE n j := by simp [leB, List.getD, h]
theorem byteLE_nat (n j : Nat) : (byteLE n j).toNat = n / 256 ^ j % 256 := by
 unfold byteLE
 rw [UInt8.toNat_ofNat']
theorem leB_low (m i : Nat) (hm : m < 2 ^ i) : m / 256 ^ (i / 8) < 2 ^ (i % 8) := by
 rw [Nat.div_lt_iff_lt_mul (Nat.pow_pos (by decide)), Nat.mul_comm, ← pow_split8]; exact hm
theorem leB_bit (m i : Nat) (hm : m < 2 ^ i) (_hi : i < 256) (c : UInt8) (hc : c.toNat = (byteLE m (i / 8)).toNat + 2 ^ (i % 8)) : (leB m 32).set (i / 8) c = leB (m + 2 ^ i) 32 := by
 have hlow := leB_low m i hm
 have hle := pow8_le i
 apply List.ext_getElem
 · simp [leB_length]
 ·
  intro j h1 h2
  rw [leB_length] at h2
  rw [List.getElem_set]
  have g : ∀ n : Nat, ∀ h : j < (leB n 32).length, (leB n 32)[j] = byteLE n j := by intro n h; simp [leB]
  rw [g (m + 2 ^ i)]
  apply UInt8.toNat_inj.1
  by_cases hj : i / 8 = j
  ·
   subst hj
   have e : (m + 2 ^ i) / 256 ^ (i / 8) = m / 256 ^ (i / 8) + 2 ^ (i % 8) := by
    rw [pow_split8 i, Nat.add_mul_div_left _ _ (Nat.pow_pos (by decide))]
   rw [if_pos rfl, hc, byteLE_nat, byteLE_nat, e]
   generalize m / 256 ^ (i / 8) = x at *
   generalize 2 ^ (i % 8) = y at *
   rw [Nat.mod_eq_of_lt (show x < 256 by omega), Nat.mod_eq_of_lt (show x + y < 256 by omega)]
  ·
   rw [if_neg hj, g m, byteLE_nat, byteLE_nat]
   rcases Nat.lt_or_ge j (i / 8) with k | k
   ·
    obtain ⟨d, hd⟩ : ∃ d, i / 8 = j + (d + 1) := ⟨i / 8 - j - 1, by omega⟩
    rw [pow_split8 i, hd, Nat.pow_add 256 j, Nat.mul_assoc, Nat.add_mul_div_left _ _ (Nat.pow_pos (by decide)), Nat.pow_succ, Nat.mul_comm (256 ^ d) 256, Nat.mul_assoc, Nat.add_mul_mod_self_left]
   ·
    have hlt : m + 2 ^ i < 256 ^ j := by
     have h3 : 2 ^ i + 2 ^ i ≤ 256 ^ j := by
      rw [← Nat.two_mul, ← Nat.pow_succ', show (256 : Nat) = 2 ^ 8 by decide, ← Nat.pow_mul]
      exact Nat.pow_le_pow_right (by decide) (by omega)
     omega
    rw [Nat.div_eq_of_lt hlt, Nat.div_eq_of_lt (by omega)]
def ptA (x y z t : Nat) : Array Value := #[nv (wd x 0), nv (wd x 1), nv (wd x 2), nv (wd x 3), nv (wd y 0), nv (wd y 1), nv (wd y 2), nv (wd y 3), nv (wd z 0), nv (wd z 1), nv (wd z 2), nv (wd z 3), nv (wd t 0), nv (wd t 1), nv (wd t 2), nv (wd t 3)]
abbrev pt (x y z t : Nat) : Value := .agg (ptA x y z t)
abbrev zero16 : Array Value := #[.int .u64 0, .int .u64 0, .int .u64 0, .int .u64 0, .int .u64 0, .int .u64 0, .int .u64 0, .int .u64 0, .int .u64 0, .int .u64 0, .int .u64 0, .int .u64 0, .int .u64 0, .int .u64 0, .int .u64 0, .int .u64 0]
theorem underPt : ∃ fs, Tryz.prog.underlying 82 = some (.struct fs) := ⟨_, Tryz.underlying82⟩
theorem sizePt : (Tryz.prog.info? 82).map (·.size) = some 16 := by kernel_rfl
theorem ptA_size (x y z t : Nat) : (Tryz.prog.info? 82).map (·.size) = some (ptA x y z t).size := sizePt
theorem ptA_all (x y z t : Nat) : (ptA x y z t).all (·.oneCell') = true :=
 all_oneCell_toArray (cs := [nv (wd x 0), nv (wd x 1), nv (wd x 2), nv (wd x 3), nv (wd y 0), nv (wd y 1), nv (wd y 2), nv (wd y 3), nv (wd z 0), nv (wd z 1), nv (wd z 2), nv (wd z 3), nv (wd t 0), nv (wd t 1), nv (wd t 2), nv (wd t 3)]) (by intro v hv; simp at hv; rcases hv with rfl | rfl | rfl | rfl | rfl | rfl | rfl | rfl | rfl | rfl | rfl | rfl | rfl | rfl | rfl | rfl <;> rfl)
theorem builtPt (x y z t : Nat) : Tryz.prog.built 82 [(0, .agg (num4A x)), (1, .agg (num4A y)), (2, .agg (num4A z)), (3, .agg (num4A t))] = some (ptA x y z t) := by kernel_rfl
section
variable {P : Program} (w : World)
end
theorem fold16 (x y z t : Nat) : (Value.agg #[nv (wd x 0), nv (wd x 1), nv (wd x 2), nv (wd x 3), nv (wd y 0), nv (wd y 1), nv (wd y 2), nv (wd y 3), nv (wd z 0), nv (wd z 1), nv (wd z 2), nv (wd z 3), nv (wd t 0), nv (wd t 1), nv (wd t 2), nv (wd t 3)]) = .agg (ptA x y z t) := rfl
theorem feTimesE (a b : Nat) (ha : a < P) (hb : b < P) (w : World) :
  Calls Tryz.prog 93 #[fe a, fe b] w fun e w' => e = .returned (.agg #[nv (wd (mP a b) 0), nv (wd (mP a b) 1), nv (wd (mP a b) 2), nv (wd (mP a b) 3)]) ∧ Below w.heap.size w w' := feTimes a b ha hb w
theorem at5_0 (w : World) (A B C D E : Obj) : (((((w.alloc A).alloc B).alloc C).alloc D).alloc E).heap[w.heap.size]? = some A := by
 rw [heap_alloc_old _ _ (by simp only [World.size_alloc]; omega), heap_alloc_old _ _ (by simp only [World.size_alloc]; omega)]; exact heap3_0 _ _ _ _
theorem at5_1 (w : World) (A B C D E : Obj) : (((((w.alloc A).alloc B).alloc C).alloc D).alloc E).heap[w.heap.size + 1]? = some B := by
 rw [heap_alloc_old _ _ (by simp only [World.size_alloc]; omega), heap_alloc_old _ _ (by simp only [World.size_alloc]; omega)]; exact heap3_1 _ _ _ _
theorem at5_2 (w : World) (A B C D E : Obj) : (((((w.alloc A).alloc B).alloc C).alloc D).alloc E).heap[w.heap.size + 2]? = some C := by
 rw [heap_alloc_old _ _ (by simp only [World.size_alloc]; omega), heap_alloc_old _ _ (by simp only [World.size_alloc]; omega)]; exact heap3_2 _ _ _ _
theorem at5_3 (w : World) (A B C D E : Obj) : (((((w.alloc A).alloc B).alloc C).alloc D).alloc E).heap[w.heap.size + 3]? = some D := by
 have := heap3_1 ((w.alloc A).alloc B) C D E
 simpa using this
theorem at5_4 (w : World) (A B C D E : Obj) : (((((w.alloc A).alloc B).alloc C).alloc D).alloc E).heap[w.heap.size + 4]? = some E := by
 have := heap3_2 ((w.alloc A).alloc B) C D E
 simpa using this
section
attribute [local go_sem] fold16
set_option maxRecDepth 100000 in
set_option maxHeartbeats 2000000 in
theorem feParts (xa xb xc xd : Nat) (he : xa < P) (hf : xb < P) (hg : xc < P) (hh : xd < P) (w : World) :
  Calls Tryz.prog 121 #[fe xa, fe xb, fe xc, fe xd] w fun e w' => e = .returned (pt (mP xa xb) (mP xc xd) (mP xb xc) (mP xa xd)) ∧ Below w.heap.size w w' := by
 have He := hide he; have Hf := hide hf; have Hg := hide hg; have Hh := hide hh; clear he hf hg hh
 obtain ⟨fs, HU⟩ : ∃ fs, Hid (Tryz.prog.underlying 82 = some (.struct fs)) := underPt
 go_enter Tryz.func121, Tryz.ntmps121
 go_wp2_with fail
 obtain ⟨W0, hW0⟩ : ∃ W0, W0 = (((((w.alloc (.cells (num4A xa) 80)).alloc (.cells (num4A xb) 80)).alloc (.cells (num4A xc) 80)).alloc (.cells (num4A xd) 80)).alloc (.cells zero16 82)) := ⟨_, rfl⟩
 rw [← hW0]
 have R0 : Hid (W0.heap[w.heap.size]? = some (.cells (num4A xa) 80 (0, 0))) := by rw [hW0]; exact at5_0 _ _ _ _ _ _
 have R1 : Hid (W0.heap[w.heap.size + 1]? = some (.cells (num4A xb) 80 (0, 0))) := by rw [hW0]; exact at5_1 _ _ _ _ _ _
 have R2 : Hid (W0.heap[w.heap.size + 2]? = some (.cells (num4A xc) 80 (0, 0))) := by rw [hW0]; exact at5_2 _ _ _ _ _ _
 have R3 : Hid (W0.heap[w.heap.size + 3]? = some (.cells (num4A xd) 80 (0, 0))) := by rw [hW0]; exact at5_3 _ _ _ _ _ _
 have RZ : Hid (W0.heap[w.heap.size + 4]? = some (.cells zero16 82 (0, 0))) := by rw [hW0]; exact at5_4 _ _ _ _ _ _
 have BL0 : Hid (Below w.heap.size w W0) := by rw [hW0]; show Below _ _ _; go_grown
 have Z0 : Hid (w.heap.size + 4 < W0.heap.size) := lt_of_row RZ.out
 clear hW0
 obtain ⟨a0, a1, a2, a3⟩ := c4_of R0.out
 obtain ⟨b0, b1, b2, b3⟩ := c4_of R1.out
 obtain ⟨c0, c1, c2, c3⟩ := c4_of R2.out
 obtain ⟨d0, d1, d2, d3⟩ := c4_of R3.out
 go_region_held3 (fun w' => C4 w' w.heap.size xa ∧ C4 w' (w.heap.size + 1) xb ∧ C4 w' (w.heap.size + 2) xc ∧ C4 w' (w.heap.size + 3) xd)
  (first | exact ⟨c4_set (c4_below (c4_of R0.out) K3.out (lt_of_row R0.out)) (by omega), c4_set (c4_below (c4_of R1.out) K3.out (lt_of_row R1.out)) (by omega), c4_set (c4_below (c4_of R2.out) K3.out (lt_of_row R2.out)) (by omega), c4_set (c4_below (c4_of R3.out) K3.out (lt_of_row R3.out)) (by omega)⟩ | exact ⟨c4_below (c4_of R0.out) K3.out (lt_of_row R0.out), c4_below (c4_of R1.out) K3.out (lt_of_row R1.out), c4_below (c4_of R2.out) K3.out (lt_of_row R2.out), c4_below (c4_of R3.out) K3.out (lt_of_row R3.out)⟩ | exact ⟨c4_below (c4_of R0.out) K2.out (lt_of_row R0.out), c4_below (c4_of R1.out) K2.out (lt_of_row R1.out), c4_below (c4_of R2.out) K2.out (lt_of_row R2.out), c4_below (c4_of R3.out) K2.out (lt_of_row R3.out)⟩ | exact ⟨c4_below (c4_of R0.out) K1.out (lt_of_row R0.out), c4_below (c4_of R1.out) K1.out (lt_of_row R1.out), c4_below (c4_of R2.out) K1.out (lt_of_row R2.out), c4_below (c4_of R3.out) K1.out (lt_of_row R3.out)⟩ | exact ⟨c4_below (c4_of R0.out) K0.out (lt_of_row R0.out), c4_below (c4_of R1.out) K0.out (lt_of_row R1.out), c4_below (c4_of R2.out) K0.out (lt_of_row R2.out), c4_below (c4_of R3.out) K0.out (lt_of_row R3.out)⟩ | exact ⟨c4_of R0.out, c4_of R1.out, c4_of R2.out, c4_of R3.out⟩ | go_keep)
  (first
   | (go_at_call 93; (fail_if_success (have zz := K0)); refine (feTimesE xa xb He.out Hf.out _).mono ?_; rintro ee V0 ⟨rfl, HB⟩; have K0 : Hid (Below W0.heap.size W0 V0) := hide (undrew HB); clear HB)
   | (go_at_call 93; (fail_if_success (have zz := K1)); (have zz := K0; clear zz); refine (feTimesE xc xd Hg.out Hh.out _).mono ?_; rintro ee V1 ⟨rfl, HB⟩; have K1 : Hid (Below W0.heap.size W0 V1) := hide (K0.out.trans (HB.mono K0.out.size)); clear HB)
   | (go_at_call 93; (fail_if_success (have zz := K2)); (have zz := K1; clear zz); refine (feTimesE xb xc Hf.out Hg.out _).mono ?_; rintro ee V2 ⟨rfl, HB⟩; have K2 : Hid (Below W0.heap.size W0 V2) := hide (K1.out.trans (HB.mono K1.out.size)); clear HB)
   | (go_at_call 93; (fail_if_success (have zz := K3)); (have zz := K2; clear zz); refine (feTimesE xa xd He.out Hh.out _).mono ?_; rintro ee V3 ⟨rfl, HB⟩; have K3 : Hid (Below W0.heap.size W0 V3) := hide (K2.out.trans (HB.mono K2.out.size)); clear HB; have hst := storeRow_run (P := Tryz.prog) (cs := ptA (mP xa xb) (mP xc xd) (mP xb xc) (mP xa xd)) ((K3.out.block _ Z0.out).trans RZ.out) rfl (ptA_all _ _ _ _); have hs16 : (ptA (mP xa xb) (mP xc xd) (mP xb xc) (mP xa xd)).size = 16 := rfl))
 clear a0 a1 a2 a3 b0 b1 b2 b3 c0 c1 c2 c3 d0 d1 d2 d3 hst hs16
 go_wp2_with fail
 refine bodyPost_ret (v := pt (mP xa xb) (mP xc xd) (mP xb xc) (mP xa xd)) (results_cell_row Tryz.results121 _ _ (w.heap.size + 4) 82 (ptA (mP xa xb) (mP xc xd) (mP xb xc) (mP xa xd)) (0, 0) _ (by rfl) (setRow_heap _ _ _ _ _ _ ((K3.out.block _ Z0.out).trans RZ.out)) HU.out rfl (ptA_size _ _ _ _)) rfl ⟨rfl, below_setRow (BL0.out.trans (K3.out.mono BL0.out.size)) (by omega) _⟩
end
def chooseW (x y z : BitVec 64) : BitVec 64 := x &&& y ^^^ ~~~x &&& z
def majorityW (x y z : BitVec 64) : BitVec 64 := x &&& y ^^^ x &&& z ^^^ y &&& z
def bigSigma0W (x : BitVec 64) : BitVec 64 := x.rotateRight 28 ^^^ x.rotateRight 34 ^^^ x.rotateRight 39
def bigSigma1W (x : BitVec 64) : BitVec 64 := x.rotateRight 14 ^^^ x.rotateRight 18 ^^^ x.rotateRight 41
def smallSigma0W (x : BitVec 64) : BitVec 64 := x.rotateRight 1 ^^^ x.rotateRight 8 ^^^ x >>> 7
def smallSigma1W (x : BitVec 64) : BitVec 64 := x.rotateRight 19 ^^^ x.rotateRight 61 ^^^ x >>> 6
section
attribute [local go_sem] U_and U_or U_xor U_not U_add
set_option maxRecDepth 100000 in
set_option maxHeartbeats 400000 in
theorem choose_any (x y z : BitVec 64) (w : World) :
  Calls Tryz.prog 155 #[.int .u64 (U x), .int .u64 (U y), .int .u64 (U z)] w fun e w' => e = .returned (.int .u64 (U (chooseW x y z))) ∧ w' = w := by
 go_enter Tryz.func155, Tryz.ntmps155
 go_wp2
 go_ret
 exact ⟨rfl, rfl⟩
set_option maxRecDepth 100000 in
set_option maxHeartbeats 400000 in
theorem majority_any (x y z : BitVec 64) (w : World) :
  Calls Tryz.prog 157 #[.int .u64 (U x), .int .u64 (U y), .int .u64 (U z)] w fun e w' => e = .returned (.int .u64 (U (majorityW x y z))) ∧ w' = w := by
 go_enter Tryz.func157, Tryz.ntmps157
 go_wp2
 go_ret
 exact ⟨rfl, rfl⟩
theorem and_neg (n : Nat) (h0 : 0 < n) (h1 : n < 64) : bits .and .u64 (IntKind.u64.wrap (-(n : Int))) 63 = ((64 - n : Nat) : Int) := by
 have e : ∀ k : Fin 64, 0 < k.val → bits .and .u64 (IntKind.u64.wrap (-(k.val : Int))) 63 = ((64 - k.val : Nat) : Int) := by decide
 exact e ⟨n, h1⟩ h0
theorem rot_eq (x : BitVec 64) (n : Nat) (h1 : n < 64) : x <<< (64 - n) ||| x >>> n = x.rotateRight n := by
 rw [BitVec.rotateRight_def, Nat.mod_eq_of_lt h1, BitVec.or_comm]
set_option maxRecDepth 100000 in
set_option maxHeartbeats 400000 in
theorem rot_any (x : BitVec 64) (n : Nat) (h0 : 0 < n) (h1 : n < 64) (w : World) :
  Calls Tryz.prog 172 #[.int .u64 (U x), .int .i64 (-(n : Int))] w fun e w' => e = .returned (.int .u64 (U (x.rotateRight n))) ∧ w' = w := by
 have e := and_neg n h0 h1
 have hm : ((64 - n : Nat) : Int) = 64 - n := by omega
 rw [hm] at e
 have HF : Hid (bits BinOp.or IntKind.u64 (IntKind.u64.wrap (U x * 2 ^ (64 - n))) (U x / 2 ^ (64 - (64 - n))) = U (x.rotateRight n)) := by
  have h64 : 64 - (64 - n) = n := by omega
  show _ = _
  rw [h64, U_shl, U_shr, U_or, rot_eq x n h1]
 go_enter Tryz.func172, Tryz.ntmps172
 go_wp2
 go_ret
 exact ⟨congrArg (fun v => Ending.returned (.int .u64 v)) HF.out, rfl⟩
set_option maxRecDepth 100000 in
set_option maxHeartbeats 400000 in
theorem right_any (x : BitVec 64) (k : Int) (n : Nat) (hk : k = n) (h0 : 0 < n) (h1 : n < 64) (w : World) :
  Calls Tryz.prog 166 #[.int .u64 (U x), .int .i64 k] w fun e w' => e = .returned (.int .u64 (U (x.rotateRight n))) ∧ w' = w := by
 subst hk
 go_enter Tryz.func166, Tryz.ntmps166
 go_wp2_with (go_at_call 172; refine (rot_any x n h0 h1 _).mono ?_; rintro e w' ⟨rfl, rfl⟩)
 go_ret
 exact ⟨rfl, rfl⟩
set_option maxRecDepth 100000 in
set_option maxHeartbeats 400000 in
theorem bigSigma0_any (x : BitVec 64) (w : World) :
  Calls Tryz.prog 156 #[.int .u64 (U x)] w fun e w' => e = .returned (.int .u64 (U (bigSigma0W x))) ∧ w' = w := by
 go_enter Tryz.func156, Tryz.ntmps156
 go_wp2_with fail
 refine (right_any x 28 28 rfl (by omega) (by omega) _).mono ?_
 rintro e w' ⟨rfl, rfl⟩
 go_wp2_with fail
 refine (right_any x 34 34 rfl (by omega) (by omega) _).mono ?_
 rintro e w' ⟨rfl, rfl⟩
 go_wp2_with fail
 refine (right_any x 39 39 rfl (by omega) (by omega) _).mono ?_
 rintro e w' ⟨rfl, rfl⟩
 go_wp2
 go_ret
 exact ⟨rfl, rfl⟩
set_option maxRecDepth 100000 in
set_option maxHeartbeats 400000 in
theorem bigSigma1_any (x : BitVec 64) (w : World) :
  Calls Tryz.prog 154 #[.int .u64 (U x)] w fun e w' => e = .returned (.int .u64 (U (bigSigma1W x))) ∧ w' = w := by
 go_enter Tryz.func154, Tryz.ntmps154
 go_wp2_with fail
 refine (right_any x 14 14 rfl (by omega) (by omega) _).mono ?_
 rintro e w' ⟨rfl, rfl⟩
 go_wp2_with fail
 refine (right_any x 18 18 rfl (by omega) (by omega) _).mono ?_
 rintro e w' ⟨rfl, rfl⟩
 go_wp2_with fail
 refine (right_any x 41 41 rfl (by omega) (by omega) _).mono ?_
 rintro e w' ⟨rfl, rfl⟩
 go_wp2
 go_ret
 exact ⟨rfl, rfl⟩
theorem U_shr7 (a : BitVec 64) : U a / (128 : Int) = U (a >>> 7) := U_shr a 7
theorem U_shr6 (a : BitVec 64) : U a / (64 : Int) = U (a >>> 6) := U_shr a 6
theorem ret_u64 {a b : Int} (h : a = b) : Ending.returned (.int .u64 a) = .returned (.int .u64 b) := by rw [h]
set_option maxRecDepth 100000 in
set_option maxHeartbeats 400000 in
theorem smallSigma0_any (x : BitVec 64) (w : World) :
  Calls Tryz.prog 165 #[.int .u64 (U x)] w fun e w' => e = .returned (.int .u64 (U (smallSigma0W x))) ∧ w' = w := by
 go_enter Tryz.func165, Tryz.ntmps165
 go_wp2_with fail
 refine (right_any x 1 1 rfl (by omega) (by omega) _).mono ?_
 rintro e w' ⟨rfl, rfl⟩
 go_wp2_with fail
 refine (right_any x 8 8 rfl (by omega) (by omega) _).mono ?_
 rintro e w' ⟨rfl, rfl⟩
 go_wp2
 go_ret
 exact ⟨ret_u64 (by rw [U_shr7, U_xor]; rfl), rfl⟩
set_option maxRecDepth 100000 in
set_option maxHeartbeats 400000 in
theorem smallSigma1_any (x : BitVec 64) (w : World) :
  Calls Tryz.prog 164 #[.int .u64 (U x)] w fun e w' => e = .returned (.int .u64 (U (smallSigma1W x))) ∧ w' = w := by
 go_enter Tryz.func164, Tryz.ntmps164
 go_wp2_with fail
 refine (right_any x 19 19 rfl (by omega) (by omega) _).mono ?_
 rintro e w' ⟨rfl, rfl⟩
 go_wp2_with fail
 refine (right_any x 61 61 rfl (by omega) (by omega) _).mono ?_
 rintro e w' ⟨rfl, rfl⟩
 go_wp2
 go_ret
 exact ⟨ret_u64 (by rw [U_shr6, U_xor]; rfl), rfl⟩
end
theorem ret_i64 {a b : Int} (h : a = b) : Ending.returned (.int .i64 a) = .returned (.int .i64 b) := by rw [h]
def HS.filled (H : HS) : Nat := H.n % 128
theorem HS.filled_lo (H : HS) : H.lo.toNat % 128 = H.filled := by
 unfold HS.lo HS.filled; rw [BitVec.toNat_ofNat]; omega
theorem HS.filled_lt (H : HS) : H.filled < 128 := Nat.mod_lt _ (by decide)
theorem filled_num (lo : BitVec 64) : wrap64 ((U lo).tmod 128) = ((lo.toNat % 128 : Nat) : Int) := by
 have h1 : (U lo).tmod 128 = ((lo.toNat % 128 : Nat) : Int) := by unfold U; rw [Int.tmod_eq_emod_of_nonneg (by omega)]; omega
 rw [h1]; unfold wrap64; omega
section
attribute [local go_sem] U_and U_or U_xor U_not U_add U_add_one
set_option maxRecDepth 100000 in
set_option maxHeartbeats 400000 in
theorem filled_any (b : Nat) (T : TypeId) (H : HS) (w : World) (h : Has w b T H) :
  Calls Tryz.prog 125 #[.pointer (some ⟨b, 0, none⟩)] w fun e w' => e = .returned (.int .i64 H.filled) ∧ w' = w := by
 have h1 : w.cell? ⟨b, 137, none⟩ = some (.int .u64 (U H.lo)) := (h.cell 137).trans (H.row_lo h.len)
 clear h
 go_enter Tryz.func125, Tryz.ntmps125
 go_wp2
 go_ret
 exact ⟨ret_i64 ((filled_num _).trans (congrArg (fun x : Nat => (x : Int)) H.filled_lo)), rfl⟩
set_option maxRecDepth 100000 in
set_option maxHeartbeats 400000 in
theorem count_any (b : Nat) (T : TypeId) (H : HS) (z : Int) (n : Nat) (hz : z = n) (hn : n < 18446744073709551616) (w : World) (h : Has w b T H) :
  Calls Tryz.prog 126 #[.pointer (some ⟨b, 0, none⟩), .int .u64 z] w fun e w' => e = .returned (.tuple #[]) ∧ Has w' b T (H.count n) ∧ Turn b w w' := by
 have hz' : z = U (BitVec.ofNat 64 n) := by rw [hz, U_ofNat]; omega
 subst hz'
 clear hz
 have h1 : w.cell? ⟨b, 137, none⟩ = some (.int .u64 (U H.lo)) := (h.cell 137).trans (H.row_lo h.len)
 have h2 : w.cell? ⟨b, 136, none⟩ = some (.int .u64 (U H.hi)) := (h.cell 136).trans (H.row_hi h.len)
 have f1 := h.frozen 136
 have f2 := h.frozen 137
 have HL : Hid (H.lo + BitVec.ofNat 64 n = BitVec.ofNat 64 (H.n + n)) := lo_add _ _
 have HI : Hid (H.hi + 1#64 = BitVec.ofNat 64 (H.n / 18446744073709551616 + 1)) := lo_add _ 1
 have HH : Hid (Has w b T H) := h
 have HN : Hid (n < 18446744073709551616) := hn
 clear h hn
 generalize hx : BitVec.ofNat 64 n = x at *
 have HX : Hid (BitVec.ofNat 64 n = x) := hx
 clear hx
 go_enter Tryz.func126, Tryz.ntmps126
 go_wp2
 ·
  go_end0
  have hlt : U (H.lo + x) < U x := by assumption
  refine ⟨rfl, ⟨?_, HH.out.len⟩, ((Turn.refl b w).setCell rfl _).setCell rfl _⟩
  rw [HL.out, ← HX.out, carry_iff _ _ HN.out] at hlt
  have e := row_store (row_store HH.out.heap 137 (uv (H.lo + x))) 136 (uv (H.hi + 1#64))
  rw [HL.out, HI.out, ← hlt, H.set_hi_lo HH.out.len] at e
  rw [HL.out, HI.out, ← hlt]
  exact e
 ·
  go_end0
  have hge : U x ≤ U (H.lo + x) := by assumption
  refine ⟨rfl, ⟨?_, HH.out.len⟩, (Turn.refl b w).setCell rfl _⟩
  rw [HL.out, ← HX.out] at hge
  have hq := carry_not _ _ HN.out (Int.not_lt.mpr hge)
  have e := row_store HH.out.heap 137 (uv (H.lo + x))
  rw [HL.out, H.set_lo HH.out.len _ hq] at e
  rw [HL.out]
  exact e
def be (f : Nat → UInt8) : Nat → BitVec 64
 | 0 => 0
 | k + 1 => be f k <<< 8 ||| BitVec.ofNat 64 (f k).toNat
theorem U_byte (c : UInt8) : C8 c = U (BitVec.ofNat 64 c.toNat) := by
 unfold C8 U; rw [BitVec.toNat_ofNat]; have := c.toNat_lt; omega
theorem U_shl8 (a : BitVec 64) : IntKind.u64.wrap (U a * 256) = U (a <<< 8) := U_shl a 8
theorem wrap_C8 (c : UInt8) : IntKind.u64.wrap (C8 c) = U (BitVec.ofNat 64 c.toNat) := by
 rw [← U_byte, IntKind.wrap_u64]; have := C8_nonneg c; have := C8_lt c; omega
set_option maxRecDepth 100000 in
set_option maxHeartbeats 400000 in
theorem getWord_any (b off n cap : Nat) (f : Nat → UInt8) (w : World) (hn : 8 ≤ n) (hm : n ≤ 9223372036854775807)
  (hc : ∀ i, i < 8 → w.cell? ⟨b, off + i, none⟩ = some (.int .u8 (C8 (f i)))) :
  Calls Tryz.prog 163 #[.slice (some ⟨b, off, none⟩) n cap] w fun e w' => e = .returned (.int .u64 (U (be f 8))) ∧ w' = w := by
 go_enter Tryz.func163, Tryz.ntmps163
 go_wp2
 go_loop [3, 5] (fun v i => ∃ k : Nat, k ≤ 8 ∧ i = .int .i64 k ∧ v = .int .u64 (U (be f k))) (fun _ i => 8 - (intOf i).toNat)
 case atStart => exact ⟨0, Nat.zero_le _, rfl, rfl⟩
 case round =>
  obtain ⟨k, hk, rfl, rfl⟩ := hrel
  by_cases hlt : k < 8
  ·
   have hcell := hc k hlt
   clear hc
   have HE : Hid (bits BinOp.or IntKind.u64 (IntKind.u64.wrap (U (be f k) * 256)) (IntKind.u64.wrap (C8 (f k))) = U (be f (k + 1))) := by
    show _ = _
    rw [U_shl8, wrap_C8, U_or]; rfl
   go_wp2
   go_round
   case rel => exact ⟨k + 1, by omega, by go_num, congrArg (Value.int .u64) HE.out⟩
   case measure => simp [intOf]; omega
  ·
   clear hc
   obtain rfl : k = 8 := by omega
   go_wp2
   go_ret
   exact ⟨rfl, rfl⟩
def byteOf (x : BitVec 64) (k : Nat) : UInt8 := UInt8.ofNat (x >>> (56 - 8 * k)).toNat
theorem byte_num (x : BitVec 64) (n : Nat) : U x / 2 ^ n % 256 = C8 (UInt8.ofNat (x >>> n).toNat) := by
 rw [U_shr]; unfold U C8; rw [UInt8.toNat_ofNat']; omega
def lay (cs : List Value) (off : Nat) (x : BitVec 64) : Nat → List Value
 | 0 => cs
 | k + 1 => (lay cs off x k).set (off + k) (cv (byteOf x k))
theorem lay_length (cs : List Value) (off : Nat) (x : BitVec 64) (k : Nat) : (lay cs off x k).length = cs.length := by
 induction k with
 | zero => rfl
 | succ k ih => simp [lay, ih]
set_option maxRecDepth 100000 in
set_option maxHeartbeats 400000 in
theorem putWord_any (b off n cap : Nat) (T : TypeId) (cs : List Value) (x : BitVec 64) (w : World) (hn : 8 ≤ n) (hm : n ≤ 9223372036854775807)
  (hrow : w.heap[b]? = some (.cells cs.toArray T (0, 0))) (hfit : off + 8 ≤ cs.length) :
  Calls Tryz.prog 129 #[.slice (some ⟨b, off, none⟩) n cap, .int .u64 (U x)] w fun e w' => e = .returned (.tuple #[]) ∧ w'.heap[b]? = some (.cells (lay cs off x 8).toArray T (0, 0)) ∧ Turn b w w' := by
 have HR : Hid (w.heap[b]? = some (.cells cs.toArray T (0, 0))) := hrow
 clear hrow
 go_enter Tryz.func129, Tryz.ntmps129
 go_wp2
 go_loopw [5] (fun i wr => ∃ k : Nat, k ≤ 8 ∧ i = .int .i64 k ∧ Hid (wr.heap[b]? = some (.cells (lay cs off x k).toArray T (0, 0))) ∧ Turn b w wr) (fun i _ => 8 - (intOf i).toNat)
 case atStart => exact ⟨0, Nat.zero_le _, rfl, HR, Turn.refl _ _⟩
 case round =>
  obtain ⟨k, hk, rfl, hr, ht⟩ := hrel
  by_cases hlt : k < 8
  ·
   have hkl : off + k < (lay cs off x k).length := by rw [lay_length]; omega
   obtain ⟨v0, hv0⟩ : ∃ v0, wr.cell? ⟨b, off + k, none⟩ = some v0 := ⟨_, (cell_of_row wr b (off + k) _ T _ hr.out).trans (by simp; exact List.getElem?_eq_getElem hkl)⟩
   have hfr := frozen_of_row wr b (off + k) _ T hr.out
   have HB : Hid (U x / 2 ^ (56 - 8 * k) % 256 = C8 (byteOf x k)) := byte_num x (56 - 8 * k)
   clear hkl
   go_wp2
   go_roundw
   case rel => exact ⟨k + 1, by omega, by go_num, by rw [HB.out]; exact row_store hr.out (off + k) _, ht.setCell rfl _⟩
   case measure => simp [intOf]; omega
  ·
   obtain rfl : k = 8 := by omega
   go_wp2
   go_end0
   exact ⟨rfl, hr.out, ht⟩
end
def w16 (blk : List UInt8) (t : Nat) : BitVec 64 := be (fun i => blk.getD (8 * t + i) 0) 8
def w16s (blk : List UInt8) : Nat → List (BitVec 64)
 | 0 => []
 | n + 1 => w16s blk n ++ [w16 blk n]
theorem w16s_length (blk : List UInt8) (n : Nat) : (w16s blk n).length = n := by
 induction n with
 | zero => rfl
 | succ n ih => simp [w16s, ih]
def nextW (l : List (BitVec 64)) (n : Nat) : BitVec 64 :=
 smallSigma1W (l.getD (n + 14) 0) + l.getD (n + 9) 0 + smallSigma0W (l.getD (n + 1) 0) + l.getD n 0
def sch (blk : List UInt8) : Nat → List (BitVec 64)
 | 0 => w16s blk 16
 | n + 1 => sch blk n ++ [nextW (sch blk n) n]
theorem sch_length (blk : List UInt8) (n : Nat) : (sch blk n).length = 16 + n := by
 induction n with
 | zero => simp [sch, w16s_length]
 | succ n ih => simp [sch, ih]; omega
def wrow (l : List (BitVec 64)) : List Value := l.map uv ++ List.replicate (80 - l.length) (uv 0)
theorem wrow_length (l : List (BitVec 64)) (h : l.length ≤ 80) : (wrow l).length = 80 := by simp [wrow]; omega
theorem wrow_get (l : List (BitVec 64)) (i : Nat) (h : i < l.length) : (wrow l)[i]? = some (uv (l.getD i 0)) := by
 unfold wrow; rw [List.getElem?_append_left (by simpa using h)]; simp [h]
theorem wrow_there (l : List (BitVec 64)) (i : Nat) (h : i < 80) (hl : l.length ≤ 80) : ∃ v, (wrow l)[i]? = some v :=
 ⟨_, List.getElem?_eq_getElem (by rw [wrow_length l hl]; exact h)⟩
theorem wrow_set (l : List (BitVec 64)) (x : BitVec 64) (h : l.length < 80) : (wrow l).set l.length (uv x) = wrow (l ++ [x]) := by
 unfold wrow
 rw [List.set_append_right _ _ (by simp)]
 obtain ⟨m, hm⟩ : ∃ m, 80 - l.length = m + 1 := ⟨79 - l.length, by omega⟩
 have e2 : 80 - (l ++ [x]).length = m := by simp; omega
 rw [hm, e2]
 simp [List.replicate_succ]
theorem wrow_cell (l : List (BitVec 64)) : ∀ v ∈ wrow l, v.oneCell' = true := by
 intro v hv
 rcases List.mem_append.1 hv with h | h
 · obtain ⟨x, _, rfl⟩ := List.mem_map.1 h; rfl
 · rw [(List.mem_replicate.1 h).2]; rfl
theorem zero80 (w : World) : (zeroValue 257).run Tryz.prog w = .ok (.agg (wrow []).toArray) w := by kernel_rfl
theorem under128 : Tryz.prog.underlying 164 = some (.array 128 5) := by kernel_rfl
theorem sizeU8H : (Tryz.prog.info? 5).map (·.size) = some 1 := by kernel_rfl
theorem slice128 (b o : Nat) (z : Int) (l : Nat) (hz : z = l) (hl : l < 128) (w : World) :
  (Instr.sliceAt 164 (.pointer (some ⟨b, o, none⟩)) (some (.int .i64 z)) none none).run Tryz.prog w = .ok (.slice (some ⟨b, o + l, none⟩) (128 - l) (128 - l)) w := by
 subst hz
 have h1 : ((l : Int) ≤ 128) := by omega
 have h2 : ¬ 128 = l := by omega
 cases hq : Tryz.prog.info? 5 with
 | none => have := sizeU8H; rw [hq] at this; cases this
 | some i =>
  have hi : i.size = 1 := by have := sizeU8H; rw [hq] at this; simpa using this
  simp [Instr.sliceAt, Instr.sureAddr, run_underlying under128, Instr.sliceBounds, run_sliceBound, sizeOf, typeInfo, hq, hi, h1, h2, Addr.add]
theorem under80 : Tryz.prog.underlying 257 = some (.array 80 59) := by kernel_rfl
theorem size80 : (Tryz.prog.info? 257).map (·.size) = some 80 := by kernel_rfl
theorem rowF_get (l : List Int) (f : Nat → Int) (k : Nat) (h : k < l.length) : ((List.range l.length).map fun i => if i < k then f i else l.getD i 0).getD k 0 = l.getD k 0 := by
 simp [List.getD, h]
theorem rowF_zero (l : List Int) (f : Nat → Int) : ((List.range l.length).map fun i => if i < 0 then f i else l.getD i 0) = l := by
 apply List.ext_getElem?
 intro i
 by_cases h : i < l.length
 · simp [h, List.getD]
 · simp [h]
theorem rowF_step (l : List Int) (f : Nat → Int) (k : Nat) (h : k < l.length) :
  ((List.range l.length).map fun i => if i < k then f i else l.getD i 0).set k (f k) = (List.range l.length).map fun i => if i < k + 1 then f i else l.getD i 0 := by
 apply List.ext_getElem?
 intro i
 rw [List.getElem?_set]
 by_cases hk : k = i
 · subst hk; simp [h]
 ·
  rw [if_neg hk]
  by_cases h : i < l.length
  ·
   have e1 : (i < k + 1) = (i < k) := by apply propext; omega
   simp [h, e1]
  · simp [h]
theorem rowF_all (l : List Int) (f : Nat → Int) : ((List.range l.length).map fun i => if i < l.length then f i else l.getD i 0) = (List.range l.length).map f := by
 apply List.map_congr_left
 intro i hi
 rw [if_pos (List.mem_range.1 hi)]
theorem map_range (l : List Int) (g : Int → Int) : (List.range l.length).map (fun i => g (l.getD i 0)) = l.map g := by
 apply List.ext_getElem?
 intro i
 by_cases h : i < l.length
 · simp [h, List.getD]
 · simp [h]
theorem vB_scale (B c : Int) (l : List Int) : vB B (l.map (c * ·)) = c * vB B l := by
 induction l with
 | nil => simp [vB]
 | cons a l ih =>
  simp only [List.map_cons, vB, ih, Int.mul_add]
  rw [Int.mul_left_comm]
theorem vB_sub (B : Int) (l m : List Int) (h : l.length = m.length) : vB B ((List.range l.length).map fun i => l.getD i 0 - m.getD i 0) = vB B l - vB B m := by
 induction l generalizing m with
 | nil => cases m with
  | nil => rfl
  | cons => simp at h
 | cons a l ih => cases m with
  | nil => simp at h
  | cons b m =>
   have e := ih m (by simpa using h)
   rw [List.length_cons, List.range_succ_eq_map, List.map_cons, List.map_map]
   simp only [vB]
   have e2 : (List.range l.length).map ((fun i => (a :: l).getD i 0 - (b :: m).getD i 0) ∘ Nat.succ) = (List.range l.length).map fun i => l.getD i 0 - m.getD i 0 := by
    apply List.map_congr_left; intro i _; simp
   rw [e2, e, Int.mul_sub]
   simp; omega
theorem valLE_nib (l : List UInt8) (i : Nat) : (valLE l / 16 ^ i % 16) = if i % 2 = 0 then (l.getD (i / 2) 0).toNat % 16 else (l.getD (i / 2) 0).toNat / 16 := by
 have h := valLE_byte l (i / 2)
 rw [← h]
 have e : (256 : Nat) ^ (i / 2) = 16 ^ (2 * (i / 2)) := by rw [Nat.pow_mul]
 rw [e]
 split
 ·
  rename_i h0
  rw [show 2 * (i / 2) = i by omega]
  generalize valLE l / 16 ^ i = x
  omega
 ·
  rename_i h0
  have e2 : valLE l / 16 ^ i = valLE l / 16 ^ (2 * (i / 2)) / 16 := by
   rw [Nat.div_div_eq_div_mul, ← Nat.pow_succ, show (2 * (i / 2)).succ = i by omega]
  rw [e2]
  generalize valLE l / 16 ^ (2 * (i / 2)) = x
  omega
theorem nib_step (v i : Nat) : v / 16 ^ i = 16 * (v / 16 ^ (i + 1)) + v / 16 ^ i % 16 := by
 rw [Nat.pow_succ, ← Nat.div_div_eq_div_mul]
 generalize v / 16 ^ i = x
 omega
theorem nib_red (v i L : Nat) : (16 * (v / 16 ^ (i + 1) % L) + v / 16 ^ i % 16) % L = v / 16 ^ i % L := by
 conv => rhs; rw [nib_step v i]
 rw [Nat.add_mod, Nat.mul_mod, Nat.mod_mod, ← Nat.mul_mod, ← Nat.add_mod]
theorem vB_set0 (B : Int) (l : List Int) (h : 0 < l.length) (f : Int) : vB B (l.set 0 (l.getD 0 0 + f)) = vB B l + f := by
 cases l with
 | nil => simp at h
 | cons a l => simp [vB]; omega
def rowVal (w : World) (b : Nat) : Nat := match w.heap[b]? with
 | some (.cells cs _ _) => (vB 65536 (cs.toList.map intOf)).toNat
 | _ => 0
theorem rowVal_eq {w : World} {b : Nat} {t : TypeId} {fr : Nat × Nat} {n : Nat} (h : w.heap[b]? = some (.cells ((dB 65536 17 (n : Int)).map iv).toArray t fr)) (hn : n < 65536 ^ 17) : rowVal w b = n := by
 unfold rowVal
 rw [h]
 have e : (((dB 65536 17 (n : Int)).map iv).toArray.toList.map intOf) = dB 65536 17 (n : Int) := by
  simp only [List.map_map]
  exact (List.map_congr_left (fun x _ => rfl)).trans (List.map_id _)
 simp only [e, vB_dB 65536 (by decide) 17 (n : Int)]
 rw [Int.emod_eq_of_lt (by omega) (by have : ((65536 : Int) ^ 17) = ((65536 ^ 17 : Nat) : Int) := (by decide); rw [this]; omega)]
 simp
theorem red_last (v i L m f t0 t : Nat) (hm : m = v / 16 ^ (i + 1) % L) (hf : f = v / 16 ^ i % 16) (ht0 : t0 = 16 * m + f) (hmod : t % L = t0 % L) (hlt : t < L) : v / 16 ^ i % L = t := by
 rw [Nat.mod_eq_of_lt hlt] at hmod
 rw [hmod, ht0, hm, hf, nib_red]
end Go.Proofs.YtccgfabojbjmjaaGreatDoor
