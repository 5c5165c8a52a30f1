import Derived.Test.YtccgfabojbjmjaaGreatDoorSd02
import Derived.Laws.IdiomStrings
import Derived.Deep.MidRow
import Derived.Test.YtccgfabojbjmjaaGreatDoorRows
import Derived.WalkSpells
import Derived.WalkLawsBesides
import Derived.Handy
import Derived.Laws.CopyOwn
import Derived.Laws.BitsLemmas
namespace Go.Proofs.YtccgfabojbjmjaaGreatDoor
open Go.RowKit
def byteLE (n i : Nat) : UInt8 := UInt8.ofNat (n / 256 ^ i)
def leB (n k : Nat) : List UInt8 := (List.range k).map (byteLE n)
theorem leB_length (n k : Nat) : (leB n k).length = k := by simp [leB]
def rowB (n m k : Nat) : List UInt8 := (List.range m).map fun i => if i < k then byteLE n i else 0
theorem rowB_length (n m k : Nat) : (rowB n m k).length = m := by simp [rowB]
theorem rowB_step (n m k : Nat) : (rowB n m k).set k (byteLE n k) = rowB n m (k + 1) := by
 apply List.ext_getElem?
 intro i
 rw [List.getElem?_set]
 simp only [rowB, List.getElem?_map, List.length_map, List.length_range]
 by_cases h : k = i
 ·
  subst h
  by_cases hm : k < m
  · simp [hm]
  · simp [hm]
 ·
  rw [if_neg h]
  by_cases hm : i < m
  ·
   have e1 : (i < k + 1) = (i < k) := by apply propext; omega
   simp [hm, e1]
  · simp [hm]
theorem rowB_all (n m : Nat) : rowB n m m = leB n m := by
 unfold rowB leB
 apply List.map_congr_left
 intro i hi
 rw [if_pos (List.mem_range.1 hi)]
theorem rowB_none (n m : Nat) : rowB n m 0 = List.replicate m 0 := by
 unfold rowB
 apply List.ext_getElem?
 intro i
 by_cases hm : i < m
 · simp [hm]
 · simp [hm]
def wd (n q : Nat) : Nat := n / 18446744073709551616 ^ q % 18446744073709551616
theorem wd_byte (n q r : Nat) (hr : r < 8) : wd n q / 2 ^ (8 * r) % 256 = n / 256 ^ (8 * q + r) % 256 := by
 unfold wd
 rw [Nat.pow_add, ← Nat.div_div_eq_div_mul, Nat.pow_mul, Nat.pow_mul]
 have e : (256 : Nat) ^ 8 = 18446744073709551616 := by decide
 have e2 : (2 : Nat) ^ 8 = 256 := by decide
 rw [e, e2]
 generalize n / 18446744073709551616 ^ q = x
 have : r = 0 ∨ r = 1 ∨ r = 2 ∨ r = 3 ∨ r = 4 ∨ r = 5 ∨ r = 6 ∨ r = 7 := by omega
 rcases this with rfl | rfl | rfl | rfl | rfl | rfl | rfl | rfl <;> simp only [Nat.reducePow] <;> omega
theorem byte_V (n q r i : Nat) (hr : r < 8) (hi : i = 8 * q + r) : V (wd n q) / 2 ^ (8 * r) % 256 = C8 (byteLE n i) := by
 have := wd_byte n q r hr
 unfold V C8 byteLE
 rw [UInt8.toNat_ofNat', hi]
 have e : ((wd n q : Nat) : Int) / 2 ^ (8 * r) % 256 = ((wd n q / 2 ^ (8 * r) % 256 : Nat) : Int) := by rw [Int.natCast_emod, Int.natCast_ediv, Int.natCast_pow]; rfl
 rw [e, this]
theorem num4_wd (n : Nat) : num4 n = .agg #[nv (wd n 0), nv (wd n 1), nv (wd n 2), nv (wd n 3)] := by
 unfold num4 wd w4; simp only [Nat.reducePow, Nat.pow_zero, Nat.div_one]
theorem wd_get (n q : Nat) (hq : q < 4) : (#[nv (wd n 0), nv (wd n 1), nv (wd n 2), nv (wd n 3)] : Array Value)[q]? = some (nv (wd n q)) := by
 have : q = 0 ∨ q = 1 ∨ q = 2 ∨ q = 3 := by omega
 rcases this with rfl | rfl | rfl | rfl <;> rfl
theorem cvs_get {w : World} {b : Nat} {l : List UInt8} {T : TypeId} {fr : Nat × Nat} (h : w.heap[b]? = some (.cells (l.map cv).toArray T fr)) (i : Nat) (hi : i < l.length) :
  w.cell? ⟨b, i, none⟩ = some (cv (l.getD i 0)) := by
 rw [cell_of_row w b i _ T _ h]; simp [hi, List.getD]
def z32 : Array Value := ((List.replicate 32 (0 : UInt8)).map cv).toArray
theorem zero32 (w : World) : (zeroValue 61).run Tryz.prog w = .ok (.agg z32) w := by kernel_rfl
theorem under32 : Tryz.prog.underlying 61 = some (.array 32 5) := by kernel_rfl
theorem size32 : (Tryz.prog.info? 61).map (·.size) = some 32 := by kernel_rfl
theorem bytes_cell (l : List UInt8) : ∀ v ∈ l.map cv, v.oneCell' = true := by
 intro v hv; obtain ⟨x, _, rfl⟩ := List.mem_map.1 hv; rfl
theorem row_far {w : World} {g g' : Nat} {o : Obj} (i : Nat) (v : Value) (h : w.heap[g]? = some o) (hne : g ≠ g') : (w.setCell ⟨g', i, none⟩ v).heap[g]? = some o :=
 (Below.heap_setCell w _ v g hne).trans h
theorem heap3_0 (w : World) (A B C : Obj) : (((w.alloc A).alloc B).alloc C).heap[w.heap.size]? = some A := by
 rw [heap_alloc_old _ _ (by simp; omega), heap_alloc_old _ _ (by simp)]; exact heap_alloc_new _ _
theorem heap3_1 (w : World) (A B C : Obj) : (((w.alloc A).alloc B).alloc C).heap[w.heap.size + 1]? = some B := by
 rw [heap_alloc_old _ _ (by simp)]; exact heap_alloc2_new _ _ _
theorem heap3_2 (w : World) (A B C : Obj) : (((w.alloc A).alloc B).alloc C).heap[w.heap.size + 2]? = some C := by
 have := heap_alloc2_new (w.alloc A) B C
 rw [World.size_alloc] at this; exact this
section
set_option maxRecDepth 100000 in
set_option maxHeartbeats 4000000 in
theorem bytes_any (n : Nat) (w : World) :
  Calls Tryz.prog 46 #[num4 n] w fun e w' => e = .returned (.agg ((leB n 32).map cv).toArray) ∧ Below w.heap.size w w' := by
 have hz := zero32
 rw [num4_wd]
 go_enter Tryz.func46, Tryz.ntmps46
 go_wp2_with fail
 go_loopw [5] (fun i wr => ∃ k : Nat, k ≤ 32 ∧ i = .int .i64 k ∧ Hid (wr.heap[w.heap.size]? = some (.cells #[nv (wd n 0), nv (wd n 1), nv (wd n 2), nv (wd n 3)] 60 (0, 0))) ∧ Hid (wr.heap[w.heap.size + 1]? = some (.cells z32 61 (0, 0))) ∧
   Hid (wr.heap[w.heap.size + 2]? = some (.cells ((rowB n 32 k).map cv).toArray 61 (0, 0))) ∧ Hid (Below w.heap.size w wr)) (fun i _ => 32 - (intOf i).toNat)
 case atStart => exact ⟨0, Nat.zero_le _, rfl, heap3_0 _ _ _ _, heap3_1 _ _ _ _, by rw [rowB_none]; exact heap3_2 _ _ _ _, by show Below _ _ _; go_grown⟩
 case round =>
  obtain ⟨k, hk, rfl, H0, H1, H2, HB⟩ := hrel
  by_cases hlt : k < 32
  ·
   obtain ⟨q, hq⟩ : ∃ q, q = k / 8 := ⟨_, rfl⟩
   obtain ⟨r, hr⟩ : ∃ r, r = k % 8 := ⟨_, rfl⟩
   have e8 : (k : Int) / 8 = (q : Int) := by omega
   have er : (k : Int) % 8 = (r : Int) := by omega
   have bq : (q : Int) < 4 := by omega
   have br : (r : Int) < 8 := by omega
   have bk : (k : Int) < 32 := by omega
   have c0 := (cell_of_row wr w.heap.size q _ _ _ H0.out).trans (wd_get n q (by omega))
   have c2 := cvs_get H2.out k (by rw [rowB_length]; exact hlt)
   have f2 := frozen_of_row wr (w.heap.size + 2) k _ _ H2.out
   have HN : Hid (V (wd n q) / 2 ^ (r * 8) % 256 = C8 (byteLE n k)) := by rw [Nat.mul_comm]; exact byte_V n q r k (by omega) (by omega)
   generalize wd n q = x at c0 HN
   clear hq hr hz
   go_wp2_with fail
   refine ⟨⟨k + 1, by omega, by go_num, row_far _ _ H0.out (by omega), row_far _ _ H1.out (by omega), ?_, ?_⟩, by simp [intOf]; omega⟩
   ·
    rw [HN.out, ← rowB_step, List.map_set]
    exact row_store H2.out k _
   · exact HB.out.setCell (by show _ ≤ _; simp; omega) _
  ·
   have hk32 : k = 32 := by omega
   have bk : (32 : Int) ≤ (k : Int) := by omega
   obtain ⟨M, HM⟩ : ∃ M, Hid (M = (leB n 32).map cv) := ⟨_, rfl⟩
   have H2' : Hid (wr.heap[w.heap.size + 2]? = some (.cells M.toArray 61 (0, 0))) := by
    have := H2.out; rw [hk32, rowB_all, ← HM.out] at this; exact this
   have hMl : M.length = 32 := by rw [HM.out, List.length_map, leB_length]
   have HSz : Hid ((Tryz.prog.info? 61).map (·.size) = some M.toArray.size) := by show _ = _; rw [size32]; simp [hMl]
   have HO : Hid (z32.size = M.toArray.size) := by show _ = _; simp [hMl]; rfl
   have HA : Hid (M.toArray.all (·.oneCell') = true) := by rw [HM.out]; exact all_oneCell_toArray (bytes_cell _)
   clear H2 hk32 hlt hk hMl
   go_wp2_with (first | (refine wpList_load_row (by rfl) 61 (.tmp 3) (by rfl) (w.heap.size + 2) (by rfl) 61 M.toArray (0, 0) _ H2'.out under32 rfl HSz.out ?_) | (refine wpList_store_row (by rfl) 61 (.tmp 2) (.tmp 20) (by rfl) (w.heap.size + 1) M.toArray (by rfl) (by rfl) 61 _ H1.out HSz.out HO.out HA.out ?_))
   refine bodyPost_ret (v := .agg M.toArray) (results_cell_row Tryz.results46 _ _ (w.heap.size + 1) 61 M.toArray (0, 0) _ (by rfl) (setRow_heap _ _ _ _ _ _ H1.out) under32 rfl HSz.out) rfl ⟨by rw [HM.out], below_setRow HB.out (by omega) _⟩
end
def bytesOf (s : ByteArray) : List UInt8 := s.data.toList
theorem bytesOf_length (s : ByteArray) : (bytesOf s).length = s.size := rfl
def strOf (l : List UInt8) : ByteArray := ⟨l.toArray⟩
theorem bytesOf_strOf (l : List UInt8) : bytesOf (strOf l) = l := by simp [bytesOf, strOf]
theorem strOf_bytesOf (s : ByteArray) : strOf (bytesOf s) = s := by cases s; simp [bytesOf, strOf]
theorem conv_bytes {P : Program} (src dst e : TypeId) (hs : P.underlying src = some .string) (hd : P.underlying dst = some (.slice e)) (he : P.underlying e = some (.int .u8)) (s : ByteArray) (w : World) :
  ∃ cap W1, (convert src dst (.string s)).run P w = .ok (.slice (some ⟨w.heap.size, 0, none⟩) s.size cap) W1 ∧ W1.rangeAt w.heap.size 0 ((bytesOf s).map cv) ∧ Below w.heap.size w W1 ∧ W1.heap.size = w.heap.size + 1 := by
 refine ⟨_, _, run_bytes_of_string (P := P) w src dst e s hs hd he, ?_, (Below.refl _ _).drew.alloc (Nat.le_refl _) _, by simp⟩
 intro j v hv
 rw [Nat.zero_add, cell_of_row _ w.heap.size j _ _ _ (heap_alloc_new w.drew _)]
 have hj : j < s.data.size := by
  have := (List.getElem?_eq_some_iff.1 hv).1
  simpa [bytesOf] using this
 simp only [bytesRow]
 rw [Array.getElem?_append_left (by simpa using hj)]
 simp [bytesOf, List.getElem?_map] at hv ⊢
 exact hv
def valLE : List UInt8 → Nat
 | [] => 0
 | c :: l => c.toNat + 256 * valLE l
abbrev iv (x : Int) : Value := .int .i64 x
def vB (B : Int) : List Int → Int
 | [] => 0
 | a :: l => a + B * vB B l
def dB (B : Int) : Nat → Int → List Int
 | 0, _ => []
 | k + 1, n => n % B :: dB B k (n / B)
theorem dB_length (B : Int) (k : Nat) (n : Int) : (dB B k n).length = k := by
 induction k generalizing n with
 | zero => rfl
 | succ k ih => simp [dB, ih]
theorem and65535 (n : Int) : bits .and .i64 n 65535 = n % 65536 := by
 have h : (BitVec.ofInt 64 65535).toNat = 2 ^ 16 - 1 := by decide
 have key : (BitVec.ofInt 64 n &&& BitVec.ofInt 64 65535).toNat = (n % ((2 ^ 64 : Nat) : Int)).toNat % 2 ^ 16 := by
  rw [BitVec.toNat_and, BitVec.toNat_ofInt, h, Nat.and_two_pow_sub_one_eq_mod]
 show IntKind.i64.wrap ((BitVec.ofInt 64 n &&& BitVec.ofInt 64 65535).toNat : Nat) = n % 65536
 rw [key, IntKind.wrap_i64]
 omega
theorem lt_row {w : World} {g : Nat} {o : Obj} (h : w.heap[g]? = some o) : g < w.heap.size := by
 rcases Nat.lt_or_ge g w.heap.size with k | k
 · exact k
 · rw [Array.getElem?_eq_none k] at h; cases h
theorem far_row {w : World} {g g' : Nat} {o : Obj} (i : Nat) (v : Value) (h : w.heap[g]? = some o) (hne : g ≠ g') : (w.setCell ⟨g', i, none⟩ v).heap[g]? = some o :=
 (Below.heap_setCell w _ v g hne).trans h
end Go.Proofs.YtccgfabojbjmjaaGreatDoor
