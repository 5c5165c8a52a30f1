import Derived.Test.YtccgfabojbjmjaaGreatDoorVe02
import Derived.Laws.IdiomStrings
import Derived.Deep.MidRow
import Derived.Test.YtccgfabojbjmjaaGreatDoorRows
import Derived.WalkSpells
import Derived.WalkLawsBesides
import Derived.Handy
import Derived.Laws.CopyOwn
import Derived.Laws.BitsLemmas
namespace Go.Proofs.YtccgfabojbjmjaaGreatDoor
open Go.RowKit
def byteLE (n i : Nat) : UInt8 := UInt8.ofNat (n / 256 ^ i)
def leB (n k : Nat) : List UInt8 := (List.range k).map (byteLE n)
theorem leB_length (n k : Nat) : (leB n k).length = k := by simp [leB]
def rowB (n m k : Nat) : List UInt8 := (List.range m).map fun i => if i < k then byteLE n i else 0
theorem rowB_length (n m k : Nat) : (rowB n m k).length = m := by simp [rowB]
theorem rowB_step (n m k : Nat) : (rowB n m k).set k (byteLE n k) = rowB n m (k + 1) := by
 apply List.ext_getElem?
 intro i
 rw [List.getElem?_set]
 simp only [rowB, List.getElem?_map, List.length_map, List.length_range]
 by_cases h : k = i
 ·
  subst h
  by_cases hm : k < m
  · simp [hm]
  · simp [hm]
 ·
  rw [if_neg h]
  by_cases hm : i < m
  ·
   have e1 : (i < k + 1) = (i < k) := by apply propext; omega
   simp [hm, e1]
  · simp [hm]
theorem rowB_all (n m : Nat) : rowB n m m = leB n m := by
 unfold rowB leB
 apply List.map_congr_left
 intro i hi
 rw [if_pos (List.mem_range.1 hi)]
theorem rowB_none (n m : Nat) : rowB n m 0 = List.replicate m 0 := by
 unfold rowB
 apply List.ext_getElem?
 intro i
 by_cases hm : i < m
 · simp [hm]
 · simp [hm]
def wd (n q : Nat) : Nat := n / 18446744073709551616 ^ q % 18446744073709551616
theorem wd_byte (n q r : Nat) (hr : r < 8) : wd n q / 2 ^ (8 * r) % 256 = n / 256 ^ (8 * q + r) % 256 := by
 unfold wd
 rw [Nat.pow_add, ← Nat.div_div_eq_div_mul, Nat.pow_mul, Nat.pow_mul]
 have e : (256 : Nat) ^ 8 = 18446744073709551616 := by decide
 have e2 : (2 : Nat) ^ 8 = 256 := by decide
 rw [e, e2]
 generalize n / 18446744073709551616 ^ q = x
 have : r = 0 ∨ r = 1 ∨ r = 2 ∨ r = 3 ∨ r = 4 ∨ r = 5 ∨ r = 6 ∨ r = 7 := by omega
 rcases this with rfl | rfl | rfl | rfl | rfl | rfl | rfl | rfl <;> simp only [Nat.reducePow] <;> omega
theorem byte_V (n q r i : Nat) (hr : r < 8) (hi : i = 8 * q + r) : V (wd n q) / 2 ^ (8 * r) % 256 = C8 (byteLE n i) := by
 have := wd_byte n q r hr
 unfold V C8 byteLE
 rw [UInt8.toNat_ofNat', hi]
 have e : ((wd n q : Nat) : Int) / 2 ^ (8 * r) % 256 = ((wd n q / 2 ^ (8 * r) % 256 : Nat) : Int) := by rw [Int.natCast_emod, Int.natCast_ediv, Int.natCast_pow]; rfl
 rw [e, this]
theorem num4_wd (n : Nat) : num4 n = .agg #[nv (wd n 0), nv (wd n 1), nv (wd n 2), nv (wd n 3)] := by
 unfold num4 wd w4; simp only [Nat.reducePow, Nat.pow_zero, Nat.div_one]
theorem wd_get (n q : Nat) (hq : q < 4) : (#[nv (wd n 0), nv (wd n 1), nv (wd n 2), nv (wd n 3)] : Array Value)[q]? = some (nv (wd n q)) := by
 have : q = 0 ∨ q = 1 ∨ q = 2 ∨ q = 3 := by omega
 rcases this with rfl | rfl | rfl | rfl <;> rfl
theorem cvs_get {w : World} {b : Nat} {l : List UInt8} {T : TypeId} {fr : Nat × Nat} (h : w.heap[b]? = some (.cells (l.map cv).toArray T fr)) (i : Nat) (hi : i < l.length) :
  w.cell? ⟨b, i, none⟩ = some (cv (l.getD i 0)) := by
 rw [cell_of_row w b i _ T _ h]; simp [hi, List.getD]
def z32 : Array Value := ((List.replicate 32 (0 : UInt8)).map cv).toArray
theorem zero32 (w : World) : (zeroValue 61).run Tryz.prog w = .ok (.agg z32) w := by kernel_rfl
theorem under32 : Tryz.prog.underlying 61 = some (.array 32 5) := by kernel_rfl
theorem size32 : (Tryz.prog.info? 61).map (·.size) = some 32 := by kernel_rfl
theorem bytes_cell (l : List UInt8) : ∀ v ∈ l.map cv, v.oneCell' = true := by
 intro v hv; obtain ⟨x, _, rfl⟩ := List.mem_map.1 hv; rfl
theorem row_far {w : World} {g g' : Nat} {o : Obj} (i : Nat) (v : Value) (h : w.heap[g]? = some o) (hne : g ≠ g') : (w.setCell ⟨g', i, none⟩ v).heap[g]? = some o :=
 (Below.heap_setCell w _ v g hne).trans h
theorem heap3_0 (w : World) (A B C : Obj) : (((w.alloc A).alloc B).alloc C).heap[w.heap.size]? = some A := by
 rw [heap_alloc_old _ _ (by simp; omega), heap_alloc_old _ _ (by simp)]; exact heap_alloc_new _ _
theorem heap3_1 (w : World) (A B C : Obj) : (((w.alloc A).alloc B).alloc C).heap[w.heap.size + 1]? = some B := by
 rw [heap_alloc_old _ _ (by simp)]; exact heap_alloc2_new _ _ _
theorem heap3_2 (w : World) (A B C : Obj) : (((w.alloc A).alloc B).alloc C).heap[w.heap.size + 2]? = some C := by
 have := heap_alloc2_new (w.alloc A) B C
 rw [World.size_alloc] at this; exact this
section
set_option maxRecDepth 100000 in
set_option maxHeartbeats 4000000 in
theorem bytes_any (n : Nat) (w : World) :
  Calls Tryz.prog 46 #[num4 n] w fun e w' => e = .returned (.agg ((leB n 32).map cv).toArray) ∧ Below w.heap.size w w' := by
 have hz := zero32
 rw [num4_wd]
 go_enter Tryz.func46, Tryz.ntmps46
 go_wp2_with fail
 go_loopw [5] (fun i wr => ∃ k : Nat, k ≤ 32 ∧ i = .int .i64 k ∧ Hid (wr.heap[w.heap.size]? = some (.cells #[nv (wd n 0), nv (wd n 1), nv (wd n 2), nv (wd n 3)] 60 (0, 0))) ∧ Hid (wr.heap[w.heap.size + 1]? = some (.cells z32 61 (0, 0))) ∧
   Hid (wr.heap[w.heap.size + 2]? = some (.cells ((rowB n 32 k).map cv).toArray 61 (0, 0))) ∧ Hid (Below w.heap.size w wr)) (fun i _ => 32 - (intOf i).toNat)
 case atStart => exact ⟨0, Nat.zero_le _, rfl, heap3_0 _ _ _ _, heap3_1 _ _ _ _, by rw [rowB_none]; exact heap3_2 _ _ _ _, by show Below _ _ _; go_grown⟩
 case round =>
  obtain ⟨k, hk, rfl, H0, H1, H2, HB⟩ := hrel
  by_cases hlt : k < 32
  ·
   obtain ⟨q, hq⟩ : ∃ q, q = k / 8 := ⟨_, rfl⟩
   obtain ⟨r, hr⟩ : ∃ r, r = k % 8 := ⟨_, rfl⟩
   have e8 : (k : Int) / 8 = (q : Int) := by omega
   have er : (k : Int) % 8 = (r : Int) := by omega
   have bq : (q : Int) < 4 := by omega
   have br : (r : Int) < 8 := by omega
   have bk : (k : Int) < 32 := by omega
   have c0 := (cell_of_row wr w.heap.size q _ _ _ H0.out).trans (wd_get n q (by omega))
   have c2 := cvs_get H2.out k (by rw [rowB_length]; exact hlt)
   have f2 := frozen_of_row wr (w.heap.size + 2) k _ _ H2.out
   have HN : Hid (V (wd n q) / 2 ^ (r * 8) % 256 = C8 (byteLE n k)) := by rw [Nat.mul_comm]; exact byte_V n q r k (by omega) (by omega)
   generalize wd n q = x at c0 HN
   clear hq hr hz
   go_wp2_with fail
   refine ⟨⟨k + 1, by omega, by go_num, row_far _ _ H0.out (by omega), row_far _ _ H1.out (by omega), ?_, ?_⟩, by simp [intOf]; omega⟩
   ·
    rw [HN.out, ← rowB_step, List.map_set]
    exact row_store H2.out k _
   · exact HB.out.setCell (by show _ ≤ _; simp; omega) _
  ·
   have hk32 : k = 32 := by omega
   have bk : (32 : Int) ≤ (k : Int) := by omega
   obtain ⟨M, HM⟩ : ∃ M, Hid (M = (leB n 32).map cv) := ⟨_, rfl⟩
   have H2' : Hid (wr.heap[w.heap.size + 2]? = some (.cells M.toArray 61 (0, 0))) := by
    have := H2.out; rw [hk32, rowB_all, ← HM.out] at this; exact this
   have hMl : M.length = 32 := by rw [HM.out, List.length_map, leB_length]
   have HSz : Hid ((Tryz.prog.info? 61).map (·.size) = some M.toArray.size) := by show _ = _; rw [size32]; simp [hMl]
   have HO : Hid (z32.size = M.toArray.size) := by show _ = _; simp [hMl]; rfl
   have HA : Hid (M.toArray.all (·.oneCell') = true) := by rw [HM.out]; exact all_oneCell_toArray (bytes_cell _)
   clear H2 hk32 hlt hk hMl
   go_wp2_with (first | (refine wpList_load_row (by rfl) 61 (.tmp 3) (by rfl) (w.heap.size + 2) (by rfl) 61 M.toArray (0, 0) _ H2'.out under32 rfl HSz.out ?_) | (refine wpList_store_row (by rfl) 61 (.tmp 2) (.tmp 20) (by rfl) (w.heap.size + 1) M.toArray (by rfl) (by rfl) 61 _ H1.out HSz.out HO.out HA.out ?_))
   refine bodyPost_ret (v := .agg M.toArray) (results_cell_row Tryz.results46 _ _ (w.heap.size + 1) 61 M.toArray (0, 0) _ (by rfl) (setRow_heap _ _ _ _ _ _ H1.out) under32 rfl HSz.out) rfl ⟨by rw [HM.out], below_setRow HB.out (by omega) _⟩
end
def bytesOf (s : ByteArray) : List UInt8 := s.data.toList
theorem bytesOf_length (s : ByteArray) : (bytesOf s).length = s.size := rfl
def strOf (l : List UInt8) : ByteArray := ⟨l.toArray⟩
theorem bytesOf_strOf (l : List UInt8) : bytesOf (strOf l) = l := by simp [bytesOf, strOf]
theorem strOf_bytesOf (s : ByteArray) : strOf (bytesOf s) = s := by cases s; simp [bytesOf, strOf]
theorem conv_bytes {P : Program} (src dst e : TypeId) (hs : P.underlying src = some .string) (hd : P.underlying dst = some (.slice e)) (he : P.underlying e = some (.int .u8)) (s : ByteArray) (w : World) :
  ∃ cap W1, (convert src dst (.string s)).run P w = .ok (.slice (some ⟨w.heap.size, 0, none⟩) s.size cap) W1 ∧ W1.rangeAt w.heap.size 0 ((bytesOf s).map cv) ∧ Below w.heap.size w W1 ∧ W1.heap.size = w.heap.size + 1 := by
 refine ⟨_, _, run_bytes_of_string (P := P) w src dst e s hs hd he, ?_, (Below.refl _ _).drew.alloc (Nat.le_refl _) _, by simp⟩
 intro j v hv
 rw [Nat.zero_add, cell_of_row _ w.heap.size j _ _ _ (heap_alloc_new w.drew _)]
 have hj : j < s.data.size := by
  have := (List.getElem?_eq_some_iff.1 hv).1
  simpa [bytesOf] using this
 simp only [bytesRow]
 rw [Array.getElem?_append_left (by simpa using hj)]
 simp [bytesOf, List.getElem?_map] at hv ⊢
 exact hv
def valLE : List UInt8 → Nat
 | [] => 0
 | c :: l => c.toNat + 256 * valLE l
abbrev iv (x : Int) : Value := .int .i64 x
def vB (B : Int) : List Int → Int
 | [] => 0
 | a :: l => a + B * vB B l
def dB (B : Int) : Nat → Int → List Int
 | 0, _ => []
 | k + 1, n => n % B :: dB B k (n / B)
def cB (B : Int) : Int → List Int → List Int
 | _, [] => []
 | c, a :: l => (a + c) % B :: cB B ((a + c) / B) l
theorem dB_length (B : Int) (k : Nat) (n : Int) : (dB B k n).length = k := by
 induction k generalizing n with
 | zero => rfl
 | succ k ih => simp [dB, ih]
theorem cB_dB (B : Int) (hB : 0 < B) (c : Int) (l : List Int) : cB B c l = dB B l.length (vB B l + c) := by
 induction l generalizing c with
 | nil => rfl
 | cons a l ih =>
  have e1 : (a + B * vB B l + c) % B = (a + c) % B := by rw [show a + B * vB B l + c = a + c + B * vB B l by omega, Int.add_mul_emod_self_left]
  have e2 : (a + B * vB B l + c) / B = vB B l + (a + c) / B := by
   rw [show a + B * vB B l + c = a + c + B * vB B l by omega, Int.add_mul_ediv_left _ _ (by omega)]; omega
  simp only [cB, List.length_cons, dB, vB, e1, e2, ih]
theorem emod_mul' (B m n : Int) (hB : 0 < B) (hm : 0 < m) : n % (B * m) = n % B + B * (n / B % m) := by
 have e1 := Int.emod_add_mul_ediv n B
 have e2 := Int.emod_add_mul_ediv (n / B) m
 have b1 := Int.emod_nonneg n (show B ≠ 0 by omega)
 have b2 := Int.emod_lt_of_pos n hB
 have b3 := Int.emod_nonneg (n / B) (show m ≠ 0 by omega)
 have b4 := Int.emod_lt_of_pos (n / B) hm
 have e : n = n % B + B * (n / B % m) + B * m * (n / B / m) := by
  conv => lhs; rw [← e1, ← e2]
  rw [Int.mul_add, Int.mul_assoc]; omega
 have p1 : B * (n / B % m) ≤ B * (m - 1) := Int.mul_le_mul_of_nonneg_left (by omega) (by omega)
 have p0 : 0 ≤ B * (n / B % m) := Int.mul_nonneg (by omega) b3
 rw [Int.mul_sub] at p1
 conv => lhs; rw [e]
 rw [Int.add_mul_emod_self_left, Int.emod_eq_of_lt (by omega) (by omega)]
theorem vB_dB (B : Int) (hB : 0 < B) (k : Nat) (n : Int) : vB B (dB B k n) = n % B ^ k := by
 induction k generalizing n with
 | zero => simp [vB, dB, Int.emod_one]
 | succ k ih =>
  simp only [vB, dB, ih]
  rw [Int.pow_succ, Int.mul_comm (B ^ k) B, emod_mul' B (B ^ k) n hB (Int.pow_pos hB)]
def carry (B : Int) (l : List Int) : Nat → Int
 | 0 => 0
 | k + 1 => (l.getD k 0 + carry B l k) / B
def rowC (B : Int) (l : List Int) (k : Nat) : List Int := (List.range l.length).map fun i => if i < k then (l.getD i 0 + carry B l i) % B else l.getD i 0
theorem rowC_length (B : Int) (l : List Int) (k : Nat) : (rowC B l k).length = l.length := by simp [rowC]
theorem rowC_zero (B : Int) (l : List Int) : rowC B l 0 = l := by
 apply List.ext_getElem?
 intro i
 by_cases h : i < l.length
 · simp [rowC, h, List.getD]
 · simp [rowC, h]
theorem rowC_get (B : Int) (l : List Int) (k : Nat) (h : k < l.length) : (rowC B l k).getD k 0 = l.getD k 0 := by
 simp [rowC, List.getD, h]
theorem rowC_step (B : Int) (l : List Int) (k : Nat) (_h : k < l.length) : (rowC B l k).set k ((l.getD k 0 + carry B l k) % B) = rowC B l (k + 1) := by
 apply List.ext_getElem?
 intro i
 rw [List.getElem?_set]
 by_cases hk : k = i
 · subst hk; simp [rowC, _h]
 ·
  rw [if_neg hk]
  by_cases h : i < l.length
  ·
   have e1 : (i < k + 1) = (i < k) := by apply propext; omega
   simp [rowC, h, e1]
  · simp [rowC, h]
theorem cB_get (B : Int) (l : List Int) (c : Int) (f : Nat → Int) (h0 : f 0 = c) (hs : ∀ i, f (i + 1) = (l.getD i 0 + f i) / B) :
  cB B c l = (List.range l.length).map fun i => (l.getD i 0 + f i) % B := by
 induction l generalizing c f with
 | nil => rfl
 | cons a l ih =>
  rw [List.length_cons, List.range_succ_eq_map, List.map_cons, List.map_map]
  simp only [cB]
  congr 1
  · simp [h0]
  ·
   rw [ih ((a + c) / B) (fun i => f (i + 1)) (by rw [hs 0, h0]; simp) (fun i => by rw [hs (i + 1)]; simp)]
   apply List.map_congr_left
   intro i _
   simp
theorem rowC_all (B : Int) (hB : 0 < B) (l : List Int) : rowC B l l.length = dB B l.length (vB B l) := by
 have e := cB_get B l 0 (carry B l) rfl (fun _ => rfl)
 rw [cB_dB B hB, Int.add_zero] at e
 rw [e]
 apply List.map_congr_left
 intro i hi
 rw [if_pos (List.mem_range.1 hi)]
theorem dB_lt (B : Int) (hB : 0 < B) (k : Nat) (n : Int) : ∀ x ∈ dB B k n, 0 ≤ x ∧ x < B := by
 induction k generalizing n with
 | zero => simp [dB]
 | succ k ih =>
  intro x hx
  simp only [dB, List.mem_cons] at hx
  rcases hx with rfl | hx
  · exact ⟨Int.emod_nonneg _ (by omega), Int.emod_lt_of_pos _ hB⟩
  · exact ih _ x hx
theorem vB_bound (B : Int) (hB : 0 < B) (l : List Int) (h : ∀ x ∈ l, 0 ≤ x ∧ x < B) : 0 ≤ vB B l ∧ vB B l < B ^ l.length := by
 induction l with
 | nil => simp [vB]
 | cons a l ih =>
  obtain ⟨h0, h1⟩ := ih (fun x hx => h x (List.mem_cons_of_mem _ hx))
  obtain ⟨a0, a1⟩ := h a List.mem_cons_self
  simp only [vB, List.length_cons, Int.pow_succ]
  have p0 : 0 ≤ B * vB B l := Int.mul_nonneg (by omega) h0
  have p1 : B * vB B l ≤ B * (B ^ l.length - 1) := Int.mul_le_mul_of_nonneg_left (by omega) (by omega)
  rw [Int.mul_sub, Int.mul_comm B (B ^ l.length)] at p1
  omega
theorem vB_append (B : Int) (l m : List Int) : vB B (l ++ m) = vB B l + B ^ l.length * vB B m := by
 induction l with
 | nil => simp [vB]
 | cons a l ih =>
  simp only [List.cons_append, vB, ih, List.length_cons, Int.pow_succ, Int.mul_add, ← Int.mul_assoc, Int.mul_comm B (B ^ l.length)]
  omega
theorem lt_by_digit (B : Int) (hB : 0 < B) (a b : List Int) (i : Nat) (ha : ∀ x ∈ a, 0 ≤ x ∧ x < B) (hb : ∀ x ∈ b, 0 ≤ x ∧ x < B) (hl : a.length = b.length) (hi : i < a.length)
  (hd : a.drop (i + 1) = b.drop (i + 1)) (hne : a.getD i 0 ≠ b.getD i 0) : vB B a < vB B b ↔ a.getD i 0 < b.getD i 0 := by
 have sp : ∀ l : List Int, i < l.length → l = l.take i ++ (l.getD i 0 :: l.drop (i + 1)) := by
  intro l h
  have := List.drop_eq_getElem_cons h
  rw [show l.getD i 0 = l[i] by simp [List.getD, List.getElem?_eq_getElem h], ← this, List.take_append_drop]
 have ea : vB B a = vB B (a.take i) + B ^ i * (a.getD i 0 + B * vB B (b.drop (i + 1))) := by
  conv => lhs; rw [sp a hi, vB_append]
  rw [List.length_take, Nat.min_eq_left (by omega), hd]; rfl
 have eb : vB B b = vB B (b.take i) + B ^ i * (b.getD i 0 + B * vB B (b.drop (i + 1))) := by
  conv => lhs; rw [sp b (by omega), vB_append]
  rw [List.length_take, Nat.min_eq_left (by omega)]; rfl
 have ba := vB_bound B hB (a.take i) (fun x hx => ha x (List.mem_of_mem_take hx))
 have bb := vB_bound B hB (b.take i) (fun x hx => hb x (List.mem_of_mem_take hx))
 rw [List.length_take, Nat.min_eq_left (by omega)] at ba bb
 rw [ea, eb]
 have hp : 0 < B ^ i := Int.pow_pos hB
 generalize a.getD i 0 = x at *
 generalize b.getD i 0 = y at *
 generalize B * vB B (b.drop (i + 1)) = u at *
 generalize B ^ i = p at *
 rw [Int.mul_add, Int.mul_add]
 rcases Int.lt_or_gt_of_ne hne with h | h
 ·
  have := Int.mul_le_mul_of_nonneg_left (show x ≤ y - 1 by omega) (Int.le_of_lt hp)
  rw [Int.mul_sub] at this
  constructor
  · intro _; exact h
  · intro _; omega
 ·
  have := Int.mul_le_mul_of_nonneg_left (show y ≤ x - 1 by omega) (Int.le_of_lt hp)
  rw [Int.mul_sub] at this
  constructor
  · intro _; omega
  · intro _; omega
theorem ivs_get {w : World} {b : Nat} {l : List Int} {T : TypeId} {fr : Nat × Nat} (h : w.heap[b]? = some (.cells (l.map iv).toArray T fr)) (i : Nat) (hi : i < l.length) :
  w.cell? ⟨b, i, none⟩ = some (iv (l.getD i 0)) := by
 rw [cell_of_row w b i _ T _ h]; simp [hi, List.getD]
theorem ivs_cell (l : List Int) : ∀ v ∈ l.map iv, v.oneCell' = true := by
 intro v hv; obtain ⟨x, _, rfl⟩ := List.mem_map.1 hv; rfl
theorem getD_mem {l : List Int} {i : Nat} (h : i < l.length) : l.getD i 0 ∈ l := by
 simp [List.getD, List.getElem?_eq_getElem h]
theorem carry_bound (B : Int) (hB : 2 ≤ B) (l : List Int) (m : Int) (h : ∀ x ∈ l, -m ≤ x ∧ x ≤ m) (hm : 1 ≤ m) (k : Nat) (hk : k ≤ l.length) : -m ≤ carry B l k ∧ carry B l k ≤ m := by
 induction k with
 | zero => simp [carry]; omega
 | succ k ih =>
  obtain ⟨h0, h1⟩ := ih (by omega)
  obtain ⟨a0, a1⟩ := h (l.getD k 0) (getD_mem (by omega))
  simp only [carry]
  have p : m * 2 ≤ m * B := Int.mul_le_mul_of_nonneg_left hB (by omega)
  constructor
  ·
   apply Int.le_ediv_of_mul_le (by omega)
   rw [Int.neg_mul]; omega
  ·
   apply Int.ediv_le_of_le_mul (by omega)
   omega
theorem and65535 (n : Int) : bits .and .i64 n 65535 = n % 65536 := by
 have h : (BitVec.ofInt 64 65535).toNat = 2 ^ 16 - 1 := by decide
 have key : (BitVec.ofInt 64 n &&& BitVec.ofInt 64 65535).toNat = (n % ((2 ^ 64 : Nat) : Int)).toNat % 2 ^ 16 := by
  rw [BitVec.toNat_and, BitVec.toNat_ofInt, h, Nat.and_two_pow_sub_one_eq_mod]
 show IntKind.i64.wrap ((BitVec.ofInt 64 n &&& BitVec.ofInt 64 65535).toNat : Nat) = n % 65536
 rw [key, IntKind.wrap_i64]
 omega
theorem underS' : Tryz.prog.underlying 91 = some (.array 17 3) := by kernel_rfl
theorem sizeS : (Tryz.prog.info? 91).map (·.size) = some 17 := by kernel_rfl
def zS : Array Value := ((List.replicate 17 (0 : Int)).map iv).toArray
theorem zeroS (w : World) : (zeroValue 91).run Tryz.prog w = .ok (.agg zS) w := by kernel_rfl
theorem lt_row {w : World} {g : Nat} {o : Obj} (h : w.heap[g]? = some o) : g < w.heap.size := by
 rcases Nat.lt_or_ge g w.heap.size with k | k
 · exact k
 · rw [Array.getElem?_eq_none k] at h; cases h
theorem far_row {w : World} {g g' : Nat} {o : Obj} (i : Nat) (v : Value) (h : w.heap[g]? = some o) (hne : g ≠ g') : (w.setCell ⟨g', i, none⟩ v).heap[g]? = some o :=
 (Below.heap_setCell w _ v g hne).trans h
section
attribute [local go_sem] and65535
set_option maxRecDepth 100000 in
set_option maxHeartbeats 400000 in
theorem carried_any (d : List Int) (hl : d.length = 17) (hb : ∀ x ∈ d, -1099511627776 ≤ x ∧ x ≤ 1099511627776) (w : World) :
  Calls Tryz.prog 113 #[.agg (d.map iv).toArray] w fun e w' => e = .returned (.agg ((dB 65536 17 (vB 65536 d)).map iv).toArray) ∧ Below w.heap.size w w' := by
 have hz := zeroS
 have HL := hide hl
 have HB := hide hb
 clear hl hb
 obtain ⟨M, HM⟩ : ∃ M, Hid (M = (d.map iv).toArray) := ⟨_, rfl⟩
 rw [← HM.out]
 go_enter Tryz.func113, Tryz.ntmps113
 go_wp2_with fail
 go_loopw [3, 4] (fun c i wr => ∃ (k : Nat) (z : Int), k ≤ 17 ∧ i = .int .i64 k ∧ c = .int .i64 z ∧ Hid (z = carry 65536 d k) ∧ Hid (wr.heap[w.heap.size]? = some (.cells ((rowC 65536 d k).map iv).toArray 91 (0, 0))) ∧ Hid (wr.heap[w.heap.size + 1]? = some (.cells zS 91 (0, 0))) ∧ Hid (Below w.heap.size w wr)) (fun _ i _ => 17 - (intOf i).toNat)
 case atStart =>
  refine ⟨0, 0, Nat.zero_le _, rfl, rfl, rfl, ?_, heap_alloc2_new _ _ _, by show Below _ _ _; go_grown⟩
  rw [rowC_zero, ← HM.out]; exact (heap_alloc_old _ _ (by simp)).trans (heap_alloc_new _ _)
 case round =>
  obtain ⟨k, z, hk, rfl, rfl, HZ, H0, H1, HBl⟩ := hrel
  by_cases hlt : k < 17
  ·
   have bk : (k : Int) < 17 := by omega
   have c0 := ivs_get H0.out k (by rw [rowC_length, HL.out]; exact hlt)
   rw [rowC_get _ _ _ (by rw [HL.out]; exact hlt)] at c0
   have f0 := frozen_of_row wr w.heap.size k _ _ H0.out
   obtain ⟨x, HX⟩ : ∃ x, Hid (x = d.getD k 0) := ⟨_, rfl⟩
   rw [← HX.out] at c0
   have hx := HB.out _ (getD_mem (l := d) (i := k) (by rw [HL.out]; exact hlt))
   rw [← HX.out] at hx
   have hz1 := carry_bound 65536 (by decide) d 1099511627776 HB.out (by decide) k (by rw [HL.out]; omega)
   rw [← HZ.out] at hz1
   obtain ⟨x0, x1⟩ := hx
   obtain ⟨z0, z1⟩ := hz1
   have hw1 : IntKind.i64.wrap (x + z) = x + z := by rw [IntKind.wrap_i64]; omega
   clear hz
   go_wp2_with fail
   refine ⟨⟨k + 1, (x + z) / 65536, by omega, by go_num, rfl, ?_, ?_, far_row _ _ H1.out (by omega), HBl.out.setCell (by show _ ≤ _; exact Nat.le_refl _) _⟩, by simp [intOf]; omega⟩
   · show _ = _; simp only [carry]; rw [← HX.out, ← HZ.out]
   ·
    show _ = _
    rw [← rowC_step _ _ _ (by rw [HL.out]; exact hlt), List.map_set, ← HX.out, ← HZ.out]
    exact row_store H0.out k _
  ·
   have hk17 : k = 17 := by omega
   have bk : (17 : Int) ≤ (k : Int) := by omega
   obtain ⟨R, HR⟩ : ∃ R, Hid (R = (dB 65536 17 (vB 65536 d)).map iv) := ⟨_, rfl⟩
   have H0' : Hid (wr.heap[w.heap.size]? = some (.cells R.toArray 91 (0, 0))) := by
    have e := H0.out
    rw [hk17, show rowC 65536 d 17 = rowC 65536 d d.length by rw [HL.out], rowC_all _ (by decide), HL.out, ← HR.out] at e
    exact e
   have hRl : R.length = 17 := by rw [HR.out, List.length_map, dB_length]
   have HSz : Hid ((Tryz.prog.info? 91).map (·.size) = some R.toArray.size) := by show _ = _; rw [sizeS]; simp [hRl]
   have HO : Hid (zS.size = R.toArray.size) := by show _ = _; simp [hRl]; rfl
   have HA : Hid (R.toArray.all (·.oneCell') = true) := by rw [HR.out]; exact all_oneCell_toArray (ivs_cell _)
   clear H0 hk17 hlt hk hRl hz
   go_wp2_with (first | (refine wpList_load_row (by rfl) 91 (.tmp 1) (by rfl) w.heap.size (by rfl) 91 R.toArray (0, 0) _ H0'.out underS' rfl HSz.out ?_) | (refine wpList_store_row (by rfl) 91 (.tmp 2) (.tmp 21) (by rfl) (w.heap.size + 1) R.toArray (by rfl) (by rfl) 91 _ H1.out HSz.out HO.out HA.out ?_))
   refine bodyPost_ret (v := .agg R.toArray) (results_cell_row Tryz.results113 _ _ (w.heap.size + 1) 91 R.toArray (0, 0) _ (by rfl) (setRow_heap _ _ _ _ _ _ H1.out) underS' rfl HSz.out) rfl ⟨by rw [HR.out], below_setRow HBl.out (by omega) _⟩
end
theorem vB_inj (B : Int) (a b : List Int) (h : a = b) : ¬ vB B a < vB B b := by rw [h]; omega
theorem drop_ext {a b : List Int} {i : Nat} (ha : i < a.length) (hb : i < b.length) (h : a.drop (i + 1) = b.drop (i + 1)) (he : a.getD i 0 = b.getD i 0) : a.drop i = b.drop i := by
 rw [List.drop_eq_getElem_cons ha, List.drop_eq_getElem_cons hb, h]
 simp [List.getD, List.getElem?_eq_getElem ha, List.getElem?_eq_getElem hb] at he
 rw [he]
section
set_option maxRecDepth 100000 in
set_option maxHeartbeats 400000 in
theorem below_any (a b : List Int) (ha : a.length = 17) (hb : b.length = 17) (ra : ∀ x ∈ a, 0 ≤ x ∧ x < 65536) (rb : ∀ x ∈ b, 0 ≤ x ∧ x < 65536) (w : World) :
  Calls Tryz.prog 76 #[.agg (a.map iv).toArray, .agg (b.map iv).toArray] w fun e w' => e = .returned (.bool (decide (vB 65536 a < vB 65536 b))) ∧ Below w.heap.size w w' := by
 have HA := hide ha
 have HB := hide hb
 have HRA := hide ra
 have HRB := hide rb
 clear ha hb ra rb
 obtain ⟨M, HM⟩ : ∃ M, Hid (M = (a.map iv).toArray) := ⟨_, rfl⟩
 obtain ⟨N, HN⟩ : ∃ N, Hid (N = (b.map iv).toArray) := ⟨_, rfl⟩
 rw [← HM.out, ← HN.out]
 obtain ⟨r, HR⟩ : ∃ r, Hid (r = decide (vB 65536 a < vB 65536 b)) := ⟨_, rfl⟩
 rw [← HR.out]
 go_enter Tryz.func76, Tryz.ntmps76
 go_wp2_with fail
 go_loopw [5] (fun i wr => ∃ (j : Nat) (z : Int), j ≤ 17 ∧ i = .int .i64 z ∧ Hid (z = (j : Int) - 1) ∧ Hid (a.drop j = b.drop j) ∧ Hid (wr.heap[w.heap.size]? = some (.cells M 91 (0, 0))) ∧ Hid (wr.heap[w.heap.size + 1]? = some (.cells N 91 (0, 0))) ∧ Hid (Below w.heap.size w wr)) (fun i _ => (intOf i + 1).toNat)
 case atStart =>
  refine ⟨17, 16, Nat.le_refl _, rfl, rfl, ?_, (heap_alloc_old _ _ (by simp)).trans (heap_alloc_new _ _), heap_alloc2_new _ _ _, by show Below _ _ _; go_grown⟩
  rw [List.drop_eq_nil_of_le (by rw [HA.out]; exact Nat.le_refl _), List.drop_eq_nil_of_le (by rw [HB.out]; exact Nat.le_refl _)]; exact rfl
 case round =>
  obtain ⟨j, z, hj, rfl, HZ, HD, H0, H1, HBl⟩ := hrel
  by_cases hlt : 0 < j
  ·
   obtain ⟨i, rfl⟩ : ∃ i, j = i + 1 := ⟨j - 1, by omega⟩
   obtain rfl : z = (i : Int) := by have := HZ.out; omega
   have bi : (i : Int) < 17 := by omega
   have c0 := ivs_get (by rw [← HM.out]; exact H0.out) i (by rw [HA.out]; omega)
   have c1 := ivs_get (by rw [← HN.out]; exact H1.out) i (by rw [HB.out]; omega)
   obtain ⟨x, HX⟩ : ∃ x, Hid (x = a.getD i 0) := ⟨_, rfl⟩
   obtain ⟨y, HY⟩ : ∃ y, Hid (y = b.getD i 0) := ⟨_, rfl⟩
   rw [← HX.out] at c0
   rw [← HY.out] at c1
   by_cases hxy : x = y
   ·
    have HXY := hide hxy
    have hne : (x != y) = false := by rw [hxy]; simp
    clear hxy
    go_wp2_with fail
    go_region
    go_wp2_with fail
    refine ⟨⟨i, (i : Int) - 1, by omega, by go_num, rfl, ?_, H0, H1, HBl.out.drew⟩, by simp [intOf]⟩
    have := HXY.out; rw [HX.out, HY.out] at this
    exact drop_ext (by rw [HA.out]; omega) (by rw [HB.out]; omega) HD.out this
   ·
    have HXY := hide hxy
    have hne : (x != y) = true := by rw [bne_iff_ne]; exact hxy
    clear hxy
    go_wp2_with fail
    go_region
    go_wp2_with fail
    go_region
    go_wp2_with fail
    go_returns
    refine ⟨?_, HBl.out.drew.drew⟩
    have e := lt_by_digit 65536 (by decide) a b i HRA.out HRB.out (by rw [HA.out, HB.out]) (by rw [HA.out]; omega) HD.out (by rw [← HX.out, ← HY.out]; exact HXY.out)
    rw [← HX.out, ← HY.out] at e
    rw [HR.out]
    simp only [e]
    rfl
  ·
   obtain rfl : j = 0 := by omega
   have hz0 : z = -1 := by have := HZ.out; omega
   subst hz0
   go_wp2_with fail
   go_returns
   refine ⟨?_, HBl.out⟩
   have e := HD.out
   rw [List.drop_zero, List.drop_zero] at e
   rw [HR.out, decide_eq_false (vB_inj 65536 a b e)]
   rfl
end
end Go.Proofs.YtccgfabojbjmjaaGreatDoor
