import Derived.Test.YtccgfabojbjmjaaGreatDoorSg02
import Derived.Laws.IdiomStrings
import Derived.Deep.MidRow
import Derived.Test.YtccgfabojbjmjaaGreatDoorRows
import Derived.WalkSpells
import Derived.WalkLawsBesides
import Derived.Handy
import Derived.Laws.CopyOwn
import Derived.Laws.BitsLemmas
import Derived.ArgAppend
import Derived.OwnWalk
import Derived.Deep.Draws
import Derived.Maps.AppendAt
import Derived.Deep.RegionHeld3
namespace Go.Proofs.YtccgfabojbjmjaaGreatDoor
open Go.RowKit
def qbe (n i : Nat) : UInt8 := UInt8.ofNat (n / 256 ^ i)
def leB (n k : Nat) : List UInt8 := (List.range k).map (qbe n)
theorem qav (n k : Nat) : (leB n k).length = k := by simp [leB]
def rowB (n m k : Nat) : List UInt8 := (List.range m).map fun i => if i < k then qbe n i else 0
theorem rowB_length (n m k : Nat) : (rowB n m k).length = m := by simp [rowB]
theorem rowB_step (n m k : Nat) : (rowB n m k).set k (qbe n k) = rowB n m (k + 1) := by
 apply List.ext_getElem?
 intro i
 rw [List.getElem?_set]
 simp only [rowB, List.getElem?_map, List.length_map, List.length_range]
 by_cases h : k = i
 ·
  subst h
  by_cases hm : k < m
  · simp [hm]
  · simp [hm]
 ·
  rw [if_neg h]
  by_cases hm : i < m
  ·
   have e1 : (i < k + 1) = (i < k) := by apply propext; omega
   simp [hm, e1]
  · simp [hm]
theorem rowB_all (n m : Nat) : rowB n m m = leB n m := by
 unfold rowB leB
 apply List.map_congr_left
 intro i hi
 rw [if_pos (List.mem_range.1 hi)]
theorem rowB_none (n m : Nat) : rowB n m 0 = List.replicate m 0 := by
 unfold rowB
 apply List.ext_getElem?
 intro i
 by_cases hm : i < m
 · simp [hm]
 · simp [hm]
def wd (n q : Nat) : Nat := n / 18446744073709551616 ^ q % 18446744073709551616
theorem wd_byte (n q r : Nat) (hr : r < 8) : wd n q / 2 ^ (8 * r) % 256 = n / 256 ^ (8 * q + r) % 256 := by
 unfold wd
 rw [Nat.pow_add, ← Nat.div_div_eq_div_mul, Nat.pow_mul, Nat.pow_mul]
 have e : (256 : Nat) ^ 8 = 18446744073709551616 := by decide
 have e2 : (2 : Nat) ^ 8 = 256 := by decide
 rw [e, e2]
 generalize n / 18446744073709551616 ^ q = x
 have : r = 0 ∨ r = 1 ∨ r = 2 ∨ r = 3 ∨ r = 4 ∨ r = 5 ∨ r = 6 ∨ r = 7 := by omega
 rcases this with rfl | rfl | rfl | rfl | rfl | rfl | rfl | rfl <;> simp only [Nat.reducePow] <;> omega
theorem byte_V (n q r i : Nat) (hr : r < 8) (hi : i = 8 * q + r) : V (wd n q) / 2 ^ (8 * r) % 256 = C8 (qbe n i) := by
 have := wd_byte n q r hr
 unfold V C8 qbe
 rw [UInt8.toNat_ofNat', hi]
 have e : ((wd n q : Nat) : Int) / 2 ^ (8 * r) % 256 = ((wd n q / 2 ^ (8 * r) % 256 : Nat) : Int) := by rw [Int.natCast_emod, Int.natCast_ediv, Int.natCast_pow]; rfl
 rw [e, this]
theorem num4_wd (n : Nat) : num4 n = .agg #[nv (wd n 0), nv (wd n 1), nv (wd n 2), nv (wd n 3)] := by
 unfold num4 wd w4; simp only [Nat.reducePow, Nat.pow_zero, Nat.div_one]
theorem wd_get (n q : Nat) (hq : q < 4) : (#[nv (wd n 0), nv (wd n 1), nv (wd n 2), nv (wd n 3)] : Array Value)[q]? = some (nv (wd n q)) := by
 have : q = 0 ∨ q = 1 ∨ q = 2 ∨ q = 3 := by omega
 rcases this with rfl | rfl | rfl | rfl <;> rfl
theorem cvs_get {w : World} {b : Nat} {l : List UInt8} {T : TypeId} {fr : Nat × Nat} (h : w.heap[b]? = some (.cells (l.map cv).toArray T fr)) (i : Nat) (hi : i < l.length) :
  w.cell? ⟨b, i, none⟩ = some (cv (l.getD i 0)) := by
 rw [cell_of_row w b i _ T _ h]; simp [hi, List.getD]
def z32 : Array Value := ((List.replicate 32 (0 : UInt8)).map cv).toArray
theorem zero32 (w : World) : (zeroValue 61).run Tryz.prog w = .ok (.agg z32) w := by kernel_rfl
theorem qdc : Tryz.prog.underlying 61 = some (.array 32 5) := by kernel_rfl
theorem size32 : (Tryz.prog.info? 61).map (·.size) = some 32 := by kernel_rfl
theorem qcf (l : List UInt8) : ∀ v ∈ l.map cv, v.oneCell' = true := by
 intro v hv; obtain ⟨x, _, rfl⟩ := List.mem_map.1 hv; rfl
theorem row_far {w : World} {g g' : Nat} {o : Obj} (i : Nat) (v : Value) (h : w.heap[g]? = some o) (hne : g ≠ g') : (w.setCell ⟨g', i, none⟩ v).heap[g]? = some o :=
 (Below.heap_setCell w _ v g hne).trans h
theorem qbE (w : World) (A B C : Obj) : (((w.alloc A).alloc B).alloc C).heap[w.heap.size]? = some A := by
 rw [heap_alloc_old _ _ (by simp; omega), heap_alloc_old _ _ (by simp)]; exact heap_alloc_new _ _
theorem qbp (w : World) (A B C : Obj) : (((w.alloc A).alloc B).alloc C).heap[w.heap.size + 1]? = some B := by
 rw [heap_alloc_old _ _ (by simp)]; exact heap_alloc2_new _ _ _
theorem qbm (w : World) (A B C : Obj) : (((w.alloc A).alloc B).alloc C).heap[w.heap.size + 2]? = some C := by
 have := heap_alloc2_new (w.alloc A) B C
 rw [World.size_alloc] at this; exact this
section
set_option maxRecDepth 100000 in
set_option maxHeartbeats 4000000 in
theorem bytes_any (n : Nat) (w : World) :
  Calls Tryz.prog 46 #[num4 n] w fun e w' => e = .returned (.agg ((leB n 32).map cv).toArray) ∧ Below w.heap.size w w' := by
 have hz := zero32
 rw [num4_wd]
 go_enter Tryz.func46, Tryz.ntmps46
 go_wp2_with fail
 go_loopw [5] (fun i wr => ∃ k : Nat, k ≤ 32 ∧ i = .int .i64 k ∧ Hid (wr.heap[w.heap.size]? = some (.cells #[nv (wd n 0), nv (wd n 1), nv (wd n 2), nv (wd n 3)] 60 (0, 0))) ∧ Hid (wr.heap[w.heap.size + 1]? = some (.cells z32 61 (0, 0))) ∧
   Hid (wr.heap[w.heap.size + 2]? = some (.cells ((rowB n 32 k).map cv).toArray 61 (0, 0))) ∧ Hid (Below w.heap.size w wr)) (fun i _ => 32 - (intOf i).toNat)
 case atStart => exact ⟨0, Nat.zero_le _, rfl, qbE _ _ _ _, qbp _ _ _ _, by rw [rowB_none]; exact qbm _ _ _ _, by show Below _ _ _; go_grown⟩
 case round =>
  obtain ⟨k, hk, rfl, H0, H1, H2, HB⟩ := hrel
  by_cases hlt : k < 32
  ·
   obtain ⟨q, hq⟩ : ∃ q, q = k / 8 := ⟨_, rfl⟩
   obtain ⟨r, hr⟩ : ∃ r, r = k % 8 := ⟨_, rfl⟩
   have e8 : (k : Int) / 8 = (q : Int) := by omega
   have er : (k : Int) % 8 = (r : Int) := by omega
   have bq : (q : Int) < 4 := by omega
   have br : (r : Int) < 8 := by omega
   have bk : (k : Int) < 32 := by omega
   have c0 := (cell_of_row wr w.heap.size q _ _ _ H0.out).trans (wd_get n q (by omega))
   have c2 := cvs_get H2.out k (by rw [rowB_length]; exact hlt)
   have f2 := frozen_of_row wr (w.heap.size + 2) k _ _ H2.out
   have HN : Hid (V (wd n q) / 2 ^ (r * 8) % 256 = C8 (qbe n k)) := by rw [Nat.mul_comm]; exact byte_V n q r k (by omega) (by omega)
   generalize wd n q = x at c0 HN
   clear hq hr hz
   go_wp2_with fail
   refine ⟨⟨k + 1, by omega, by go_num, row_far _ _ H0.out (by omega), row_far _ _ H1.out (by omega), ?_, ?_⟩, by simp [intOf]; omega⟩
   ·
    rw [HN.out, ← rowB_step, List.map_set]
    exact qaA H2.out k _
   · exact HB.out.setCell (by show _ ≤ _; simp; omega) _
  ·
   have hk32 : k = 32 := by omega
   have bk : (32 : Int) ≤ (k : Int) := by omega
   obtain ⟨M, HM⟩ : ∃ M, Hid (M = (leB n 32).map cv) := ⟨_, rfl⟩
   have H2' : Hid (wr.heap[w.heap.size + 2]? = some (.cells M.toArray 61 (0, 0))) := by
    have := H2.out; rw [hk32, rowB_all, ← HM.out] at this; exact this
   have hMl : M.length = 32 := by rw [HM.out, List.length_map, qav]
   have HSz : Hid ((Tryz.prog.info? 61).map (·.size) = some M.toArray.size) := by show _ = _; rw [size32]; simp [hMl]
   have HO : Hid (z32.size = M.toArray.size) := by show _ = _; simp [hMl]; rfl
   have HA : Hid (M.toArray.all (·.oneCell') = true) := by rw [HM.out]; exact all_oneCell_toArray (qcf _)
   clear H2 hk32 hlt hk hMl
   go_wp2_with (first | (refine wpList_load_row (by rfl) 61 (.tmp 3) (by rfl) (w.heap.size + 2) (by rfl) 61 M.toArray (0, 0) _ H2'.out qdc rfl HSz.out ?_) | (refine wpList_store_row (by rfl) 61 (.tmp 2) (.tmp 20) (by rfl) (w.heap.size + 1) M.toArray (by rfl) (by rfl) 61 _ H1.out HSz.out HO.out HA.out ?_))
   refine bodyPost_ret (v := .agg M.toArray) (results_cell_row Tryz.results46 _ _ (w.heap.size + 1) 61 M.toArray (0, 0) _ (by rfl) (setRow_heap _ _ _ _ _ _ H1.out) qdc rfl HSz.out) rfl ⟨by rw [HM.out], below_setRow HB.out (by omega) _⟩
end
def qax (s : ByteArray) : List UInt8 := s.data.toList
theorem qc3 (s : ByteArray) : (qax s).length = s.size := rfl
def qaL (l : List UInt8) : ByteArray := ⟨l.toArray⟩
theorem qa6 (l : List UInt8) : qax (qaL l) = l := by simp [qax, qaL]
theorem strOf_bytesOf (s : ByteArray) : qaL (qax s) = s := by cases s; simp [qax, qaL]
def qaC : List UInt8 → Nat
 | [] => 0
 | c :: l => c.toNat + 256 * qaC l
abbrev iv (x : Int) : Value := .int .i64 x
def vB (B : Int) : List Int → Int
 | [] => 0
 | a :: l => a + B * vB B l
def dB (B : Int) : Nat → Int → List Int
 | 0, _ => []
 | k + 1, n => n % B :: dB B k (n / B)
def cB (B : Int) : Int → List Int → List Int
 | _, [] => []
 | c, a :: l => (a + c) % B :: cB B ((a + c) / B) l
theorem qaT (B : Int) (k : Nat) (n : Int) : (dB B k n).length = k := by
 induction k generalizing n with
 | zero => rfl
 | succ k ih => simp [dB, ih]
theorem cB_dB (B : Int) (hB : 0 < B) (c : Int) (l : List Int) : cB B c l = dB B l.length (vB B l + c) := by
 induction l generalizing c with
 | nil => rfl
 | cons a l ih =>
  have e1 : (a + B * vB B l + c) % B = (a + c) % B := by rw [show a + B * vB B l + c = a + c + B * vB B l by omega, Int.add_mul_emod_self_left]
  have e2 : (a + B * vB B l + c) / B = vB B l + (a + c) / B := by
   rw [show a + B * vB B l + c = a + c + B * vB B l by omega, Int.add_mul_ediv_left _ _ (by omega)]; omega
  simp only [cB, List.length_cons, dB, vB, e1, e2, ih]
theorem emod_mul' (B m n : Int) (hB : 0 < B) (hm : 0 < m) : n % (B * m) = n % B + B * (n / B % m) := by
 have e1 := Int.emod_add_mul_ediv n B
 have e2 := Int.emod_add_mul_ediv (n / B) m
 have b1 := Int.emod_nonneg n (show B ≠ 0 by omega)
 have b2 := Int.emod_lt_of_pos n hB
 have b3 := Int.emod_nonneg (n / B) (show m ≠ 0 by omega)
 have b4 := Int.emod_lt_of_pos (n / B) hm
 have e : n = n % B + B * (n / B % m) + B * m * (n / B / m) := by
  conv => lhs; rw [← e1, ← e2]
  rw [Int.mul_add, Int.mul_assoc]; omega
 have p1 : B * (n / B % m) ≤ B * (m - 1) := Int.mul_le_mul_of_nonneg_left (by omega) (by omega)
 have p0 : 0 ≤ B * (n / B % m) := Int.mul_nonneg (by omega) b3
 rw [Int.mul_sub] at p1
 conv => lhs; rw [e]
 rw [Int.add_mul_emod_self_left, Int.emod_eq_of_lt (by omega) (by omega)]
theorem vB_dB (B : Int) (hB : 0 < B) (k : Nat) (n : Int) : vB B (dB B k n) = n % B ^ k := by
 induction k generalizing n with
 | zero => simp [vB, dB, Int.emod_one]
 | succ k ih =>
  simp only [vB, dB, ih]
  rw [Int.pow_succ, Int.mul_comm (B ^ k) B, emod_mul' B (B ^ k) n hB (Int.pow_pos hB)]
def qbi (B : Int) (l : List Int) : Nat → Int
 | 0 => 0
 | k + 1 => (l.getD k 0 + qbi B l k) / B
def qdx (B : Int) (l : List Int) (k : Nat) : List Int := (List.range l.length).map fun i => if i < k then (l.getD i 0 + qbi B l i) % B else l.getD i 0
theorem qba (B : Int) (l : List Int) (k : Nat) : (qdx B l k).length = l.length := by simp [qdx]
theorem rowC_zero (B : Int) (l : List Int) : qdx B l 0 = l := by
 apply List.ext_getElem?
 intro i
 by_cases h : i < l.length
 · simp [qdx, h, List.getD]
 · simp [qdx, h]
theorem qdX (B : Int) (l : List Int) (k : Nat) (h : k < l.length) : (qdx B l k).getD k 0 = l.getD k 0 := by
 simp [qdx, List.getD, h]
theorem rowC_step (B : Int) (l : List Int) (k : Nat) (_h : k < l.length) : (qdx B l k).set k ((l.getD k 0 + qbi B l k) % B) = qdx B l (k + 1) := by
 apply List.ext_getElem?
 intro i
 rw [List.getElem?_set]
 by_cases hk : k = i
 · subst hk; simp [qdx, _h]
 ·
  rw [if_neg hk]
  by_cases h : i < l.length
  ·
   have e1 : (i < k + 1) = (i < k) := by apply propext; omega
   simp [qdx, h, e1]
  · simp [qdx, h]
theorem cB_get (B : Int) (l : List Int) (c : Int) (f : Nat → Int) (h0 : f 0 = c) (hs : ∀ i, f (i + 1) = (l.getD i 0 + f i) / B) :
  cB B c l = (List.range l.length).map fun i => (l.getD i 0 + f i) % B := by
 induction l generalizing c f with
 | nil => rfl
 | cons a l ih =>
  rw [List.length_cons, List.range_succ_eq_map, List.map_cons, List.map_map]
  simp only [cB]
  congr 1
  · simp [h0]
  ·
   rw [ih ((a + c) / B) (fun i => f (i + 1)) (by rw [hs 0, h0]; simp) (fun i => by rw [hs (i + 1)]; simp)]
   apply List.map_congr_left
   intro i _
   simp
theorem rowC_all (B : Int) (hB : 0 < B) (l : List Int) : qdx B l l.length = dB B l.length (vB B l) := by
 have e := cB_get B l 0 (qbi B l) rfl (fun _ => rfl)
 rw [cB_dB B hB, Int.add_zero] at e
 rw [e]
 apply List.map_congr_left
 intro i hi
 rw [if_pos (List.mem_range.1 hi)]
theorem qei (B : Int) (hB : 0 < B) (k : Nat) (n : Int) : ∀ x ∈ dB B k n, 0 ≤ x ∧ x < B := by
 induction k generalizing n with
 | zero => simp [dB]
 | succ k ih =>
  intro x hx
  simp only [dB, List.mem_cons] at hx
  rcases hx with rfl | hx
  · exact ⟨Int.emod_nonneg _ (by omega), Int.emod_lt_of_pos _ hB⟩
  · exact ih _ x hx
theorem vB_bound (B : Int) (hB : 0 < B) (l : List Int) (h : ∀ x ∈ l, 0 ≤ x ∧ x < B) : 0 ≤ vB B l ∧ vB B l < B ^ l.length := by
 induction l with
 | nil => simp [vB]
 | cons a l ih =>
  obtain ⟨h0, h1⟩ := ih (fun x hx => h x (List.mem_cons_of_mem _ hx))
  obtain ⟨a0, a1⟩ := h a List.mem_cons_self
  simp only [vB, List.length_cons, Int.pow_succ]
  have p0 : 0 ≤ B * vB B l := Int.mul_nonneg (by omega) h0
  have p1 : B * vB B l ≤ B * (B ^ l.length - 1) := Int.mul_le_mul_of_nonneg_left (by omega) (by omega)
  rw [Int.mul_sub, Int.mul_comm B (B ^ l.length)] at p1
  omega
theorem vB_append (B : Int) (l m : List Int) : vB B (l ++ m) = vB B l + B ^ l.length * vB B m := by
 induction l with
 | nil => simp [vB]
 | cons a l ih =>
  simp only [List.cons_append, vB, ih, List.length_cons, Int.pow_succ, Int.mul_add, ← Int.mul_assoc, Int.mul_comm B (B ^ l.length)]
  omega
theorem lt_by_digit (B : Int) (hB : 0 < B) (a b : List Int) (i : Nat) (ha : ∀ x ∈ a, 0 ≤ x ∧ x < B) (hb : ∀ x ∈ b, 0 ≤ x ∧ x < B) (hl : a.length = b.length) (hi : i < a.length)
  (hd : a.drop (i + 1) = b.drop (i + 1)) (hne : a.getD i 0 ≠ b.getD i 0) : vB B a < vB B b ↔ a.getD i 0 < b.getD i 0 := by
 have sp : ∀ l : List Int, i < l.length → l = l.take i ++ (l.getD i 0 :: l.drop (i + 1)) := by
  intro l h
  have := List.drop_eq_getElem_cons h
  rw [show l.getD i 0 = l[i] by simp [List.getD, List.getElem?_eq_getElem h], ← this, List.take_append_drop]
 have ea : vB B a = vB B (a.take i) + B ^ i * (a.getD i 0 + B * vB B (b.drop (i + 1))) := by
  conv => lhs; rw [sp a hi, vB_append]
  rw [List.length_take, Nat.min_eq_left (by omega), hd]; rfl
 have eb : vB B b = vB B (b.take i) + B ^ i * (b.getD i 0 + B * vB B (b.drop (i + 1))) := by
  conv => lhs; rw [sp b (by omega), vB_append]
  rw [List.length_take, Nat.min_eq_left (by omega)]; rfl
 have ba := vB_bound B hB (a.take i) (fun x hx => ha x (List.mem_of_mem_take hx))
 have bb := vB_bound B hB (b.take i) (fun x hx => hb x (List.mem_of_mem_take hx))
 rw [List.length_take, Nat.min_eq_left (by omega)] at ba bb
 rw [ea, eb]
 have hp : 0 < B ^ i := Int.pow_pos hB
 generalize a.getD i 0 = x at *
 generalize b.getD i 0 = y at *
 generalize B * vB B (b.drop (i + 1)) = u at *
 generalize B ^ i = p at *
 rw [Int.mul_add, Int.mul_add]
 rcases Int.lt_or_gt_of_ne hne with h | h
 ·
  have := Int.mul_le_mul_of_nonneg_left (show x ≤ y - 1 by omega) (Int.le_of_lt hp)
  rw [Int.mul_sub] at this
  constructor
  · intro _; exact h
  · intro _; omega
 ·
  have := Int.mul_le_mul_of_nonneg_left (show y ≤ x - 1 by omega) (Int.le_of_lt hp)
  rw [Int.mul_sub] at this
  constructor
  · intro _; omega
  · intro _; omega
theorem qaP {w : World} {b : Nat} {l : List Int} {T : TypeId} {fr : Nat × Nat} (h : w.heap[b]? = some (.cells (l.map iv).toArray T fr)) (i : Nat) (hi : i < l.length) :
  w.cell? ⟨b, i, none⟩ = some (iv (l.getD i 0)) := by
 rw [cell_of_row w b i _ T _ h]; simp [hi, List.getD]
theorem ivs_cell (l : List Int) : ∀ v ∈ l.map iv, v.oneCell' = true := by
 intro v hv; obtain ⟨x, _, rfl⟩ := List.mem_map.1 hv; rfl
theorem qay {l : List Int} {i : Nat} (h : i < l.length) : l.getD i 0 ∈ l := by
 simp [List.getD, List.getElem?_eq_getElem h]
theorem qch (B : Int) (hB : 2 ≤ B) (l : List Int) (m : Int) (h : ∀ x ∈ l, -m ≤ x ∧ x ≤ m) (hm : 1 ≤ m) (k : Nat) (hk : k ≤ l.length) : -m ≤ qbi B l k ∧ qbi B l k ≤ m := by
 induction k with
 | zero => simp [qbi]; omega
 | succ k ih =>
  obtain ⟨h0, h1⟩ := ih (by omega)
  obtain ⟨a0, a1⟩ := h (l.getD k 0) (qay (by omega))
  simp only [qbi]
  have p : m * 2 ≤ m * B := Int.mul_le_mul_of_nonneg_left hB (by omega)
  constructor
  ·
   apply Int.le_ediv_of_mul_le (by omega)
   rw [Int.neg_mul]; omega
  ·
   apply Int.ediv_le_of_le_mul (by omega)
   omega
theorem and65535 (n : Int) : bits .and .i64 n 65535 = n % 65536 := by
 have h : (BitVec.ofInt 64 65535).toNat = 2 ^ 16 - 1 := by decide
 have key : (BitVec.ofInt 64 n &&& BitVec.ofInt 64 65535).toNat = (n % ((2 ^ 64 : Nat) : Int)).toNat % 2 ^ 16 := by
  rw [BitVec.toNat_and, BitVec.toNat_ofInt, h, Nat.and_two_pow_sub_one_eq_mod]
 show IntKind.i64.wrap ((BitVec.ofInt 64 n &&& BitVec.ofInt 64 65535).toNat : Nat) = n % 65536
 rw [key, IntKind.wrap_i64]
 omega
theorem qbw : Tryz.prog.underlying 91 = some (.array 17 3) := by kernel_rfl
theorem sizeS : (Tryz.prog.info? 91).map (·.size) = some 17 := by kernel_rfl
def zS : Array Value := ((List.replicate 17 (0 : Int)).map iv).toArray
theorem zeroS (w : World) : (zeroValue 91).run Tryz.prog w = .ok (.agg zS) w := by kernel_rfl
theorem qae {w : World} {g : Nat} {o : Obj} (h : w.heap[g]? = some o) : g < w.heap.size := by
 rcases Nat.lt_or_ge g w.heap.size with k | k
 · exact k
 · rw [Array.getElem?_eq_none k] at h; cases h
theorem qa7 {w : World} {g g' : Nat} {o : Obj} (i : Nat) (v : Value) (h : w.heap[g]? = some o) (hne : g ≠ g') : (w.setCell ⟨g', i, none⟩ v).heap[g]? = some o :=
 (Below.heap_setCell w _ v g hne).trans h
section
attribute [local go_sem] and65535
set_option maxRecDepth 100000 in
set_option maxHeartbeats 400000 in
theorem carried_any (d : List Int) (hl : d.length = 17) (hb : ∀ x ∈ d, -1099511627776 ≤ x ∧ x ≤ 1099511627776) (w : World) :
  Calls Tryz.prog 113 #[.agg (d.map iv).toArray] w fun e w' => e = .returned (.agg ((dB 65536 17 (vB 65536 d)).map iv).toArray) ∧ Below w.heap.size w w' := by
 have hz := zeroS
 have HL := qaf hl
 have HB := qaf hb
 clear hl hb
 obtain ⟨M, HM⟩ : ∃ M, Hid (M = (d.map iv).toArray) := ⟨_, rfl⟩
 rw [← HM.out]
 go_enter Tryz.func113, Tryz.ntmps113
 go_wp2_with fail
 go_loopw [3, 4] (fun c i wr => ∃ (k : Nat) (z : Int), k ≤ 17 ∧ i = .int .i64 k ∧ c = .int .i64 z ∧ Hid (z = qbi 65536 d k) ∧ Hid (wr.heap[w.heap.size]? = some (.cells ((qdx 65536 d k).map iv).toArray 91 (0, 0))) ∧ Hid (wr.heap[w.heap.size + 1]? = some (.cells zS 91 (0, 0))) ∧ Hid (Below w.heap.size w wr)) (fun _ i _ => 17 - (intOf i).toNat)
 case atStart =>
  refine ⟨0, 0, Nat.zero_le _, rfl, rfl, rfl, ?_, heap_alloc2_new _ _ _, by show Below _ _ _; go_grown⟩
  rw [rowC_zero, ← HM.out]; exact (heap_alloc_old _ _ (by simp)).trans (heap_alloc_new _ _)
 case round =>
  obtain ⟨k, z, hk, rfl, rfl, HZ, H0, H1, HBl⟩ := hrel
  by_cases hlt : k < 17
  ·
   have bk : (k : Int) < 17 := by omega
   have c0 := qaP H0.out k (by rw [qba, HL.out]; exact hlt)
   rw [qdX _ _ _ (by rw [HL.out]; exact hlt)] at c0
   have f0 := frozen_of_row wr w.heap.size k _ _ H0.out
   obtain ⟨x, HX⟩ : ∃ x, Hid (x = d.getD k 0) := ⟨_, rfl⟩
   rw [← HX.out] at c0
   have hx := HB.out _ (qay (l := d) (i := k) (by rw [HL.out]; exact hlt))
   rw [← HX.out] at hx
   have hz1 := qch 65536 (by decide) d 1099511627776 HB.out (by decide) k (by rw [HL.out]; omega)
   rw [← HZ.out] at hz1
   obtain ⟨x0, x1⟩ := hx
   obtain ⟨z0, z1⟩ := hz1
   have hw1 : IntKind.i64.wrap (x + z) = x + z := by rw [IntKind.wrap_i64]; omega
   clear hz
   go_wp2_with fail
   refine ⟨⟨k + 1, (x + z) / 65536, by omega, by go_num, rfl, ?_, ?_, qa7 _ _ H1.out (by omega), HBl.out.setCell (by show _ ≤ _; exact Nat.le_refl _) _⟩, by simp [intOf]; omega⟩
   · show _ = _; simp only [qbi]; rw [← HX.out, ← HZ.out]
   ·
    show _ = _
    rw [← rowC_step _ _ _ (by rw [HL.out]; exact hlt), List.map_set, ← HX.out, ← HZ.out]
    exact qaA H0.out k _
  ·
   have hk17 : k = 17 := by omega
   have bk : (17 : Int) ≤ (k : Int) := by omega
   obtain ⟨R, HR⟩ : ∃ R, Hid (R = (dB 65536 17 (vB 65536 d)).map iv) := ⟨_, rfl⟩
   have H0' : Hid (wr.heap[w.heap.size]? = some (.cells R.toArray 91 (0, 0))) := by
    have e := H0.out
    rw [hk17, show qdx 65536 d 17 = qdx 65536 d d.length by rw [HL.out], rowC_all _ (by decide), HL.out, ← HR.out] at e
    exact e
   have hRl : R.length = 17 := by rw [HR.out, List.length_map, qaT]
   have HSz : Hid ((Tryz.prog.info? 91).map (·.size) = some R.toArray.size) := by show _ = _; rw [sizeS]; simp [hRl]
   have HO : Hid (zS.size = R.toArray.size) := by show _ = _; simp [hRl]; rfl
   have HA : Hid (R.toArray.all (·.oneCell') = true) := by rw [HR.out]; exact all_oneCell_toArray (ivs_cell _)
   clear H0 hk17 hlt hk hRl hz
   go_wp2_with (first | (refine wpList_load_row (by rfl) 91 (.tmp 1) (by rfl) w.heap.size (by rfl) 91 R.toArray (0, 0) _ H0'.out qbw rfl HSz.out ?_) | (refine wpList_store_row (by rfl) 91 (.tmp 2) (.tmp 21) (by rfl) (w.heap.size + 1) R.toArray (by rfl) (by rfl) 91 _ H1.out HSz.out HO.out HA.out ?_))
   refine bodyPost_ret (v := .agg R.toArray) (results_cell_row Tryz.results113 _ _ (w.heap.size + 1) 91 R.toArray (0, 0) _ (by rfl) (setRow_heap _ _ _ _ _ _ H1.out) qbw rfl HSz.out) rfl ⟨by rw [HR.out], below_setRow HBl.out (by omega) _⟩
end
theorem vB_inj (B : Int) (a b : List Int) (h : a = b) : ¬ vB B a < vB B b := by rw [h]; omega
theorem drop_ext {a b : List Int} {i : Nat} (ha : i < a.length) (hb : i < b.length) (h : a.drop (i + 1) = b.drop (i + 1)) (he : a.getD i 0 = b.getD i 0) : a.drop i = b.drop i := by
 rw [List.drop_eq_getElem_cons ha, List.drop_eq_getElem_cons hb, h]
 simp [List.getD, List.getElem?_eq_getElem ha, List.getElem?_eq_getElem hb] at he
 rw [he]
section
set_option maxRecDepth 100000 in
set_option maxHeartbeats 400000 in
theorem below_any (a b : List Int) (ha : a.length = 17) (hb : b.length = 17) (ra : ∀ x ∈ a, 0 ≤ x ∧ x < 65536) (rb : ∀ x ∈ b, 0 ≤ x ∧ x < 65536) (w : World) :
  Calls Tryz.prog 76 #[.agg (a.map iv).toArray, .agg (b.map iv).toArray] w fun e w' => e = .returned (.bool (decide (vB 65536 a < vB 65536 b))) ∧ Below w.heap.size w w' := by
 have HA := qaf ha
 have HB := qaf hb
 have HRA := qaf ra
 have HRB := qaf rb
 clear ha hb ra rb
 obtain ⟨M, HM⟩ : ∃ M, Hid (M = (a.map iv).toArray) := ⟨_, rfl⟩
 obtain ⟨N, HN⟩ : ∃ N, Hid (N = (b.map iv).toArray) := ⟨_, rfl⟩
 rw [← HM.out, ← HN.out]
 obtain ⟨r, HR⟩ : ∃ r, Hid (r = decide (vB 65536 a < vB 65536 b)) := ⟨_, rfl⟩
 rw [← HR.out]
 go_enter Tryz.func76, Tryz.ntmps76
 go_wp2_with fail
 go_loopw [5] (fun i wr => ∃ (j : Nat) (z : Int), j ≤ 17 ∧ i = .int .i64 z ∧ Hid (z = (j : Int) - 1) ∧ Hid (a.drop j = b.drop j) ∧ Hid (wr.heap[w.heap.size]? = some (.cells M 91 (0, 0))) ∧ Hid (wr.heap[w.heap.size + 1]? = some (.cells N 91 (0, 0))) ∧ Hid (Below w.heap.size w wr)) (fun i _ => (intOf i + 1).toNat)
 case atStart =>
  refine ⟨17, 16, Nat.le_refl _, rfl, rfl, ?_, (heap_alloc_old _ _ (by simp)).trans (heap_alloc_new _ _), heap_alloc2_new _ _ _, by show Below _ _ _; go_grown⟩
  rw [List.drop_eq_nil_of_le (by rw [HA.out]; exact Nat.le_refl _), List.drop_eq_nil_of_le (by rw [HB.out]; exact Nat.le_refl _)]; exact rfl
 case round =>
  obtain ⟨j, z, hj, rfl, HZ, HD, H0, H1, HBl⟩ := hrel
  by_cases hlt : 0 < j
  ·
   obtain ⟨i, rfl⟩ : ∃ i, j = i + 1 := ⟨j - 1, by omega⟩
   obtain rfl : z = (i : Int) := by have := HZ.out; omega
   have bi : (i : Int) < 17 := by omega
   have c0 := qaP (by rw [← HM.out]; exact H0.out) i (by rw [HA.out]; omega)
   have c1 := qaP (by rw [← HN.out]; exact H1.out) i (by rw [HB.out]; omega)
   obtain ⟨x, HX⟩ : ∃ x, Hid (x = a.getD i 0) := ⟨_, rfl⟩
   obtain ⟨y, HY⟩ : ∃ y, Hid (y = b.getD i 0) := ⟨_, rfl⟩
   rw [← HX.out] at c0
   rw [← HY.out] at c1
   by_cases hxy : x = y
   ·
    have HXY := qaf hxy
    have hne : (x != y) = false := by rw [hxy]; simp
    clear hxy
    go_wp2_with fail
    go_region
    go_wp2_with fail
    refine ⟨⟨i, (i : Int) - 1, by omega, by go_num, rfl, ?_, H0, H1, HBl.out.drew⟩, by simp [intOf]⟩
    have := HXY.out; rw [HX.out, HY.out] at this
    exact drop_ext (by rw [HA.out]; omega) (by rw [HB.out]; omega) HD.out this
   ·
    have HXY := qaf hxy
    have hne : (x != y) = true := by rw [bne_iff_ne]; exact hxy
    clear hxy
    go_wp2_with fail
    go_region
    go_wp2_with fail
    go_region
    go_wp2_with fail
    go_returns
    refine ⟨?_, HBl.out.drew.drew⟩
    have e := lt_by_digit 65536 (by decide) a b i HRA.out HRB.out (by rw [HA.out, HB.out]) (by rw [HA.out]; omega) HD.out (by rw [← HX.out, ← HY.out]; exact HXY.out)
    rw [← HX.out, ← HY.out] at e
    rw [HR.out]
    simp only [e]
    rfl
  ·
   obtain rfl : j = 0 := by omega
   have hz0 : z = -1 := by have := HZ.out; omega
   subst hz0
   go_wp2_with fail
   go_returns
   refine ⟨?_, HBl.out⟩
   have e := HD.out
   rw [List.drop_zero, List.drop_zero] at e
   rw [HR.out, decide_eq_false (vB_inj 65536 a b e)]
   rfl
end
def Own (w : World) (B : Nat) (e : TypeId) (v : Value) (xs : List Value) : Prop :=
 (v = .slice none 0 0 ∧ xs = []) ∨
 ∃ g cap cur fr, v = .slice (some ⟨g, 0, none⟩) xs.length cap ∧ B ≤ g ∧ w.heap[g]? = some (.cells cur e fr) ∧ (fr = (0, 0) ∨ cur.size ≤ fr.1) ∧ xs.length ≤ cap ∧ cap ≤ maxLen ∧ cur.size = cap ∧ cur.toList.take xs.length = xs
theorem Own.nil (w : World) (B : Nat) (e : TypeId) : Own w B e (.slice none 0 0) [] := .inl ⟨rfl, rfl⟩
theorem Own.of_row {w : World} {B : Nat} {e : TypeId} {v : Value} {n : Nat} {xs : List Value} (h : w.ownsRow B e 1 v n xs) : Own w B e v xs := by
 obtain ⟨hl, ⟨rfl, rfl⟩ | ⟨g, cap, cur, rfl, h1, h2, h3, h4, h5, h6⟩⟩ := h
 · exact .inl ⟨rfl, List.eq_nil_of_length_eq_zero (by simpa using hl)⟩
 ·
  rw [Nat.mul_one] at hl h5 h6
  subst hl
  exact .inr ⟨g, cap, cur, (0, 0), rfl, h1, h2, .inl rfl, h3, h4, h5, h6⟩
theorem Own.mono {w : World} {B B' : Nat} {e : TypeId} {v : Value} {xs : List Value} (h : Own w B e v xs) (hB : B' ≤ B) : Own w B' e v xs := by
 rcases h with h | ⟨g, cap, cur, fr, h0, h1, h2⟩
 · exact .inl h
 · exact .inr ⟨g, cap, cur, fr, h0, Nat.le_trans hB h1, h2⟩
theorem Own.form {w : World} {B : Nat} {e : TypeId} {v : Value} {xs : List Value} (h : Own w B e v xs) (hx : 0 < xs.length) :
  ∃ g cap, v = .slice (some ⟨g, 0, none⟩) xs.length cap ∧ B ≤ g ∧ g < w.heap.size ∧ xs.length ≤ cap ∧ cap ≤ maxLen ∧ ∀ i, i < xs.length → w.cell? ⟨g, i, none⟩ = xs[i]? := by
 rcases h with ⟨_, rfl⟩ | ⟨g, cap, cur, fr, h0, h1, h2, _, h4, h5, h6, h7⟩
 · simp at hx
 ·
  refine ⟨g, cap, h0, h1, ?_, h4, h5, fun i hi => ?_⟩
  ·
   rcases Nat.lt_or_ge g w.heap.size with q | q
   · exact q
   · rw [Array.getElem?_eq_none q] at h2; cases h2
  ·
   rw [cell_of_row w g i cur e fr h2]
   have e1 : (cur.toList.take xs.length)[i]? = xs[i]? := by rw [h7]
   rw [List.getElem?_take, if_pos hi] at e1
   simpa using e1
theorem Own.kept {w w' : World} {B : Nat} {e : TypeId} {v : Value} {xs : List Value} (h : Own w B e v xs) (hk : ∀ g, v.ownBlock = some g → w'.heap[g]? = w.heap[g]?) : Own w' B e v xs := by
 rcases h with h | ⟨g, cap, cur, fr, h0, h1, h2, h3⟩
 · exact .inl h
 · exact .inr ⟨g, cap, cur, fr, h0, h1, (hk g (by rw [h0]; rfl)).trans h2, h3⟩
theorem Own.alloc {w : World} {B : Nat} {e : TypeId} {v : Value} {xs : List Value} (h : Own w B e v xs) (o : Obj) : Own (w.alloc o) B e v xs := by
 rcases h with h | ⟨g, cap, cur, fr, h0, h1, h2, h3⟩
 · exact .inl h
 ·
  refine .inr ⟨g, cap, cur, fr, h0, h1, ?_, h3⟩
  have hg : g < w.heap.size := by
   rcases Nat.lt_or_ge g w.heap.size with q | q
   · exact q
   · rw [Array.getElem?_eq_none q] at h2; cases h2
  exact (heap_alloc_old w o hg).trans h2
theorem _root_.Go.RowKit.Below.drewN {B : Nat} {a w : World} (h : Below B a w) (n : Nat) : Below B a (w.drewN n) := ⟨h.os, h.tape, h.output, h.size, h.block⟩
theorem setCells_row (g : Nat) (t : TypeId) (fr : Nat × Nat) : ∀ (vs : List Value) (o : Nat) (cur : Array Value) (w : World), w.heap[g]? = some (.cells cur t fr) → o + vs.length ≤ cur.size →
  ∃ cur' : Array Value, (w.setCells g o vs).heap[g]? = some (.cells cur' t fr) ∧ cur'.size = cur.size ∧ cur'.toList.take (o + vs.length) = cur.toList.take o ++ vs
 | [], o, cur, w, hg, _ => ⟨cur, hg, rfl, by simp⟩
 | v :: r, o, cur, w, hg, hl => by
  have hl' : o + (r.length + 1) ≤ cur.size := by simpa using hl
  have h1 : (w.setCell ⟨g, o, none⟩ v).heap[g]? = some (.cells (cur.setIfInBounds o v) t fr) := by
   rw [setCell_eq_setRow w g o cur t fr v hg]; exact setRow_heap w g cur _ t fr hg
  obtain ⟨c', a1, a2, a3⟩ := setCells_row g t fr r (o + 1) _ _ h1 (by simp; omega)
  refine ⟨c', a1, by simpa using a2, ?_⟩
  have e1 : o + (v :: r).length = o + 1 + r.length := by simp; omega
  rw [e1, a3]
  have e2 : (cur.setIfInBounds o v).toList.take (o + 1) = cur.toList.take o ++ [v] := by
   rw [Array.toList_setIfInBounds, List.take_succ_eq_append_getElem (by simp; omega), List.take_set_of_le (Nat.le_refl _)]
   simp
  rw [e2]; simp
theorem qd4 (g k : Nat) (hk : k ≠ g) : ∀ (vs : List Value) (o : Nat) (w : World), (w.setCells g o vs).heap[k]? = w.heap[k]?
 | [], _, _ => rfl
 | v :: r, o, w => by rw [World.setCells, qd4 g k hk r, Below.heap_setCell _ _ _ _ (by exact hk)]
theorem setCells_size (g : Nat) : ∀ (vs : List Value) (o : Nat) (w : World), (w.setCells g o vs).heap.size = w.heap.size
 | [], _, _ => rfl
 | v :: r, o, w => by rw [World.setCells, setCells_size g r]; simp
theorem qcF (g : Nat) : ∀ (vs : List Value) (o : Nat) (w : World), (w.setCells g o vs).os = w.os ∧ (w.setCells g o vs).tape = w.tape ∧ (w.setCells g o vs).output = w.output
 | [], _, _ => ⟨rfl, rfl, rfl⟩
 | v :: r, o, w => by rw [World.setCells]; exact qcF g r (o + 1) _
section
variable {P : Program} (w : World)
theorem qc9 (B : Nat) (t ty e : TypeId) (i : TypeInfo) (z : Value) (bytes : Nat) (ht : P.underlying t = some (.slice e)) (hi : P.info? e = some i) (hz : i.zero = some z)
  (hsize : i.size = 1) (hby : i.bytes = bytes) (hzs : z.cells.size = 1) (v : Value) (xs : List Value) (hown : Own w B e v xs)
  (a : Addr) (m c : Nat) (news : List Value) (hl : news.length = m) (hnews : ∀ j u, news[j]? = some u → w.cell? (a.add j) = some u) (h1 : ∀ u ∈ news, u.oneCell' = true)
  (h63 : xs.length + m ≤ maxLen) (hbytes : (xs.length + m) * bytes ≤ 140737488355328) (hbase : B ≤ w.heap.size) :
  ∃ v' w', (Builtin.append_ #[t, t] ty #[v, .slice (some a) m c]).run P w = .ok v' w' ∧ Own w' B e v' (xs ++ news) ∧ w.grownBy w' v.ownBlock ∧ ∀ g j, v.ownBlock = some g → j < xs.length → w'.cell? ⟨g, j, none⟩ = w.cell? ⟨g, j, none⟩ := by
 rcases hown with ⟨rfl, rfl⟩ | ⟨g, cap, cur, fr, rfl, hB, hg, hfr, hlc, hcm, hcs, htk⟩
 ·
  obtain ⟨v', w', hr, h2, h3, _⟩ := run_append_own (P := P) w B t ty e i z 1 bytes ht hi hz hsize hby hzs (by omega) (.slice none 0 0) 0 [] (World.ownsRow_nil w B e 1) a m c news (by omega) hnews h1 (by simpa using h63) (by simpa using hbytes) hbase
  exact ⟨v', w', hr, Own.of_row h2, h3, fun g j hg => by cases hg⟩
 ·
  have hcells : ∀ j, w.cell? ⟨g, j, none⟩ = cur[j]? := fun j => cell_of_row w g j cur e fr hg
  by_cases hroom : xs.length + m ≤ cap
  ·
   have hr := run_append_room_cells (P := P) w t ty e i ht hi g 0 xs.length cap a m c news (by rw [hsize]; omega) hnews h1 hroom
    (fun j hj => by rw [hsize, Nat.zero_add, Nat.mul_one, hcells]; simp; omega)
    (fun j hj => by
     rw [hsize, Nat.zero_add, Nat.mul_one]
     simp only [World.frozen?, hg]
     rcases hfr with rfl | hfr
     · simp
     · simp; omega)
   rw [hsize, Nat.zero_add, Nat.mul_one] at hr
   obtain ⟨cur', b1, b2, b3⟩ := setCells_row g e fr news xs.length cur w hg (by omega)
   refine ⟨_, _, hr, .inr ⟨g, cap, cur', fr, by rw [List.length_append, hl], hB, b1, by rw [b2]; exact hfr, by rw [List.length_append, hl]; exact hroom, hcm, by rw [b2, hcs], ?_⟩, ?_, ?_⟩
   · rw [List.length_append, b3, htk]
   · exact ⟨(qcF g news _ w).1, (qcF g news _ w).2.1, (qcF g news _ w).2.2, by rw [setCells_size]; exact Nat.le_refl _, fun k _ hk => qd4 g k (fun e => hk (by simp [Value.ownBlock, e])) news _ w⟩
   ·
    intro g' j hg' hj
    simp [Value.ownBlock] at hg'; subst hg'
    exact World.cell?_setCells_out _ news _ w _ (fun _ _ => Or.inl hj)
  ·
   obtain ⟨v', w', hrun, r1, r2⟩ := run_append_arg_grows (P := P) w t ty e i z 1 bytes ht hi hz hsize hby hzs (by omega) ⟨g, 0, none⟩ xs.length cap xs (by omega) (fun j u hj => by
    have hjl : j < xs.length := (List.getElem?_eq_some_iff.1 hj).1
    rw [Addr.add_lit, Nat.zero_add, hcells]
    have e1 : (cur.toList.take xs.length)[j]? = xs[j]? := by rw [htk]
    rw [List.getElem?_take, if_pos hjl] at e1
    rw [← hj, ← e1]; simp) a m c news (by omega) hnews (by omega) h63 hbytes
   exact ⟨v', w', hrun, (Own.of_row r1).mono hbase, ⟨r2.os, r2.tape, r2.output, r2.size, fun k hk _ => r2.block k hk (by simp)⟩, fun g' j hg' _ => by
    simp [Value.ownBlock] at hg'; subst hg'
    have hlt : g < w.heap.size := by
     rcases Nat.lt_or_ge g w.heap.size with q | q
     · exact q
     · rw [Array.getElem?_eq_none q] at hg; cases hg
    exact World.cell?_of_block (w := w) (r2.block g hlt (by simp))⟩
theorem qa4 {ops : Array Oper} {rest : List Oper} {o : Oper} {a : Act} {Q : Exit → Act → World → Prop} (hgd : o.guard = none) (s x : Operand) (t : TypeId)
  (ho : o.op = .call { callee := .builtin .append, args := #[s, x], argTypes := #[t, t] })
  (B : Nat) (e : TypeId) (i : TypeInfo) (z : Value) (bytes : Nat) (ht : P.underlying t = some (.slice e)) (hi : P.info? e = some i) (hz : i.zero = some z)
  (hsize : i.size = 1) (hby : i.bytes = bytes) (hzs : z.cells.size = 1)
  (v : Value) (xs : List Value) (hs : a.eval s = v) (hown : Own w B e v xs)
  (ad : Addr) (m c : Nat) (news : List Value) (hx : a.eval x = .slice (some ad) m c) (hl : news.length = m) (hnews : ∀ j u, news[j]? = some u → w.cell? (ad.add j) = some u) (h1 : ∀ u ∈ news, u.oneCell' = true)
  (h63 : xs.length + m ≤ maxLen) (hbytes : (xs.length + m) * bytes ≤ 140737488355328) (hbase : B ≤ w.heap.size)
  (h : ∀ v' w', Hid (Own w' B e v' (xs ++ news)) → Hid (w.grownBy w' v.ownBlock) → wpList P ops Q rest (a.put o.dst v') w') : wpList P ops Q (o :: rest) a w := by
 refine wpList_plain hgd fun _ hK => ?_
 obtain ⟨v', w', hr, h2, h3, _⟩ := qc9 (P := P) w B t o.type e i z bytes ht hi hz hsize hby hzs v xs hown ad m c news hl hnews h1 h63 hbytes hbase
 unfold Oper.wp execOp
 simp only [ho, resolve, invoke, builtin, Sem.run_bind, Sem.run_pure, Result.andThen_ok, List.map_toArray, List.map_cons, List.map_nil, hs, hx, hr]
 exact hK _ _ (h v' w' h2 h3)
end
section
variable {P : Program} (w : World)
theorem step_append_Own {ops : Array Oper} {o : Oper} {a : Act} {K : Act → World → Prop} {Q : Exit → Act → World → Prop} {E : Prop} (hgd : o.guard = none) (s x : Operand) (t : TypeId)
  (ho : o.op = .call { callee := .builtin .append, args := #[s, x], argTypes := #[t, t] })
  (B : Nat) (e : TypeId) (i : TypeInfo) (z : Value) (bytes : Nat) (ht : P.underlying t = some (.slice e)) (hi : P.info? e = some i) (hz : i.zero = some z)
  (hsize : i.size = 1) (hby : i.bytes = bytes) (hzs : z.cells.size = 1)
  (v : Value) (xs : List Value) (hs : a.eval s = v) (hown : Own w B e v xs)
  (ad : Addr) (m c : Nat) (news : List Value) (hx : a.eval x = .slice (some ad) m c) (hl : news.length = m) (hnews : ∀ j u, news[j]? = some u → w.cell? (ad.add j) = some u) (h1 : ∀ u ∈ news, u.oneCell' = true)
  (h63 : xs.length + m ≤ maxLen) (hbytes : (xs.length + m) * bytes ≤ 140737488355328) (hbase : B ≤ w.heap.size)
  (h : ∀ v' w', Hid (Own w' B e v' (xs ++ news)) → Hid (w.grownBy w' v.ownBlock) → Hid (∀ g j, v.ownBlock = some g → j < xs.length → w'.cell? ⟨g, j, none⟩ = w.cell? ⟨g, j, none⟩) → K (a.put o.dst v') w') :
  if Region.wanted o (yielded ops a.tmps) = true then Oper.wp P o a w K Q else E := by
 have hw : Region.wanted o (yielded ops a.tmps) = true := by simp [Region.wanted, hgd]
 rw [if_pos hw]
 obtain ⟨v', w', hr, h2, h3, h4⟩ := qc9 (P := P) w B t o.type e i z bytes ht hi hz hsize hby hzs v xs hown ad m c news hl hnews h1 h63 hbytes hbase
 unfold Oper.wp execOp
 simp only [ho, resolve, invoke, builtin, Sem.run_bind, Sem.run_pure, Result.andThen_ok, List.map_toArray, List.map_cons, List.map_nil, hs, hx, hr]
 exact h v' w' h2 h3 h4
end
theorem own_ge {w : World} {B : Nat} {e : TypeId} {v : Value} {xs : List Value} (h : Own w B e v xs) {q : Nat} (hq : v.ownBlock = some q) : B ≤ q := by
 rcases h with ⟨rfl, _⟩ | ⟨g, cap, cur, fr, rfl, h1, _⟩
 · cases hq
 · simp [Value.ownBlock] at hq; omega
theorem cell_two_new (w : World) (x y : Value) (t : TypeId) : ∀ j u, [x, y][j]? = some u → (w.alloc (.cells #[x, y] t)).cell? ((⟨w.heap.size, 0, none⟩ : Addr).add j) = some u := by
 intro j u h
 rw [Addr.add_mid, Nat.zero_add, cell_of_row _ _ j _ _ _ (heap_alloc_new _ _)]
 simpa using h
end Go.Proofs.YtccgfabojbjmjaaGreatDoor
