import Derived.Test.YtccgfabojbjmjaaGreatDoorPx07
import Derived.Test.YtccgfabojbjmjaaGreatDoorPx05
namespace Go.Proofs.YtccgfabojbjmjaaGreatDoor
open Go.RowKit
abbrev fe (n : Nat) : Value := .agg (num4A n)
theorem feSize (n : Nat) : (Tryz.prog.info? 80).map (·.size) = some (num4A n).size := size33
def mP (a b : Nat) : Nat := a * b % P
def aP (a b : Nat) : Nat := (a + b) % P
def sP (a b : Nat) : Nat := (a + (P - b)) % P
theorem P_pos : 0 < P := by decide
theorem mP_lt (a b : Nat) : mP a b < P := Nat.mod_lt _ P_pos
theorem aP_lt (a b : Nat) : aP a b < P := Nat.mod_lt _ P_pos
theorem sP_lt (a b : Nat) : sP a b < P := Nat.mod_lt _ P_pos
theorem feTimes (a b : Nat) (ha : a < P) (hb : b < P) (w : World) :
  Calls Tryz.prog 93 #[fe a, fe b] w fun e w' => e = .returned (fe (mP a b)) ∧ Below w.heap.size w w' := by
 have := times_any a b ha hb w
 rw [num4_A, num4_A, num4_A] at this; exact this
theorem fePlus (a b : Nat) (ha : a < P) (hb : b < P) (w : World) :
  Calls Tryz.prog 120 #[fe a, fe b] w fun e w' => e = .returned (fe (aP a b)) ∧ Below w.heap.size w w' := by
 have := plus_any a b ha hb w
 rw [num4_A, num4_A, num4_A] at this; exact this
theorem feMinus (a b : Nat) (ha : a < P) (hb : b < P) (w : World) :
  Calls Tryz.prog 119 #[fe a, fe b] w fun e w' => e = .returned (fe (sP a b)) ∧ Below w.heap.size w w' := by
 have := minus_any a b ha hb w
 rw [num4_A, num4_A, num4_A] at this; exact this
theorem put_none' (a : Act) (v : Value) : a.put none v = a := rfl
def sqN : Nat → Nat → Nat
 | 0, a => a
 | k + 1, a => sqN k (mP a a)
theorem sqN_lt (k a : Nat) (h : a < P) : sqN k a < P := by
 induction k generalizing a with
 | zero => exact h
 | succ k ih => exact ih _ (mP_lt _ _)
theorem sqN_succ (k a : Nat) : sqN (k + 1) a = mP (sqN k a) (sqN k a) := by
 induction k generalizing a with
 | zero => rfl
 | succ k ih => rw [sqN, ih]; rfl
section
set_option maxHeartbeats 400000 in
theorem feSquare (a : Nat) (ha : a < P) (w : World) :
  Calls Tryz.prog 161 #[fe a] w fun e w' => e = .returned (fe (mP a a)) ∧ Below w.heap.size w w' := by
 have Ha := hide ha
 clear ha
 go_enter Tryz.func161, Tryz.ntmps161
 go_wp2_with (first
   | (refine wpList_load_row (by rfl) 80 (.tmp 1) (by rfl) w.heap.size (by rfl) 80 (num4A a) (0, 0) _ ((heap_alloc_old _ _ (by simp)).trans (heap_alloc_new _ _)) under33 rfl (feSize _) ?_))
 refine (feTimes a a Ha.out Ha.out _).mono ?_
 rintro e W1 ⟨rfl, hB⟩
 have hz := hB.size
 simp only [World.size_alloc] at hB hz
 have HR : Hid (W1.heap[w.heap.size + 1]? = some (.cells #[.int .u64 0, .int .u64 0, .int .u64 0, .int .u64 0] 80 (0, 0))) := (hB.block _ (by omega)).trans (heap_alloc2_new _ _ _)
 have HB : Hid (Below w.heap.size w W1) := (((Below.refl _ w).alloc (Nat.le_refl _) _).alloc (by simp) _).trans (hB.mono (by omega))
 clear hB
 go_wp2_with (first
   | (refine wpList_store_row (by rfl) 80 (.tmp 2) (.tmp 5) (by rfl) (w.heap.size + 1) (num4A (mP a a)) (by rfl) (by rfl) 80 _ HR.out (feSize _) rfl (num4A_all _) ?_))
 refine bodyPost_ret (v := fe (mP a a)) (results_cell_row Tryz.results161 _ _ (w.heap.size + 1) 80 (num4A (mP a a)) (0, 0) _ (by rfl) (setRow_heap _ _ _ _ _ _ HR.out) under33 rfl (feSize _)) rfl ⟨rfl, below_setRow HB.out (by omega) _⟩
set_option maxHeartbeats 400000 in
theorem feSquared (a k : Nat) (ha : a < P) (hk : k ≤ 1000) (w : World) :
  Calls Tryz.prog 141 #[fe a, .int .i64 k] w fun e w' => e = .returned (fe (sqN k a)) ∧ Below w.heap.size w w' := by
 have Ha := hide ha
 clear ha
 go_enter Tryz.func141, Tryz.ntmps141
 go_wp2_with fail
 go_loopw [6] (fun i wr => ∃ j : Nat, j ≤ k ∧ i = .int .i64 j ∧ Hid (wr.heap[w.heap.size]? = some (.cells (num4A (sqN j a)) 80 (0, 0))) ∧ Hid (wr.heap[w.heap.size + 1]? = some (.cells #[.int .u64 0, .int .u64 0, .int .u64 0, .int .u64 0] 80 (0, 0))) ∧ Hid (Below w.heap.size w wr)) (fun i _ => k - (intOf i).toNat)
 case atStart => exact ⟨0, Nat.zero_le _, rfl, (heap_alloc_old _ _ (by simp)).trans (heap_alloc_new _ _), heap_alloc2_new _ _ _, by show Below _ _ _; go_grown⟩
 case round =>
  obtain ⟨j, hj, rfl, H0, H1, HB⟩ := hrel
  by_cases hlt : j < k
  ·
   have bj : (j : Int) < (k : Int) := by omega
   go_wp2_with (first
    | (refine wpList_load_row (by rfl) 80 (.tmp 2) (by rfl) w.heap.size (by rfl) 80 (num4A (sqN j a)) (0, 0) _ H0.out under33 rfl (feSize _) ?_))
   refine (feSquare (sqN j a) (sqN_lt j a Ha.out) _).mono ?_
   rintro e W1 ⟨rfl, hB⟩
   have hz := hB.size
   have hz1 := lt_of_row H1.out
   have G0 : Hid (W1.heap[w.heap.size]? = some (.cells (num4A (sqN j a)) 80 (0, 0))) := (hB.block _ (by omega)).trans H0.out
   have G1 : Hid (W1.heap[w.heap.size + 1]? = some (.cells #[.int .u64 0, .int .u64 0, .int .u64 0, .int .u64 0] 80 (0, 0))) := (hB.block _ (by omega)).trans H1.out
   have G2 : Hid (Below w.heap.size w W1) := HB.out.trans (hB.mono (by omega))
   rw [← sqN_succ]
   clear hB H0 H1 HB hz hz1
   go_wp2_with (first
    | (refine wpList_store_row (by rfl) 80 (.tmp 2) (.tmp 9) (by rfl) w.heap.size (num4A (sqN (j + 1) a)) (by rfl) (by rfl) 80 _ G0.out (feSize _) rfl (num4A_all _) ?_))
   try rw [put_none']
   go_wp2_with fail
   refine ⟨⟨j + 1, by omega, by go_num, setRow_heap _ _ _ _ _ _ G0.out, (setRow_other _ _ _ _ (by omega)).trans G1.out, below_setRow G2.out (Nat.le_refl _) _⟩, by simp [intOf]; omega⟩
  ·
   obtain rfl : j = k := by omega
   have bj : (j : Int) ≤ (j : Int) := by omega
   go_wp2_with (first
    | (refine wpList_load_row (by rfl) 80 (.tmp 2) (by rfl) w.heap.size (by rfl) 80 (num4A (sqN j a)) (0, 0) _ H0.out under33 rfl (feSize _) ?_)
    | (refine wpList_store_row (by rfl) 80 (.tmp 4) (.tmp 11) (by rfl) (w.heap.size + 1) (num4A (sqN j a)) (by rfl) (by rfl) 80 _ H1.out (feSize _) rfl (num4A_all _) ?_))
   refine bodyPost_ret (v := fe (sqN j a)) (results_cell_row Tryz.results141 _ _ (w.heap.size + 1) 80 (num4A (sqN j a)) (0, 0) _ (by rfl) (setRow_heap _ _ _ _ _ _ H1.out) under33 rfl (feSize _)) rfl ⟨rfl, below_setRow HB.out (by omega) _⟩
end
abbrev zero4 : Array Value := #[.int .u64 0, .int .u64 0, .int .u64 0, .int .u64 0]
abbrev C4 (w : World) (b a : Nat) : Prop := w.cell? ⟨b, 0, none⟩ = some (nv (wd a 0)) ∧ w.cell? ⟨b, 1, none⟩ = some (nv (wd a 1)) ∧ w.cell? ⟨b, 2, none⟩ = some (nv (wd a 2)) ∧ w.cell? ⟨b, 3, none⟩ = some (nv (wd a 3))
theorem c4_of {w : World} {b a : Nat} {T : TypeId} {fr : Nat × Nat} (h : w.heap[b]? = some (.cells (num4A a) T fr)) : C4 w b a := ⟨num4A_cell h 0 (by decide), num4A_cell h 1 (by decide), num4A_cell h 2 (by decide), num4A_cell h 3 (by decide)⟩
theorem row_keep {w w' : World} {b : Nat} {o : Obj} (h : w.heap[b]? = some o) (hB : Below w.heap.size w w') : w'.heap[b]? = some o := (hB.block b (lt_of_row h)).trans h
end Go.Proofs.YtccgfabojbjmjaaGreatDoor
