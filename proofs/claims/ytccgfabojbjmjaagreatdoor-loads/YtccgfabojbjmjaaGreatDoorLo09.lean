import Derived.Test.YtccgfabojbjmjaaGreatDoorLo06
import Derived.Test.YtccgfabojbjmjaaGreatDoorLo08
set_option maxRecDepth 100000
set_option maxHeartbeats 8000000
namespace Go.Proofs.YtccgfabojbjmjaaGreatDoor
open Go.RowKit
open Go.RowKit
abbrev fe (n : Nat) : Value := .agg (qb n)
theorem jc (n : Nat) : (Tryz.prog.info? 80).map (·.size) = some (qb n).size := J9
def mP (a b : Nat) : Nat := a * b % P
def aP (a b : Nat) : Nat := (a + b) % P
def sP (a b : Nat) : Nat := (a + (P - b)) % P
theorem j3 : 0 < P := by decide
theorem qK (a b : Nat) : mP a b < P := Nat.mod_lt _ j3
theorem QF (a b : Nat) : aP a b < P := Nat.mod_lt _ j3
theorem jR (a b : Nat) : sP a b < P := Nat.mod_lt _ j3
theorem jF (a b : Nat) (ha : a < P) (hb : b < P) (w : World) :
  zC 93 #[fe a, fe b] w (fe (mP a b)) := by
 have := qlJ a b ha hb w
 rw [yN, yN, yN] at this; exact this
theorem yf (a b : Nat) (ha : a < P) (hb : b < P) (w : World) :
  zC 120 #[fe a, fe b] w (fe (aP a b)) := by
 have := qoq a b ha hb w
 rw [yN, yN, yN] at this; exact this
theorem JD (a b : Nat) (ha : a < P) (hb : b < P) (w : World) :
  zC 119 #[fe a, fe b] w (fe (sP a b)) := by
 have := qku a b ha hb w
 rw [yN, yN, yN] at this; exact this
theorem qH (a : Act) (v : Value) : a.put none v = a := rfl
def sqN : Nat → Nat → Nat
 | 0, a => a
 | k + 1, a => sqN k (mP a a)
theorem Je (k a : Nat) (h : a < P) : sqN k a < P := by
 induction k generalizing a with
 | zero => exact h
 | succ k ih => exact ih _ (qK _ _)
theorem qid (k a : Nat) : sqN (k + 1) a = mP (sqN k a) (sqN k a) := by
 induction k generalizing a with
 | zero => rfl
 | succ k ih => rw [sqN, ih]; rfl
section
theorem qbv (a : Nat) (ha : a < P) (w : World) :
  zC 161 #[fe a] w (fe (mP a a)) := by
 have Ha := qa ha
 clear ha
 go_enter Tryz.func161, Tryz.ntmps161
 go_wp2_with (first
   | (refine zg (by rfl) 80 (.tmp 1) (by rfl) w.heap.size (by rfl) 80 (qb a) (0, 0) _ ((zb _ _ (by simp)).trans (za _ _)) jC rfl (jc _) ?_))
 refine (jF a a Ha.o Ha.o _).mono ?_
 rintro e W1 ⟨rfl, hB⟩
 have hz := hB.size
 simp only [World.size_alloc] at hB hz
 have HR : Hid (qi W1 (w.heap.size + 1) #[.int .u64 0, .int .u64 0, .int .u64 0, .int .u64 0] 80) := (hB.block _ (by omega)).trans (Zd _ _ _)
 have HB : Hid (zB w W1) := (((zJ _ w).alloc (zm _) _).alloc (by simp) _).trans (hB.mono (by omega))
 clear hB
 go_wp2_with (first
   | (refine qB 80 (.tmp 2) (.tmp 5) (w.heap.size + 1) (qb (mP a a)) HR.o (jc _) rfl (qY _) ?_))
 refine zh (v := fe (mP a a)) (results_cell_row Tryz.results161 _ _ (w.heap.size + 1) 80 (qb (mP a a)) (0, 0) _ (by rfl) (zd _ _ _ _ _ _ HR.o) jC rfl (jc _)) rfl ⟨rfl, ze HB.o (by omega) _⟩
theorem yo (a k : Nat) (ha : a < P) (hk : k ≤ 1000) (w : World) :
  zC 141 #[fe a, .int .i64 k] w (fe (sqN k a)) := by
 have Ha := qa ha
 clear ha
 go_enter Tryz.func141, Tryz.ntmps141
 go_wp2_with fail
 go_loopw [6] (fun i wr => ∃ j : Nat, j ≤ k ∧ i = .int .i64 j ∧ Hid (qi wr w.heap.size ((qb (sqN j a))) 80) ∧ Hid (qi wr (w.heap.size + 1) #[.int .u64 0, .int .u64 0, .int .u64 0, .int .u64 0] 80) ∧ Hid (zB w wr)) (fun i _ => k - (intOf i).toNat)
 case atStart => exact ⟨0, Zc _, rfl, (zb _ _ (by simp)).trans (za _ _), Zd _ _ _, by show Below _ _ _; go_grown⟩
 case round =>
  obtain ⟨j, hj, rfl, H0, H1, HB⟩ := hrel
  by_cases hlt : j < k
  ·
   have bj : (j : Int) < (k : Int) := by omega
   go_wp2_with (first
    | (refine zg (by rfl) 80 (.tmp 2) (by rfl) w.heap.size (by rfl) 80 (qb (sqN j a)) (0, 0) _ H0.o jC rfl (jc _) ?_))
   refine (qbv (sqN j a) (Je j a Ha.o) _).mono ?_
   rintro e W1 ⟨rfl, hB⟩
   have hz := hB.size
   have hz1 := qm H1.o
   have G0 : Hid (qi W1 w.heap.size ((qb (sqN j a))) 80) := (hB.block _ (by omega)).trans H0.o
   have G1 : Hid (qi W1 (w.heap.size + 1) #[.int .u64 0, .int .u64 0, .int .u64 0, .int .u64 0] 80) := (hB.block _ (by omega)).trans H1.o
   have G2 : Hid (zB w W1) := HB.o.trans (hB.mono (by omega))
   rw [← qid]
   clear hB H0 H1 HB hz hz1
   go_wp2_with (first
    | (refine qB 80 (.tmp 2) (.tmp 9) w.heap.size (qb (sqN (j + 1) a)) G0.o (jc _) rfl (qY _) ?_))
   try rw [qH]
   go_wp2_with fail
   refine ⟨⟨j + 1, by omega, by go_num, zd _ _ _ _ _ _ G0.o, (zc _ _ _ _ (by omega)).trans G1.o, ze G2.o (zm _) _⟩, by simp [intOf]; omega⟩
  ·
   obtain rfl : j = k := by omega
   have bj : (j : Int) ≤ (j : Int) := by omega
   go_wp2_with (first
    | (refine zg (by rfl) 80 (.tmp 2) (by rfl) w.heap.size (by rfl) 80 (qb (sqN j a)) (0, 0) _ H0.o jC rfl (jc _) ?_)
    | (refine qB 80 (.tmp 4) (.tmp 11) (w.heap.size + 1) (qb (sqN j a)) H1.o (jc _) rfl (qY _) ?_))
   refine zh (v := fe (sqN j a)) (results_cell_row Tryz.results141 _ _ (w.heap.size + 1) 80 (qb (sqN j a)) (0, 0) _ (by rfl) (zd _ _ _ _ _ _ H1.o) jC rfl (jc _)) rfl ⟨rfl, ze HB.o (by omega) _⟩
end
abbrev qD : Array Value := #[.int .u64 0, .int .u64 0, .int .u64 0, .int .u64 0]
abbrev C4 (w : World) (b a : Nat) : Prop := w.cell? ⟨b, 0, none⟩ = some (nv (wd a 0)) ∧ w.cell? ⟨b, 1, none⟩ = some (nv (wd a 1)) ∧ w.cell? ⟨b, 2, none⟩ = some (nv (wd a 2)) ∧ w.cell? ⟨b, 3, none⟩ = some (nv (wd a 3))
theorem qn {w : World} {b a : Nat} {T : TypeId} {fr : Nat × Nat} (h : w.heap[b]? = some (.cells (qb a) T fr)) : C4 w b a := ⟨YR h 0 (by decide), YR h 1 (by decide), YR h 2 (by decide), YR h 3 (by decide)⟩
theorem qM {w w' : World} {b : Nat} {o : Obj} (h : w.heap[b]? = some o) (hB : zB w w') : w'.heap[b]? = some o := (hB.block b (qm h)).trans h
end Go.Proofs.YtccgfabojbjmjaaGreatDoor
