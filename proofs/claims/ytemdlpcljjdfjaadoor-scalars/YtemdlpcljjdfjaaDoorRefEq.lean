import Derived.Test.YtemdlpcljjdfjaaDoorRefInv
import Derived.ChangeKeysEq
import Derived.Laws.ResultCell
/- The document's numbers, compared. -/
namespace Go.Proofs.YtemdlpcljjdfjaaDoor
open Go.RowKit
theorem sizeInt : (Tryd.prog.info? 3).map (·.size) = some 1 := by kernel_rfl
theorem underInt : Tryd.prog.underlying 3 = some (.int .i64) := by kernel_rfl
theorem cellsInt : Tryd.prog.cellsOf 3 = 1 := by kernel_rfl
theorem partInt (xs : Array Value) (i : Nat) (x : Int) (h : xs[i]? = some (.int .i64 x)) (w : World) : (part 3 xs i).run Tryd.prog w = .ok (.int .i64 x) w := by
  cases hq : Tryd.prog.info? 3 with
  | none => have := sizeInt; rw [hq] at this; cases this
  | some inf =>
    have hi : inf.size = 1 := by have := sizeInt; rw [hq] at this; simpa using this
    simp [part, sizeOf, typeInfo, hq, hi, h]
theorem iv_at (a : List Int) (i : Nat) (h : i < a.length) : ((a.map iv).toArray)[i]? = some (.int .i64 (a.getD i 0)) := by simp [h, List.getD]
theorem eqItems_iv (d : Nat) (a b : List Int) (w : World) : ∀ (is : List Nat), (∀ i ∈ is, i < a.length ∧ i < b.length) →
    (Op.eqItems (d + 1) 3 1 (a.map iv).toArray (b.map iv).toArray is).run Tryd.prog w = .ok (is.all fun i => a.getD i 0 == b.getD i 0) w
  | [], _ => by simp [Op.eqItems]
  | i :: is, h => by
    obtain ⟨h1, h2⟩ := h i List.mem_cons_self
    have ih := eqItems_iv d a b w is (fun j hj => h j (List.mem_cons_of_mem _ hj))
    have p := partInt _ i _ (iv_at a i h1) w
    have q := partInt _ i _ (iv_at b i h2) w
    have e := run_equalIn_int (P := Tryd.prog) w d 3 .i64 .i64 (a.getD i 0) (b.getD i 0) underInt
    simp only [Op.eqItems, Sem.run_bind, Nat.mul_one, p, q, Result.andThen_ok, e, List.all_cons]
    cases (a.getD i 0 == b.getD i 0)
    · simp
    · simpa using ih
theorem list_eq_of (a b : List Int) (hl : a.length = b.length) : ((List.range a.length).all fun i => a.getD i 0 == b.getD i 0) = decide (a = b) := by
  by_cases h : a = b
  · subst h; simp
  · rw [decide_eq_false h]
    rw [Bool.eq_false_iff]
    intro hh
    apply h
    apply List.ext_getElem hl
    intro i h1 h2
    have := (List.all_eq_true.1 hh) i (List.mem_range.2 h1)
    simpa [List.getD, h1, h2] using this
theorem eqF (a b : List Int) (ha : a.length = 10) (hb : b.length = 10) (w : World) :
    (Op.equalIn 10000 76 (.agg (a.map iv).toArray) (.agg (b.map iv).toArray)).run Tryd.prog w = .ok (decide (a = b)) w := by
  cases hq : Tryd.prog.info? 3 with
  | none => have := sizeInt; rw [hq] at this; cases this
  | some inf =>
    rw [show (10000 : Nat) = 9998 + 1 + 1 from rfl, run_equalIn_array w _ _ _ underF hq, cellsInt, eqItems_iv 9998 a b w _ (fun i hi => by rw [List.mem_range] at hi; omega)]
    have e := list_eq_of a b (by rw [ha, hb])
    rw [ha] at e
    rw [e]
theorem fd_inj {a b : Nat} (ha : a < P) (hb : b < P) (h : fd a = fd b) : a = b := by
  have e := congrArg (vB 67108864) h
  rw [fd_val a ha, fd_val b hb] at e
  omega
theorem eqA (a b : Nat) (ha : a < P) (hb : b < P) (w : World) :
    (Op.equalIn 10000 76 (.agg (fA a)) (.agg (fA b))).run Tryd.prog w = .ok (decide (a = b)) w := by
  refine (eqF (fd a) (fd b) (fd_length a) (fd_length b) w).trans ?_
  congr 1
  by_cases h : a = b
  · subst h; simp
  · rw [decide_eq_false h, decide_eq_false (fun e => h (fd_inj ha hb e))]
end Go.Proofs.YtemdlpcljjdfjaaDoor
