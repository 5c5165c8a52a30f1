import Derived.Test.YtcnbhpghcjcejaaDoorLaid
import Derived.Deep.Strs
import Derived.Carry
/- A list of steps ([]Op) that came in, opened at every index; its bulk. -/
namespace Go.Proofs.YtcnbhpghcjcejaaDoor
open Go.ChangeShapes Go.WideShapes Go.ChangeAt Go.RowKit

/-- The lengths of the first i texts together. -/
def tot (st : Nat → ByteArray) : Nat → Nat
  | 0 => 0
  | i + 1 => tot st i + (st i).size
theorem tot_le (st : Nat → ByteArray) {i j : Nat} (h : i ≤ j) : tot st i ≤ tot st j := by
  induction j with
  | zero => rw [Nat.le_zero.1 h]; exact Nat.le_refl _
  | succ j ih =>
    rcases Nat.lt_or_ge i (j + 1) with q | q
    · have := ih (by omega); show _ ≤ tot st j + _; omega
    · rw [show i = j + 1 by omega]; exact Nat.le_refl _

theorem bulk_append {H : Type} (l r : List (DataW H)) : Rows.uptoBulkAll (l ++ r) = Rows.uptoBulkAll l + Rows.uptoBulkAll r := by
  induction l with
  | nil => simp [Rows.uptoBulkAll]
  | cons x l ih => simp only [List.cons_append, Rows.uptoBulkAll, ih]; omega

theorem cellsOp : Tryd.prog.cellsOf 30 = 3 := by kernel_rfl
theorem cellsInt : Tryd.prog.cellsOf 3 = 1 := by kernel_rfl
theorem cellsStr : Tryd.prog.cellsOf 9 = 1 := by kernel_rfl
theorem underInt : Tryd.prog.underlying 3 = some (.int .i64) := by kernel_rfl

/-- A step's datum. -/
def opData {H : Type} (q : Int × Int × ByteArray) : DataW H := .agg [.lit (.int .i64 q.1), .lit (.int .i64 q.2.1), .lit (.string q.2.2.data.toList)]
theorem bulk_op {H : Type} (q : Int × Int × ByteArray) : Rows.uptoBulk (opData (H := H) q) = q.2.2.size + 4 := by
  show Rows.uptoBulkAll [_, _, _] + 1 = _
  simp only [Rows.uptoBulkAll, Rows.uptoBulk, Array.length_toList]
  show 1 + (1 + (q.2.2.size + 1 + 0)) + 1 = _
  omega
theorem bulk_ops {H : Type} (D : Nat → DataW H) (q : Nat → Int × Int × ByteArray) : ∀ n, (∀ i, i < n → D i = opData (q i)) → Rows.uptoBulkAll ((List.range n).map D) = tot (fun i => (q i).2.2) n + 4 * n
  | 0, _ => rfl
  | n + 1, h => by
    rw [List.range_succ, List.map_append, bulk_append, bulk_ops D q n (fun i hi => h i (by omega))]
    show _ + (Rows.uptoBulk (D n) + 0) = tot _ n + (q n).2.2.size + _
    rw [h n (by omega), bulk_op]; omega

theorem lt_of_cell {w : World} {a : Addr} {v : Value} (h : w.cell? a = some v) : a.block < w.heap.size ∧ a.spot = none := by
  unfold World.cell? at h
  split at h
  · rename_i c T f e
    refine ⟨(Array.getElem?_eq_some_iff.1 e).1, ?_⟩
    cases hs : a.spot with
    | none => rfl
    | some x => rw [hs] at h; simp at h
  · cases h

theorem i64_of_wf {n : Int} (h : (Lit.int .i64 n).wf = true) : -9223372036854775808 ≤ n ∧ n ≤ 9223372036854775807 := by
  simpa [Lit.wf, IntKind.min, IntKind.max, IntKind.signed, IntKind.bits] using h

theorem open_ops {H : Type} {enc : TypeId × Value → H} {W : World} {v : Value} {d : DataW H} {p : List MemPlace} {base : Nat}
    (hok : Value.okWide Tryd.prog W .any base 24 v) (h : DataW.Trod enc Tryd.prog W 0 (fun _ => true) true 24 v d p) :
    ∃ (ad : Option Addr) (len cap : Nat) (kd on : Nat → Int) (st : Nat → ByteArray), v = .slice ad len cap ∧ tot st len + 4 * len ≤ Rows.uptoBulk d ∧
      (∀ i, i < len → (-9223372036854775808 ≤ kd i ∧ kd i ≤ 9223372036854775807) ∧ (-9223372036854775808 ≤ on i ∧ on i ≤ 9223372036854775807)) ∧
      (∀ i, i < len → ∃ b off, ad = some ⟨b, off, none⟩ ∧ b < W.heap.size ∧ W.cell? ⟨b, off + i * 3, none⟩ = some (.int .i64 (kd i)) ∧ W.cell? ⟨b, off + i * 3 + 1, none⟩ = some (.int .i64 (on i)) ∧ W.cell? ⟨b, off + i * 3 + 2, none⟩ = some (.string (st i))) := by
  obtain ⟨ad, len, cap, rfl⟩ := okWide_slice Tryd.underlying24 hok
  obtain ⟨n, h⟩ := h
  have h' : DataW.trod enc Tryd.prog W 0 (fun _ => true) true n 24 [.slice ad len cap] = some (d, p) := by simpa [Value.cells] using h
  rcases Deep.open_slice Tryd.underlying24 h' with ⟨h0, hx⟩ | ⟨a, len', cap', m, n', D, Pl, e, hb, hl, hm, hmm, hx, hcs⟩
  · simp only [List.cons.injEq, Value.slice.injEq, and_true] at h0
    obtain ⟨rfl, rfl, rfl⟩ := h0
    exact ⟨none, 0, 0, fun _ => 0, fun _ => 0, fun _ => ⟨#[]⟩, rfl, Nat.zero_le _, fun i hi => absurd hi (by omega), fun i hi => absurd hi (by omega)⟩
  · simp only [List.cons.injEq, Value.slice.injEq, and_true] at e
    obtain ⟨rfl, rfl, rfl⟩ := e
    have hmc : m = cap := by simpa using hmm
    subst hmc
    have each : ∀ i, i < len → ∃ q : Int × Int × ByteArray, (W.cell? (a.add (i * 3)) = some (.int .i64 q.1) ∧ W.cell? (a.add (i * 3 + 1)) = some (.int .i64 q.2.1) ∧ W.cell? (a.add (i * 3 + 2)) = some (.string q.2.2)) ∧
        (Lit.int .i64 q.1).wf = true ∧ (Lit.int .i64 q.2.1).wf = true ∧ D i = opData q := by
      intro i hi
      obtain ⟨cs', h1, h2⟩ := hcs i (by omega)
      rw [cellsOp] at h1
      obtain ⟨_, hlen, hcell⟩ := World.cells?_some h1
      obtain ⟨y0, y1, y2, k, hxy, _, g0, g1, g2⟩ := Deep.trod_struct3 Tryd.underlying30 h2
      match cs', hlen with
      | [v0, v1, v2], _ =>
        simp only [cellsInt, cellsStr, List.drop_zero, List.drop_succ_cons, List.take_succ_cons, List.take_zero] at g0 g1 g2
        obtain ⟨n0, e0, rfl, f0⟩ := DataW.trod_int underInt g0
        obtain ⟨n1, e1, rfl, f1⟩ := DataW.trod_int underInt g1
        obtain ⟨s2, e2, rfl, _⟩ := DataW.trod_string Tryd.underlying9 g2
        simp only [List.cons.injEq, and_true] at e0 e1 e2
        subst e0 e1 e2
        have c0 := hcell 0 (by omega)
        have c1 := hcell 1 (by omega)
        have c2 := hcell 2 (by omega)
        rw [Deep.add_add] at c0 c1 c2
        simp only [Prod.mk.injEq] at hxy
        exact ⟨(n0, n1, s2), ⟨by simpa using c0, by simpa using c1, by simpa using c2⟩, f0, f1, hxy.1⟩
    obtain ⟨q, hq⟩ := Deep.choose_lt each
    refine ⟨some a, len, m, fun i => (q i).1, fun i => (q i).2.1, fun i => (q i).2.2, rfl, ?_, fun i hi => ⟨i64_of_wf (hq i hi).2.1, i64_of_wf (hq i hi).2.2.1⟩, ?_⟩
    · simp only [Prod.mk.injEq] at hx
      rw [hx.1]
      have := bulk_ops D q len (fun i hi => (hq i hi).2.2.2)
      show _ ≤ Rows.uptoBulkAll ((List.range len).map D) + _ + 1
      rw [this]; omega
    · intro i hi
      have hs := lt_of_cell (hq 0 (by omega)).1.1
      obtain ⟨b, off, sp⟩ := a
      have hs' : b < W.heap.size ∧ sp = none := by simpa [Addr.add] using hs
      obtain ⟨hb', rfl⟩ := hs'
      have := (hq i hi).1
      rw [add_plain, add_plain, add_plain] at this
      exact ⟨b, off, rfl, hb', this.1, this.2.1, this.2.2⟩
end Go.Proofs.YtcnbhpghcjcejaaDoor
