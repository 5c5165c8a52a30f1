import Derived.Test.YtcnbhpghcjcejaaDoorRefMath
import Derived.Test.YtcnbhpghcjcejaaDoorTop
import Derived.Deep.RegionHeld3
import Derived.Deep.DrawnRows
import Derived.BigRegion
/- The document's answer: Hash: lemmas; its loops, taken out of the translation. -/
namespace Go.Proofs.YtcnbhpghcjcejaaDoor
open Go.RowKit
theorem row_w8 (w : World) (g : Nat) (t : TypeId) (h : w.heap[g]? = some (.cells (w8 iv).toArray t (0, 0))) : w.heap[g]? = some (.cells (iv.words.map uv).toArray t (0, 0)) := h
theorem sch_cell {w : World} {g : Nat} {l : List (BitVec 64)} (h : ∀ i, i < (l.map uv).length → w.cell? ⟨g, i, none⟩ = (l.map uv)[i]?) (i : Nat) (hi : i < l.length) : w.cell? ⟨g, i, none⟩ = some (.int .u64 (U (l.getD i 0))) := by
  rw [h i (by simpa using hi)]; simp [hi]
structure Rd (w : World) (gv gc gw n : Nat) (T : S8) (kk ww : BitVec 64) : Prop where
  a : w.cell? ⟨gv, 0, none⟩ = some (.int .u64 (U T.a))
  b : w.cell? ⟨gv, 1, none⟩ = some (.int .u64 (U T.b))
  c : w.cell? ⟨gv, 2, none⟩ = some (.int .u64 (U T.c))
  d : w.cell? ⟨gv, 3, none⟩ = some (.int .u64 (U T.d))
  e : w.cell? ⟨gv, 4, none⟩ = some (.int .u64 (U T.e))
  f : w.cell? ⟨gv, 5, none⟩ = some (.int .u64 (U T.f))
  g : w.cell? ⟨gv, 6, none⟩ = some (.int .u64 (U T.g))
  h : w.cell? ⟨gv, 7, none⟩ = some (.int .u64 (U T.h))
  k : w.cell? ⟨gc, n, none⟩ = some (.int .u64 (U kk))
  w : w.cell? ⟨gw, n, none⟩ = some (.int .u64 (U ww))
theorem Rd.drewN {w : World} {gv gc gw n : Nat} {T : S8} {kk ww : BitVec 64} (h : Rd w gv gc gw n T kk ww) (q : Nat) : Rd (w.drewN q) gv gc gw n T kk ww := ⟨h.a, h.b, h.c, h.d, h.e, h.f, h.g, h.h, h.k, h.w⟩
theorem flat_get (ws : List (BitVec 64)) : ∀ j, j < 8 * ws.length → (ws.flatMap be8).getD j 0 = byteOf (ws.getD (j / 8) 0) (j % 8) := by
  induction ws with
  | nil => intro j hj; simp at hj
  | cons x l ih =>
    intro j hj
    simp only [List.flatMap_cons, List.getD_eq_getElem?_getD]
    by_cases h : j < 8
    · rw [List.getElem?_append_left (by exact h)]
      have h0 : j / 8 = 0 := by omega
      have h1 : j % 8 = j := by omega
      rw [h0, h1]
      have hc : j = 0 ∨ j = 1 ∨ j = 2 ∨ j = 3 ∨ j = 4 ∨ j = 5 ∨ j = 6 ∨ j = 7 := by omega
      rcases hc with rfl | rfl | rfl | rfl | rfl | rfl | rfl | rfl <;> rfl
    · rw [List.getElem?_append_right (by show 8 ≤ j; omega)]
      have e := ih (j - 8) (by simp at hj; omega)
      simp only [List.getD_eq_getElem?_getD] at e
      have e1 : j / 8 = (j - 8) / 8 + 1 := by omega
      have e2 : j % 8 = (j - 8) % 8 := by omega
      rw [e1, e2, List.getElem?_cons_succ]
      exact e
theorem own_ge {w : World} {B : Nat} {e : TypeId} {v : Value} {xs : List Value} (h : Own w B e v xs) {q : Nat} (hq : v.ownBlock = some q) : B ≤ q := by
  rcases h with ⟨rfl, _⟩ | ⟨g, cap, cur, fr, rfl, h1, _⟩
  · cases hq
  · simp [Value.ownBlock] at hq; omega
/-- The bodies of a code's loops, in the text's order. -/
def loopsOf : Code → List Code
  | .loop c => c :: loopsOf c
  | .seq a b => loopsOf a ++ loopsOf b
  | .block _ c => loopsOf c
  | .scope c => loopsOf c
  | .cond _ a b => loopsOf a ++ loopsOf b
  | _ => []
noncomputable def refBody (n : Nat) : Code := (loopsOf (Tryd.f7.body.getD .skip)).getD n .skip
end Go.Proofs.YtcnbhpghcjcejaaDoor
