import Derived.Test.YtcnbhpghcjcejaaDoorHrow
import Derived.ArgAppend
import Derived.Laws.IdiomStrings
import Derived.OwnWalk
import Derived.Deep.Draws
/- A slice of one-cell elements that the call itself made, its row marked by the run-time or not: 'append' on it. Nothing of the dump. -/
namespace Go.Proofs.YtcnbhpghcjcejaaDoor
open Go.RowKit

/-- v is the call's own slice of the elements xs: nil and empty, or at the head of a row from block B on, none of whose cells is frozen. -/
def Own (w : World) (B : Nat) (e : TypeId) (v : Value) (xs : List Value) : Prop :=
  (v = .slice none 0 0 ∧ xs = []) ∨
  ∃ g cap cur fr, v = .slice (some ⟨g, 0, none⟩) xs.length cap ∧ B ≤ g ∧ w.heap[g]? = some (.cells cur e fr) ∧ (fr = (0, 0) ∨ cur.size ≤ fr.1) ∧ xs.length ≤ cap ∧ cap ≤ maxLen ∧ cur.size = cap ∧ cur.toList.take xs.length = xs

theorem Own.nil (w : World) (B : Nat) (e : TypeId) : Own w B e (.slice none 0 0) [] := .inl ⟨rfl, rfl⟩
theorem Own.of_row {w : World} {B : Nat} {e : TypeId} {v : Value} {n : Nat} {xs : List Value} (h : w.ownsRow B e 1 v n xs) : Own w B e v xs := by
  obtain ⟨hl, ⟨rfl, rfl⟩ | ⟨g, cap, cur, rfl, h1, h2, h3, h4, h5, h6⟩⟩ := h
  · exact .inl ⟨rfl, List.eq_nil_of_length_eq_zero (by simpa using hl)⟩
  · rw [Nat.mul_one] at hl h5 h6
    subst hl
    exact .inr ⟨g, cap, cur, (0, 0), rfl, h1, h2, .inl rfl, h3, h4, h5, h6⟩
theorem Own.mono {w : World} {B B' : Nat} {e : TypeId} {v : Value} {xs : List Value} (h : Own w B e v xs) (hB : B' ≤ B) : Own w B' e v xs := by
  rcases h with h | ⟨g, cap, cur, fr, h0, h1, h2⟩
  · exact .inl h
  · exact .inr ⟨g, cap, cur, fr, h0, Nat.le_trans hB h1, h2⟩
/-- Where it is not empty: its block, and its cells. -/
theorem Own.form {w : World} {B : Nat} {e : TypeId} {v : Value} {xs : List Value} (h : Own w B e v xs) (hx : 0 < xs.length) :
    ∃ g cap, v = .slice (some ⟨g, 0, none⟩) xs.length cap ∧ B ≤ g ∧ g < w.heap.size ∧ xs.length ≤ cap ∧ cap ≤ maxLen ∧ ∀ i, i < xs.length → w.cell? ⟨g, i, none⟩ = xs[i]? := by
  rcases h with ⟨_, rfl⟩ | ⟨g, cap, cur, fr, h0, h1, h2, _, h4, h5, h6, h7⟩
  · simp at hx
  · refine ⟨g, cap, h0, h1, ?_, h4, h5, fun i hi => ?_⟩
    · rcases Nat.lt_or_ge g w.heap.size with q | q
      · exact q
      · rw [Array.getElem?_eq_none q] at h2; cases h2
    · rw [cell_of_row w g i cur e fr h2]
      have e1 : (cur.toList.take xs.length)[i]? = xs[i]? := by rw [h7]
      rw [List.getElem?_take, if_pos hi] at e1
      simpa using e1
/-- It stays where its block stays. -/
theorem Own.kept {w w' : World} {B : Nat} {e : TypeId} {v : Value} {xs : List Value} (h : Own w B e v xs) (hk : ∀ g, v.ownBlock = some g → w'.heap[g]? = w.heap[g]?) : Own w' B e v xs := by
  rcases h with h | ⟨g, cap, cur, fr, h0, h1, h2, h3⟩
  · exact .inl h
  · exact .inr ⟨g, cap, cur, fr, h0, h1, (hk g (by rw [h0]; rfl)).trans h2, h3⟩
theorem Own.alloc {w : World} {B : Nat} {e : TypeId} {v : Value} {xs : List Value} (h : Own w B e v xs) (o : Obj) : Own (w.alloc o) B e v xs := by
  rcases h with h | ⟨g, cap, cur, fr, h0, h1, h2, h3⟩
  · exact .inl h
  · refine .inr ⟨g, cap, cur, fr, h0, h1, ?_, h3⟩
    have hg : g < w.heap.size := by
      rcases Nat.lt_or_ge g w.heap.size with q | q
      · exact q
      · rw [Array.getElem?_eq_none q] at h2; cases h2
    exact (heap_alloc_old w o hg).trans h2
theorem Own.drew {w : World} {B : Nat} {e : TypeId} {v : Value} {xs : List Value} (h : Own w B e v xs) : Own w.drew B e v xs := h
theorem Own.drewN {w : World} {B : Nat} {e : TypeId} {v : Value} {xs : List Value} (h : Own w B e v xs) (n : Nat) : Own (w.drewN n) B e v xs := h

theorem _root_.Go.RowKit.Below.drewN {B : Nat} {a w : World} (h : Below B a w) (n : Nat) : Below B a (w.drewN n) := ⟨h.os, h.tape, h.output, h.size, h.block⟩
/-- Cells set in a row that is known, whatever its mark. -/
theorem setCells_row (g : Nat) (t : TypeId) (fr : Nat × Nat) : ∀ (vs : List Value) (o : Nat) (cur : Array Value) (w : World), w.heap[g]? = some (.cells cur t fr) → o + vs.length ≤ cur.size →
    ∃ cur' : Array Value, (w.setCells g o vs).heap[g]? = some (.cells cur' t fr) ∧ cur'.size = cur.size ∧ cur'.toList.take (o + vs.length) = cur.toList.take o ++ vs
  | [], o, cur, w, hg, _ => ⟨cur, hg, rfl, by simp⟩
  | v :: r, o, cur, w, hg, hl => by
    have hl' : o + (r.length + 1) ≤ cur.size := by simpa using hl
    have h1 : (w.setCell ⟨g, o, none⟩ v).heap[g]? = some (.cells (cur.setIfInBounds o v) t fr) := by
      rw [setCell_eq_setRow w g o cur t fr v hg]; exact setRow_heap w g cur _ t fr hg
    obtain ⟨c', a1, a2, a3⟩ := setCells_row g t fr r (o + 1) _ _ h1 (by simp; omega)
    refine ⟨c', a1, by simpa using a2, ?_⟩
    have e1 : o + (v :: r).length = o + 1 + r.length := by simp; omega
    rw [e1, a3]
    have e2 : (cur.setIfInBounds o v).toList.take (o + 1) = cur.toList.take o ++ [v] := by
      rw [Array.toList_setIfInBounds, List.take_succ_eq_append_getElem (by simp; omega), List.take_set_of_le (Nat.le_refl _)]
      simp
    rw [e2]; simp
theorem setCells_other (g k : Nat) (hk : k ≠ g) : ∀ (vs : List Value) (o : Nat) (w : World), (w.setCells g o vs).heap[k]? = w.heap[k]?
  | [], _, _ => rfl
  | v :: r, o, w => by rw [World.setCells, setCells_other g k hk r, Below.heap_setCell _ _ _ _ (by exact hk)]
theorem setCells_size (g : Nat) : ∀ (vs : List Value) (o : Nat) (w : World), (w.setCells g o vs).heap.size = w.heap.size
  | [], _, _ => rfl
  | v :: r, o, w => by rw [World.setCells, setCells_size g r]; simp
theorem setCells_rest (g : Nat) : ∀ (vs : List Value) (o : Nat) (w : World), (w.setCells g o vs).os = w.os ∧ (w.setCells g o vs).tape = w.tape ∧ (w.setCells g o vs).output = w.output
  | [], _, _ => ⟨rfl, rfl, rfl⟩
  | v :: r, o, w => by rw [World.setCells]; exact setCells_rest g r (o + 1) _

section
variable {P : Program} (w : World)
/-- 'append(v, x...)' on it. -/
theorem run_append_Own (B : Nat) (t ty e : TypeId) (i : TypeInfo) (z : Value) (bytes : Nat) (ht : P.underlying t = some (.slice e)) (hi : P.info? e = some i) (hz : i.zero = some z)
    (hsize : i.size = 1) (hby : i.bytes = bytes) (hzs : z.cells.size = 1) (v : Value) (xs : List Value) (hown : Own w B e v xs)
    (a : Addr) (m c : Nat) (news : List Value) (hl : news.length = m) (hnews : ∀ j u, news[j]? = some u → w.cell? (a.add j) = some u) (h1 : ∀ u ∈ news, u.oneCell' = true)
    (h63 : xs.length + m ≤ maxLen) (hbytes : (xs.length + m) * bytes ≤ 140737488355328) (hbase : B ≤ w.heap.size) :
    ∃ v' w', (Builtin.append_ #[t, t] ty #[v, .slice (some a) m c]).run P w = .ok v' w' ∧ Own w' B e v' (xs ++ news) ∧ w.grownBy w' v.ownBlock ∧ ∀ g j, v.ownBlock = some g → j < xs.length → w'.cell? ⟨g, j, none⟩ = w.cell? ⟨g, j, none⟩ := by
  rcases hown with ⟨rfl, rfl⟩ | ⟨g, cap, cur, fr, rfl, hB, hg, hfr, hlc, hcm, hcs, htk⟩
  · obtain ⟨v', w', hr, h2, h3, _⟩ := run_append_own (P := P) w B t ty e i z 1 bytes ht hi hz hsize hby hzs (by omega) (.slice none 0 0) 0 [] (World.ownsRow_nil w B e 1) a m c news (by omega) hnews h1 (by simpa using h63) (by simpa using hbytes) hbase
    exact ⟨v', w', hr, Own.of_row h2, h3, fun g j hg => by cases hg⟩
  · have hcells : ∀ j, w.cell? ⟨g, j, none⟩ = cur[j]? := fun j => cell_of_row w g j cur e fr hg
    by_cases hroom : xs.length + m ≤ cap
    · have hr := run_append_room_cells (P := P) w t ty e i ht hi g 0 xs.length cap a m c news (by rw [hsize]; omega) hnews h1 hroom
        (fun j hj => by rw [hsize, Nat.zero_add, Nat.mul_one, hcells]; simp; omega)
        (fun j hj => by
          rw [hsize, Nat.zero_add, Nat.mul_one]
          simp only [World.frozen?, hg]
          rcases hfr with rfl | hfr
          · simp
          · simp; omega)
      rw [hsize, Nat.zero_add, Nat.mul_one] at hr
      obtain ⟨cur', b1, b2, b3⟩ := setCells_row g e fr news xs.length cur w hg (by omega)
      refine ⟨_, _, hr, .inr ⟨g, cap, cur', fr, by rw [List.length_append, hl], hB, b1, by rw [b2]; exact hfr, by rw [List.length_append, hl]; exact hroom, hcm, by rw [b2, hcs], ?_⟩, ?_, ?_⟩
      · rw [List.length_append, b3, htk]
      · exact ⟨(setCells_rest g news _ w).1, (setCells_rest g news _ w).2.1, (setCells_rest g news _ w).2.2, by rw [setCells_size]; exact Nat.le_refl _, fun k _ hk => setCells_other g k (fun e => hk (by simp [Value.ownBlock, e])) news _ w⟩
      · intro g' j hg' hj
        simp [Value.ownBlock] at hg'; subst hg'
        exact World.cell?_setCells_out _ news _ w _ (fun _ _ => Or.inl hj)
    · obtain ⟨v', w', hrun, r1, r2⟩ := run_append_arg_grows (P := P) w t ty e i z 1 bytes ht hi hz hsize hby hzs (by omega) ⟨g, 0, none⟩ xs.length cap xs (by omega) (fun j u hj => by
        have hjl : j < xs.length := (List.getElem?_eq_some_iff.1 hj).1
        rw [Addr.add_lit, Nat.zero_add, hcells]
        have e1 : (cur.toList.take xs.length)[j]? = xs[j]? := by rw [htk]
        rw [List.getElem?_take, if_pos hjl] at e1
        rw [← hj, ← e1]; simp) a m c news (by omega) hnews (by omega) h63 hbytes
      exact ⟨v', w', hrun, (Own.of_row r1).mono hbase, ⟨r2.os, r2.tape, r2.output, r2.size, fun k hk _ => r2.block k hk (by simp)⟩, fun g' j hg' _ => by
        simp [Value.ownBlock] at hg'; subst hg'
        have hlt : g < w.heap.size := by
          rcases Nat.lt_or_ge g w.heap.size with q | q
          · exact q
          · rw [Array.getElem?_eq_none q] at hg; cases hg
        exact World.cell?_of_block (w := w) (r2.block g hlt (by simp))⟩

theorem wpList_append_Own {ops : Array Oper} {rest : List Oper} {o : Oper} {a : Act} {Q : Exit → Act → World → Prop} (hgd : o.guard = none) (s x : Operand) (t : TypeId)
    (ho : o.op = .call { callee := .builtin .append, args := #[s, x], argTypes := #[t, t] })
    (B : Nat) (e : TypeId) (i : TypeInfo) (z : Value) (bytes : Nat) (ht : P.underlying t = some (.slice e)) (hi : P.info? e = some i) (hz : i.zero = some z)
    (hsize : i.size = 1) (hby : i.bytes = bytes) (hzs : z.cells.size = 1)
    (v : Value) (xs : List Value) (hs : a.eval s = v) (hown : Own w B e v xs)
    (ad : Addr) (m c : Nat) (news : List Value) (hx : a.eval x = .slice (some ad) m c) (hl : news.length = m) (hnews : ∀ j u, news[j]? = some u → w.cell? (ad.add j) = some u) (h1 : ∀ u ∈ news, u.oneCell' = true)
    (h63 : xs.length + m ≤ maxLen) (hbytes : (xs.length + m) * bytes ≤ 140737488355328) (hbase : B ≤ w.heap.size)
    (h : ∀ v' w', Hid (Own w' B e v' (xs ++ news)) → Hid (w.grownBy w' v.ownBlock) → wpList P ops Q rest (a.put o.dst v') w') : wpList P ops Q (o :: rest) a w := by
  refine wpList_plain hgd fun _ hK => ?_
  obtain ⟨v', w', hr, h2, h3, _⟩ := run_append_Own (P := P) w B t o.type e i z bytes ht hi hz hsize hby hzs v xs hown ad m c news hl hnews h1 h63 hbytes hbase
  unfold Oper.wp execOp
  simp only [ho, resolve, invoke, builtin, Sem.run_bind, Sem.run_pure, Result.andThen_ok, List.map_toArray, List.map_cons, List.map_nil, hs, hx, hr]
  exact hK _ _ (h v' w' h2 h3)
end
end Go.Proofs.YtcnbhpghcjcejaaDoor
