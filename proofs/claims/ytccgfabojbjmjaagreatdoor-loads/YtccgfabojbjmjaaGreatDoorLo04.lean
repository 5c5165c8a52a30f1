import Derived.Test.YtccgfabojbjmjaaGreatDoorLo00
import Derived.ArgAppend
import Derived.Laws.IdiomStrings
import Derived.OwnWalk
import Derived.Deep.Draws
namespace Go.Proofs.YtccgfabojbjmjaaGreatDoor
open Go.RowKit
abbrev iv (x : Int) : Value := .int .i64 x
def vB (B : Int) : List Int → Int
 | [] => 0
 | a :: l => a + B * vB B l
def dB (B : Int) : Nat → Int → List Int
 | 0, _ => []
 | k + 1, n => n % B :: dB B k (n / B)
def cB (B : Int) : Int → List Int → List Int
 | _, [] => []
 | c, a :: l => (a + c) % B :: cB B ((a + c) / B) l
theorem ZG (B : Int) (k : Nat) (n : Int) : (dB B k n).length = k := by
 induction k generalizing n with
 | zero => rfl
 | succ k ih => simp [dB, ih]
theorem qvr (B : Int) (hB : 0 < B) (c : Int) (l : List Int) : cB B c l = dB B l.length (vB B l + c) := by
 induction l generalizing c with
 | nil => rfl
 | cons a l ih =>
  have e1 : (a + B * vB B l + c) % B = (a + c) % B := by rw [show a + B * vB B l + c = a + c + B * vB B l by omega, Int.add_mul_emod_self_left]
  have e2 : (a + B * vB B l + c) / B = vB B l + (a + c) / B := by
   rw [show a + B * vB B l + c = a + c + B * vB B l by omega, Int.add_mul_ediv_left _ _ (by omega)]; omega
  simp only [cB, List.length_cons, dB, vB, e1, e2, ih]
theorem qmv (B m n : Int) (hB : 0 < B) (hm : 0 < m) : n % (B * m) = n % B + B * (n / B % m) := by
 have e1 := Int.emod_add_mul_ediv n B
 have e2 := Int.emod_add_mul_ediv (n / B) m
 have b1 := Int.emod_nonneg n (show B ≠ 0 by omega)
 have b2 := Int.emod_lt_of_pos n hB
 have b3 := Int.emod_nonneg (n / B) (show m ≠ 0 by omega)
 have b4 := Int.emod_lt_of_pos (n / B) hm
 have e : n = n % B + B * (n / B % m) + B * m * (n / B / m) := by
  conv => lhs; rw [← e1, ← e2]
  rw [Int.mul_add, Int.mul_assoc]; omega
 have p1 : B * (n / B % m) ≤ B * (m - 1) := Int.mul_le_mul_of_nonneg_left (by omega) (by omega)
 have p0 : 0 ≤ B * (n / B % m) := Int.mul_nonneg (by omega) b3
 rw [Int.mul_sub] at p1
 conv => lhs; rw [e]
 rw [Int.add_mul_emod_self_left, Int.emod_eq_of_lt (by omega) (by omega)]
theorem Yd (B : Int) (hB : 0 < B) (k : Nat) (n : Int) : vB B (dB B k n) = n % B ^ k := by
 induction k generalizing n with
 | zero => simp [vB, dB, Int.emod_one]
 | succ k ih =>
  simp only [vB, dB, ih]
  rw [Int.pow_succ, Int.mul_comm (B ^ k) B, qmv B (B ^ k) n hB (Int.pow_pos hB)]
def jT (B : Int) (l : List Int) : Nat → Int
 | 0 => 0
 | k + 1 => (l.getD k 0 + jT B l k) / B
def jQ (B : Int) (l : List Int) (k : Nat) : List Int := (List.range l.length).map fun i => if i < k then (l.getD i 0 + jT B l i) % B else l.getD i 0
theorem Ya (B : Int) (l : List Int) (k : Nat) : (jQ B l k).length = l.length := by simp [jQ]
theorem qbW (B : Int) (l : List Int) : jQ B l 0 = l := by
 apply List.ext_getElem?
 intro i
 by_cases h : i < l.length
 · simp [jQ, h, List.getD]
 · simp [jQ, h]
theorem qbu (B : Int) (l : List Int) (k : Nat) (h : k < l.length) : (jQ B l k).getD k 0 = l.getD k 0 := by
 simp [jQ, List.getD, h]
theorem qce (B : Int) (l : List Int) (k : Nat) (_h : k < l.length) : (jQ B l k).set k ((l.getD k 0 + jT B l k) % B) = jQ B l (k + 1) := by
 apply List.ext_getElem?
 intro i
 rw [List.getElem?_set]
 by_cases hk : k = i
 · subst hk; simp [jQ, _h]
 ·
  rw [if_neg hk]
  by_cases h : i < l.length
  ·
   have e1 : (i < k + 1) = (i < k) := by apply propext; omega
   simp [jQ, h, e1]
  · simp [jQ, h]
theorem qtO (B : Int) (l : List Int) (c : Int) (f : Nat → Int) (h0 : f 0 = c) (hs : ∀ i, f (i + 1) = (l.getD i 0 + f i) / B) :
  cB B c l = (List.range l.length).map fun i => (l.getD i 0 + f i) % B := by
 induction l generalizing c f with
 | nil => rfl
 | cons a l ih =>
  rw [List.length_cons, List.range_succ_eq_map, List.map_cons, List.map_map]
  simp only [cB]
  congr 1
  · simp [h0]
  ·
   rw [ih ((a + c) / B) (fun i => f (i + 1)) (by rw [hs 0, h0]; simp) (fun i => by rw [hs (i + 1)]; simp)]
   apply List.map_congr_left
   intro i _
   simp
theorem qh8 (B : Int) (hB : 0 < B) (l : List Int) : jQ B l l.length = dB B l.length (vB B l) := by
 have e := qtO B l 0 (jT B l) rfl (fun _ => rfl)
 rw [qvr B hB, Int.add_zero] at e
 rw [e]
 apply List.map_congr_left
 intro i hi
 rw [if_pos (List.mem_range.1 hi)]
theorem yX (B : Int) (hB : 0 < B) (k : Nat) (n : Int) : ∀ x ∈ dB B k n, 0 ≤ x ∧ x < B := by
 induction k generalizing n with
 | zero => simp [dB]
 | succ k ih =>
  intro x hx
  simp only [dB, List.mem_cons] at hx
  rcases hx with rfl | hx
  · exact ⟨Int.emod_nonneg _ (by omega), Int.emod_lt_of_pos _ hB⟩
  · exact ih _ x hx
theorem qe6 (B : Int) (hB : 0 < B) (l : List Int) (h : ∀ x ∈ l, 0 ≤ x ∧ x < B) : 0 ≤ vB B l ∧ vB B l < B ^ l.length := by
 induction l with
 | nil => simp [vB]
 | cons a l ih =>
  obtain ⟨h0, h1⟩ := ih (fun x hx => h x (List.mem_cons_of_mem _ hx))
  obtain ⟨a0, a1⟩ := h a List.mem_cons_self
  simp only [vB, List.length_cons, Int.pow_succ]
  have p0 : 0 ≤ B * vB B l := Int.mul_nonneg (by omega) h0
  have p1 : B * vB B l ≤ B * (B ^ l.length - 1) := Int.mul_le_mul_of_nonneg_left (by omega) (by omega)
  rw [Int.mul_sub, Int.mul_comm B (B ^ l.length)] at p1
  omega
theorem qb5 (B : Int) (l m : List Int) : vB B (l ++ m) = vB B l + B ^ l.length * vB B m := by
 induction l with
 | nil => simp [vB]
 | cons a l ih =>
  simp only [List.cons_append, vB, ih, List.length_cons, Int.pow_succ, Int.mul_add, ← Int.mul_assoc, Int.mul_comm B (B ^ l.length)]
  omega
theorem qhj (B : Int) (hB : 0 < B) (a b : List Int) (i : Nat) (ha : ∀ x ∈ a, 0 ≤ x ∧ x < B) (hb : ∀ x ∈ b, 0 ≤ x ∧ x < B) (hl : a.length = b.length) (hi : i < a.length)
  (hd : a.drop (i + 1) = b.drop (i + 1)) (hne : a.getD i 0 ≠ b.getD i 0) : vB B a < vB B b ↔ a.getD i 0 < b.getD i 0 := by
 have sp : ∀ l : List Int, i < l.length → l = l.take i ++ (l.getD i 0 :: l.drop (i + 1)) := by
  intro l h
  have := List.drop_eq_getElem_cons h
  rw [show l.getD i 0 = l[i] by simp [List.getD, zO h], ← this, List.take_append_drop]
 have ea : vB B a = vB B (a.take i) + B ^ i * (a.getD i 0 + B * vB B (b.drop (i + 1))) := by
  conv => lhs; rw [sp a hi, qb5]
  rw [Zh, Nat.min_eq_left (by omega), hd]; rfl
 have eb : vB B b = vB B (b.take i) + B ^ i * (b.getD i 0 + B * vB B (b.drop (i + 1))) := by
  conv => lhs; rw [sp b (by omega), qb5]
  rw [Zh, Nat.min_eq_left (by omega)]; rfl
 have ba := qe6 B hB (a.take i) (fun x hx => ha x (List.mem_of_mem_take hx))
 have bb := qe6 B hB (b.take i) (fun x hx => hb x (List.mem_of_mem_take hx))
 rw [Zh, Nat.min_eq_left (by omega)] at ba bb
 rw [ea, eb]
 have hp : 0 < B ^ i := Int.pow_pos hB
 generalize a.getD i 0 = x at *
 generalize b.getD i 0 = y at *
 generalize B * vB B (b.drop (i + 1)) = u at *
 generalize B ^ i = p at *
 rw [Int.mul_add, Int.mul_add]
 rcases Int.lt_or_gt_of_ne hne with h | h
 ·
  have := Int.mul_le_mul_of_nonneg_left (show x ≤ y - 1 by omega) (Int.le_of_lt hp)
  rw [Int.mul_sub] at this
  constructor
  · intro _; exact h
  · intro _; omega
 ·
  have := Int.mul_le_mul_of_nonneg_left (show y ≤ x - 1 by omega) (Int.le_of_lt hp)
  rw [Int.mul_sub] at this
  constructor
  · intro _; omega
  · intro _; omega
theorem Qc {w : World} {b : Nat} {l : List Int} {T : TypeId} {fr : Nat × Nat} (h : w.heap[b]? = some (.cells (l.map iv).toArray T fr)) (i : Nat) (hi : i < l.length) :
  w.cell? ⟨b, i, none⟩ = some (iv (l.getD i 0)) := by
 rw [zj w b i _ T _ h]; simp [hi, List.getD]
theorem qbO (l : List Int) : ∀ v ∈ l.map iv, v.oneCell' = true := by
 intro v hv; obtain ⟨x, _, rfl⟩ := List.mem_map.1 hv; rfl
theorem jB {l : List Int} {i : Nat} (h : i < l.length) : l.getD i 0 ∈ l := by
 simp [List.getD, zO h]
theorem qas (B : Int) (hB : 2 ≤ B) (l : List Int) (m : Int) (h : ∀ x ∈ l, -m ≤ x ∧ x ≤ m) (hm : 1 ≤ m) (k : Nat) (hk : k ≤ l.length) : -m ≤ jT B l k ∧ jT B l k ≤ m := by
 induction k with
 | zero => simp [jT]; omega
 | succ k ih =>
  obtain ⟨h0, h1⟩ := ih (by omega)
  obtain ⟨a0, a1⟩ := h (l.getD k 0) (jB (by omega))
  simp only [jT]
  have p : m * 2 ≤ m * B := Int.mul_le_mul_of_nonneg_left hB (by omega)
  constructor
  ·
   apply Int.le_ediv_of_mul_le (by omega)
   rw [Int.neg_mul]; omega
  ·
   apply Int.ediv_le_of_le_mul (by omega)
   omega
def q9 (w : World) (B : Nat) (e : TypeId) (v : Value) (xs : List Value) : Prop :=
 (v = .slice none 0 0 ∧ xs = []) ∨
 ∃ g cap cur fr, v = .slice (some ⟨g, 0, none⟩) xs.length cap ∧ B ≤ g ∧ w.heap[g]? = some (.cells cur e fr) ∧ (fr = (0, 0) ∨ cur.size ≤ fr.1) ∧ xs.length ≤ cap ∧ cap ≤ maxLen ∧ cur.size = cap ∧ cur.toList.take xs.length = xs
theorem q9.nil (w : World) (B : Nat) (e : TypeId) : q9 w B e (.slice none 0 0) [] := .inl ⟨rfl, rfl⟩
theorem q9.of_row {w : World} {B : Nat} {e : TypeId} {v : Value} {n : Nat} {xs : List Value} (h : w.ownsRow B e 1 v n xs) : q9 w B e v xs := by
 obtain ⟨hl, ⟨rfl, rfl⟩ | ⟨g, cap, cur, rfl, h1, h2, h3, h4, h5, h6⟩⟩ := h
 · exact .inl ⟨rfl, List.eq_nil_of_length_eq_zero (by simpa using hl)⟩
 ·
  rw [Nat.mul_one] at hl h5 h6
  subst hl
  exact .inr ⟨g, cap, cur, (0, 0), rfl, h1, h2, .inl rfl, h3, h4, h5, h6⟩
theorem q9.mono {w : World} {B B' : Nat} {e : TypeId} {v : Value} {xs : List Value} (h : q9 w B e v xs) (hB : B' ≤ B) : q9 w B' e v xs := by
 rcases h with h | ⟨g, cap, cur, fr, h0, h1, h2⟩
 · exact .inl h
 · exact .inr ⟨g, cap, cur, fr, h0, Zg hB h1, h2⟩
theorem q9.form {w : World} {B : Nat} {e : TypeId} {v : Value} {xs : List Value} (h : q9 w B e v xs) (hx : 0 < xs.length) :
  ∃ g cap, v = .slice (some ⟨g, 0, none⟩) xs.length cap ∧ B ≤ g ∧ g < w.heap.size ∧ xs.length ≤ cap ∧ cap ≤ maxLen ∧ ∀ i, i < xs.length → w.cell? ⟨g, i, none⟩ = xs[i]? := by
 rcases h with ⟨_, rfl⟩ | ⟨g, cap, cur, fr, h0, h1, h2, _, h4, h5, h6, h7⟩
 · simp at hx
 ·
  refine ⟨g, cap, h0, h1, ?_, h4, h5, fun i hi => ?_⟩
  ·
   rcases Nat.lt_or_ge g w.heap.size with q | q
   · exact q
   · rw [Array.getElem?_eq_none q] at h2; cases h2
  ·
   rw [zj w g i cur e fr h2]
   have e1 : (cur.toList.take xs.length)[i]? = xs[i]? := by rw [h7]
   rw [Zq, if_pos hi] at e1
   simpa using e1
theorem q9.kept {w w' : World} {B : Nat} {e : TypeId} {v : Value} {xs : List Value} (h : q9 w B e v xs) (hk : ∀ g, v.ownBlock = some g → w'.heap[g]? = w.heap[g]?) : q9 w' B e v xs := by
 rcases h with h | ⟨g, cap, cur, fr, h0, h1, h2, h3⟩
 · exact .inl h
 · exact .inr ⟨g, cap, cur, fr, h0, h1, (hk g (by rw [h0]; rfl)).trans h2, h3⟩
theorem q9.alloc {w : World} {B : Nat} {e : TypeId} {v : Value} {xs : List Value} (h : q9 w B e v xs) (o : Obj) : q9 (w.alloc o) B e v xs := by
 rcases h with h | ⟨g, cap, cur, fr, h0, h1, h2, h3⟩
 · exact .inl h
 ·
  refine .inr ⟨g, cap, cur, fr, h0, h1, ?_, h3⟩
  have hg : g < w.heap.size := by
   rcases Nat.lt_or_ge g w.heap.size with q | q
   · exact q
   · rw [Array.getElem?_eq_none q] at h2; cases h2
  exact (zb w o hg).trans h2
theorem q9.drew {w : World} {B : Nat} {e : TypeId} {v : Value} {xs : List Value} (h : q9 w B e v xs) : q9 w.drew B e v xs := h
theorem q9.drewN {w : World} {B : Nat} {e : TypeId} {v : Value} {xs : List Value} (h : q9 w B e v xs) (n : Nat) : q9 (w.drewN n) B e v xs := h
theorem _root_.Go.RowKit.Below.drewN {B : Nat} {a w : World} (h : Below B a w) (n : Nat) : Below B a (w.drewN n) := ⟨h.os, h.tape, h.output, h.size, h.block⟩
theorem qcG (g : Nat) (t : TypeId) (fr : Nat × Nat) : ∀ (vs : List Value) (o : Nat) (cur : Array Value) (w : World), w.heap[g]? = some (.cells cur t fr) → o + vs.length ≤ cur.size →
  ∃ cur' : Array Value, (w.setCells g o vs).heap[g]? = some (.cells cur' t fr) ∧ cur'.size = cur.size ∧ cur'.toList.take (o + vs.length) = cur.toList.take o ++ vs
 | [], o, cur, w, hg, _ => ⟨cur, hg, rfl, by simp⟩
 | v :: r, o, cur, w, hg, hl => by
  have hl' : o + (r.length + 1) ≤ cur.size := by simpa using hl
  have h1 : (w.setCell ⟨g, o, none⟩ v).heap[g]? = some (.cells (cur.setIfInBounds o v) t fr) := by
   rw [setCell_eq_setRow w g o cur t fr v hg]; exact zd w g cur _ t fr hg
  obtain ⟨c', a1, a2, a3⟩ := qcG g t fr r (o + 1) _ _ h1 (by simp; omega)
  refine ⟨c', a1, by simpa using a2, ?_⟩
  have e1 : o + (v :: r).length = o + 1 + r.length := by simp; omega
  rw [e1, a3]
  have e2 : (cur.setIfInBounds o v).toList.take (o + 1) = cur.toList.take o ++ [v] := by
   rw [Array.toList_setIfInBounds, List.take_succ_eq_append_getElem (by simp; omega), List.take_set_of_le (zm _)]
   simp
  rw [e2]; simp
theorem qae (g k : Nat) (hk : k ≠ g) : ∀ (vs : List Value) (o : Nat) (w : World), (w.setCells g o vs).heap[k]? = w.heap[k]?
 | [], _, _ => rfl
 | v :: r, o, w => by rw [World.setCells, qae g k hk r, Below.heap_setCell _ _ _ _ (by exact hk)]
theorem qaW (g : Nat) : ∀ (vs : List Value) (o : Nat) (w : World), (w.setCells g o vs).heap.size = w.heap.size
 | [], _, _ => rfl
 | v :: r, o, w => by rw [World.setCells, qaW g r]; simp
theorem qap (g : Nat) : ∀ (vs : List Value) (o : Nat) (w : World), (w.setCells g o vs).os = w.os ∧ (w.setCells g o vs).tape = w.tape ∧ (w.setCells g o vs).output = w.output
 | [], _, _ => ⟨rfl, rfl, rfl⟩
 | v :: r, o, w => by rw [World.setCells]; exact qap g r (o + 1) _
section
variable {P : Program} (w : World)
theorem qbA (B : Nat) (t ty e : TypeId) (i : TypeInfo) (z : Value) (bytes : Nat) (ht : P.underlying t = some (.slice e)) (hi : P.info? e = some i) (hz : i.zero = some z)
  (hsize : i.size = 1) (hby : i.bytes = bytes) (hzs : z.cells.size = 1) (v : Value) (xs : List Value) (hown : q9 w B e v xs)
  (a : Addr) (m c : Nat) (news : List Value) (hl : news.length = m) (hnews : ∀ j u, news[j]? = some u → w.cell? (a.add j) = some u) (h1 : ∀ u ∈ news, u.oneCell' = true)
  (h63 : xs.length + m ≤ maxLen) (hbytes : (xs.length + m) * bytes ≤ 140737488355328) (hbase : B ≤ w.heap.size) :
  ∃ v' w', (Builtin.append_ #[t, t] ty #[v, .slice (some a) m c]).run P w = .ok v' w' ∧ q9 w' B e v' (xs ++ news) ∧ w.grownBy w' v.ownBlock ∧ ∀ g j, v.ownBlock = some g → j < xs.length → w'.cell? ⟨g, j, none⟩ = w.cell? ⟨g, j, none⟩ := by
 rcases hown with ⟨rfl, rfl⟩ | ⟨g, cap, cur, fr, rfl, hB, hg, hfr, hlc, hcm, hcs, htk⟩
 ·
  obtain ⟨v', w', hr, h2, h3, _⟩ := run_append_own (P := P) w B t ty e i z 1 bytes ht hi hz hsize hby hzs (by omega) (.slice none 0 0) 0 [] (World.ownsRow_nil w B e 1) a m c news (by omega) hnews h1 (by simpa using h63) (by simpa using hbytes) hbase
  exact ⟨v', w', hr, q9.of_row h2, h3, fun g j hg => by cases hg⟩
 ·
  have hcells : ∀ j, w.cell? ⟨g, j, none⟩ = cur[j]? := fun j => zj w g j cur e fr hg
  by_cases hroom : xs.length + m ≤ cap
  ·
   have hr := run_append_room_cells (P := P) w t ty e i ht hi g 0 xs.length cap a m c news (by rw [hsize]; omega) hnews h1 hroom
    (fun j hj => by rw [hsize, Zb, Nat.mul_one, hcells]; simp; omega)
    (fun j hj => by
     rw [hsize, Zb, Nat.mul_one]
     simp only [World.frozen?, hg]
     rcases hfr with rfl | hfr
     · simp
     · simp; omega)
   rw [hsize, Zb, Nat.mul_one] at hr
   obtain ⟨cur', b1, b2, b3⟩ := qcG g e fr news xs.length cur w hg (by omega)
   refine ⟨_, _, hr, .inr ⟨g, cap, cur', fr, by rw [Ze, hl], hB, b1, by rw [b2]; exact hfr, by rw [Ze, hl]; exact hroom, hcm, by rw [b2, hcs], ?_⟩, ?_, ?_⟩
   · rw [Ze, b3, htk]
   · exact ⟨(qap g news _ w).1, (qap g news _ w).2.1, (qap g news _ w).2.2, by rw [qaW]; exact zm _, fun k _ hk => qae g k (fun e => hk (by simp [Value.ownBlock, e])) news _ w⟩
   ·
    intro g' j hg' hj
    simp [Value.ownBlock] at hg'; subst hg'
    exact World.cell?_setCells_out _ news _ w _ (fun _ _ => Or.inl hj)
  ·
   obtain ⟨v', w', hrun, r1, r2⟩ := run_append_arg_grows (P := P) w t ty e i z 1 bytes ht hi hz hsize hby hzs (by omega) ⟨g, 0, none⟩ xs.length cap xs (by omega) (fun j u hj => by
    have hjl : j < xs.length := (List.getElem?_eq_some_iff.1 hj).1
    rw [Addr.add_lit, Zb, hcells]
    have e1 : (cur.toList.take xs.length)[j]? = xs[j]? := by rw [htk]
    rw [Zq, if_pos hjl] at e1
    rw [← hj, ← e1]; simp) a m c news (by omega) hnews (by omega) h63 hbytes
   exact ⟨v', w', hrun, (q9.of_row r1).mono hbase, ⟨r2.os, r2.tape, r2.output, r2.size, fun k hk _ => r2.block k hk (by simp)⟩, fun g' j hg' _ => by
    simp [Value.ownBlock] at hg'; subst hg'
    have hlt : g < w.heap.size := by
     rcases Nat.lt_or_ge g w.heap.size with q | q
     · exact q
     · rw [Array.getElem?_eq_none q] at hg; cases hg
    exact zo (w := w) (r2.block g hlt (by simp))⟩
theorem qaa {ops : Array Oper} {rest : List Oper} {o : Oper} {a : Act} {Q : Exit → Act → World → Prop} (hgd : o.guard = none) (s x : Operand) (t : TypeId)
  (ho : o.op = .call { callee := .builtin .append, args := #[s, x], argTypes := #[t, t] })
  (B : Nat) (e : TypeId) (i : TypeInfo) (z : Value) (bytes : Nat) (ht : P.underlying t = some (.slice e)) (hi : P.info? e = some i) (hz : i.zero = some z)
  (hsize : i.size = 1) (hby : i.bytes = bytes) (hzs : z.cells.size = 1)
  (v : Value) (xs : List Value) (hs : a.eval s = v) (hown : q9 w B e v xs)
  (ad : Addr) (m c : Nat) (news : List Value) (hx : a.eval x = .slice (some ad) m c) (hl : news.length = m) (hnews : ∀ j u, news[j]? = some u → w.cell? (ad.add j) = some u) (h1 : ∀ u ∈ news, u.oneCell' = true)
  (h63 : xs.length + m ≤ maxLen) (hbytes : (xs.length + m) * bytes ≤ 140737488355328) (hbase : B ≤ w.heap.size)
  (h : ∀ v' w', Hid (q9 w' B e v' (xs ++ news)) → Hid (w.grownBy w' v.ownBlock) → wpList P ops Q rest (a.put o.dst v') w') : wpList P ops Q (o :: rest) a w := by
 refine wpList_plain hgd fun _ hK => ?_
 obtain ⟨v', w', hr, h2, h3, _⟩ := qbA (P := P) w B t o.type e i z bytes ht hi hz hsize hby hzs v xs hown ad m c news hl hnews h1 h63 hbytes hbase
 unfold Oper.wp execOp
 simp only [ho, resolve, invoke, builtin, Sem.run_bind, Sem.run_pure, Result.andThen_ok, List.map_toArray, List.map_cons, List.map_nil, hs, hx, hr]
 exact hK _ _ (h v' w' h2 h3)
end
end Go.Proofs.YtccgfabojbjmjaaGreatDoor
