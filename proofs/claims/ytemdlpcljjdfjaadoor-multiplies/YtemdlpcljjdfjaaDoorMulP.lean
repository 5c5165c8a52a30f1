import Derived.Test.YtemdlpcljjdfjaaDoorRefAdd
import Derived.Test.YtemdlpcljjdfjaaDoorTmMath
import Derived.Test.YtemdlpcljjdfjaaDoorAddsW
/- The document's answer: scalarOf, times. -/
namespace Go.Proofs.YtemdlpcljjdfjaaDoor
open Go.RowKit
theorem rowF_zeroT (l : List Int) (f : Nat → Int) : ((List.range l.length).map fun i => if i < 0 then f i else l.getD i 0) = l := by
  apply List.ext_getElem?
  intro i
  by_cases h : i < l.length
  · simp [h, List.getD]
  · simp [h]
theorem rowF_stepT (l : List Int) (f : Nat → Int) (k : Nat) (h : k < l.length) :
    ((List.range l.length).map fun i => if i < k then f i else l.getD i 0).set k (f k) = (List.range l.length).map fun i => if i < k + 1 then f i else l.getD i 0 := by
  apply List.ext_getElem?
  intro i
  rw [List.getElem?_set]
  by_cases hk : k = i
  · subst hk; simp [h]
  · rw [if_neg hk]
    by_cases h : i < l.length
    · have e1 : (i < k + 1) = (i < k) := by apply propext; omega
      simp [h, e1]
    · simp [h]
theorem ivS_sizeT {d : List Int} (h : d.length = 17) : (Tryd.prog.info? 84).map (·.size) = some (d.map iv).toArray.size := by rw [sizeS]; simp [h]
theorem ivS_oldT {d : List Int} (h : d.length = 17) : zS.size = (d.map iv).toArray.size := by simp [h, zS]
theorem ivS_allT (d : List Int) : (d.map iv).toArray.all (·.oneCell') = true := all_oneCell_toArray (ivs_cell _)
/-- Word i of a text: two bytes. -/
def wI (l : List UInt8) (i : Nat) : Int := C8 (l.getD (2 * i) 0) + 256 * C8 (l.getD (2 * i + 1) 0)
def zr : List Int := List.replicate 17 0
/-- The scalar on its way: k words. -/
def sRow (l : List UInt8) (k : Nat) : List Int := (List.range zr.length).map fun i => if i < k then wI l i else zr.getD i 0
theorem sRow_len (l : List UInt8) (k : Nat) : (sRow l k).length = 17 := by unfold sRow; rw [List.length_map, List.length_range]; rfl
theorem sRow_zero (l : List UInt8) : sRow l 0 = zr := rowF_zeroT zr (wI l)
theorem sRow_step (l : List UInt8) (k : Nat) (h : k < 17) : (sRow l k).set k (wI l k) = sRow l (k + 1) := rowF_stepT zr (wI l) k (by simpa [zr] using h)
theorem sRow_get (l : List UInt8) (k i : Nat) (hi : i < k) (h : i < 17) : (sRow l k).getD i 0 = wI l i := by
  unfold sRow
  rw [List.getD_eq_getElem?_getD, List.getElem?_map, List.getElem?_range (by simpa [zr] using h)]
  simp [hi]
def sA (l : List UInt8) : Array Value := ((sRow l 16).map iv).toArray
theorem sA_size (l : List UInt8) : (Tryd.prog.info? 84).map (·.size) = some (sA l).size := ivS_sizeT (sRow_len l 16)
theorem sA_old (l : List UInt8) : zS.size = (sA l).size := ivS_oldT (sRow_len l 16)
theorem sA_all (l : List UInt8) : (sA l).all (·.oneCell') = true := ivS_allT _
section
set_option maxRecDepth 100000 in
set_option maxHeartbeats 1000000 in
theorem scalarOfA (s : ByteArray) (hs : s.size = 32) (w : World) :
    Calls Tryd.prog 34 #[.string s] w fun e w' => e = .returned (.agg (sA (bytesOf s))) ∧ Below w.heap.size w w' := by
  have hz := zeroS
  have HS := hide hs
  clear hs
  obtain ⟨l, HL⟩ : ∃ l, Hid (l = bytesOf s) := ⟨_, hide rfl⟩
  go_enter Tryd.func34, Tryd.ntmps34
  go_wp2_with fail
  go_loopw [4] (fun i wr => ∃ k : Nat, k ≤ 16 ∧ i = .int .i64 ((2 * k : Nat) : Int) ∧ Hid (wr.heap[w.heap.size]? = some (.cells zS 84 (0, 0))) ∧ Hid (wr.heap[w.heap.size + 1]? = some (.cells ((sRow l k).map iv).toArray 84 (0, 0))) ∧ Hid (Below w.heap.size w wr)) (fun i _ => 32 - (intOf i).toNat)
  case atStart => exact ⟨0, Nat.zero_le _, rfl, (heap_alloc_old _ _ (by simp)).trans (heap_alloc_new _ _), by rw [sRow_zero]; exact heap_alloc2_new _ _ _, by show Below _ _ _; go_grown⟩
  case round =>
    obtain ⟨k, hk, rfl, H0, H1, HB⟩ := hrel
    obtain ⟨i, Hi⟩ : ∃ i, Hid (i = 2 * k) := ⟨_, hide rfl⟩
    rw [← Hi.out]
    by_cases hlt : k < 16
    · obtain ⟨i1, Hi1⟩ : ∃ i1, Hid (i1 = i + 1) := ⟨_, hide rfl⟩
      have e1 : (i : Int) + 1 = (i1 : Int) := by have := Hi1.out; omega
      have e2 : (i : Int) / 2 = (k : Int) := by have := Hi.out; omega
      have e3 : (i : Int) + 2 = ((2 * (k + 1) : Nat) : Int) := by have := Hi.out; omega
      have bi : (i : Int) < 32 := by have := Hi.out; omega
      have bk : (k : Int) < 17 := by omega
      have bi2 : (i1 : Int) < 32 := by have := Hi.out; omega
      have hx0 := strAt s i (by rw [HS.out]; omega)
      have hx1 := strAt s i1 (by rw [HS.out]; omega)
      obtain ⟨x, HX⟩ : ∃ x, Hid (x = C8 ((bytesOf s).getD i 0)) := ⟨_, hide rfl⟩
      obtain ⟨y, HY⟩ : ∃ x, Hid (x = C8 ((bytesOf s).getD i1 0)) := ⟨_, hide rfl⟩
      rw [← HX.out] at hx0
      rw [← HY.out] at hx1
      have x0 : 0 ≤ x := by rw [HX.out]; exact C8_nonneg _
      have x1 : x < 256 := by rw [HX.out]; exact C8_lt _
      have y0 : 0 ≤ y := by rw [HY.out]; exact C8_nonneg _
      have y1 : y < 256 := by rw [HY.out]; exact C8_lt _
      have HW : Hid (x + 256 * y = wI l k) := by
        show _ = _
        unfold wI
        rw [HL.out, HX.out, HY.out, Hi1.out, Hi.out]
      have c1 := ivs_get (l := sRow l k) (T := 84) (fr := (0, 0)) H1.out k (by rw [sRow_len]; omega)
      have f1 := frozen_of_row wr (w.heap.size + 1) k _ _ H1.out
      go_wp2_with fail
      go_region
      go_wp2_with fail
      refine ⟨⟨k + 1, by omega, rfl, far_drew _ _ H0.out (by omega), ?_, (HB.out.setCell (by show _ ≤ _; simp) _).drew⟩, by simp [intOf]; omega⟩
      have e := row_store H1.out k (iv (x + 256 * y))
      have e4 : (sRow l k).set k (x + 256 * y) = sRow l (k + 1) := by rw [HW.out]; exact sRow_step l k (by omega)
      rw [← List.map_set, e4] at e
      exact e
    · obtain rfl : k = 16 := by omega
      obtain rfl : i = 32 := Hi.out
      have bi : (32 : Int) ≤ ((32 : Nat) : Int) := by omega
      have H1' : Hid (wr.heap[w.heap.size + 1]? = some (.cells (sA l) 84 (0, 0))) := H1.out
      clear H1 hlt hk
      go_wp2_with (first
        | (refine wpList_load_row (by rfl) 84 (.tmp 3) (by rfl) (w.heap.size + 1) (by rfl) 84 (sA l) (0, 0) _ H1'.out underS' rfl (sA_size _) ?_)
        | (refine wpList_store_row (by rfl) 84 (.tmp 2) (.tmp 23) (by rfl) w.heap.size (sA l) (by rfl) (by rfl) 84 _ H0.out (sA_size _) (sA_old _) (sA_all _) ?_))
      refine bodyPost_ret (v := .agg (sA l)) (results_cell_row Tryd.results34 _ _ w.heap.size 84 _ (0, 0) _ (by rfl) (setRow_heap _ _ _ _ _ _ H0.out) underS' rfl (sA_size _)) rfl ⟨by rw [HL.out], below_setRow HB.out (Nat.le_refl _) _⟩
end
theorem sA_def (l : List UInt8) : sA l = ((sRow l 16).map iv).toArray := rfl
/-- Bit i of a scalar. -/
def btI (l : List UInt8) (i : Nat) : Bool := decide (wI l (i / 16) / 2 ^ (i % 16) % 2 = 1)
def one3 : Q3 := ⟨0, 1, 1⟩
/-- So many times, on its way: k rounds. -/
def tmQ (d : Nat) (l : List UInt8) (p : Q3) : Nat → Q3
  | 0 => one3
  | k + 1 => if btI l (255 - k) = true then plusD d (plusD d (tmQ d l p k) (tmQ d l p k)) p else plusD d (tmQ d l p k) (tmQ d l p k)
theorem tmQ_ok (d : Nat) (l : List UInt8) (p : Q3) : ∀ k, (tmQ d l p k).Ok
  | 0 => ⟨P_pos, oneP, oneP⟩
  | k + 1 => by
    rw [tmQ]; split
    · exact plusD_ok _ _ _
    · exact plusD_ok _ _ _
theorem builtZ3_gen (b0 b1 b2 b3 b4 b5 b6 b7 b8 b9 c0 c1 c2 c3 c4 c5 c6 c7 c8 c9 : Int) :
    Tryd.prog.built 79 [(1, .agg #[iv b0, iv b1, iv b2, iv b3, iv b4, iv b5, iv b6, iv b7, iv b8, iv b9]), (2, .agg #[iv c0, iv c1, iv c2, iv c3, iv c4, iv c5, iv c6, iv c7, iv c8, iv c9])]
      = some #[iv 0, iv 0, iv 0, iv 0, iv 0, iv 0, iv 0, iv 0, iv 0, iv 0, iv b0, iv b1, iv b2, iv b3, iv b4, iv b5, iv b6, iv b7, iv b8, iv b9, iv c0, iv c1, iv c2, iv c3, iv c4, iv c5, iv c6, iv c7, iv c8, iv c9] := by kernel_rfl
theorem builtZ3 : Tryd.prog.built 79 [(1, .agg (fA 1)), (2, .agg (fA 1))] = some (qA one3) := by
  rw [fA_list, builtZ3_gen]
  unfold qA qL one3
  rw [fL_zero, fL_list]
  rfl
theorem wI_nonneg (l : List UInt8) (i : Nat) : 0 ≤ wI l i ∧ wI l i < 65536 := by
  unfold wI
  have a := C8_nonneg (l.getD (2 * i) 0)
  have b := C8_lt (l.getD (2 * i) 0)
  have c := C8_nonneg (l.getD (2 * i + 1) 0)
  have d := C8_lt (l.getD (2 * i + 1) 0)
  omega
theorem wpBuildQ {P : Program} {ops : Array Oper} {rest : List Oper} {o : Oper} {a : Act} {w : World} {Q : Exit → Act → World → Prop} (hg : o.guard = none) (t : TypeId) (parts : Array (Nat × Operand)) (ho : o.op = .build t parts) (cells : Array Value) (ps : List (Nat × Value))
    (hp : (parts.map fun (i, x) => (i, a.eval x)).toList = ps) (hb : P.built t ps = some cells) (h : wpList P ops Q rest (a.put o.dst (.agg cells)) w) : wpList P ops Q (o :: rest) a w :=
  wpList_build hg t parts ho (by rw [hp, hb]; rfl) (by rw [hp, hb]; exact h)
section
attribute [local irreducible] fA fL qA sA
set_option maxRecDepth 100000 in
set_option maxHeartbeats 4000000 in
theorem timesA (d : Nat) (hd : d < P) (l : List UInt8) (p : Q3) (hp : p.Ok) (w : World) :
    Calls Tryd.prog 33 #[.agg (fA d), .agg (sA l), .agg (qA p)] w fun e w' => e = .returned (.agg (qA (tmQ d l p 256))) ∧ Below w.heap.size w w' := by
  have hz := zeroFA
  have hzq := zeroQ
  have Hd := hide hd
  have Hp := hide hp
  clear hd hp
  go_enter Tryd.func33, Tryd.ntmps33
  go_upto_region 1 with fail
  generalize hW0 : World.alloc _ _ = W0
  have R3 : Hid (W0.heap[w.heap.size]? = some (.cells (fA d) 76 (0, 0))) := by rw [← hW0]; exact at4_0 _ _ _ _ _
  have R4 : Hid (W0.heap[w.heap.size + 1]? = some (.cells (sA l) 84 (0, 0))) := by rw [← hW0]; exact at4_1 _ _ _ _ _
  have R5 : Hid (W0.heap[w.heap.size + 1 + 1]? = some (.cells (qA p) 79 (0, 0))) := by rw [← hW0]; exact at4_2 _ _ _ _ _
  have R6 : Hid (W0.heap[w.heap.size + 1 + 1 + 1]? = some (.cells (qA q0) 79 (0, 0))) := by rw [← hW0]; exact at4_3 _ _ _ _ _
  have BL : Hid (Below w.heap.size w W0) := by rw [← hW0]; show Below _ _ _; go_grown
  clear hW0
  obtain ⟨g4, h4⟩ : ∃ b, b = w.heap.size + 1 := ⟨_, rfl⟩
  obtain ⟨g5, h5⟩ : ∃ b, b = w.heap.size + 1 + 1 := ⟨_, rfl⟩
  obtain ⟨g6, h6⟩ : ∃ b, b = w.heap.size + 1 + 1 + 1 := ⟨_, rfl⟩
  rw [← h6] at R6 ⊢
  rw [← h5] at R5 ⊢
  rw [← h4] at R4 ⊢
  have q34 : w.heap.size < g4 := by omega
  have q45 : g4 < g5 := by omega
  have q56 : g5 < g6 := by omega
  clear h4 h5 h6
  go_wp2_with fail
  refine (smallOne _).mono ?_
  rintro e W1 ⟨rfl, hB⟩
  have R3 := hide (row_keep' R3.out hB)
  have R4 := hide (row_keep' R4.out hB)
  have R5 := hide (row_keep' R5.out hB)
  have R6 := hide (row_keep' R6.out hB)
  have BL : Hid (Below w.heap.size w W1) := BL.out.trans (hB.mono BL.out.size)
  clear hB
  go_wp2_with fail
  refine (smallOne _).mono ?_
  rintro e W2 ⟨rfl, hB⟩
  have R3 := hide (row_keep' R3.out hB)
  have R4 := hide (row_keep' R4.out hB)
  have R5 := hide (row_keep' R5.out hB)
  have R6 := hide (row_keep' R6.out hB)
  have BL : Hid (Below w.heap.size w W2) := BL.out.trans (hB.mono BL.out.size)
  clear hB
  have l3 := lt_row R3.out
  have l4 := lt_row R4.out
  have l5 := lt_row R5.out
  have l6 := lt_row R6.out
  rename_i hk
  refine hk _ _ ?_
  refine wpBuildQ (by rfl) 79 _ (by rfl) (qA one3) [(1, .agg (fA 1)), (2, .agg (fA 1))] (by kernel_rfl) builtZ3 ?_
  go_upto_region 2 with (first | (refine wpList_store_row (by rfl) 79 (.tmp 7) (.tmp 11) (by rfl) W2.heap.size (qA one3) (by rfl) (by rfl) 79 _ (heap_alloc_new _ _) (qA_size _) (qA_old _ _) (qA_all _) ?_))
  try rw [put_none']
  obtain ⟨g7, hg7⟩ : ∃ s, s = W2.heap.size := ⟨_, rfl⟩
  generalize hW3 : World.setRow _ _ _ = W3
  have K3 : Hid (Below W2.heap.size W2 W3) := by rw [← hW3]; exact below_setRow ((Below.refl _ _).alloc (Nat.le_refl _) _) (Nat.le_refl _) _
  have R7 : Hid (W3.heap[g7]? = some (.cells (qA one3) 79 (0, 0))) := by rw [← hW3, hg7]; exact setRow_heap _ _ _ _ _ _ (heap_alloc_new _ _)
  have R3 := hide (row_keep' R3.out K3.out)
  have R4 := hide (row_keep' R4.out K3.out)
  have R5 := hide (row_keep' R5.out K3.out)
  have R6 := hide (row_keep' R6.out K3.out)
  have BL : Hid (Below w.heap.size w W3) := BL.out.trans (K3.out.mono BL.out.size)
  have q67 : g6 < g7 := by omega
  rw [← hg7]
  clear hW3 hg7 K3 l3 l4 l5 l6
  go_wp2_with fail
  go_loopw [8] (fun i wr => ∃ k : Nat, k ≤ 256 ∧ i = .int .i64 (255 - (k : Int)) ∧ Hid (wr.heap[w.heap.size]? = some (.cells (fA d) 76 (0, 0))) ∧ Hid (wr.heap[g4]? = some (.cells (sA l) 84 (0, 0))) ∧ Hid (wr.heap[g5]? = some (.cells (qA p) 79 (0, 0))) ∧ Hid (wr.heap[g6]? = some (.cells (qA q0) 79 (0, 0))) ∧ Hid (wr.heap[g7]? = some (.cells (qA (tmQ d l p k)) 79 (0, 0))) ∧ Hid (Below w.heap.size w wr)) (fun i _ => (intOf i + 1).toNat)
  case atStart => exact ⟨0, by omega, rfl, R3, R4, R5, R6, R7, BL⟩
  case round =>
    clear R3 R4 R5 R6 R7 BL
    obtain ⟨k, hk, rfl, R3, R4, R5, R6, R7, BL⟩ := hrel
    by_cases hlt : k < 256
    · obtain ⟨a, Ea⟩ : ∃ a, Hid (a = 255 - k) := ⟨_, hide rfl⟩
      have ea : (255 : Int) - (k : Int) = (a : Int) := by have := Ea.out; omega
      have ha : a < 256 := by have := Ea.out; omega
      have ba : (0 : Int) ≤ (a : Int) := by omega
      obtain ⟨o, Eo⟩ : ∃ o, Hid (o = tmQ d l p k) := ⟨_, hide rfl⟩
      have Ho : Hid o.Ok := by rw [Eo.out]; exact tmQ_ok d l p k
      rw [← Eo.out] at R7
      go_wp2_with (first
        | (refine wpList_load_row (by rfl) 76 (.tmp 3) (by rfl) w.heap.size (by rfl) 76 (fA d) (0, 0) _ R3.out underF rfl (fA_size _) ?_)
        | (refine wpList_load_row (by rfl) 79 (.tmp 7) (by rfl) g7 (by rfl) 79 (qA o) (0, 0) _ R7.out Tryd.underlying79 rfl (qA_size _) ?_))
      refine (plusA d o o Hd.out Ho.out Ho.out _).mono ?_
      rintro e W4 ⟨rfl, hB⟩
      have R3 := hide (row_keep' R3.out hB)
      have R4 := hide (row_keep' R4.out hB)
      have R5 := hide (row_keep' R5.out hB)
      have R6 := hide (row_keep' R6.out hB)
      have R7 := hide (row_keep' R7.out hB)
      have BL : Hid (Below w.heap.size w W4) := BL.out.trans (hB.mono BL.out.size)
      clear hB
      obtain ⟨o2, Eo2⟩ : ∃ o2, Hid (o2 = plusD d o o) := ⟨_, hide rfl⟩
      have Ho2 : Hid o2.Ok := by rw [Eo2.out]; exact plusD_ok _ _ _
      rw [← Eo2.out]
      go_upto_region 6 with (first
        | (refine wpList_store_row (by rfl) 79 (.tmp 7) (.tmp 19) (by rfl) g7 (qA o2) (by rfl) (by rfl) 79 _ R7.out (qA_size _) (qA_old _ _) (qA_all _) ?_))
      try rw [put_none']
      generalize hW5 : World.setRow _ _ _ = W5
      have R3 : Hid (W5.heap[w.heap.size]? = some (.cells (fA d) 76 (0, 0))) := by rw [← hW5]; exact (setRow_other _ _ _ _ (by omega)).trans R3.out
      have R4 : Hid (W5.heap[g4]? = some (.cells (sA l) 84 (0, 0))) := by rw [← hW5]; exact (setRow_other _ _ _ _ (by omega)).trans R4.out
      have R5 : Hid (W5.heap[g5]? = some (.cells (qA p) 79 (0, 0))) := by rw [← hW5]; exact (setRow_other _ _ _ _ (by omega)).trans R5.out
      have R6 : Hid (W5.heap[g6]? = some (.cells (qA q0) 79 (0, 0))) := by rw [← hW5]; exact (setRow_other _ _ _ _ (by omega)).trans R6.out
      have R7 : Hid (W5.heap[g7]? = some (.cells (qA o2) 79 (0, 0))) := by rw [← hW5]; exact setRow_heap _ _ _ _ _ _ R7.out
      have BL : Hid (Below w.heap.size w W5) := by rw [← hW5]; exact below_setRow BL.out (by omega) _
      clear hW5
      obtain ⟨q, Hq⟩ : ∃ q, Hid (q = a / 16) := ⟨_, hide rfl⟩
      obtain ⟨r, Hr⟩ : ∃ r, Hid (r = a % 16) := ⟨_, hide rfl⟩
      have eq : (a : Int) / 16 = (q : Int) := by have := Hq.out; omega
      have er : (a : Int) % 16 = (r : Int) := by have := Hr.out; omega
      have bq : (q : Int) < 17 := by have := Hq.out; omega
      have br : (r : Int) < 16 := by have := Hr.out; omega
      have hq16 : q < 16 := by have := Hq.out; omega
      have c1 := ivs_get (l := sRow l 16) (T := 84) (fr := (0, 0)) (by have e := R4.out; rw [sA_def] at e; exact e) q (by rw [sRow_len]; omega)
      rw [sRow_get l 16 q hq16 (by omega)] at c1
      obtain ⟨x, HX⟩ : ∃ x, Hid (x = wI l q) := ⟨_, hide rfl⟩
      rw [← HX.out] at c1
      have x0 : 0 ≤ x := by rw [HX.out]; exact (wI_nonneg l q).1
      have hnn : 0 ≤ x / 2 ^ r := Int.ediv_nonneg x0 (Int.le_of_lt (Int.pow_pos (by decide)))
      have hb : ((x / 2 ^ r).tmod 2 == 1) = btI l a := by
        rw [Int.tmod_eq_emod_of_nonneg hnn, HX.out, Hq.out, Hr.out]
        unfold btI
        by_cases h : wI l (a / 16) / 2 ^ (a % 16) % 2 = 1
        · rw [h]; simp
        · rw [decide_eq_false h, beq_eq_false_iff_ne]; exact h
      have em : (a : Int) - 1 = 255 - ((k + 1 : Nat) : Int) := by have := Ea.out; omega
      clear hnn
      cases hbt : btI l a
      · rw [hbt] at hb
        have HE : Hid (o2 = tmQ d l p (k + 1)) := by
          show _ = _
          rw [tmQ, ← Ea.out, if_neg (by rw [hbt]; decide), Eo2.out, Eo.out]
        clear hbt
        go_wp2_with fail
        exact ⟨⟨k + 1, by omega, rfl, R3, R4, R5, R6, by rw [← HE.out]; exact R7, BL⟩, by simp [intOf]; omega⟩
      · rw [hbt] at hb
        have HE : Hid (plusD d o2 p = tmQ d l p (k + 1)) := by
          show _ = _
          rw [tmQ, ← Ea.out, if_pos hbt, Eo2.out, Eo.out]
        clear hbt
        go_wp2_with (first
          | (refine wpList_load_row (by rfl) 76 (.tmp 3) (by rfl) w.heap.size (by rfl) 76 (fA d) (0, 0) _ R3.out underF rfl (fA_size _) ?_)
          | (refine wpList_load_row (by rfl) 79 (.tmp 7) (by rfl) g7 (by rfl) 79 (qA o2) (0, 0) _ R7.out Tryd.underlying79 rfl (qA_size _) ?_)
          | (refine wpList_load_row (by rfl) 79 (.tmp 5) (by rfl) g5 (by rfl) 79 (qA p) (0, 0) _ R5.out Tryd.underlying79 rfl (qA_size _) ?_))
        refine (plusA d o2 p Hd.out Ho2.out Hp.out _).mono ?_
        rintro e W6 ⟨rfl, hB⟩
        have R3 := hide (row_keep' R3.out hB)
        have R4 := hide (row_keep' R4.out hB)
        have R5 := hide (row_keep' R5.out hB)
        have R6 := hide (row_keep' R6.out hB)
        have R7 := hide (row_keep' R7.out hB)
        have BL : Hid (Below w.heap.size w W6) := BL.out.trans (hB.mono BL.out.size)
        clear hB c1
        rw [HE.out]
        go_upto_region 4 with (first
          | (refine wpList_store_row (by rfl) 79 (.tmp 7) (.tmp 32) (by rfl) g7 (qA (tmQ d l p (k + 1))) (by rfl) (by rfl) 79 _ R7.out (qA_size _) (qA_old _ _) (qA_all _) ?_))
        try rw [put_none']
        generalize hW7 : World.setRow _ _ _ = W7
        have R3 : Hid (W7.heap[w.heap.size]? = some (.cells (fA d) 76 (0, 0))) := by rw [← hW7]; exact (setRow_other _ _ _ _ (by omega)).trans R3.out
        have R4 : Hid (W7.heap[g4]? = some (.cells (sA l) 84 (0, 0))) := by rw [← hW7]; exact (setRow_other _ _ _ _ (by omega)).trans R4.out
        have R5 : Hid (W7.heap[g5]? = some (.cells (qA p) 79 (0, 0))) := by rw [← hW7]; exact (setRow_other _ _ _ _ (by omega)).trans R5.out
        have R6 : Hid (W7.heap[g6]? = some (.cells (qA q0) 79 (0, 0))) := by rw [← hW7]; exact (setRow_other _ _ _ _ (by omega)).trans R6.out
        have R7 : Hid (W7.heap[g7]? = some (.cells (qA (tmQ d l p (k + 1))) 79 (0, 0))) := by rw [← hW7]; exact setRow_heap _ _ _ _ _ _ R7.out
        have BL : Hid (Below w.heap.size w W7) := by rw [← hW7]; exact below_setRow BL.out (by omega) _
        clear hW7
        go_wp2_with fail
        exact ⟨⟨k + 1, by omega, rfl, R3, R4, R5, R6, R7, BL⟩, by simp [intOf]; omega⟩
    · obtain rfl : k = 256 := by omega
      have bk2 : (255 : Int) - ((256 : Nat) : Int) = -1 := by omega
      clear hlt hk
      go_wp2_with (first
        | (refine wpList_load_row (by rfl) 79 (.tmp 7) (by rfl) g7 (by rfl) 79 (qA (tmQ d l p 256)) (0, 0) _ R7.out Tryd.underlying79 rfl (qA_size _) ?_)
        | (refine wpList_store_row (by rfl) 79 (.tmp 6) (.tmp 33) (by rfl) g6 (qA (tmQ d l p 256)) (by rfl) (by rfl) 79 _ R6.out (qA_size _) (qA_old _ _) (qA_all _) ?_))
      refine bodyPost_ret (v := .agg (qA (tmQ d l p 256))) (results_cell_row Tryd.results33 _ _ g6 79 _ (0, 0) _ (by rfl) (setRow_heap _ _ _ _ _ _ R6.out) Tryd.underlying79 rfl (qA_size _)) rfl ⟨rfl, below_setRow BL.out (by omega) _⟩
end
end Go.Proofs.YtemdlpcljjdfjaaDoor
/- The document's answer: Times. -/
namespace Go.Proofs.YtemdlpcljjdfjaaDoor
open Go.RowKit
theorem qL_A (p : Q3) : (qL p).toArray = qA p := rfl
theorem qL_size (p : Q3) : (Tryd.prog.info? 79).map (·.size) = some (qL p).length := by rw [qL_len]; exact sizeQ
theorem rangeQA {w : World} {b : Nat} {p : Q3} {T : TypeId} {fr : Nat × Nat} (h : w.heap[b]? = some (.cells (qA p) T fr)) : w.rangeAt b 0 (qL p) := by
  intro j v hv
  rw [Nat.zero_add, cell_of_row w b j _ T _ h, ← qL_A, List.getElem?_toArray]
  exact hv
theorem yldQ {ops : Array Oper} {S : World → Prop} {op : Oper} {a : Act} (hw : Region.wanted op (yielded ops a.tmps) = true) (x : Operand) (ho : op.op = .load 79 x)
    (b o : Nat) (p : Q3) (hx : a.eval x = .pointer (some ⟨b, o, none⟩)) (hS : ∀ w, S w → w.rangeAt b o (qL p)) : YieldsIf Tryd.prog ops S op (.agg (qA p)) a :=
  yld_load hw _ x ho b o hx (qL p) (qA p) rfl _ hS Tryd.underlying79 rfl (qL_size p)
theorem rangeF {w : World} {b n : Nat} {T : TypeId} {fr : Nat × Nat} (h : w.heap[b]? = some (.cells (fA n) T fr)) : w.rangeAt b 0 (fL n) := by
  intro j v hv
  rw [Nat.zero_add, cell_of_row w b j _ T _ h, show fA n = (fL n).toArray from rfl, List.getElem?_toArray]
  exact hv
theorem hrunScalarOf {a : Act} {o : Oper} (x : Operand) (ho : o.op = .call { callee := .value (.func 34), args := #[x], argTypes := #[9] }) (v1 : Value) (hx : a.eval x = v1) (w : World) :
    (execOp a.eval o).run Tryd.prog w = .ok (.enter 34 #[v1]) w := by
  unfold execOp
  simp only [ho]
  subst hx
  go_simp
theorem hrunTimesD {a : Act} {o : Oper} (x y z : Operand) (ho : o.op = .call { callee := .value (.func 33), args := #[x, y, z], argTypes := #[76, 84, 79] }) (v1 v2 v3 : Value) (hx : a.eval x = v1) (hy : a.eval y = v2) (hz : a.eval z = v3) (w : World) :
    (execOp a.eval o).run Tryd.prog w = .ok (.enter 33 #[v1, v2, v3]) w := by
  unfold execOp
  simp only [ho]
  subst hx hy hz
  go_simp
theorem hrunAllocQ {a : Act} {o : Oper} (ho : o.op = .alloc 79) (w : World) :
    (execOp a.eval o).run Tryd.prog w = .ok (.value (.pointer (some ⟨w.heap.size, 0, none⟩))) (w.alloc (.cells (qA q0) 79)) := by
  have hz := zeroQ
  unfold execOp
  simp only [ho]
  go_simp
/-- What the document's Times answers. -/
def tmB (d : Nat) (s p : ByteArray) : Bool := decide (s.size = 32) && pofB d p
def tmS (d : Nat) (s p : ByteArray) : ByteArray := if tmB d s p = true then codeD (tmQ d (bytesOf s) (pofQ d p) 256) else ⟨#[]⟩
def tmE (d : Nat) (s p : ByteArray) : Int := if s.size = 32 then (if tmB d s p = true then 0 else 2) else 1
section
attribute [local irreducible] fA fL qA qL sA crvD pofB pofQ codeD tmQ
set_option maxRecDepth 100000 in
set_option maxHeartbeats 4000000 in
theorem refTimesA (s t : ByteArray) (w : World) :
    Calls Tryd.prog 12 #[.string s, .string t] w fun e w' => e = .returned (.tuple #[.string (tmS crvD s t), .int .i64 (tmE crvD s t)]) ∧ Below w.heap.size w w' := by
  have hz := zeroFA
  have hzq := zeroQ
  go_enter Tryd.func12, Tryd.ntmps12
  by_cases h32 : s.size = 32
  · have b32 : ((s.size : Int) != 32) = false := by rw [h32]; rfl
    have HS := hide h32
    clear h32
    go_wp2_with fail
    refine (curveA _).mono ?_
    rintro e W1 ⟨rfl, hB1⟩
    have BL := hide hB1
    clear hB1
    obtain ⟨d, Ed⟩ : ∃ d, Hid (d = crvD) := ⟨_, hide rfl⟩
    have Hd : Hid (d < P) := by rw [Ed.out]; exact crvD_lt
    rw [← Ed.out]
    go_upto_region 4 with (first | (refine wpList_store_row (by rfl) 76 (.tmp 6) (.tmp 13) (by rfl) W1.heap.size (fA d) (by rfl) (by rfl) 76 _ (heap_alloc_new _ _) (fA_size _) (fA_old _ _) (fA_all _) ?_))
    try rw [put_none']
    obtain ⟨g6, hg6⟩ : ∃ q, q = W1.heap.size := ⟨_, rfl⟩
    generalize hW2 : World.setRow _ _ _ = W2
    have RD : Hid (W2.heap[g6]? = some (.cells (fA d) 76 (0, 0))) := by rw [← hW2, hg6]; exact setRow_heap _ _ _ _ _ _ (heap_alloc_new _ _)
    have BL2 : Hid (Below w.heap.size w W2) := by rw [← hW2]; exact below_setRow (BL.out.alloc BL.out.size _) BL.out.size _
    rw [← hg6]
    clear hW2 hg6 BL
    go_wp2_with (first | (refine wpList_load_row (by rfl) 76 (.tmp 6) (by rfl) (g6) (by rfl) 76 (fA d) (0, 0) _ RD.out underF rfl (fA_size _) ?_))
    refine (pointOfA d t Hd.out _).mono ?_
    rintro e W3 ⟨rfl, hB3⟩
    have RD := hide (row_keep' RD.out hB3)
    have BL : Hid (Below w.heap.size w W3) := BL2.out.trans (hB3.mono BL2.out.size)
    clear hB3 BL2
    obtain ⟨p, Ep⟩ : ∃ p, Hid (p = pofQ d t) := ⟨_, hide rfl⟩
    obtain ⟨b1, Eb1⟩ : ∃ b, Hid (b = pofB d t) := ⟨_, hide rfl⟩
    have Hp : Hid p.Ok := by rw [Ep.out]; exact pofQ_ok _ _
    rw [← Ep.out, ← Eb1.out]
    go_upto_region 5 with (first | (refine wpList_store_row (by rfl) 79 (.tmp 7) (.tmp 18) (by rfl) W3.heap.size (qA p) (by rfl) (by rfl) 79 _ (heap_alloc_new _ _) (qA_size _) (qA_old _ _) (qA_all _) ?_))
    try rw [put_none']
    obtain ⟨g7, hg7⟩ : ∃ q, q = W3.heap.size := ⟨_, rfl⟩
    generalize hW4 : World.setRow _ _ _ = W4
    have K4 : Hid (Below W3.heap.size W3 W4) := by rw [← hW4]; exact below_setRow ((Below.refl _ _).alloc (Nat.le_refl _) _) (Nat.le_refl _) _
    have RP : Hid (W4.heap[g7]? = some (.cells (qA p) 79 (0, 0))) := by rw [← hW4, hg7]; exact setRow_heap _ _ _ _ _ _ (heap_alloc_new _ _)
    have RD := hide (row_keep' RD.out K4.out)
    have BL4 : Hid (Below w.heap.size w W4) := BL.out.trans (K4.out.mono BL.out.size)
    rw [← hg7]
    clear hW4 hg7 BL K4
    cases b1
    case false =>
      go_wp2_with fail
      go_returns
      refine ⟨?_, BL4.out⟩
      unfold tmS tmE tmB
      rw [← Ed.out, ← Eb1.out, Bool.and_false, if_neg (by decide), if_pos HS.out, if_neg (by decide)]; rfl
    case true =>
    have lD := lt_row RD.out
    have lP := lt_row RP.out
    have RDr := hide (rangeF RD.out)
    have RPr := hide (rangeQA RP.out)
    go_upto_region 7 with fail
    go_cut [9] from 22 to 26 (fun s' wx => ∃ g, s' = .pointer (some ⟨g, 0, none⟩) ∧ Hid (wx.heap[g]? = some (.cells (qA (tmQ d (bytesOf s) p 256)) 79 (0, 0))) ∧ Hid (Below W4.heap.size W4 wx))
    case first =>
      refine wp_region_held_drew (S := fun w' => w'.rangeAt g6 0 (fL d) ∧ w'.rangeAt g7 0 (qL p)) (by kernel_rfl) ⟨RDr.out, RPr.out⟩ (fun hHeld => ?_)
      have KV1 : Hid (Below W4.heap.size W4 W4.drew) := (Below.refl _ _).drew
      obtain ⟨V1, hV1⟩ : ∃ V, V = W4.drew := ⟨_, rfl⟩
      rw [← hV1] at hHeld KV1 ⊢
      clear hV1
      refine wpAnyH_take (i := 0) (oi := { dst := some 22, op := Go.Op.load 76 (Go.Operand.tmp 6), type := 76, pos := "point.go:109", after := #[], guard := none }) (v := .agg (fA d)) rfl (by kernel_rfl) (by kernel_rfl) (by kernel_rfl) (fun _ _ _ h => h) (yldF (by rfl) _ rfl g6 0 d rfl (fun w h => h.1)) hHeld ?_
      simp only [Act.put, List.setIfInBounds_toArray, List.set_cons_zero, List.set_cons_succ]
      refine wpAnyH_take (i := 1) (oi := { dst := some 23, op := Go.Op.move (Go.Operand.tmp 0), type := 9, pos := "point.go:109", after := #[], guard := none }) (v := .string s) rfl (by kernel_rfl) (by kernel_rfl) (by kernel_rfl) (fun _ _ _ h => h) (Or.inl ⟨by rfl, fun w _ => by go_simp⟩) hHeld ?_
      simp only [Act.put, List.setIfInBounds_toArray, List.set_cons_zero, List.set_cons_succ]
      refine wpAnyH_take (i := 3) (oi := { dst := some 25, op := Go.Op.load 79 (Go.Operand.tmp 7), type := 79, pos := "point.go:109", after := #[], guard := none }) (v := .agg (qA p)) rfl (by kernel_rfl) (by kernel_rfl) (by kernel_rfl) (fun _ _ _ h => h) (yldQ (by rfl) _ rfl g7 0 p rfl (fun w h => h.2)) hHeld ?_
      simp only [Act.put, List.setIfInBounds_toArray, List.set_cons_zero, List.set_cons_succ]
      refine wpAnyH_ready (rs := [2, 5]) (by kernel_rfl) (by simp) ?_
      refine AllReadyH.cons (o := { dst := some 24, op := Go.Op.call { callee := Go.Callee.value (Go.Operand.func 34), args := #[Go.Operand.tmp 23], argTypes := #[9] }, type := 84, pos := "point.go:109", after := #[{ on := 1, ground := Go.Ground.data }], guard := none }) rfl (fun K hK => ?_) ?_
      · skip
        refine step_callTo (by rfl) _ _ (hrunScalarOf _ rfl (.string s) rfl V1) _ _ (scalarOfA s HS.out V1) (fun V2 HBx => ?_)
        have KV2 : Hid (Below W4.heap.size W4 V2) := KV1.out.trans (HBx.mono KV1.out.size)
        clear HBx
        refine hK.out _ _ ?_ (fun hHeld => ?_)
        · exact ⟨range_below RDr.out KV2.out lD, range_below RPr.out KV2.out lP⟩
        clear hK K
        try simp only [Act.put, List.setIfInBounds_toArray, List.set_cons_zero, List.set_cons_succ]
        refine wpAnyH_ready (rs := [4, 5]) (by kernel_rfl) (by simp) ?_
        refine AllReadyH.cons (o := { dst := some 26, op := Go.Op.call { callee := Go.Callee.value (Go.Operand.func 33), args := #[Go.Operand.tmp 22, Go.Operand.tmp 24, Go.Operand.tmp 25], argTypes := #[76, 84, 79] }, type := 79, pos := "point.go:109", after := #[{ on := 0, ground := Go.Ground.data }, { on := 2, ground := Go.Ground.data }, { on := 3, ground := Go.Ground.data }, { on := 2, ground := Go.Ground.chain }], guard := none }) rfl (fun K hK => ?_) ?_
        · skip
          refine step_callTo (by rfl) _ _ (hrunTimesD _ _ _ rfl (.agg (fA d)) (.agg (sA (bytesOf s))) (.agg (qA p)) rfl rfl rfl V2) _ _ (timesA d Hd.out (bytesOf s) p Hp.out V2) (fun V3 HBx => ?_)
          have KV3 : Hid (Below W4.heap.size W4 V3) := KV2.out.trans (HBx.mono KV2.out.size)
          clear HBx
          refine hK.out _ _ ?_ (fun hHeld => ?_)
          · exact ⟨range_below RDr.out KV3.out lD, range_below RPr.out KV3.out lP⟩
          clear hK K
          try simp only [Act.put, List.setIfInBounds_toArray, List.set_cons_zero, List.set_cons_succ]
          refine wpAnyH_ready (rs := [5]) (by kernel_rfl) (by simp) ?_
          refine AllReadyH.cons (o := { dst := some 9, op := Go.Op.alloc 79, type := 0, pos := "point.go:109", after := #[], guard := none }) rfl (fun K hK => ?_) ?_
          · skip
            refine step_runTo (w' := V3.alloc (.cells (qA q0) 79)) (by rfl) (.pointer (some ⟨V3.heap.size, 0, none⟩)) (hrunAllocQ rfl V3) ?_
            obtain ⟨gg4, hgg4⟩ : ∃ g, g = V3.heap.size := ⟨_, rfl⟩
            have ZN : Hid ((V3.alloc (.cells (qA q0) 79)).heap[gg4]? = some (.cells (qA q0) 79 (0, 0))) := by rw [hgg4]; exact heap_alloc_new _ _
            have KV4 : Hid (Below W4.heap.size W4 (V3.alloc (.cells (qA q0) 79))) := KV3.out.alloc KV3.out.size _
            have GG : Hid (W4.heap.size ≤ gg4) := by rw [hgg4]; exact KV3.out.size
            rw [← hgg4]
            obtain ⟨V4, hV4⟩ : ∃ V, V = V3.alloc (.cells (qA q0) 79) := ⟨_, rfl⟩
            rw [← hV4] at ZN KV4 ⊢
            clear hV4 hgg4
            refine hK.out _ _ ?_ (fun hHeld => ?_)
            · exact ⟨range_below RDr.out KV4.out lD, range_below RPr.out KV4.out lP⟩
            clear hK K
            try simp only [Act.put, List.setIfInBounds_toArray, List.set_cons_zero, List.set_cons_succ]
            refine wpAnyH_ready (rs := [6]) (by kernel_rfl) (by simp) ?_
            refine AllReadyH.cons (o := { dst := none, op := Go.Op.store 79 (Go.Operand.tmp 9) (Go.Operand.tmp 26), type := 0, pos := "point.go:109", after := #[{ on := 5, ground := Go.Ground.data }, { on := 4, ground := Go.Ground.data }, { on := 4, ground := Go.Ground.chain }, { on := 0, ground := Go.Ground.phase }, { on := 1, ground := Go.Ground.phase }, { on := 2, ground := Go.Ground.phase }, { on := 3, ground := Go.Ground.phase }, { on := 4, ground := Go.Ground.phase }, { on := 5, ground := Go.Ground.phase }], guard := none }) rfl (fun K hK => ?_) ?_
            · skip
              refine step_store_row _ (by rfl) 79 (.tmp 9) (.tmp 26) (by rfl) gg4 (qA (tmQ d (bytesOf s) p 256)) (by rfl) (by rfl) 79 _ ZN.out (qA_size _) (qA_old _ _) (qA_all _) ?_
              rw [put_none']
              refine hK.out _ _ ?_ (fun hHeld => ?_)
              · exact ⟨range_set (range_below RDr.out KV4.out lD) (Nat.ne_of_lt (Nat.lt_of_lt_of_le lD GG.out)), range_set (range_below RPr.out KV4.out lP) (Nat.ne_of_lt (Nat.lt_of_lt_of_le lP GG.out))⟩
              clear hK K
              try simp only [Act.put, List.setIfInBounds_toArray, List.set_cons_zero, List.set_cons_succ]
              refine wpAnyH_done (by kernel_rfl) ?_ _
              go_wp2_with fail
              go_meet
              case rel => exact ⟨gg4, rfl, hide (setRow_heap _ _ _ _ _ _ ZN.out), hide (below_setRow KV4.out GG.out _)⟩
            exact AllReadyH.nil
          exact AllReadyH.nil
        refine AllReadyH.cons (o := { dst := some 9, op := Go.Op.alloc 79, type := 0, pos := "point.go:109", after := #[], guard := none }) rfl (fun K hK => ?_) ?_
        · skip
          refine step_runTo (w' := V2.alloc (.cells (qA q0) 79)) (by rfl) (.pointer (some ⟨V2.heap.size, 0, none⟩)) (hrunAllocQ rfl V2) ?_
          obtain ⟨gg6, hgg6⟩ : ∃ g, g = V2.heap.size := ⟨_, rfl⟩
          have ZN : Hid ((V2.alloc (.cells (qA q0) 79)).heap[gg6]? = some (.cells (qA q0) 79 (0, 0))) := by rw [hgg6]; exact heap_alloc_new _ _
          have KV6 : Hid (Below W4.heap.size W4 (V2.alloc (.cells (qA q0) 79))) := KV2.out.alloc KV2.out.size _
          have GG : Hid (W4.heap.size ≤ gg6) := by rw [hgg6]; exact KV2.out.size
          rw [← hgg6]
          obtain ⟨V6, hV6⟩ : ∃ V, V = V2.alloc (.cells (qA q0) 79) := ⟨_, rfl⟩
          rw [← hV6] at ZN KV6 ⊢
          clear hV6 hgg6
          refine hK.out _ _ ?_ (fun hHeld => ?_)
          · exact ⟨range_below RDr.out KV6.out lD, range_below RPr.out KV6.out lP⟩
          clear hK K
          try simp only [Act.put, List.setIfInBounds_toArray, List.set_cons_zero, List.set_cons_succ]
          refine wpAnyH_ready (rs := [4]) (by kernel_rfl) (by simp) ?_
          refine AllReadyH.cons (o := { dst := some 26, op := Go.Op.call { callee := Go.Callee.value (Go.Operand.func 33), args := #[Go.Operand.tmp 22, Go.Operand.tmp 24, Go.Operand.tmp 25], argTypes := #[76, 84, 79] }, type := 79, pos := "point.go:109", after := #[{ on := 0, ground := Go.Ground.data }, { on := 2, ground := Go.Ground.data }, { on := 3, ground := Go.Ground.data }, { on := 2, ground := Go.Ground.chain }], guard := none }) rfl (fun K hK => ?_) ?_
          · skip
            refine step_callTo (by rfl) _ _ (hrunTimesD _ _ _ rfl (.agg (fA d)) (.agg (sA (bytesOf s))) (.agg (qA p)) rfl rfl rfl V6) _ _ (timesA d Hd.out (bytesOf s) p Hp.out V6) (fun V7 HBx => ?_)
            have KV7 : Hid (Below W4.heap.size W4 V7) := KV6.out.trans (HBx.mono KV6.out.size)
            have ZN := hide (row_keep' ZN.out HBx)
            clear HBx
            refine hK.out _ _ ?_ (fun hHeld => ?_)
            · exact ⟨range_below RDr.out KV7.out lD, range_below RPr.out KV7.out lP⟩
            clear hK K
            try simp only [Act.put, List.setIfInBounds_toArray, List.set_cons_zero, List.set_cons_succ]
            refine wpAnyH_ready (rs := [6]) (by kernel_rfl) (by simp) ?_
            refine AllReadyH.cons (o := { dst := none, op := Go.Op.store 79 (Go.Operand.tmp 9) (Go.Operand.tmp 26), type := 0, pos := "point.go:109", after := #[{ on := 5, ground := Go.Ground.data }, { on := 4, ground := Go.Ground.data }, { on := 4, ground := Go.Ground.chain }, { on := 0, ground := Go.Ground.phase }, { on := 1, ground := Go.Ground.phase }, { on := 2, ground := Go.Ground.phase }, { on := 3, ground := Go.Ground.phase }, { on := 4, ground := Go.Ground.phase }, { on := 5, ground := Go.Ground.phase }], guard := none }) rfl (fun K hK => ?_) ?_
            · skip
              refine step_store_row _ (by rfl) 79 (.tmp 9) (.tmp 26) (by rfl) gg6 (qA (tmQ d (bytesOf s) p 256)) (by rfl) (by rfl) 79 _ ZN.out (qA_size _) (qA_old _ _) (qA_all _) ?_
              rw [put_none']
              refine hK.out _ _ ?_ (fun hHeld => ?_)
              · exact ⟨range_set (range_below RDr.out KV7.out lD) (Nat.ne_of_lt (Nat.lt_of_lt_of_le lD GG.out)), range_set (range_below RPr.out KV7.out lP) (Nat.ne_of_lt (Nat.lt_of_lt_of_le lP GG.out))⟩
              clear hK K
              try simp only [Act.put, List.setIfInBounds_toArray, List.set_cons_zero, List.set_cons_succ]
              refine wpAnyH_done (by kernel_rfl) ?_ _
              go_wp2_with fail
              go_meet
              case rel => exact ⟨gg6, rfl, hide (setRow_heap _ _ _ _ _ _ ZN.out), hide (below_setRow KV7.out GG.out _)⟩
            exact AllReadyH.nil
          exact AllReadyH.nil
        exact AllReadyH.nil
      refine AllReadyH.cons (o := { dst := some 9, op := Go.Op.alloc 79, type := 0, pos := "point.go:109", after := #[], guard := none }) rfl (fun K hK => ?_) ?_
      · skip
        refine step_runTo (w' := V1.alloc (.cells (qA q0) 79)) (by rfl) (.pointer (some ⟨V1.heap.size, 0, none⟩)) (hrunAllocQ rfl V1) ?_
        obtain ⟨gg9, hgg9⟩ : ∃ g, g = V1.heap.size := ⟨_, rfl⟩
        have ZN : Hid ((V1.alloc (.cells (qA q0) 79)).heap[gg9]? = some (.cells (qA q0) 79 (0, 0))) := by rw [hgg9]; exact heap_alloc_new _ _
        have KV9 : Hid (Below W4.heap.size W4 (V1.alloc (.cells (qA q0) 79))) := KV1.out.alloc KV1.out.size _
        have GG : Hid (W4.heap.size ≤ gg9) := by rw [hgg9]; exact KV1.out.size
        rw [← hgg9]
        obtain ⟨V9, hV9⟩ : ∃ V, V = V1.alloc (.cells (qA q0) 79) := ⟨_, rfl⟩
        rw [← hV9] at ZN KV9 ⊢
        clear hV9 hgg9
        refine hK.out _ _ ?_ (fun hHeld => ?_)
        · exact ⟨range_below RDr.out KV9.out lD, range_below RPr.out KV9.out lP⟩
        clear hK K
        try simp only [Act.put, List.setIfInBounds_toArray, List.set_cons_zero, List.set_cons_succ]
        refine wpAnyH_ready (rs := [2]) (by kernel_rfl) (by simp) ?_
        refine AllReadyH.cons (o := { dst := some 24, op := Go.Op.call { callee := Go.Callee.value (Go.Operand.func 34), args := #[Go.Operand.tmp 23], argTypes := #[9] }, type := 84, pos := "point.go:109", after := #[{ on := 1, ground := Go.Ground.data }], guard := none }) rfl (fun K hK => ?_) ?_
        · skip
          refine step_callTo (by rfl) _ _ (hrunScalarOf _ rfl (.string s) rfl V9) _ _ (scalarOfA s HS.out V9) (fun V10 HBx => ?_)
          have KV10 : Hid (Below W4.heap.size W4 V10) := KV9.out.trans (HBx.mono KV9.out.size)
          have ZN := hide (row_keep' ZN.out HBx)
          clear HBx
          refine hK.out _ _ ?_ (fun hHeld => ?_)
          · exact ⟨range_below RDr.out KV10.out lD, range_below RPr.out KV10.out lP⟩
          clear hK K
          try simp only [Act.put, List.setIfInBounds_toArray, List.set_cons_zero, List.set_cons_succ]
          refine wpAnyH_ready (rs := [4]) (by kernel_rfl) (by simp) ?_
          refine AllReadyH.cons (o := { dst := some 26, op := Go.Op.call { callee := Go.Callee.value (Go.Operand.func 33), args := #[Go.Operand.tmp 22, Go.Operand.tmp 24, Go.Operand.tmp 25], argTypes := #[76, 84, 79] }, type := 79, pos := "point.go:109", after := #[{ on := 0, ground := Go.Ground.data }, { on := 2, ground := Go.Ground.data }, { on := 3, ground := Go.Ground.data }, { on := 2, ground := Go.Ground.chain }], guard := none }) rfl (fun K hK => ?_) ?_
          · skip
            refine step_callTo (by rfl) _ _ (hrunTimesD _ _ _ rfl (.agg (fA d)) (.agg (sA (bytesOf s))) (.agg (qA p)) rfl rfl rfl V10) _ _ (timesA d Hd.out (bytesOf s) p Hp.out V10) (fun V11 HBx => ?_)
            have KV11 : Hid (Below W4.heap.size W4 V11) := KV10.out.trans (HBx.mono KV10.out.size)
            have ZN := hide (row_keep' ZN.out HBx)
            clear HBx
            refine hK.out _ _ ?_ (fun hHeld => ?_)
            · exact ⟨range_below RDr.out KV11.out lD, range_below RPr.out KV11.out lP⟩
            clear hK K
            try simp only [Act.put, List.setIfInBounds_toArray, List.set_cons_zero, List.set_cons_succ]
            refine wpAnyH_ready (rs := [6]) (by kernel_rfl) (by simp) ?_
            refine AllReadyH.cons (o := { dst := none, op := Go.Op.store 79 (Go.Operand.tmp 9) (Go.Operand.tmp 26), type := 0, pos := "point.go:109", after := #[{ on := 5, ground := Go.Ground.data }, { on := 4, ground := Go.Ground.data }, { on := 4, ground := Go.Ground.chain }, { on := 0, ground := Go.Ground.phase }, { on := 1, ground := Go.Ground.phase }, { on := 2, ground := Go.Ground.phase }, { on := 3, ground := Go.Ground.phase }, { on := 4, ground := Go.Ground.phase }, { on := 5, ground := Go.Ground.phase }], guard := none }) rfl (fun K hK => ?_) ?_
            · skip
              refine step_store_row _ (by rfl) 79 (.tmp 9) (.tmp 26) (by rfl) gg9 (qA (tmQ d (bytesOf s) p 256)) (by rfl) (by rfl) 79 _ ZN.out (qA_size _) (qA_old _ _) (qA_all _) ?_
              rw [put_none']
              refine hK.out _ _ ?_ (fun hHeld => ?_)
              · exact ⟨range_set (range_below RDr.out KV11.out lD) (Nat.ne_of_lt (Nat.lt_of_lt_of_le lD GG.out)), range_set (range_below RPr.out KV11.out lP) (Nat.ne_of_lt (Nat.lt_of_lt_of_le lP GG.out))⟩
              clear hK K
              try simp only [Act.put, List.setIfInBounds_toArray, List.set_cons_zero, List.set_cons_succ]
              refine wpAnyH_done (by kernel_rfl) ?_ _
              go_wp2_with fail
              go_meet
              case rel => exact ⟨gg9, rfl, hide (setRow_heap _ _ _ _ _ _ ZN.out), hide (below_setRow KV11.out GG.out _)⟩
            exact AllReadyH.nil
          exact AllReadyH.nil
        exact AllReadyH.nil
      exact AllReadyH.nil
    case rest =>
    obtain ⟨g9, rfl, RN, X9⟩ := hcut
    obtain ⟨W8, hW⟩ : ∃ W, W = wc := ⟨_, rfl⟩
    subst hW
    have BL : Hid (Below w.heap.size w W8) := BL4.out.trans (X9.out.mono BL4.out.size)
    obtain ⟨r, Er⟩ : ∃ c, Hid (c = tmQ d (bytesOf s) p 256) := ⟨_, hide rfl⟩
    have Hr : Hid r.Ok := by rw [Er.out]; exact tmQ_ok _ _ _ _
    rw [← Er.out] at RN
    go_wp2_with (first | (refine wpList_load_row (by rfl) 79 (.tmp 9) (by rfl) g9 (by rfl) 79 (qA r) (0, 0) _ RN.out Tryd.underlying79 rfl (qA_size _) ?_))
    refine (codeA r Hr.out _).mono ?_
    rintro e W9 ⟨rfl, hB9⟩
    have BL9 : Hid (Below w.heap.size w W9) := BL.out.trans (hB9.mono BL.out.size)
    clear hB9
    obtain ⟨T, HT⟩ : ∃ T, Hid (T = codeD r) := ⟨_, hide rfl⟩
    rw [← HT.out]
    go_wp2_with fail
    go_returns
    refine ⟨?_, BL9.out⟩
    unfold tmS tmE tmB
    rw [← Ed.out, ← Eb1.out, decide_eq_true HS.out, if_pos (by rfl), if_pos HS.out, if_pos (by rfl), ← Ep.out, ← Er.out, ← HT.out]; rfl
  · have b32 : ((s.size : Int) != 32) = true := by rw [bne_iff_ne]; omega
    go_wp2_with fail
    go_returns
    refine ⟨?_, Below.refl _ _⟩
    unfold tmS tmE tmB
    rw [decide_eq_false h32, Bool.false_and, if_neg (by decide), if_neg h32]; rfl
end
end Go.Proofs.YtemdlpcljjdfjaaDoor
/- The program's Times and the document's are one. Plain mathematics. -/
namespace Go.Proofs.YtemdlpcljjdfjaaDoor
theorem RQ_one : RQ one3 g0 := by
  refine ⟨⟨P_pos, one_lt, one_lt⟩, ?_, ?_, ?_⟩
  · show tau 1 ≠ 0
    rw [tau_one]; exact one_ne
  · show tau 0 = 0 * tau 1
    rw [tau_zero, Fin.zero_mul]
  · show tau 1 = 1 * tau 1
    rw [Fin.one_mul]
/-- Bit i, by the words and by the number. -/
theorem wI_val (l : List UInt8) (j : Nat) : wI l j = ((valLE l / 65536 ^ j % 65536 : Nat) : Int) := by
  have h0 := valLE_byte l (2 * j)
  have h1 := valLE_byte l (2 * j + 1)
  unfold wI C8
  rw [← h0, ← h1, Nat.pow_succ, show (256 : Nat) ^ (2 * j) = 65536 ^ j by rw [Nat.pow_mul], ← Nat.div_div_eq_div_mul]
  generalize valLE l / 65536 ^ j = x
  omega
theorem bit_of (x q r : Nat) (hr : r < 16) : x / 65536 ^ q % 65536 / 2 ^ r % 2 = x / 2 ^ (16 * q + r) % 2 := by
  have e : (65536 : Nat) ^ q = 2 ^ (16 * q) := by rw [Nat.pow_mul]
  rw [e, Nat.pow_add, ← Nat.div_div_eq_div_mul]
  generalize x / 2 ^ (16 * q) = y
  have h : r = 0 ∨ r = 1 ∨ r = 2 ∨ r = 3 ∨ r = 4 ∨ r = 5 ∨ r = 6 ∨ r = 7 ∨ r = 8 ∨ r = 9 ∨ r = 10 ∨ r = 11 ∨ r = 12 ∨ r = 13 ∨ r = 14 ∨ r = 15 := by omega
  rcases h with rfl | rfl | rfl | rfl | rfl | rfl | rfl | rfl | rfl | rfl | rfl | rfl | rfl | rfl | rfl | rfl <;> simp only [Nat.reducePow, Nat.pow_zero, Nat.div_one] <;> omega
theorem btI_val (l : List UInt8) (i : Nat) : btI l i = decide (valLE l / 2 ^ i % 2 = 1) := by
  unfold btI
  rw [wI_val]
  have e : ((valLE l / 65536 ^ (i / 16) % 65536 : Nat) : Int) / 2 ^ (i % 16) % 2 = ((valLE l / 65536 ^ (i / 16) % 65536 / 2 ^ (i % 16) % 2 : Nat) : Int) := by
    rw [Int.natCast_emod, Int.natCast_ediv, Int.natCast_pow]; rfl
  rw [e, bit_of _ _ _ (Nat.mod_lt _ (by decide)), show 16 * (i / 16) + i % 16 = i by omega]
  by_cases h : valLE l / 2 ^ i % 2 = 1
  · rw [decide_eq_true h, h]; rfl
  · rw [decide_eq_false h, decide_eq_false (by omega)]
theorem RQ_tmQ {q : Q3} {a : G} (h : RQ q a) (l : List UInt8) (hl : valLE l < 115792089237316195423570985008687907853269984665640564039457584007913129639936) : ∀ k, k ≤ 256 → RQ (tmQ dN l q k) (gMul (valLE l / 2 ^ (256 - k)) a)
  | 0, _ => by
    rw [Nat.sub_zero, Nat.div_eq_of_lt hl]; exact RQ_one
  | k + 1, hk => by
    have ih := RQ_tmQ h l hl k (by omega)
    rw [tmQ, btI_val, plusD_plusQ, plusD_plusQ]
    have e := div_bit (valLE l) (255 - k)
    rw [show 255 - k + 1 = 256 - k by omega] at e
    rw [show 256 - (k + 1) = 255 - k by omega]
    by_cases hb : valLE l / 2 ^ (255 - k) % 2 = 1
    · rw [decide_eq_true hb, if_pos rfl, e, hb, gMul_succ, gMul_dbl]
      exact RQ_plus (RQ_plus ih ih) h
    · have hb0 : valLE l / 2 ^ (255 - k) % 2 = 0 := by omega
      rw [decide_eq_false hb, if_neg (by decide), e, hb0, Nat.add_zero, gMul_dbl]
      exact RQ_plus ih ih
/-- THE DOCUMENT's MULTIPLE. -/
theorem RQ_times {q : Q3} {a : G} (h : RQ q a) (l : List UInt8) (hl : valLE l < 115792089237316195423570985008687907853269984665640564039457584007913129639936) : RQ (tmQ dN l q 256) (gMul (valLE l) a) := by
  have := RQ_tmQ h l hl 256 (Nat.le_refl _)
  rw [Nat.sub_self, Nat.pow_zero, Nat.div_one] at this
  exact this
/-- A text that is a point's code: both sides hold that point. -/
theorem point_G {s : ByteArray} (h : pofB dN s = true) : ∃ a : G, RP (poP s) a ∧ RQ (pofQ dN s) a := by
  obtain ⟨x, y, hx, hy, e1, e2⟩ := point_same h
  have hb : poB s = true := by rw [poB_same]; exact h
  have hd : dcB (ksN s) = true := by
    unfold poB at hb
    rw [Bool.and_eq_true] at hb
    exact hb.2
  obtain ⟨x', y', hx', hy', ho, e3⟩ := dcP_on hd
  have e4 : poP s = ptOf x' y' := by unfold poP; rw [if_pos hb, e3]
  have e5 : ptOf x y = ptOf x' y' := e1.symm.trans e4
  have ex : x = x' := congrArg Pt.x e5
  have ey : y = y' := congrArg Pt.y e5
  subst ex ey
  exact ⟨_, by rw [e1]; exact RP_of hx hy ho, by rw [e2]; exact RQ_of hx hy ho⟩
theorem poP_dcP {s : ByteArray} (h : poB s = true) : poP s = dcP (ksN s) := by unfold poP; rw [if_pos h]
theorem tm_same_B (s p : ByteArray) : lTmB s p = tmB dN s p := by
  unfold lTmB tmB
  rw [show (ksO p && dcB (ksN p)) = poB p from rfl, poB_same]; rfl
/-- The program's text, by the point. -/
theorem lTm_text {s p : ByteArray} (hs : s.size = 32) (hp : poB p = true) {a : G} (ha : RP (poP p) a) : lTmS s p = strOf (leB (cdN (mlP (pwN (poP p)) (valLE (bytesOf s)) 64)) 32) ∧ RP (mlP (pwN (poP p)) (valLE (bytesOf s)) 64) (gMul (valLE (bytesOf s)) a) := by
  have hd : ksO p = true ∧ dcB (ksN p) = true := by
    unfold poB at hp
    rw [Bool.and_eq_true] at hp
    exact hp
  refine ⟨?_, ?_⟩
  · unfold lTmS lTmB
    rw [hd.1, hd.2, show ksO s = true from decide_eq_true hs, if_pos (by rfl), ks_32 hs, pofF_yes hd.2, poP_dcP hp]
  · refine RP_times ha ?_
    rw [← ks_32 hs]; exact ksN_lt s
theorem tm_same_S (s p : ByteArray) : lTmS s p = tmS crvD s p := by
  rw [crvD_dN]
  by_cases hb : lTmB s p = true
  · have hb2 := hb
    unfold lTmB at hb2
    rw [Bool.and_eq_true] at hb2
    have hs : s.size = 32 := of_decide_eq_true hb2.1
    have hp : poB p = true := hb2.2
    obtain ⟨a, ha, hq⟩ := point_G (s := p) (by rw [← poB_same]; exact hp)
    obtain ⟨e, hr⟩ := lTm_text hs hp ha
    rw [e, code_RP hr]
    unfold tmS
    rw [← tm_same_B, if_pos hb]
    have hl : valLE (bytesOf s) < 115792089237316195423570985008687907853269984665640564039457584007913129639936 := by rw [← ks_32 hs]; exact ksN_lt s
    rw [code_RQ (RQ_times hq (bytesOf s) hl)]
  · unfold tmS lTmS
    rw [← tm_same_B, if_neg hb, if_neg hb]
theorem tm_same_E (s p : ByteArray) : lTmE s p = tmE crvD s p := by
  rw [crvD_dN]
  unfold lTmE tmE
  rw [tm_same_B]
  by_cases h : s.size = 32
  · rw [show ksO s = true from decide_eq_true h, if_neg (by decide), if_pos h]
  · rw [show ksO s = false from decide_eq_false h, if_pos rfl, if_neg h]
/-! ### Twice B -/
def twoT : ByteArray := ⟨((2 : UInt8) :: List.replicate 31 0).toArray⟩
theorem two_size : twoT.size = 32 := rfl
theorem two_val : valLE (bytesOf twoT) = 2 := by decide +kernel
theorem tm_two : lTmS twoT (bs 31) = dblT ∧ lTmE twoT (bs 31) = 0 := by
  have hb := dbl_B
  obtain ⟨a, ha, _⟩ := point_G (s := bs 31) (by rw [← poB_same]; exact hb)
  obtain ⟨e, hr⟩ := lTm_text two_size hb ha
  refine ⟨?_, ?_⟩
  · rw [e, code_RP hr, two_val, show gMul 2 a = gAdd a a by rw [show 2 = 2 * 1 from rfl, gMul_dbl, gMul_one]]
    rw [← code_RP (RP_add ha ha), dbl_N, dbl_T]
  · unfold lTmE
    rw [show ksO twoT = true from rfl, if_neg (by decide), if_pos]
    unfold lTmB
    rw [show ksO twoT = true from rfl, Bool.true_and]
    exact hb
end Go.Proofs.YtemdlpcljjdfjaaDoor
/- latchlaw.Multiplies: the walk. -/
namespace Go.Proofs.YtemdlpcljjdfjaaDoor
open Go.RowKit
/-- The number two on its way: 2, and k noughts. -/
def tw (k : Nat) : ByteArray := ⟨((2 : UInt8) :: List.replicate k 0).toArray⟩
theorem tw_step (k : Nat) : tw k ++ ⟨#[0]⟩ = tw (k + 1) := by
  have e : ∀ a b : ByteArray, a.data = b.data → a = b := by intro a b h; cases a; cases b; simpa using h
  apply e
  rw [ByteArray.data_append]
  unfold tw
  rw [List.replicate_succ', show (#[0] : Array UInt8) = [0].toArray from rfl, List.append_toArray]
  rfl
theorem tw_size (k : Nat) : (tw k).size = k + 1 := by
  show ((2 : UInt8) :: List.replicate k 0).toArray.size = k + 1
  simp
section
attribute [local irreducible] lTmS lTmE tmS tmE crvD
set_option maxRecDepth 100000 in
set_option maxHeartbeats 1000000 in
theorem multiplies_any (s t : ByteArray) (w : World) (hG : GlB w) :
    Calls Tryd.prog 5 #[.string s, .string t] w fun e w' => e = .returned (.bool true) ∧ Below w.heap.size w w' := by
  have HG := hide hG
  clear hG
  go_enter Tryd.func5, Tryd.ntmps5
  go_wp2_with fail
  go_loopw [5, 6] (fun v u wr => ∃ k : Nat, k ≤ 31 ∧ v = .string (bs k) ∧ u = .string (tw k) ∧ wr = w) (fun _ u _ => 32 - strSz u)
  case atStart => exact ⟨0, Nat.zero_le _, rfl, rfl, rfl⟩
  case round =>
    obtain ⟨k, hk, rfl, rfl, rfl⟩ := hrel
    by_cases hlt : k < 31
    · have hsz : (tw k).size = k + 1 := tw_size k
      have hsb : (bs k).size = k + 1 := bs_size k
      have bk : ((tw k).size : Int) < 32 := by rw [hsz]; omega
      have hst := bs_step k
      have hst2 := tw_step k
      go_wp2_with fail
      exact ⟨⟨k + 1, by omega, rfl, rfl, trivial⟩, by simp only [strSz]; rw [tw_size, tw_size]; omega⟩
    · obtain rfl : k = 31 := by omega
      have hsz : (tw 31).size = 32 := tw_size 31
      have bk : (32 : Int) ≤ ((tw 31).size : Int) := by rw [hsz]; decide
      obtain ⟨B, HBs⟩ : ∃ B, Hid (B = bs 31) := ⟨_, hide rfl⟩
      obtain ⟨U, HUs⟩ : ∃ B, Hid (B = tw 31) := ⟨_, hide rfl⟩
      obtain ⟨e1, e2⟩ := tm_two
      rw [← HBs.out, show twoT = U from HUs.out.symm] at e1 e2
      rw [← HUs.out] at hsz bk
      rw [← HBs.out, ← HUs.out]
      have E1 := hide e1
      have E2 := hide e2
      clear e1 e2
      go_wp2_with fail
      refine (latchTimesA U B _ HG.out).mono ?_
      rintro e W1 ⟨rfl, hB1⟩
      have HB1 := hide hB1
      have HG1 : Hid (GlB W1) := HG.out.keep hB1
      clear hB1
      rw [E1.out, E2.out]
      unfold dblT
      go_wp2_with fail
      refine (latchTimesA s t _ HG1.out).mono ?_
      rintro e W2 ⟨rfl, hB2⟩
      have HB2 := hide (HB1.out.trans (hB2.mono HB1.out.size))
      clear hB2
      obtain ⟨T, HT⟩ : ∃ T, Hid (T = lTmS s t) := ⟨_, hide rfl⟩
      obtain ⟨n, Hn⟩ : ∃ n, Hid (n = lTmE s t) := ⟨_, hide rfl⟩
      rw [← HT.out, ← Hn.out]
      go_wp2_with fail
      refine (refTimesA s t W2).mono ?_
      rintro e W3 ⟨rfl, hB3⟩
      have HB3 := hide (HB2.out.trans (hB3.mono HB2.out.size))
      clear hB3
      rw [← tm_same_S, ← tm_same_E, ← HT.out, ← Hn.out]
      go_wp2
      go_returns
      exact ⟨rfl, HB3.out⟩
end
end Go.Proofs.YtemdlpcljjdfjaaDoor
/- latchlaw.Multiplies: the row, and the card. -/
namespace Go.Proofs.YtemdlpcljjdfjaaDoor
open Go.ChangeShapes Go.WideShapes Go.ChangeAt Go.RowKit
open Go.ChangeMaps (open_string shut_string)

set_option maxRecDepth 100000 in
theorem multiplies_contract (H : Type) (enc : TypeId × Value → H) (W : World) (base : Nat) (args : Array Value) (ds gs : List (DataW H)) (before : List MemPlace)
    (hval : ∀ (j : Nat) t v, Tryd.f5.params[j]? = some t → args[j]? = some v → Value.okWide Tryd.prog W .any base t v)
    (hW : DataW.Whole enc Tryd.prog Tryd.f5.params.toList Rows.multipliesSpec.vars false W args.toList ds gs before)
    (_hsz : (DataW.weightsEach Tryd.prog (Tryd.f5.params.toList ++ (OpenSpec.ofChange Rows.multipliesSpec).bare.plain.varTypes Tryd.prog) (ds ++ gs)).all (· ≤ reachBytes) = true)
    (hL : laidMetH Tryd.prog Rows.multipliesRow.laid W) :
    Calls Tryd.prog 5 args W fun e W' => ∃ v, e = .returned v ∧ Rows.multipliesSpec.post enc Tryd.prog Tryd.f5 false true false false W args v W' := by

  have hW' := hW
  obtain ⟨p, q, hA0, hV, rfl, hfz, hnd⟩ := hW
  have hA : DataW.TrodAll enc Tryd.prog W 0 (fun _ => true) true Tryd.f5.params.toList args.toList ds p := hA0
  rw [Tryd.params5] at hA hval
  obtain ⟨v0, vs0, d0, ds0, p0, q0, hargs, rfl, rfl, h0, r0⟩ := trodAll_cons hA
  obtain ⟨v1, vs1, d1, ds1, p1, q1, hargs1, rfl, rfl, h1, r1⟩ := trodAll_cons r0
  obtain ⟨rfl, rfl, rfl⟩ := trodAll_nil r1
  obtain rfl : args = #[v0, v1] := by cases args; simp_all
  obtain ⟨rfl, rfl⟩ := trodVars_none hV
  obtain ⟨a0, rfl, rfl, rfl, w0⟩ := open_string Tryd.underlying9 (hval 0 9 v0 rfl rfl) h0
  obtain ⟨a1, rfl, rfl, rfl, w1⟩ := open_string Tryd.underlying9 (hval 1 9 v1 rfl rfl) h1
  clear hA0
  refine (multiplies_any a0 a1 W (glB_of hL (by kernel_rfl) (by kernel_rfl) (by kernel_rfl) (by kernel_rfl) (by kernel_rfl) (by kernel_rfl))).mono fun e W' ⟨he, bel⟩ => ?_
  subst he
  exact ⟨_, rfl, _, _, _, [], _, [], hW', trodAll_mk1 (shut_bool Tryd.underlying4 _), (trodAll_cons_mk (shut_string Tryd.underlying9 w0) (trodAll_cons_mk (shut_string Tryd.underlying9 w1) trodAll_mk0)), rfl, bel.frame _, fun h => by cases h⟩

theorem multiplies_laid_met (os : Os) : laidMet Tryd.prog Rows.multipliesRow.laid ((laidWorldB os).forCall (fun _ _ => 0) ⟨#[], #[.string ByteArray.empty, .string ByteArray.empty], []⟩).memory :=
  laidMet_of_run' 200 (by kernel_rfl) (by kernel_rfl)

set_option maxRecDepth 100000 in
theorem multiplies_lifted (os : Os) (started : os.Started) (H : Type) (enc : TypeId × Value → H) (F : Stop.Interp) :
    ReturnsInHanded {} Tryd.checked os 5 .any ((OpenSpec.ofChange Rows.multipliesSpec).preRow enc Tryd.prog Tryd.f5 Rows.multipliesRow.domain false Rows.multipliesRow.laid) (((OpenSpec.ofChange Rows.multipliesSpec).at F).post enc Tryd.prog Tryd.f5 false true false false) := by
  refine returnsInHanded_of_row (C := Tryd.checked) (s := OpenSpec.ofChange Rows.multipliesSpec) own started (by kernel_rfl) Tryd.func5
    (witness_row_at (enc := enc) (C := Tryd.checked) false (laidWorldB os) #[.string ByteArray.empty, .string ByteArray.empty] rfl (by kernel_rfl) (by kernel_rfl) (by kernel_rfl)
      (OpenSpec.preRow_of_cond (x := ([.lit (.string []), .lit (.string [])], [], [])) 8 (by kernel_rfl) (by kernel_rfl) (fun k hk => by cases hk) (by kernel_rfl) (multiplies_laid_met os))) ?_
  intro W base args ds gs before hval hW _ _ hsz hL _ _
  exact multiplies_contract H enc W base args ds gs before hval hW hsz hL

theorem multiplies_said : Rows.MultipliesSaid :=
  OpenClaim.holds_of_cond 5 Tryd.f5 rfl rfl rfl rfl rfl rfl rfl ⟨rfl, rfl, rfl, rfl, rfl⟩ rfl rfl rfl rfl rfl (by kernel_rfl) Tryd.func5 (by kernel_rfl)
    (of_decide_eq_true (by kernel_rfl)) (by unfold Func.isWrapper; first | (rw [if_pos (by decide +kernel)]; kernel_rfl) | (rw [if_neg (by decide +kernel)]; exact ⟨rfl, rfl⟩))
    (fun os started H enc _ F => by rw [OpenClaim.pre_eq_preRow]; exact multiplies_lifted os started H enc F)

theorem multiplies_plain (f : FuncId) (fn : Func) (hf : Tryd.pinned.checked.prog.funcNamed "latch/latchlaw.Multiplies" = some f) (hfn : Tryd.pinned.checked.prog.funcs[f]? = some fn) :
    false = Tryd.pinned.checked.prog.looks [] ∧ ∀ (j : Nat) t, fn.params[j]? = some t → Tryd.pinned.checked.prog.wantsStandIn t = false := by
  obtain rfl : f = 5 := Option.some.inj ((show Tryd.prog.funcNamed "latch/latchlaw.Multiplies" = some 5 by kernel_rfl).symm.trans hf) |>.symm
  obtain rfl : fn = Tryd.f5 := (Option.some.inj (Tryd.func5.symm.trans hfn)).symm
  refine ⟨by kernel_rfl, fun j t ht => ?_⟩
  rw [Tryd.params5] at ht
  obtain rfl : t = 9 := by simpa using Array.mem_of_getElem? ht
  exact (show Tryd.prog.wantsStandIn 9 = false by kernel_rfl)

/-- THE CARD. -/
theorem multiplies_card : Rows.MultipliesCardSaid :=
  Claim7.holds_tied_plain_at .later [] _ _ _ _ multiplies_said (fun _ h => by cases h) (by kernel_rfl) (fun _ h => by cases h) multiplies_row_tie rfl ⟨rfl, rfl⟩ (by kernel_rfl) rfl multiplies_plain (by kernel_rfl)
#print axioms multiplies_card
end Go.Proofs.YtemdlpcljjdfjaaDoor
