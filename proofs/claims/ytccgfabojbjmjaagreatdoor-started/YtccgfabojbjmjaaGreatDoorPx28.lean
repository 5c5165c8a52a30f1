import Derived.Test.YtccgfabojbjmjaaGreatDoorPx27
import Derived.Test.YtccgfabojbjmjaaGreatDoorPx26
import Derived.Test.YtccgfabojbjmjaaGreatDoorPx23
import Derived.Deep.RegionHeld3
import Derived.Deep.DrawnRows
import Derived.BigRegion
namespace Go.Proofs.YtccgfabojbjmjaaGreatDoor
open Go.RowKit
end Go.Proofs.YtccgfabojbjmjaaGreatDoor
namespace Go.Proofs.YtccgfabojbjmjaaGreatDoor
open Go.RowKit
theorem onesN_pow (a : Nat) : ∀ n, Cg a (onesN a n) (2 ^ n - 1)
 | 0 => by unfold Cg onesN; rw [Nat.pow_zero]
 | n + 1 => by
  have c := (((onesN_pow a n).sqN 1).mP (Cg.one a))
  refine Cg.cast (e := (2 ^ n - 1) * 2 ^ 1 + 1) c ?_
  have : 0 < 2 ^ n := Nat.pow_pos (by decide)
  rw [Nat.pow_succ 2 n, Nat.pow_one]
  omega
theorem Cg.eq {a x e : Nat} (h : Cg a x e) (hx : x < P) : x = pwP a e := by
 unfold Cg at h
 rw [Nat.mod_eq_of_lt hx] at h
 exact h
theorem invD_invN (a : Nat) : invD a = invN a := by
 rw [invN_pw]
 have c1 := Cg.one a
 have c := ((((((((onesN_pow a 250).sqN 2).mP c1).sqN 2).mP c1).sqN 1).mP c1))
 refine (Cg.cast c ?_).eq (invD_lt a)
 decide +kernel
theorem m1D_rmN : m1D = rmN := by
 rw [← rmN_pw]
 have c1 := Cg.one 2
 have c := ((((onesN_pow 2 250).sqN 2).mP c1).sqN 1).mP c1
 refine (Cg.cast c ?_).eq (mP_lt _ _)
 decide +kernel
theorem rxD_0 (a : Nat) : rxD a 0 = pwP a (E8 + 1) := by
 have c : Cg a (sqN 1 (onesN a 251)) ((2 ^ 251 - 1) * 2 ^ 1) := (onesN_pow a 251).sqN 1
 have e : rxD a 0 = sqN 1 (onesN a 251) := mP_one (sqN_lt 1 _ (onesN_lt _ _))
 rw [e]
 refine (Cg.cast c ?_).eq (sqN_lt 1 _ (onesN_lt _ _))
 decide +kernel
theorem vN_lt (y : Nat) : vN y < P := aP_lt _ _
theorem uN_lt (y : Nat) : uN y < P := sP_lt _ _
theorem pofA_eq (y : Nat) : pofA dN y = mP (uN y) (invN (vN y)) := by
 unfold pofA uN vN
 rw [invD_invN, mP_comm dN]
theorem rx0_rt (y : Nat) : rxD (pofA dN y) 0 = rtN (uN y) (vN y) := by
 rw [rxD_0, pofA_eq, root_same (uN_lt y) (vN_lt y) (vN_ne y)]
theorem rx1_rt (y : Nat) : rxD (pofA dN y) 1 = mP (rtN (uN y) (vN y)) rmN := by
 show mP (rxD (pofA dN y) 0) m1D = _
 rw [rx0_rt, m1D_rmN]
theorem t1 (y : Nat) : mP (rxD (pofA dN y) 0) (rxD (pofA dN y) 0) = pofA dN y ↔ sqrN (uN y) (vN y) = uN y := by
 rw [test_one (uN_lt y) (vN_ne y), rx0_rt, pofA_eq]
theorem t2 (y : Nat) : mP (rxD (pofA dN y) 1) (rxD (pofA dN y) 1) = pofA dN y ↔ sqrN (uN y) (vN y) = sP 0 (uN y) := by
 rw [test_two (uN_lt y) (vN_ne y), rx1_rt, test_doc (pofA_lt _ _), pofA_eq]
end Go.Proofs.YtccgfabojbjmjaaGreatDoor
namespace Go.Proofs.YtccgfabojbjmjaaGreatDoor
open Go.RowKit
def bs (k : Nat) : ByteArray := ⟨((88 : UInt8) :: List.replicate k 102).toArray⟩
theorem dbl_B : poB (bs 31) = true := by decide +kernel
theorem dbl_N : cdN (addP (poP (bs 31)) (poP (bs 31))) = 15549675580280190176352668710449542251549572066445060580507079593062643049417 := by decide +kernel
def dblT : ByteArray := ⟨#[201, 163, 248, 106, 174, 70, 95, 14, 86, 81, 56, 100, 81, 15, 57, 151, 86, 31, 162, 201, 232, 94, 162, 29, 194, 41, 35, 9, 243, 205, 96, 34]⟩
theorem dbl_T : strOf (leB 15549675580280190176352668710449542251549572066445060580507079593062643049417 32) = dblT := by
 have e : ∀ a b : ByteArray, a.data = b.data → a = b := by intro a b h; cases a; cases b; simpa using h
 apply e
 decide +kernel
theorem dbl_S : lAddS (bs 31) (bs 31) = dblT ∧ lAddE (bs 31) (bs 31) = 0 := by
 obtain ⟨e1, e2⟩ := lAdd_yes (s := bs 31) (t := bs 31) (by rw [dbl_B]; rfl)
 exact ⟨by rw [e1, dbl_N, dbl_T], e2⟩
def sumTo (ws : List (BitVec 64)) (k : Nat) : List UInt8 := (ws.take k).flatMap be8 ++ List.replicate (64 - 8 * k) 0
theorem be8_length (x : BitVec 64) : (be8 x).length = 8 := rfl
theorem flat_length (ws : List (BitVec 64)) : (ws.flatMap be8).length = 8 * ws.length := by
 induction ws with
 | nil => rfl
 | cons x l ih => simp only [List.flatMap_cons, List.length_append, ih, be8_length, List.length_cons]; omega
theorem sumTo_length (ws : List (BitVec 64)) (k : Nat) (hw : ws.length = 8) (hk : k ≤ 8) : (sumTo ws k).length = 64 := by
 unfold sumTo; rw [List.length_append, flat_length, List.length_take, List.length_replicate]; omega
theorem layB_cv (l : List UInt8) (off : Nat) (x : BitVec 64) (k : Nat) : lay (l.map cv) off x k = (layB l off x k).map cv := by
 induction k with
 | zero => rfl
 | succ k ih => simp only [lay, layB, ih, List.map_set]
theorem sumTo_step (ws : List (BitVec 64)) (k : Nat) (hw : ws.length = 8) (hk : k < 8) : layB (sumTo ws k) (8 * k) (ws.getD k 0) 8 = sumTo ws (k + 1) := by
 rw [layB_all _ _ _ (by rw [sumTo_length ws k hw (by omega)]; omega)]
 have hl : ((ws.take k).flatMap be8).length = 8 * k := by rw [flat_length, List.length_take]; omega
 have e1 : (sumTo ws k).take (8 * k) = (ws.take k).flatMap be8 := by
  unfold sumTo; rw [List.take_append_of_le_length (by omega)]; exact List.take_of_length_le (by omega)
 have e2 : (sumTo ws k).drop (8 * k + 8) = List.replicate (64 - 8 * (k + 1)) 0 := by
  unfold sumTo; rw [List.drop_append, List.drop_eq_nil_of_le (by omega), hl, List.drop_replicate, List.nil_append]
  congr 1; omega
 rw [e1, e2]
 unfold sumTo
 have e3 : ws.take (k + 1) = ws.take k ++ [ws.getD k 0] := by
  rw [List.take_succ_eq_append_getElem (by omega)]; simp [List.getD, List.getElem?_eq_getElem (show k < ws.length by omega)]
 rw [e3, List.flatMap_append, List.append_assoc]
 simp
noncomputable def HS.sum (H : HS) : List UInt8 := H.ended.st.words.flatMap be8
theorem HS.sum_length (H : HS) : H.sum.length = 64 := by unfold HS.sum; rw [flat_length]; rfl
theorem sumTo_all (H : HS) : sumTo H.ended.st.words 8 = H.sum := by
 unfold sumTo HS.sum
 rw [List.take_of_length_le (by rw [S8.words_length]; exact Nat.le_refl _)]; simp
theorem under64H : Tryz.prog.underlying 102 = some (.array 64 5) := by kernel_rfl
theorem size64H : (Tryz.prog.info? 102).map (·.size) = some 64 := by kernel_rfl
theorem underH : ∃ fs, Tryz.prog.underlying 166 = some (.struct fs) := ⟨_, Tryz.underlying166⟩
theorem sizeH : (Tryz.prog.info? 166).map (·.size) = some 138 := by kernel_rfl
def z64H : Array Value := ((List.replicate 64 (0 : UInt8)).map cv).toArray
theorem zero64 (w : World) : (zeroValue 102).run Tryz.prog w = .ok (.agg z64H) w := by kernel_rfl
def zH : Array Value := (HS.row ⟨⟨0, 0, 0, 0, 0, 0, 0, 0⟩, List.replicate 128 0, 0⟩).toArray
theorem zeroH (w : World) : (zeroValue 166).run Tryz.prog w = .ok (.agg zH) w := by kernel_rfl
theorem slice64 (b o : Nat) (z : Int) (l : Nat) (hz : z = l) (hl : l < 64) (w : World) :
  (Instr.sliceAt 102 (.pointer (some ⟨b, o, none⟩)) (some (.int .i64 z)) none none).run Tryz.prog w = .ok (.slice (some ⟨b, o + l, none⟩) (64 - l) (64 - l)) w := by
 subst hz
 have h1 : ((l : Int) ≤ 64) := by omega
 have h2 : ¬ 64 = l := by omega
 cases hq : Tryz.prog.info? 5 with
 | none => have := sizeU8H; rw [hq] at this; cases this
 | some i =>
  have hi : i.size = 1 := by have := sizeU8H; rw [hq] at this; simpa using this
  simp [Instr.sliceAt, Instr.sureAddr, run_underlying under64H, Instr.sliceBounds, run_sliceBound, sizeOf, typeInfo, hq, hi, h1, h2, Addr.add]
theorem index8w (s : S8) (j : Nat) (hj : j < 8) : ∀ w, (Instr.index 163 (.agg (w8 s).toArray) (.int .i64 j)).run Tryz.prog w = .ok (.int .u64 (U (s.words.getD j 0))) w := index8 s j hj
theorem row_cell (H : HS) : ∀ v ∈ H.row, v.oneCell' = true := by
 intro v hv
 unfold HS.row at hv
 rcases List.mem_append.1 hv with h | h
 · obtain ⟨x, _, rfl⟩ := List.mem_map.1 h; rfl
 ·
  rcases List.mem_append.1 h with h | h
  · obtain ⟨x, _, rfl⟩ := List.mem_map.1 h; rfl
  · simp at h; rcases h with rfl | rfl <;> rfl
theorem cvs_cell (l : List UInt8) : ∀ v ∈ l.map cv, v.oneCell' = true := by
 intro v hv; obtain ⟨x, _, rfl⟩ := List.mem_map.1 hv; rfl
theorem has_range {w : World} {b : Nat} {T : TypeId} {H : HS} (h : Has w b T H) : w.rangeAt b 0 (w8 H.st) := by
 intro j v hv
 have hj : j < 8 := by
  rcases Nat.lt_or_ge j 8 with g | g
  · exact g
  · rw [List.getElem?_eq_none (by simpa [w8, S8.words] using g)] at hv; cases hv
 rw [Nat.zero_add, h.cell j]
 unfold HS.row; rw [List.getElem?_append_left (by simpa [S8.words] using hj)]; exact hv
section
attribute [local go_sem] U_and U_or U_xor U_not U_add U_add_one
attribute [local go_sem ↓] Go.wp_at_zero Go.wp_at_succ
set_option maxRecDepth 100000 in
set_option maxHeartbeats 4000000 in
theorem sum_any (b : Nat) (T : TypeId) (H : HS) (w : World) (h : Has w b T H) (hK : Tab w) :
  Calls Tryz.prog 83 #[.pointer (some ⟨b, 0, none⟩)] w fun e w' => e = .returned (.agg (H.sum.map cv).toArray) ∧ Below w.heap.size w w' := by
 have hz := zero64
 have hzH := zeroH
 have HH : Hid (Has w b T H) := h
 have HK : Hid (Tab w) := hK
 have hb : b < w.heap.size := h.lt
 obtain ⟨fs, huH⟩ := underH
 have HU : Hid (Tryz.prog.underlying 166 = some (.struct fs)) := huH
 clear h hK huH
 obtain ⟨R, HR⟩ : ∃ R, Hid (R = H.row) := ⟨_, rfl⟩
 have hRl : R.length = 138 := by rw [HR.out]; exact H.row_length HH.out.len
 have HSz : Hid ((Tryz.prog.info? 166).map (·.size) = some R.toArray.size) := by show _ = _; rw [sizeH]; simp [hRl]
 have HO : Hid (zH.size = R.toArray.size) := by show _ = _; simp [hRl]; rfl
 have HA : Hid (R.toArray.all (·.oneCell') = true) := by rw [HR.out]; exact all_oneCell_toArray (row_cell H)
 have HG : Hid ((w.alloc (.cells z64H 102)).heap[b]? = some (.cells R.toArray T (0, 0))) := by
  rw [HR.out]; exact (heap_alloc_old w _ hb).trans HH.out.heap
 clear hRl
 go_enter Tryz.func83, Tryz.ntmps83
 go_wp2_with (first
  | (refine wpList_load_row (by rfl) 166 (.tmp 8) (by rfl) b (by rfl) T R.toArray (0, 0) _ HG.out HU.out rfl HSz.out ?_)
  | (refine wpList_store_row (by rfl) 166 (.tmp 3) (.tmp 9) (by rfl) (w.heap.size + 1) R.toArray (by rfl) (by rfl) 166 _ (heap_alloc2_new _ _ _) HSz.out HO.out HA.out ?_))
 obtain ⟨W1, hW1⟩ : ∃ W1, W1 = ((w.alloc (.cells z64H 102)).alloc (.cells zH 166)).setRow (w.heap.size + 1) R.toArray := ⟨_, rfl⟩
 rw [← hW1]
 obtain ⟨g, hg⟩ : ∃ g, g = w.heap.size + 1 := ⟨_, rfl⟩
 rw [← hg]
 have hgs : w.heap.size < g := by omega
 have hA1 : Has W1 g 166 H := by
  refine ⟨?_, HH.out.len⟩
  rw [hW1, hg, setRow_heap _ _ _ _ _ _ (heap_alloc2_new _ _ _), HR.out]
 have hB1 : Below w.heap.size w W1 := by
  rw [hW1]; exact below_setRow (((Below.refl _ _).alloc (Nat.le_refl _) _).alloc (by simp) _) (by omega) _
 have hR1 : W1.heap[w.heap.size]? = some (.cells z64H 102 (0, 0)) := by
  rw [hW1, setRow_other _ _ _ _ (by omega)]; exact heap_alloc2_old _ _ _
 clear hW1 hg HG HA HO HSz HU HR hz hzH
 refine (putEnd_any g 166 H W1 hA1 (HK.out.below hB1 (by have := HK.out.lt; omega)) (by have := HK.out.lt; omega)).mono ?_
 rintro e W2 ⟨rfl, hA2, hT2⟩
 have hB2 : Hid (Below w.heap.size w W2) := hB1.trans (hT2.below (by omega) hB1.size)
 have hR2 : Hid (W2.heap[w.heap.size]? = some (.cells z64H 102 (0, 0))) := (hT2.block _ (by have := hA1.lt; omega) (by omega)).trans hR1
 have hA2' : Hid (W2.rangeAt g 0 (w8 H.ended.st)) := has_range hA2
 have hg2 : g < W2.heap.size := hA2.lt
 clear hA1 hB1 hR1 hA2 hT2
 obtain ⟨S, HS'⟩ : ∃ S, Hid (S = H.ended.st) := ⟨_, rfl⟩
 rw [← HS'.out] at hA2'
 have hz := zero64
 have HRA : Hid ((W2.alloc (.cells z64H 102)).rangeAt g 0 (w8 S)) := World.rangeAt_alloc hA2'.out _
 go_wp2_with (first | (refine wpList_load_mid (by rfl) 163 (.tmp 11) (by rfl) g 0 (by rfl) (w8 S) _ HRA.out under8 rfl size8 ?_))
 clear hz HRA
 obtain ⟨q, hq⟩ : ∃ q, q = W2.heap.size := ⟨_, rfl⟩
 rw [← hq]
 go_loopw [13] (fun i wr => ∃ k : Nat, k ≤ 8 ∧ i = .int .i64 k ∧ Hid (wr.heap[q]? = some (.cells ((sumTo S.words k).map cv).toArray 102 (0, 0))) ∧ Hid (wr.heap[w.heap.size]? = some (.cells z64H 102 (0, 0))) ∧ Hid (Below w.heap.size w wr)) (fun i _ => 8 - (intOf i).toNat)
 case atStart => exact ⟨0, Nat.zero_le _, rfl, by rw [hq]; exact heap_alloc_new W2 _, (heap_alloc_old W2 _ (by omega)).trans hR2.out, hB2.out.alloc (by omega) _⟩
 case round =>
  have hqs : Hid (w.heap.size < q) := by rw [hq]; show _ < _; omega
  clear hR2 hB2 hA2' hg2 hgs hq
  obtain ⟨k, hk, rfl, hr, hr0, hbel⟩ := hrel
  by_cases hlt : k < 8
  ·
   have bk : (k : Int) < 8 := by omega
   have hidx := index8w S k hlt
   have hsl := slice64 q 0 (8 * (k : Int)) (8 * k) (by omega) (by omega)
   generalize hx : S.words.getD k 0 = x at hidx
   have HX : Hid (S.words.getD k 0 = x) := hx
   clear hx
   go_wp2_with fail
   refine (putWord_any q (8 * k) (64 - 8 * k) (64 - 8 * k) 102 _ x wr (by omega) (by omega) hr.out (by rw [List.length_map, sumTo_length _ _ (S8.words_length S) hk]; omega)).mono ?_
   rintro e V ⟨rfl, hrow, hturn⟩
   have hrow' : Hid (V.heap[q]? = some (.cells ((sumTo S.words (k + 1)).map cv).toArray 102 (0, 0))) := by
    have e := hrow
    rw [layB_cv, ← HX.out, sumTo_step _ _ (S8.words_length S) hlt] at e
    exact e
   have hr0' : Hid (V.heap[w.heap.size]? = some (.cells z64H 102 (0, 0))) := (hturn.block _ (by rcases Nat.lt_or_ge w.heap.size wr.heap.size with g | g; exact g; have := hr0.out; rw [Array.getElem?_eq_none g] at this; cases this) (by have := hqs.out; omega)).trans hr0.out
   have hbel' : Hid (Below w.heap.size w V) := hbel.out.trans (hturn.below (by have := hqs.out; omega) hbel.out.size)
   clear hrow hturn hr hr0 hbel
   go_wp2_with fail
   go_roundw
   case rel => exact ⟨k + 1, by omega, by go_num, hrow', hr0', hbel'⟩
   case measure => simp [intOf]; omega
  ·
   have hk8 : k = 8 := by omega
   have hk' : (8 : Int) ≤ (k : Int) := by omega
   obtain ⟨M, HM⟩ : ∃ M, Hid (M = (H.sum.map cv)) := ⟨_, rfl⟩
   have hr' : Hid (wr.heap[q]? = some (.cells M.toArray 102 (0, 0))) := by
    have := hr.out; rw [hk8, HS'.out, sumTo_all, ← HM.out] at this; exact this
   have hMl : M.length = 64 := by rw [HM.out, List.length_map, H.sum_length]
   have HSz : Hid ((Tryz.prog.info? 102).map (·.size) = some M.toArray.size) := by show _ = _; rw [size64H]; simp [hMl]
   have HO : Hid (z64H.size = M.toArray.size) := by show _ = _; simp [hMl]; rfl
   have HA : Hid (M.toArray.all (·.oneCell') = true) := by rw [HM.out]; exact all_oneCell_toArray (cvs_cell _)
   clear hr hk8 hlt hk hMl
   go_wp2_with (first | (refine wpList_load_row (by rfl) 102 (.tmp 4) (by rfl) q (by rfl) 102 M.toArray (0, 0) _ hr'.out under64H rfl HSz.out ?_) | (refine wpList_store_row (by rfl) 102 (.tmp 2) (.tmp 23) (by rfl) w.heap.size M.toArray (by rfl) (by rfl) 102 _ hr0.out HSz.out HO.out HA.out ?_))
   refine bodyPost_ret (v := .agg M.toArray) (results_cell_row Tryz.results83 _ _ w.heap.size 102 M.toArray (0, 0) _ (by rfl) (setRow_heap _ _ _ _ _ _ hr0.out) under64H rfl HSz.out) rfl ⟨by rw [HM.out], below_setRow hbel.out (Nat.le_refl _) _⟩
end
def ivH : S8 := ⟨7640891576956012808#64, 13503953896175478587#64, 4354685564936845355#64, 11912009170470909681#64, 5840696475078001361#64, 11170449401992604703#64, 2270897969802886507#64, 6620516959819538809#64⟩
def H0 : HS := ⟨ivH, List.replicate 128 0, 0⟩
theorem H0_len : H0.blk.length = 128 := by simp [H0]
def r0 : Array Value := H0.row.toArray
theorem built47 : Tryz.prog.built 163 [(0, .int .u64 7640891576956012808), (1, .int .u64 13503953896175478587), (2, .int .u64 4354685564936845355), (3, .int .u64 11912009170470909681), (4, .int .u64 5840696475078001361), (5, .int .u64 11170449401992604703), (6, .int .u64 2270897969802886507), (7, .int .u64 6620516959819538809)] = some (w8 ivH).toArray := by kernel_rfl
theorem built50 : Tryz.prog.built 166 [(0, .agg (w8 ivH).toArray)] = some r0 := by kernel_rfl
theorem wpList_build_to {P : Program} {ops : Array Oper} {rest : List Oper} {o : Oper} {a : Act} {w : World} {Q : Exit → Act → World → Prop} (hg : o.guard = none) (t : TypeId) (parts : Array (Nat × Operand)) (ho : o.op = .build t parts) (cells : Array Value)
  (hb : P.built t (parts.map fun (i, x) => (i, a.eval x)).toList = some cells) (h : wpList P ops Q rest (a.put o.dst (.agg cells)) w) : wpList P ops Q (o :: rest) a w :=
 wpList_build hg t parts ho (by rw [hb]; rfl) (by rw [hb]; exact h)
theorem r0_size : (Tryz.prog.info? 166).map (·.size) = some r0.size := by rw [sizeH]; simp [r0, H0.row_length H0_len]
theorem r0_zH : zH.size = r0.size := by
 have h1 : zH.size = 138 := by unfold zH; rw [List.size_toArray]; exact HS.row_length _ (by simp)
 rw [h1]; simp [r0, H0.row_length H0_len]
theorem r0_cell : r0.all (·.oneCell') = true := all_oneCell_toArray (row_cell H0)
section
set_option maxRecDepth 100000 in
set_option maxHeartbeats 4000000 in
theorem new_any (w : World) :
  Calls Tryz.prog 81 #[] w fun e w' => e = .returned (.agg r0) ∧ Below w.heap.size w w' := by
 have hzH := zeroH
 go_enter Tryz.func81, Tryz.ntmps81
 obtain ⟨fs, huH⟩ := underH
 have HU : Hid (Tryz.prog.underlying 166 = some (.struct fs)) := huH
 clear huH
 go_wp2_with (first
  | (refine wpList_build_to (by rfl) 163 _ (by rfl) (w8 ivH).toArray (by exact built47) ?_)
  | (refine wpList_build_to (by rfl) 166 _ (by rfl) r0 (by exact built50) ?_)
  | (refine wpList_store_row (by rfl) 166 (.tmp 0) (.tmp 2) (by rfl) w.heap.size r0 (by rfl) (by rfl) 166 _ (heap_alloc_new _ _) r0_size r0_zH r0_cell ?_))
 refine bodyPost_ret (v := .agg r0) (results_cell_row Tryz.results81 _ _ w.heap.size 166 r0 (0, 0) _ (by rfl) (setRow_heap _ _ _ _ _ _ (heap_alloc_new _ _)) HU.out rfl r0_size) rfl ⟨rfl, below_setRow ((Below.refl _ _).alloc (Nat.le_refl _) _) (Nat.le_refl _) _⟩
theorem slice64_all (b o : Nat) (w : World) :
  (Instr.sliceAt 102 (.pointer (some ⟨b, o, none⟩)) none none none).run Tryz.prog w = .ok (.slice (some ⟨b, o, none⟩) 64 64) w := by
 cases hq : Tryz.prog.info? 5 with
 | none => have := sizeU8H; rw [hq] at this; cases this
 | some i =>
  simp [Instr.sliceAt, Instr.sureAddr, run_underlying under64H, Instr.sliceBounds, sizeOf, typeInfo, hq, Addr.add]
noncomputable def hashOf (l : List UInt8) : List UInt8 := (H0.puts l).sum
theorem hashOf_length (l : List UInt8) : (hashOf l).length = 64 := HS.sum_length _
set_option maxRecDepth 100000 in
set_option maxHeartbeats 4000000 in
theorem of_any (s : ByteArray) (w : World) (hK : Tab w) (hs : s.size ≤ maxLen) :
  Calls Tryz.prog 48 #[.string s] w fun e w' => e = .returned (.agg ((hashOf (bytesOfH s)).map cv).toArray) ∧ Below w.heap.size w w' := by
 have hz := zero64
 have hzH := zeroH
 have HK : Hid (Tab w) := hK
 clear hK
 go_enter Tryz.func48, Tryz.ntmps48
 go_wp2_with (first
  | (go_at_call 81; refine (new_any _).mono ?_; rintro e W1 ⟨rfl, hB1⟩)
  | (refine wpList_store_row (by rfl) 166 (.tmp 3) (.tmp 4) (by rfl) W1.heap.size r0 (by rfl) (by rfl) 166 _ (heap_alloc_new _ _) r0_size r0_zH r0_cell ?_))
 obtain ⟨V, hV⟩ : ∃ V, V = (W1.alloc (.cells zH 166)).setRow W1.heap.size r0 := ⟨_, rfl⟩
 rw [← hV]
 obtain ⟨g, hg⟩ : ∃ g, g = W1.heap.size := ⟨_, rfl⟩
 rw [← hg]
 have hgs : w.heap.size < g := by have := hB1.size; simp at this; omega
 have hBw : Below w.heap.size w W1 := ((Below.refl _ _).alloc (Nat.le_refl _) _).trans (hB1.mono (by simp))
 have hAV : Has V g 166 H0 := ⟨by rw [hV, hg]; exact setRow_heap _ _ _ _ _ _ (heap_alloc_new _ _), H0_len⟩
 have hBV : Below w.heap.size w V := by rw [hV]; exact below_setRow (hBw.alloc (by omega) _) (by omega) _
 have hRV : V.heap[w.heap.size]? = some (.cells z64H 102 (0, 0)) := by
  rw [hV, setRow_other _ _ _ _ (by omega), heap_alloc_old _ _ (by omega), hB1.block _ (by simp)]; exact heap_alloc_new _ _
 have hKV : Tab V := HK.out.below hBV HK.out.lt
 clear hV hg hB1 hBw hz hzH
 refine (write_any g 166 H0 s V hAV hKV (by have := HK.out.lt; omega) hs).mono ?_
 rintro e V2 ⟨rfl, hA2, hT2⟩
 have hB2 : Hid (Below w.heap.size w V2) := hBV.trans (hT2.below (by omega) hBV.size)
 have hR2 : Hid (V2.heap[w.heap.size]? = some (.cells z64H 102 (0, 0))) := (hT2.block _ (by have := hAV.lt; omega) (by omega)).trans hRV
 have hA2' : Hid (Has V2 g 166 (H0.puts (bytesOfH s))) := hA2
 have hK2 : Hid (Tab V2) := hKV.turn hT2 (by have := HK.out.lt; omega)
 clear hAV hBV hRV hKV hA2 hT2
 go_wp2_with fail
 refine (sum_any g 166 _ V2 hA2'.out hK2.out).mono ?_
 rintro e V3 ⟨rfl, hB3⟩
 obtain ⟨M, HM⟩ : ∃ M, Hid (M = ((H0.puts (bytesOfH s)).sum).map cv) := ⟨_, rfl⟩
 rw [← HM.out]
 have hMl : M.length = 64 := by rw [HM.out, List.length_map, HS.sum_length]
 have HSz : Hid ((Tryz.prog.info? 102).map (·.size) = some M.toArray.size) := by show _ = _; rw [size64H]; simp [hMl]
 have HO : Hid (z64H.size = M.toArray.size) := by show _ = _; simp [hMl]; rfl
 have HA : Hid (M.toArray.all (·.oneCell') = true) := by rw [HM.out]; exact all_oneCell_toArray (cvs_cell _)
 have hlt2 : w.heap.size < V2.heap.size := by have := hA2'.out.lt; omega
 have hR3 : Hid (V3.heap[w.heap.size]? = some (.cells z64H 102 (0, 0))) := (hB3.block _ hlt2).trans hR2.out
 have hB3' : Hid (Below w.heap.size w V3) := hB2.out.trans (hB3.mono (by omega))
 clear hB3 hA2' hK2 hR2 hB2 hMl hlt2
 go_wp2_with (first | (refine wpList_store_row (by rfl) 102 (.tmp 2) (.tmp 7) (by rfl) w.heap.size M.toArray (by rfl) (by rfl) 102 _ hR3.out HSz.out HO.out HA.out ?_))
 refine bodyPost_ret (v := .agg M.toArray) (results_cell_row Tryz.results48 _ _ w.heap.size 102 M.toArray (0, 0) _ (by rfl) (setRow_heap _ _ _ _ _ _ hR3.out) under64H rfl HSz.out) rfl ⟨by rw [HM.out]; rfl, below_setRow hB3'.out (Nat.le_refl _) _⟩
end
def chunk (p : List UInt8) (k : Nat) : List UInt8 := (p.drop (128 * k)).take 128
section
variable {P : Program} (w : World)
end
theorem size4W (n : Nat) : (Tryz.prog.info? 60).map (·.size) = some (num4A n).size := size4
theorem zero4W (w : World) : (zeroValue 60).run Tryz.prog w = .ok (.agg (num4A 0)) w := by kernel_rfl
theorem n4W (m n : Nat) : (num4A m).size = (num4A n).size := rfl
theorem num4A_atW (n t : Nat) (ht : t < 4) : (num4A n)[t]? = some (nv (wd n t)) := by
 have h4 : t = 0 ∨ t = 1 ∨ t = 2 ∨ t = 3 := by omega
 rcases h4 with rfl | rfl | rfl | rfl <;> rfl
theorem index4W (n t : Nat) (ht : t < 4) (w : World) : (Instr.index 60 (.agg (num4A n)) (.int .i64 t)).run Tryz.prog w = .ok (nv (wd n t)) w := by
 cases hq : Tryz.prog.info? 59 with
 | none => have := sizeOf64; rw [hq] at this; cases this
 | some inf =>
  have hs : inf.size = 1 := by have := sizeOf64; rw [hq] at this; simpa using this
  have h0 := num4A_atW n t ht
  simp [Instr.index, asIntOf, run_underlying under4, sizeOf, typeInfo, hq, hs, part64 _ t _ h0]
  intro h; omega
def setW (n j v : Nat) : Nat := n - wd n j * 18446744073709551616 ^ j + v * 18446744073709551616 ^ j
theorem wd_le (n j : Nat) : wd n j * 18446744073709551616 ^ j ≤ n := by
 unfold wd
 calc n / 18446744073709551616 ^ j % 18446744073709551616 * 18446744073709551616 ^ j ≤ n / 18446744073709551616 ^ j * 18446744073709551616 ^ j := Nat.mul_le_mul_right _ (Nat.mod_le _ _)
  _ ≤ n := Nat.div_mul_le_self _ _
theorem setW_row (n j v : Nat) (hn : n < 115792089237316195423570985008687907853269984665640564039457584007913129639936) (hj : j < 4) (hv : v < 18446744073709551616) :
  ([nv (wd n 0), nv (wd n 1), nv (wd n 2), nv (wd n 3)].set j (nv v)).toArray = num4A (setW n j v) ∧ setW n j v < 115792089237316195423570985008687907853269984665640564039457584007913129639936 := by
 have h4 : j = 0 ∨ j = 1 ∨ j = 2 ∨ j = 3 := by omega
 rcases h4 with rfl | rfl | rfl | rfl
 all_goals
  unfold num4A setW wd
  simp only [Nat.reducePow, Nat.pow_zero, Nat.pow_one, Nat.div_one, Nat.mul_one, List.set_cons_zero, List.set_cons_succ]
  refine ⟨?_, by omega⟩
 · rw [show (n - n % 18446744073709551616 + v) % 18446744073709551616 = v by omega, show (n - n % 18446744073709551616 + v) / 18446744073709551616 = n / 18446744073709551616 by omega, show (n - n % 18446744073709551616 + v) / 340282366920938463463374607431768211456 = n / 340282366920938463463374607431768211456 by omega, show (n - n % 18446744073709551616 + v) / 6277101735386680763835789423207666416102355444464034512896 = n / 6277101735386680763835789423207666416102355444464034512896 by omega]
 · rw [show (n - n / 18446744073709551616 % 18446744073709551616 * 18446744073709551616 + v * 18446744073709551616) % 18446744073709551616 = n % 18446744073709551616 by omega, show (n - n / 18446744073709551616 % 18446744073709551616 * 18446744073709551616 + v * 18446744073709551616) / 18446744073709551616 % 18446744073709551616 = v by omega, show (n - n / 18446744073709551616 % 18446744073709551616 * 18446744073709551616 + v * 18446744073709551616) / 340282366920938463463374607431768211456 = n / 340282366920938463463374607431768211456 by omega, show (n - n / 18446744073709551616 % 18446744073709551616 * 18446744073709551616 + v * 18446744073709551616) / 6277101735386680763835789423207666416102355444464034512896 = n / 6277101735386680763835789423207666416102355444464034512896 by omega]
 · rw [show (n - n / 340282366920938463463374607431768211456 % 18446744073709551616 * 340282366920938463463374607431768211456 + v * 340282366920938463463374607431768211456) % 18446744073709551616 = n % 18446744073709551616 by omega, show (n - n / 340282366920938463463374607431768211456 % 18446744073709551616 * 340282366920938463463374607431768211456 + v * 340282366920938463463374607431768211456) / 18446744073709551616 % 18446744073709551616 = n / 18446744073709551616 % 18446744073709551616 by omega, show (n - n / 340282366920938463463374607431768211456 % 18446744073709551616 * 340282366920938463463374607431768211456 + v * 340282366920938463463374607431768211456) / 340282366920938463463374607431768211456 % 18446744073709551616 = v by omega, show (n - n / 340282366920938463463374607431768211456 % 18446744073709551616 * 340282366920938463463374607431768211456 + v * 340282366920938463463374607431768211456) / 6277101735386680763835789423207666416102355444464034512896 = n / 6277101735386680763835789423207666416102355444464034512896 by omega]
 · rw [show (n - n / 6277101735386680763835789423207666416102355444464034512896 % 18446744073709551616 * 6277101735386680763835789423207666416102355444464034512896 + v * 6277101735386680763835789423207666416102355444464034512896) % 18446744073709551616 = n % 18446744073709551616 by omega, show (n - n / 6277101735386680763835789423207666416102355444464034512896 % 18446744073709551616 * 6277101735386680763835789423207666416102355444464034512896 + v * 6277101735386680763835789423207666416102355444464034512896) / 18446744073709551616 % 18446744073709551616 = n / 18446744073709551616 % 18446744073709551616 by omega, show (n - n / 6277101735386680763835789423207666416102355444464034512896 % 18446744073709551616 * 6277101735386680763835789423207666416102355444464034512896 + v * 6277101735386680763835789423207666416102355444464034512896) / 340282366920938463463374607431768211456 % 18446744073709551616 = n / 340282366920938463463374607431768211456 % 18446744073709551616 by omega, show (n - n / 6277101735386680763835789423207666416102355444464034512896 % 18446744073709551616 * 6277101735386680763835789423207666416102355444464034512896 + v * 6277101735386680763835789423207666416102355444464034512896) / 6277101735386680763835789423207666416102355444464034512896 % 18446744073709551616 = v by omega]
theorem step_W (X c H w b j lo hi : Nat) (h : X + c * 18446744073709551616 ^ j = H + w * (b % 18446744073709551616 ^ j)) (hm : lo + 18446744073709551616 * hi = w * wd b j + wd X j + c) :
  setW X j lo + hi * 18446744073709551616 ^ (j + 1) = H + w * (b % 18446744073709551616 ^ (j + 1)) := by
 have hle := wd_le X j
 have e1 : b % 18446744073709551616 ^ (j + 1) = b % 18446744073709551616 ^ j + 18446744073709551616 ^ j * wd b j := by
  unfold wd; rw [Nat.pow_succ, Nat.mod_mul]
 unfold setW
 rw [e1, Nat.pow_succ]
 generalize 18446744073709551616 ^ j = p at *
 generalize b % p = r at *
 generalize wd b j = y at *
 generalize wd X j = x at *
 have e2 : w * (r + p * y) = w * r + p * (w * y) := by rw [Nat.mul_add, ← Nat.mul_assoc w p y, Nat.mul_comm w p, Nat.mul_assoc]
 rw [e2]
 have e3 : lo * p + hi * (p * 18446744073709551616) = p * (w * y) + x * p + c * p := by
  have : p * (lo + 18446744073709551616 * hi) = p * (w * y + x + c) := by rw [hm]
  rw [Nat.mul_add, Nat.mul_add, Nat.mul_add] at this
  rw [Nat.mul_comm lo p, Nat.mul_comm x p, Nat.mul_comm c p, ← this, ← Nat.mul_assoc p, Nat.mul_comm hi]
 omega
theorem at5W_4 (w : World) (A B C D E : Obj) : (((((w.alloc A).alloc B).alloc C).alloc D).alloc E).heap[w.heap.size + 4]? = some E := by
 have e := heap_alloc_new ((((w.alloc A).alloc B).alloc C).alloc D) E
 simpa using e
theorem at5W_3 (w : World) (A B C D E : Obj) : (((((w.alloc A).alloc B).alloc C).alloc D).alloc E).heap[w.heap.size + 3]? = some D := by
 rw [heap_alloc_old _ _ (by simp only [World.size_alloc]; omega)]
 have e := heap_alloc_new (((w.alloc A).alloc B).alloc C) D
 simpa using e
theorem at5W_2 (w : World) (A B C D E : Obj) : (((((w.alloc A).alloc B).alloc C).alloc D).alloc E).heap[w.heap.size + 2]? = some C := by
 rw [heap_alloc_old _ _ (by simp only [World.size_alloc]; omega), heap_alloc_old _ _ (by simp only [World.size_alloc]; omega)]; exact heap3_2 _ _ _ _
theorem at5W_1 (w : World) (A B C D E : Obj) : (((((w.alloc A).alloc B).alloc C).alloc D).alloc E).heap[w.heap.size + 1]? = some B := by
 rw [heap_alloc_old _ _ (by simp only [World.size_alloc]; omega), heap_alloc_old _ _ (by simp only [World.size_alloc]; omega)]; exact heap3_1 _ _ _ _
theorem at5W_0 (w : World) (A B C D E : Obj) : (((((w.alloc A).alloc B).alloc C).alloc D).alloc E).heap[w.heap.size]? = some A := by
 rw [heap_alloc_old _ _ (by simp only [World.size_alloc]; omega), heap_alloc_old _ _ (by simp only [World.size_alloc]; omega)]; exact heap3_0 _ _ _ _
theorem shift_row (X cc : Nat) (hX : X < 115792089237316195423570985008687907853269984665640564039457584007913129639936) (hc : cc < 18446744073709551616) : (#[nv (wd X 1), nv (wd X 2), nv (wd X 3), nv cc] : Array Value) = num4A (X / 18446744073709551616 + cc * 6277101735386680763835789423207666416102355444464034512896) ∧ X / 18446744073709551616 + cc * 6277101735386680763835789423207666416102355444464034512896 < 115792089237316195423570985008687907853269984665640564039457584007913129639936 := by
 refine ⟨?_, by omega⟩
 unfold num4A wd
 simp only [Nat.reducePow, Nat.pow_zero, Nat.pow_one, Nat.div_one]
 rw [show (X / 18446744073709551616 + cc * 6277101735386680763835789423207666416102355444464034512896) % 18446744073709551616 = X / 18446744073709551616 % 18446744073709551616 by omega, show (X / 18446744073709551616 + cc * 6277101735386680763835789423207666416102355444464034512896) / 18446744073709551616 % 18446744073709551616 = X / 340282366920938463463374607431768211456 % 18446744073709551616 by omega, show (X / 18446744073709551616 + cc * 6277101735386680763835789423207666416102355444464034512896) / 340282366920938463463374607431768211456 % 18446744073709551616 = X / 6277101735386680763835789423207666416102355444464034512896 % 18446744073709551616 by omega, show (X / 18446744073709551616 + cc * 6277101735386680763835789423207666416102355444464034512896) / 6277101735386680763835789423207666416102355444464034512896 % 18446744073709551616 = cc by omega]
theorem round_W (a b c L H X cc k : Nat) (hL : L < 18446744073709551616 ^ k) (h : L + H * 18446744073709551616 ^ k = a % 18446744073709551616 ^ k * b + c) (hX : X + cc * 18446744073709551616 ^ 4 = H + wd a k * b) :
  setW L k (wd X 0) < 18446744073709551616 ^ (k + 1) ∧ setW L k (wd X 0) + (X / 18446744073709551616 + cc * 6277101735386680763835789423207666416102355444464034512896) * 18446744073709551616 ^ (k + 1) = a % 18446744073709551616 ^ (k + 1) * b + c := by
 have e0 : wd L k = 0 := by unfold wd; rw [Nat.div_eq_of_lt hL]
 have e1 : a % 18446744073709551616 ^ (k + 1) = a % 18446744073709551616 ^ k + 18446744073709551616 ^ k * wd a k := by
  unfold wd; rw [Nat.pow_succ, Nat.mod_mul]
 have ex : wd X 0 = X % 18446744073709551616 := by unfold wd; rw [Nat.pow_zero, Nat.div_one]
 have e4 : (18446744073709551616 : Nat) ^ 4 = 18446744073709551616 * 6277101735386680763835789423207666416102355444464034512896 := by decide
 unfold setW
 rw [e0, e1, Nat.zero_mul, Nat.sub_zero, ex, Nat.pow_succ]
 rw [e4] at hX
 generalize 18446744073709551616 ^ k = p at *
 generalize a % p = r at *
 generalize wd a k = y at *
 have hd := Nat.div_add_mod X 18446744073709551616
 have hm : X % 18446744073709551616 < 18446744073709551616 := Nat.mod_lt _ (by decide)
 generalize X / 18446744073709551616 = d at *
 generalize X % 18446744073709551616 = z at *
 refine ⟨?_, ?_⟩
 ·
  have : z * p ≤ 18446744073709551615 * p := Nat.mul_le_mul_right _ (by omega)
  omega
 ·
  have e5 : (r + p * y) * b = r * b + p * (y * b) := by rw [Nat.add_mul, Nat.mul_assoc]
  rw [e5]
  have e6 : p * (z + 18446744073709551616 * (d + cc * 6277101735386680763835789423207666416102355444464034512896)) = p * (H + y * b) := by
   rw [← hX, ← hd]
   congr 1
   rw [Nat.mul_add]
   rw [show 18446744073709551616 * (cc * 6277101735386680763835789423207666416102355444464034512896) = cc * (18446744073709551616 * 6277101735386680763835789423207666416102355444464034512896) by rw [← Nat.mul_assoc, Nat.mul_comm 18446744073709551616 cc, Nat.mul_assoc]]
   omega
  rw [Nat.mul_add, Nat.mul_add p H] at e6
  have e7 : (d + cc * 6277101735386680763835789423207666416102355444464034512896) * (p * 18446744073709551616) = p * (18446744073709551616 * (d + cc * 6277101735386680763835789423207666416102355444464034512896)) := by
   rw [Nat.mul_comm, Nat.mul_assoc]
  rw [e7, Nat.mul_comm z p]
  have e8 : H * p = p * H := Nat.mul_comm _ _
  rw [e8] at h
  omega
end Go.Proofs.YtccgfabojbjmjaaGreatDoor
