import Derived.Test.YtccgfabojbjmjaaGreatDoorPx31
import Derived.Lib.BufferWrite
import Derived.Test.YtccgfabojbjmjaaGreatDoorPx39
import Derived.Test.YtccgfabojbjmjaaGreatDoorPx36
namespace Go.Proofs.YtccgfabojbjmjaaGreatDoor
open Go.RowKit
def ofSzV (what t : ByteArray) (n : Int) : Value := if (t.size : Int) = n then .nilIface else atE what (szI t.size n)
theorem ofSize_any (what t : ByteArray) (n : Int) (w : World) : Calls Tryz.prog 55 #[.string what, .string t, .int .i64 n] w fun e w' => e = .returned (ofSzV what t n) ∧ w' = w := by
 go_enter Tryz.func55, Tryz.ntmps55
 unfold ofSzV
 by_cases h : (t.size : Int) = n
 ·
  go_wp2
  go_ret
  exact ⟨rfl, rfl⟩
 ·
  go_wp2
  go_ret
  exact ⟨rfl, rfl⟩
theorem zeroSz (w : World) : (zeroValue 134).run Tryz.prog w = .ok (.agg #[.int .i64 0, .int .i64 0]) w := by kernel_rfl
theorem zeroIm (w : World) : (zeroValue 136).run Tryz.prog w = .ok (.agg #[.int .i64 0]) w := by kernel_rfl
theorem codeOf_nil (w : World) : Calls Tryz.prog 30 #[.nilIface] w fun e w' => e = .returned (.int .i64 0) ∧ Below w.heap.size w w' := by
 have h1 := zeroSz
 have h2 := zeroIm
 go_enter Tryz.func30, Tryz.ntmps30
 go_wp2
 go_ret
 exact ⟨rfl, ((Below.refl _ _).alloc (Nat.le_refl _) _).alloc (by simp) _⟩
theorem codeOf_size (what : ByteArray) (h k : Int) (w : World) (hE : w.cell? ⟨3, 0, none⟩ = some (rtV 66)) : Calls Tryz.prog 30 #[atE what (szI h k)] w fun e w' => e = .returned (.int .i64 1) ∧ Below w.heap.size w w' := by
 have h1 := zeroSz
 have h2 := zeroIm
 obtain ⟨E, HE⟩ : ∃ E, Hid (E = Value.agg #[.string what, szI h k]) := ⟨_, rfl⟩
 unfold atE
 rw [← HE.out]
 go_enter Tryz.func30, Tryz.ntmps30
 go_wp2_with fail
 rw [HE.out]
 refine (as_size what h k w.heap.size _ ?_ ?_).mono ?_
 · exact (World.cell?_of_block ((heap_alloc_old _ _ (by have := World.block_lt_of_cell? w _ hE; simp at *; omega)).trans (heap_alloc_old _ _ (World.block_lt_of_cell? w _ hE)))).trans hE
 · exact heap_alloc2_old _ _ _
 rintro e W ⟨rfl, hB⟩
 have BW : Hid (Below w.heap.size w W) := (((Below.refl _ _).alloc (Nat.le_refl _) _).alloc (by simp) _).trans hB
 clear hB h1 h2
 go_wp2
 go_ret
 exact ⟨rfl, BW.out⟩
def padB (s : ByteArray) (n : Nat) : List UInt8 := (bytesOf s).take n ++ List.replicate (n - s.size) 0
def zN (n : Nat) : Array Value := ((List.replicate n (0 : UInt8)).map cv).toArray
theorem make15 (w : World) : (Instr.makeSlice 89 (.int .i64 15) (.int .i64 15)).run Tryz.prog w = .ok (.slice (some ⟨w.heap.size, 0, none⟩) 15 15) (w.alloc (.cells (zN 15) 5)) := by kernel_rfl
theorem make31 (w : World) : (Instr.makeSlice 89 (.int .i64 31) (.int .i64 31)).run Tryz.prog w = .ok (.slice (some ⟨w.heap.size, 0, none⟩) 31 31) (w.alloc (.cells (zN 31) 5)) := by kernel_rfl
theorem make32' (w : World) : (Instr.makeSlice 89 (.int .i64 32) (.int .i64 32)).run Tryz.prog w = .ok (.slice (some ⟨w.heap.size, 0, none⟩) 32 32) (w.alloc (.cells (zN 32) 5)) := by kernel_rfl
theorem make64 (w : World) : (Instr.makeSlice 89 (.int .i64 64) (.int .i64 64)).run Tryz.prog w = .ok (.slice (some ⟨w.heap.size, 0, none⟩) 64 64) (w.alloc (.cells (zN 64) 5)) := by kernel_rfl
theorem makeN (n : Nat) (h : n = 15 ∨ n = 31 ∨ n = 32 ∨ n = 64) (w : World) : (Instr.makeSlice 89 (.int .i64 (n : Int)) (.int .i64 (n : Int))).run Tryz.prog w = .ok (.slice (some ⟨w.heap.size, 0, none⟩) n n) (w.alloc (.cells (zN n) 5)) := by
 rcases h with rfl | rfl | rfl | rfl
 · exact make15 w
 · exact make31 w
 · exact make32' w
 · exact make64 w
theorem convN (n : Nat) (w : World) (q : Nat) (l : List UInt8) (hl : l.length = n) (T : TypeId) (h : w.heap[q]? = some (.cells (l.map cv).toArray T (0, 0))) :
  (convert 89 9 (.slice (some ⟨q, 0, none⟩) n n)).run Tryz.prog w = .ok (.string (strOf l)) w := by
 have e := run_convert_bytes_back (P := Tryz.prog) w 89 9 5 ⟨q, 0, none⟩ n l underSl8 underU8 underStr (fun i hi => by
  rw [Addr.add_mid, Nat.zero_add, cell_of_row w q i _ T _ h]
  rw [List.getElem?_toArray, List.getElem?_map, List.getElem?_eq_getElem hi]; rfl)
 rw [hl] at e
 exact e
theorem padB_len (s : ByteArray) (n : Nat) : (padB s n).length = n := by
 unfold padB
 rw [List.length_append, List.length_take, List.length_replicate]
 have : (bytesOf s).length = s.size := by unfold bytesOf; rw [Array.length_toList]; rfl
 rw [this]; omega
theorem pad_cut (s : ByteArray) (n : Nat) (h : n < s.size) : s.extract 0 n = strOf (padB s n) := by
 have e : ∀ a b : ByteArray, a.data = b.data → a = b := by intro a b h; cases a; cases b; simpa using h
 apply e
 unfold padB strOf bytesOf
 rw [show n - s.size = 0 by omega, List.replicate_zero, List.append_nil]
 apply Array.ext'
 simp only [ByteArray.data_extract, Array.toList_extract, List.extract_eq_take_drop, List.drop_zero, Nat.sub_zero]
theorem pad_row (s : ByteArray) (n : Nat) (h : s.size ≤ n) : ((zN n).toList.take 0 ++ Lib.byteCells s.data.toList ++ (zN n).toList.drop (0 + s.size)).toArray = ((padB s n).map cv).toArray := by
 have hl : (bytesOf s).length = s.size := by unfold bytesOf; rw [Array.length_toList]; rfl
 have e1 : (bytesOf s).take n = bytesOf s := List.take_of_length_le (by omega)
 unfold padB zN
 rw [e1, List.map_append, List.take_zero, List.nil_append, Nat.zero_add, List.map_replicate, List.drop_replicate, List.map_replicate]
 rfl
theorem size8K : (Tryz.prog.info? 5).map (·.size) = some 1 := by kernel_rfl
theorem wpList_copy_to {P : Program} (w : World) {ops : Array Oper} {rest : List Oper} {o : Oper} {a : Act} {Q : Exit → Act → World → Prop} (hgd : o.guard = none) (d s : Operand) (t t' : TypeId)
  (ho : o.op = .call { callee := .builtin .copy, args := #[d, s], argTypes := #[t, t'] }) (v u : Value) (hd : a.eval d = v) (hs : a.eval s = u) {v' : Value} {w' : World}
  (hr : (Builtin.copy_ #[t, t'] o.type #[v, u]).run P w = .ok v' w') (h : wpList P ops Q rest (a.put o.dst v') w') : wpList P ops Q (o :: rest) a w := by
 refine wpList_plain hgd fun K hK => ?_
 unfold Oper.wp execOp
 simp only [ho, resolve, invoke, builtin, Sem.run_bind, Sem.run_pure, Result.andThen_ok, List.map_toArray, List.map_cons, List.map_nil, hd, hs, hr]
 exact hK _ _ h
section
set_option maxRecDepth 100000 in
set_option maxHeartbeats 1000000 in
theorem bytesA' (s : ByteArray) (n : Nat) (hn : n = 15 ∨ n = 31 ∨ n = 32 ∨ n = 64) (w : World) :
  Calls Tryz.prog 16 #[.string s, .int .i64 (n : Int)] w fun e w' => e = .returned (.string (strOf (padB s n))) ∧ Below w.heap.size w w' := by
 have HN := hide hn
 have hmk := makeN n hn
 clear hn
 go_enter Tryz.func16, Tryz.ntmps16
 by_cases hlt : n < s.size
 ·
  have b1 : (n : Int) < (s.size : Int) := by omega
  go_wp2_with fail
  go_returns
  refine ⟨?_, Below.refl _ _⟩
  rw [pad_cut s n hlt]; rfl
 ·
  have b1 : (s.size : Int) ≤ (n : Int) := by omega
  have hcp := Lib.run_copy_row_string (P := Tryz.prog) (w.alloc (.cells (zN n) 5)) 89 9 3 5 w.heap.size 0 n n s (zN n) 5 underSl8 size8K (heap_alloc_new _ _) (by omega) (by unfold zN; simp; omega)
  rw [pad_row s n (by omega)] at hcp
  have R1 : Hid (((w.alloc (.cells (zN n) 5)).setRow w.heap.size ((padB s n).map cv).toArray).heap[w.heap.size]? = some (.cells ((padB s n).map cv).toArray 5 (0, 0))) := setRow_heap _ _ _ _ _ _ (heap_alloc_new _ _)
  have hcv := convN n _ w.heap.size (padB s n) (padB_len s n) 5 R1.out
  have B1 : Hid (Below w.heap.size w ((w.alloc (.cells (zN n) 5)).setRow w.heap.size ((padB s n).map cv).toArray)) := below_setRow (by show Below _ _ _; go_grown) (Nat.le_refl _) _
  generalize hW1 : World.setRow _ _ _ = W1 at *
  obtain ⟨T, HT⟩ : ∃ T, Hid (T = strOf (padB s n)) := ⟨_, hide rfl⟩
  rw [← HT.out] at hcv ⊢
  clear hW1
  go_wp2_with (at_builtin; refine wpList_copy_to _ rfl _ _ 89 9 rfl _ _ rfl rfl hcp ?_)
  go_returns
  exact ⟨rfl, B1.out⟩
end
theorem ret_i64K {a b : Int} (h : a = b) : Ending.returned (.int .i64 a) = .returned (.int .i64 b) := by rw [h]
set_option maxHeartbeats 400000 in
theorem pickA (c n : Int) (w : World) (c0 : -9223372036854775808 ≤ c) (c1 : c ≤ 9223372036854775807) (n0 : 0 < n) (n1 : n ≤ 9223372036854775807) :
  Calls Tryz.prog 24 #[.int .i64 c, .int .i64 n] w fun e w' => ∃ m : Nat, e = .returned (.int .i64 m) ∧ (m : Int) < n ∧ w' = w := by
 by_cases hc : c < 0
 ·
  have e0 : -((c + 1).tmod n) = (-(c + 1)) % n := by rw [← Int.neg_tmod, Int.tmod_eq_emod_of_nonneg (by omega)]
  have p0 := Int.emod_nonneg (-(c + 1)) (by omega : n ≠ 0)
  have p1 := Int.emod_lt_of_pos (-(c + 1)) n0
  have HE : Hid (-((c + 1).tmod n) = (((-(c + 1)) % n).toNat : Int) ∧ (((-(c + 1)) % n).toNat : Int) < n) := ⟨by rw [e0]; exact (Int.toNat_of_nonneg p0).symm, by rw [Int.toNat_of_nonneg p0]; exact p1⟩
  clear e0 p0 p1
  go_enter Tryz.func24, Tryz.ntmps24
  go_wp2
  go_ret
  exact ⟨((-(c + 1)) % n).toNat, ret_i64K HE.out.1, HE.out.2, rfl⟩
 ·
  have p0 := Int.emod_nonneg c (by omega : n ≠ 0)
  have p1 := Int.emod_lt_of_pos c n0
  have HE : Hid (c % n = ((c % n).toNat : Int) ∧ ((c % n).toNat : Int) < n) := ⟨(Int.toNat_of_nonneg p0).symm, by rw [Int.toNat_of_nonneg p0]; exact p1⟩
  clear p0 p1
  go_enter Tryz.func24, Tryz.ntmps24
  go_wp2
  go_ret
  exact ⟨(c % n).toNat, ret_i64K HE.out.1, HE.out.2, rfl⟩
def r66 (k : Nat) : List UInt8 := List.replicate k 102 ++ List.replicate (32 - k) 0
theorem r66_step (k : Nat) (h : k < 32) : (r66 k).set k 102 = r66 (k + 1) := by
 unfold r66
 rw [show 32 - k = (32 - (k + 1)) + 1 by omega, List.replicate_succ, List.set_append_right _ _ (by simp), List.length_replicate, Nat.sub_self, List.set_cons_zero, List.replicate_succ' , List.append_assoc]
 rfl
theorem r66_len (k : Nat) (h : k ≤ 32) : (r66 k).length = 32 := by unfold r66; simp; omega
def bT : List UInt8 := 88 :: List.replicate 31 102
theorem r66_last : (r66 32).set 0 88 = bT := by decide
theorem idxSl (g i : Nat) (hi : i < 32) (w : World) : (Instr.indexAt 89 (.slice (some ⟨g, 0, none⟩) 32 32) (.int .i64 i)).run Tryz.prog w = .ok (.pointer (some ⟨g, i, none⟩)) w := by
 cases hq : Tryz.prog.info? 5 with
 | none => have := size8K; rw [hq] at this; cases this
 | some inf =>
  have hs : inf.size = 1 := by have := size8K; rw [hq] at this; simpa using this
  simp [Instr.indexAt, asIntOf, run_underlying underSl8, sizeOf, typeInfo, hq, hs, Addr.add_mid]
  intro h; omega
section
set_option maxRecDepth 100000 in
set_option maxHeartbeats 1000000 in
theorem baseK (w : World) : Calls Tryz.prog 44 #[] w fun e w' => e = .returned (.string (strOf bT)) ∧ Below w.heap.size w w' := by
 have hmk := make32' 
 go_enter Tryz.func44, Tryz.ntmps44
 go_wp2_with fail
 go_loopw [2] (fun i wr => ∃ k : Nat, k ≤ 32 ∧ i = .int .i64 k ∧ Hid (wr.heap[w.heap.size]? = some (.cells ((r66 k).map cv).toArray 5 (0, 0))) ∧ Hid (Below w.heap.size w wr)) (fun i _ => 32 - (intOf i).toNat)
 case atStart => exact ⟨0, by omega, rfl, heap_alloc_new _ _, by show Below _ _ _; go_grown⟩
 case round =>
  obtain ⟨k, hk, rfl, H0, HB⟩ := hrel
  by_cases hlt : k < 32
  ·
   have bk : (k : Int) < 32 := by omega
   have hix := idxSl w.heap.size k hlt
   have c1 : wr.cell? ⟨w.heap.size, k, none⟩ = some (cv ((r66 k).getD k 0)) := by
    rw [cell_of_row wr _ k _ _ _ H0.out, List.getElem?_toArray, List.getElem?_map, List.getElem?_eq_getElem (by rw [r66_len k hk]; exact hlt)]
    simp [List.getD, r66_len k hk, hlt]
   have f1 := frozen_of_row wr w.heap.size k _ _ H0.out
   go_wp2_with fail
   refine ⟨⟨k + 1, by omega, by go_num, ?_, HB.out.setCell (by show _ ≤ _; simp) _⟩, by simp [intOf]; omega⟩
   have e := row_store H0.out k (cv 102)
   rw [← List.map_set, r66_step k hlt] at e
   exact e
  ·
   obtain rfl : k = 32 := by omega
   have bk : (32 : Int) ≤ ((32 : Nat) : Int) := by omega
   have hix := idxSl w.heap.size 0 (by decide)
   have c1 : wr.cell? ⟨w.heap.size, 0, none⟩ = some (cv 102) := by
    rw [cell_of_row wr _ 0 _ _ _ H0.out]; rfl
   have f1 := frozen_of_row wr w.heap.size 0 _ _ H0.out
   have e := row_store H0.out 0 (cv 88)
   rw [← List.map_set, r66_last] at e
   have e' : (wr.setCell ⟨w.heap.size, 0, none⟩ (.int .u8 88)).heap[w.heap.size]? = some (.cells (bT.map cv).toArray 5 (0, 0)) := e
   have B1 : Hid (Below w.heap.size w (wr.setCell ⟨w.heap.size, 0, none⟩ (.int .u8 88))) := HB.out.setCell (by show _ ≤ _; simp) _
   have hcv := convN 32 _ w.heap.size bT rfl 5 e'
   clear e'
   obtain ⟨T, HT⟩ : ∃ T, Hid (T = strOf bT) := ⟨_, hide rfl⟩
   rw [← HT.out] at hcv
   clear e
   go_wp2_with fail
   go_returns
   exact ⟨by rw [HT.out]; rfl, B1.out⟩
end
theorem pad_size (s : ByteArray) (n : Nat) : (strOf (padB s n)).size = n := padB_len s n
theorem ord_num : (#[nv 6346243789798364141, nv 1503914060200516822, nv 0, nv 1152921504606846976] : Array Value) = num4A Lord := by kernel_rfl
theorem size4N (n : Nat) : (Tryz.prog.info? 60).map (·.size) = some (num4A n).size := size4
theorem zero4N (w : World) : (zeroValue 60).run Tryz.prog w = .ok (.agg (num4A 0)) w := by kernel_rfl
theorem ltN_one (a b : Nat) : (V (ltN a b) == 1) = decide (a < b) := by
 unfold ltN V
 by_cases h : a < b
 · rw [if_pos h, decide_eq_true h]; rfl
 · rw [if_neg h, decide_eq_false h]; rfl
section
attribute [local irreducible] num4A
set_option maxRecDepth 100000 in
set_option maxHeartbeats 1000000 in
theorem isA (n : Nat) (hn : n < 115792089237316195423570985008687907853269984665640564039457584007913129639936) (w : World) (hO : OrdAt w) :
  Calls Tryz.prog 115 #[.agg (num4A n)] w fun e w' => e = .returned (.bool (decide (n < Lord))) ∧ Below w.heap.size w w' := by
 have hz := zero4N
 have HN := hide hn
 obtain ⟨TT, frr, ho⟩ := hO.row
 rw [ord_num] at ho
 have HO := hide ho
 have lO := lt_row ho
 have hlt := ltN_one n Lord
 clear hn hO ho
 go_enter Tryz.func115, Tryz.ntmps115
 go_upto_region 1 with fail
 generalize hW0 : World.alloc _ _ = W0
 have R1 : Hid (W0.heap[w.heap.size]? = some (.cells (num4A n) 60 (0, 0))) := by rw [← hW0]; exact heap_alloc_new _ _
 have RO : Hid (W0.heap[6]? = some (.cells (num4A Lord) TT frr)) := by rw [← hW0]; exact (heap_alloc_old _ _ lO).trans HO.out
 have BL : Hid (Below w.heap.size w W0) := by rw [← hW0]; show Below _ _ _; go_grown
 clear hW0
 go_wp2_with (first
  | (refine wpList_load_row (by rfl) 60 (.tmp 1) (by rfl) w.heap.size (by rfl) 60 (num4A n) (0, 0) _ R1.out under4 rfl (size4N _) ?_)
  | (refine wpList_load_row (by rfl) 60 (.global 6) (by rfl) 6 (by rfl) TT (num4A Lord) frr _ RO.out under4 rfl (size4N _) ?_))
 refine (subA n Lord HN.out (by decide) _).mono ?_
 rintro e W1 ⟨d, rfl, hB⟩
 have BL := kTr BL hB
 clear hB
 go_upto_region 2 with (first
  | (refine wpList_store_row (by rfl) 60 (.tmp 3) (.tmp 9) (by rfl) W1.heap.size (num4A d) (by rfl) (by rfl) 60 _ (heap_alloc_new _ _) (size4N _) (n4_old _ _) (num4A_all _) ?_))
 try rw [put_none']
 generalize hW2 : World.setRow _ _ _ = W2
 have BL2 : Hid (Below w.heap.size w W2) := by rw [← hW2]; exact below_setRow (BL.out.alloc BL.out.size _) BL.out.size _
 clear hW2
 go_wp2_with fail
 go_returns
 exact ⟨rfl, BL2.out⟩
end
def sd0 (c : UInt8) : UInt8 := UInt8.ofNat (c.toNat / 8 * 8)
def sd31 (c : UInt8) : UInt8 := UInt8.ofNat (c.toNat % 64 + 64)
def sdL (l : List UInt8) : List UInt8 := (l.set 0 (sd0 (l.getD 0 0))).set 31 (sd31 (l.getD 31 0))
theorem andN7 (x : Nat) (h : x < 256) : bits .andNot .u8 (x : Int) 7 = ((x / 8 * 8 : Nat) : Int) := by
 have key : ∀ y : Fin 256, bits .andNot .u8 ((y.val : Nat) : Int) 7 = ((y.val / 8 * 8 : Nat) : Int) := by decide +kernel
 exact key ⟨x, h⟩
theorem or64 (x : Nat) (h : x < 128) : bits .or .u8 (x : Int) 64 = ((x % 64 + 64 : Nat) : Int) := by
 have key : ∀ y : Fin 128, bits .or .u8 ((y.val : Nat) : Int) 64 = ((y.val % 64 + 64 : Nat) : Int) := by decide +kernel
 exact key ⟨x, h⟩
theorem cv_of (n : Nat) (h : n < 256) : Value.int .u8 (n : Int) = cv (UInt8.ofNat n) := by
 show _ = Value.int .u8 (C8 _)
 unfold C8; rw [UInt8.toNat_ofNat', Nat.mod_eq_of_lt h]
section
set_option maxRecDepth 100000 in
set_option maxHeartbeats 1000000 in
theorem seedNumA (l : List UInt8) (hl : l.length = 32) (w : World) :
  Calls Tryz.prog 56 #[.agg (l.map cv).toArray] w fun e w' => e = .returned (.agg (num4A (valLE (sdL l)))) ∧ Below w.heap.size w w' := by
 have hz := zero4N
 have HL := hide hl
 clear hl
 obtain ⟨M, HM⟩ : ∃ M, Hid (M = (l.map cv).toArray) := ⟨_, hide rfl⟩
 rw [← HM.out]
 obtain ⟨c, Ec⟩ : ∃ c, Hid (c = l.getD 0 0) := ⟨_, hide rfl⟩
 obtain ⟨d, Ed⟩ : ∃ c, Hid (c = l.getD 31 0) := ⟨_, hide rfl⟩
 go_enter Tryz.func56, Tryz.ntmps56
 go_upto_region 1 with fail
 generalize hW0 : World.alloc _ _ = W0
 have R1 : Hid (W0.heap[w.heap.size]? = some (.cells (l.map cv).toArray 61 (0, 0))) := by rw [← hW0, ← HM.out]; exact (heap_alloc_old _ _ (by simp)).trans (heap_alloc_new _ _)
 have RZ : Hid (W0.heap[w.heap.size + 1]? = some (.cells (num4A 0) 60 (0, 0))) := by rw [← hW0]; exact heap_alloc2_new _ _ _
 have BL : Hid (Below w.heap.size w W0) := by rw [← hW0]; show Below _ _ _; go_grown
 clear hW0
 have c0 : W0.cell? ⟨w.heap.size, 0, none⟩ = some (.int .u8 (C8 c)) := by
  rw [cell_of_row W0 _ 0 _ _ _ R1.out, List.getElem?_toArray, List.getElem?_map, List.getElem?_eq_getElem (by rw [HL.out]; decide)]
  rw [Ec.out]; simp [List.getD, HL.out]
 have f0 := frozen_of_row W0 w.heap.size 0 _ _ R1.out
 obtain ⟨v0, E0⟩ : ∃ v : Int, Hid (v = ((c.toNat / 8 * 8 : Nat) : Int)) := ⟨_, hide rfl⟩
 have a7 : bits .andNot .u8 (C8 c) 7 = v0 := by rw [E0.out]; exact andN7 c.toNat c.toNat_lt
 have ev0 : Hid (Value.int .u8 v0 = cv (sd0 c)) := by show _ = _; rw [E0.out]; exact cv_of _ (by have := c.toNat_lt; omega)
 go_upto_region 2 with fail
 generalize hW1 : World.setCell _ _ _ = W1
 have R1' : Hid (W1.heap[w.heap.size]? = some (.cells ((l.set 0 (sd0 c)).map cv).toArray 61 (0, 0))) := by
  rw [← hW1, ev0.out]
  have e := row_store R1.out 0 (cv (sd0 c))
  rw [← List.map_set] at e
  exact e
 have RZ' : Hid (W1.heap[w.heap.size + 1]? = some (.cells (num4A 0) 60 (0, 0))) := by rw [← hW1]; exact (Below.heap_setCell _ _ _ _ (by simp)).trans RZ.out
 have BL' : Hid (Below w.heap.size w W1) := by rw [← hW1]; exact BL.out.setCell (by show _ ≤ _; simp) _
 clear hW1 R1 RZ BL c0 f0 a7 ev0 E0
 have c1 : W1.cell? ⟨w.heap.size, 31, none⟩ = some (.int .u8 (C8 d)) := by
  rw [cell_of_row W1 _ 31 _ _ _ R1'.out, List.getElem?_toArray, List.getElem?_map, List.getElem?_set_ne (by decide), List.getElem?_eq_getElem (by rw [HL.out]; decide)]
  rw [Ed.out]; simp [List.getD, HL.out]
 have f1 := frozen_of_row W1 w.heap.size 31 _ _ R1'.out
 obtain ⟨v1, E1⟩ : ∃ v : Int, Hid (v = ((d.toNat % 128 : Nat) : Int)) := ⟨_, hide rfl⟩
 have a8 : bits .andNot .u8 (C8 d) 128 = v1 := by rw [E1.out]; exact andNot128 d.toNat d.toNat_lt
 have ev1 : Hid (Value.int .u8 v1 = cv (UInt8.ofNat (d.toNat % 128))) := by show _ = _; rw [E1.out]; exact cv_of _ (by omega)
 go_upto_region 3 with fail
 generalize hW2 : World.setCell _ _ _ = W2
 have R2 : Hid (W2.heap[w.heap.size]? = some (.cells (((l.set 0 (sd0 c)).set 31 (UInt8.ofNat (d.toNat % 128))).map cv).toArray 61 (0, 0))) := by
  rw [← hW2, ev1.out]
  have e := row_store R1'.out 31 (cv (UInt8.ofNat (d.toNat % 128)))
  rw [← List.map_set] at e
  exact e
 have RZ2 : Hid (W2.heap[w.heap.size + 1]? = some (.cells (num4A 0) 60 (0, 0))) := by rw [← hW2]; exact (Below.heap_setCell _ _ _ _ (by simp)).trans RZ'.out
 have BL2 : Hid (Below w.heap.size w W2) := by rw [← hW2]; exact BL'.out.setCell (by show _ ≤ _; simp) _
 clear hW2 R1' RZ' BL' c1 f1 a8
 have c2 : W2.cell? ⟨w.heap.size, 31, none⟩ = some (.int .u8 v1) := by
  rw [cell_of_row W2 _ 31 _ _ _ R2.out, List.getElem?_toArray, List.getElem?_map, List.getElem?_set_self (by rw [List.length_set, HL.out]; decide), ev1.out]; rfl
 have f2 := frozen_of_row W2 w.heap.size 31 _ _ R2.out
 obtain ⟨v2, E2⟩ : ∃ v : Int, Hid (v = ((d.toNat % 64 + 64 : Nat) : Int)) := ⟨_, hide rfl⟩
 have a9 : bits .or .u8 v1 64 = v2 := by
  rw [E1.out, E2.out, or64 _ (Nat.mod_lt _ (by decide))]
  congr 1; omega
 have ev2 : Hid (Value.int .u8 v2 = cv (sd31 d)) := by show _ = _; rw [E2.out]; exact cv_of _ (by omega)
 go_upto_region 4 with fail
 generalize hW3 : World.setCell _ _ _ = W3
 have R3 : Hid (W3.heap[w.heap.size]? = some (.cells ((sdL l).map cv).toArray 61 (0, 0))) := by
  rw [← hW3, ev2.out]
  have e := row_store R2.out 31 (cv (sd31 d))
  rw [← List.map_set, List.set_set] at e
  unfold sdL
  rw [← Ec.out, ← Ed.out]
  exact e
 have RZ3 : Hid (W3.heap[w.heap.size + 1]? = some (.cells (num4A 0) 60 (0, 0))) := by rw [← hW3]; exact (Below.heap_setCell _ _ _ _ (by simp)).trans RZ2.out
 have BL3 : Hid (Below w.heap.size w W3) := by rw [← hW3]; exact BL2.out.setCell (by show _ ≤ _; simp) _
 clear hW3 R2 RZ2 BL2 c2 f2 a9
 have hls : (sdL l).length = 32 := by unfold sdL; rw [List.length_set, List.length_set]; exact HL.out
 obtain ⟨A, HA⟩ : ∃ A, Hid (A = ((sdL l).map cv).toArray) := ⟨_, hide rfl⟩
 rw [← HA.out] at R3
 have HSz : Hid ((Tryz.prog.info? 61).map (·.size) = some A.size) := by show _ = _; rw [HA.out, size32]; simp [hls]
 go_wp2_with (first
  | (refine wpList_load_row (by rfl) 61 (.tmp 1) (by rfl) w.heap.size (by rfl) 61 A (0, 0) _ R3.out under32 rfl HSz.out ?_))
 refine (ofBytes_list (sdL l) hls A HA.out W3).mono ?_
 rintro e W4 ⟨rfl, hB⟩
 have RZ4 := hide (row_keep' RZ3.out hB)
 have BL4 := kTr BL3 hB
 clear hB R3 RZ3 BL3
 obtain ⟨N, HN⟩ : ∃ n, Hid (n = valLE (sdL l)) := ⟨_, hide rfl⟩
 rw [← HN.out]
 go_wp2_with (first | (refine wpList_store_row (by rfl) 60 (.tmp 2) (.tmp 16) (by rfl) (w.heap.size + 1) (num4A N) (by rfl) (by rfl) 60 _ RZ4.out (size4N _) (n4_old _ _) (num4A_all _) ?_))
 refine bodyPost_ret (v := .agg (num4A N)) (results_cell_row Tryz.results56 _ _ (w.heap.size + 1) 60 _ (0, 0) _ (by rfl) (setRow_heap _ _ _ _ _ _ RZ4.out) under4 rfl (size4N _)) rfl ⟨by rw [HN.out], below_setRow BL4.out (by omega) _⟩
end
theorem bytesOfH_eq (s : ByteArray) : bytesOfH s = bytesOf s := rfl
def allB (L : List ByteArray) : List UInt8 := L.flatMap bytesOf
theorem allB_take (L : List ByteArray) (k : Nat) (h : k < L.length) : allB (L.take (k + 1)) = allB (L.take k) ++ bytesOf L[k] := by
 unfold allB
 rw [List.take_succ_eq_append_getElem h, List.flatMap_append]; simp
section
attribute [local irreducible] num4A
set_option maxRecDepth 100000 in
set_option maxHeartbeats 2000000 in
theorem hashedA (L : List ByteArray) (q : Nat) (w : World) (hK : Tab w) (hO : OrdAt w) (hL : ∀ k (h : k < L.length), w.cell? ⟨q, k, none⟩ = some (.string L[k])) (hq : q < w.heap.size) (hm : ∀ k (h : k < L.length), L[k].size ≤ maxLen) (hn : L.length ≤ 100) :
  Calls Tryz.prog 70 #[.slice (some ⟨q, 0, none⟩) L.length L.length] w fun e w' => e = .returned (.agg (num4A (valLE (hashOf (allB L)) % Lord))) ∧ Below w.heap.size w w' := by
 have hz := zero4W
 have hzH := zeroH
 have HK := hide hK
 have HO := hide hO
 have HL := hide hL
 have HM := hide hm
 clear hK hO hL hm
 go_enter Tryz.func70, Tryz.ntmps70
 go_upto_region 1 with fail
 obtain ⟨W0, hW0⟩ : ∃ W, W = w.alloc (.cells (num4A 0) 60) := ⟨_, rfl⟩
 have RZ : Hid (W0.heap[w.heap.size]? = some (.cells (num4A 0) 60 (0, 0))) := by rw [hW0]; exact heap_alloc_new _ _
 have BL : Hid (Below w.heap.size w W0) := by rw [hW0]; exact (Below.refl _ _).alloc (Nat.le_refl _) _
 rw [← hW0]
 clear hW0
 go_wp2_with fail
 refine (new_any _).mono ?_
 rintro e W1 ⟨rfl, hB⟩
 have RZ := hide (row_keep' RZ.out hB)
 have BL := kTr BL hB
 clear hB
 go_upto_region 2 with (first
  | (refine wpList_store_row (by rfl) 166 (.tmp 3) (.tmp 6) (by rfl) W1.heap.size r0 (by rfl) (by rfl) 166 _ (heap_alloc_new _ _) r0_size r0_zH r0_cell ?_))
 try rw [put_none']
 obtain ⟨b, hb⟩ : ∃ s, s = W1.heap.size := ⟨_, rfl⟩
 generalize hW2 : World.setRow _ _ _ = W2
 have hb1 : w.heap.size < b := by rw [hb]; exact lt_row RZ.out
 have HA : Hid (Has W2 b 166 H0) := ⟨by rw [← hW2, hb]; exact setRow_heap _ _ _ _ _ _ (heap_alloc_new _ _), H0_len⟩
 have RZ : Hid (W2.heap[w.heap.size]? = some (.cells (num4A 0) 60 (0, 0))) := by rw [← hW2]; exact (setRow_other _ _ _ _ (by omega)).trans ((heap_alloc_old _ _ (lt_row RZ.out)).trans RZ.out)
 have BL : Hid (Below w.heap.size w W2) := by rw [← hW2]; exact below_setRow (BL.out.alloc BL.out.size _) BL.out.size _
 rw [← hb]
 clear hW2 hb
 go_wp2_with fail
 go_loopw [9] (fun i wr => ∃ k : Nat, k ≤ L.length ∧ i = .int .i64 k ∧ Hid (Has wr b 166 (H0.puts (allB (L.take k)))) ∧ Hid (wr.heap[w.heap.size]? = some (.cells (num4A 0) 60 (0, 0))) ∧ Hid (Below w.heap.size w wr)) (fun i _ => L.length - (intOf i).toNat)
 case atStart => exact ⟨0, Nat.zero_le _, rfl, HA, RZ, BL⟩
 case round =>
  clear HA RZ BL
  obtain ⟨k, hk, rfl, HA, RZ, BL⟩ := hrel
  by_cases hlt : k < L.length
  ·
   have bk : (k : Int) < (L.length : Int) := by omega
   have ck := (BL.out.cell (show (⟨q, k, none⟩ : Addr).block < w.heap.size from hq)).trans (HL.out k hlt)
   obtain ⟨s, Es⟩ : ∃ s, Hid (s = L[k]) := ⟨_, hide rfl⟩
   rw [← Es.out] at ck
   have hs : s.size ≤ maxLen := by rw [Es.out]; exact HM.out k hlt
   go_wp2_with fail
   refine (write_any b 166 _ s _ HA.out (HK.out.below BL.out HK.out.lt) (by have := HK.out.lt; omega) hs).mono ?_
   rintro e W3 ⟨rfl, hA3, hT3⟩
   have HA3 : Hid (Has W3 b 166 (H0.puts (allB (L.take (k + 1))))) := by
    show Has _ _ _ _
    rw [allB_take L k hlt, HS.puts_append, ← Es.out]; exact hA3
   have RZ3 : Hid (W3.heap[w.heap.size]? = some (.cells (num4A 0) 60 (0, 0))) := (hT3.block _ (lt_row RZ.out) (by omega)).trans RZ.out
   have BL3 : Hid (Below w.heap.size w W3) := BL.out.trans (hT3.below (by omega) BL.out.size)
   clear hA3 hT3 HA RZ BL ck
   go_wp2_with fail
   exact ⟨⟨k + 1, by omega, by go_num, HA3, RZ3, BL3⟩, by simp [intOf]; omega⟩
  ·
   obtain rfl : k = L.length := by omega
   have HA2 : Hid (Has wr b 166 (H0.puts (allB L))) := by have e := HA.out; rw [List.take_length] at e; exact e
   clear HA
   go_wp2_with fail
   refine (sum_any b 166 _ _ HA2.out (HK.out.below BL.out HK.out.lt)).mono ?_
   rintro e W3 ⟨rfl, hB⟩
   have RZ := hide (row_keep' RZ.out hB)
   have BL3 := kTr BL hB
   clear hB BL
   obtain ⟨M, EM⟩ : ∃ M, Hid (M = (hashOf (allB L)).map cv) := ⟨_, hide rfl⟩
   rw [show (H0.puts (allB L)).sum.map cv = M from EM.out.symm]
   go_wp2_with fail
   refine (reduce_list (hashOf (allB L)) (hashOf_length _) M EM.out _ (HO.out.below BL3.out HO.out.lt)).mono ?_
   rintro e W4 ⟨rfl, hB⟩
   have RZ := hide (row_keep' RZ.out hB)
   have BL4 := kTr BL3 hB
   clear hB BL3
   obtain ⟨N, HN⟩ : ∃ n, Hid (n = valLE (hashOf (allB L)) % Lord) := ⟨_, hide rfl⟩
   rw [← HN.out]
   go_wp2_with (first | (refine wpList_store_row (by rfl) 60 (.tmp 2) (.tmp 17) (by rfl) w.heap.size (num4A N) (by rfl) (by rfl) 60 _ RZ.out (size4W _) (n4W _ _) (num4A_all _) ?_))
   refine bodyPost_ret (v := .agg (num4A N)) (results_cell_row Tryz.results70 _ _ w.heap.size 60 _ (0, 0) _ (by rfl) (setRow_heap _ _ _ _ _ _ RZ.out) under4 rfl (size4W _)) rfl ⟨by rw [HN.out], below_setRow BL4.out (by omega) _⟩
end
theorem convR (w : World) (q o : Nat) (l : List UInt8) (hl : l.length = 32) (h : w.rangeAt q o (l.map cv)) :
  (convert 89 9 (.slice (some ⟨q, o, none⟩) 32 32)).run Tryz.prog w = .ok (.string (strOf l)) w := by
 have e := run_convert_bytes_back (P := Tryz.prog) w 89 9 5 ⟨q, o, none⟩ 32 l underSl8 underU8 underStr (fun i hi => by
  rw [Addr.add_mid]
  exact h i _ (by simp [hi, C8]))
 rw [hl] at e
 exact e
theorem hrunConv {a : Act} {o : Oper} (x : Operand) (ho : o.op = .convert 89 9 x) (q i n : Nat) (hx : a.eval x = .slice (some ⟨q, i, none⟩) 32 32) (w : World) (h : w.rangeAt q i (bL n)) :
  (execOp a.eval o).run Tryz.prog w = .ok (.value (.string (strOf (leB n 32)))) w := by
 have e := convR w q i (leB n 32) (leB_length _ _) h
 unfold execOp
 simp only [ho, hx]
 go_simp
theorem build3 (s t u : ByteArray) (w : World) : (Instr.buildSlice 38 3 #[(0, .string s), (1, .string t), (2, .string u)]).run Tryz.prog w = .ok (.slice (some ⟨w.heap.size, 0, none⟩) 3 3) (w.alloc (.cells #[.string s, .string t, .string u] 9)) := by kernel_rfl
theorem build2 (s t : ByteArray) (w : World) : (Instr.buildSlice 38 2 #[(0, .string s), (1, .string t)]).run Tryz.prog w = .ok (.slice (some ⟨w.heap.size, 0, none⟩) 2 2) (w.alloc (.cells #[.string s, .string t] 9)) := by kernel_rfl
theorem hrunBuild3 {a : Act} {o : Oper} (x y z : Operand) (ho : o.op = .buildSlice 38 3 #[(0, x), (1, y), (2, z)]) (s t u : ByteArray) (hx : a.eval x = .string s) (hy : a.eval y = .string t) (hz : a.eval z = .string u) (w : World) :
  (execOp a.eval o).run Tryz.prog w = .ok (.value (.slice (some ⟨w.heap.size, 0, none⟩) 3 3)) (w.alloc (.cells #[.string s, .string t, .string u] 9)) := by
 have e := build3 s t u
 unfold execOp
 simp only [ho, hx, hy, hz, List.map_toArray, List.map_cons, List.map_nil]
 go_simp
theorem hrunHashed {a : Act} {o : Oper} (x : Operand) (ho : o.op = .call { callee := .value (.func 70), args := #[x], argTypes := #[38] }) (v1 : Value) (hx : a.eval x = v1) (w : World) :
  (execOp a.eval o).run Tryz.prog w = .ok (.enter 70 #[v1]) w := by
 unfold execOp
 simp only [ho]
 subst hx
 go_simp
theorem hashed3 (s t u : ByteArray) (q N : Nat) (hN : N = valLE (hashOf (bytesOf s ++ (bytesOf t ++ bytesOf u))) % Lord) (w : World) (hK : Tab w) (hO : OrdAt w) (hq : w.heap[q]? = some (.cells #[.string s, .string t, .string u] 9 (0, 0))) (hs : s.size ≤ maxLen) (ht : t.size ≤ maxLen) (hu : u.size ≤ maxLen) :
  Calls Tryz.prog 70 #[.slice (some ⟨q, 0, none⟩) 3 3] w fun e w' => e = .returned (.agg (num4A N)) ∧ Below w.heap.size w w' := by
 have h := hashedA [s, t, u] q w hK hO (fun k hk => by
  rw [cell_of_row w q k _ _ _ hq]
  have h3 : k = 0 ∨ k = 1 ∨ k = 2 := by simp at hk; omega
  rcases h3 with rfl | rfl | rfl <;> rfl) (lt_row hq) (fun k hk => by
  have h3 : k = 0 ∨ k = 1 ∨ k = 2 := by simp at hk; omega
  rcases h3 with rfl | rfl | rfl
  · exact hs
  · exact ht
  · exact hu) (by simp)
 have e : allB [s, t, u] = bytesOf s ++ (bytesOf t ++ bytesOf u) := by simp [allB]
 rw [e, ← hN] at h
 exact h
theorem hashed2 (s t : ByteArray) (q N : Nat) (hN : N = valLE (hashOf (bytesOf s ++ bytesOf t)) % Lord) (w : World) (hK : Tab w) (hO : OrdAt w) (hq : w.heap[q]? = some (.cells #[.string s, .string t] 9 (0, 0))) (hs : s.size ≤ maxLen) (ht : t.size ≤ maxLen) :
  Calls Tryz.prog 70 #[.slice (some ⟨q, 0, none⟩) 2 2] w fun e w' => e = .returned (.agg (num4A N)) ∧ Below w.heap.size w w' := by
 have h := hashedA [s, t] q w hK hO (fun k hk => by
  rw [cell_of_row w q k _ _ _ hq]
  have h3 : k = 0 ∨ k = 1 := by simp at hk; omega
  rcases h3 with rfl | rfl <;> rfl) (lt_row hq) (fun k hk => by
  have h3 : k = 0 ∨ k = 1 := by simp at hk; omega
  rcases h3 with rfl | rfl
  · exact hs
  · exact ht) (by simp)
 have e : allB [s, t] = bytesOf s ++ bytesOf t := by simp [allB]
 rw [e, ← hN] at h
 exact h
theorem strOf_size (l : List UInt8) : (strOf l).size = l.length := by unfold strOf; rfl
section
attribute [local irreducible] num4A nL bA bL
set_option maxRecDepth 100000 in
set_option maxHeartbeats 4000000 in
theorem challengeA (r k : Nat) (m : ByteArray) (hm : m.size ≤ maxLen) (w : World) (hK : Tab w) (hO : OrdAt w) :
  Calls Tryz.prog 71 #[.agg (bA r), .agg (bA k), .string m] w fun e w' => e = .returned (.agg (num4A (valLE (hashOf (leB r 32 ++ (leB k 32 ++ bytesOf m))) % Lord))) ∧ Below w.heap.size w w' := by
 have hz := zero4W
 have hsl := sliceCode_all
 have HK := hide hK
 have HO := hide hO
 have Hm := hide hm
 have S32a : Hid ((strOf (leB r 32)).size ≤ maxLen) := by show _ ≤ _; rw [strOf_size, leB_length]; decide
 have S32b : Hid ((strOf (leB k 32)).size ≤ maxLen) := by show _ ≤ _; rw [strOf_size, leB_length]; decide
 obtain ⟨N, HN⟩ : ∃ N, Hid (N = valLE (hashOf (bytesOf (strOf (leB r 32)) ++ (bytesOf (strOf (leB k 32)) ++ bytesOf m))) % Lord) := ⟨_, hide rfl⟩
 have HN' : N = valLE (hashOf (leB r 32 ++ (leB k 32 ++ bytesOf m))) % Lord := by rw [HN.out, bytesOf_strOf, bytesOf_strOf]
 rw [← HN']
 clear hK hO hm HN'
 go_enter Tryz.func71, Tryz.ntmps71
 go_upto_region 1 with fail
 generalize hW0 : World.alloc _ _ = W0
 have R3 : Hid (W0.heap[w.heap.size]? = some (.cells (bA r) 62 (0, 0))) := by rw [← hW0]; exact heap3_0 _ _ _ _
 have R4 : Hid (W0.heap[w.heap.size + 1]? = some (.cells (bA k) 62 (0, 0))) := by rw [← hW0]; exact heap3_1 _ _ _ _
 have Z6 : Hid (W0.heap[w.heap.size + 2]? = some (.cells (num4A 0) 60 (0, 0))) := by rw [← hW0]; exact heap3_2 _ _ _ _
 have B0 : Hid (Below w.heap.size w W0) := by rw [← hW0]; show Below _ _ _; go_grown
 have HK := hide (HK.out.below B0.out HK.out.lt)
 have HO := hide (HO.out.below B0.out HO.out.lt)
 clear hW0
 refine wp_region_held_drew (S := fun w' => w'.rangeAt w.heap.size 0 (bL r) ∧ w'.rangeAt (w.heap.size + 1) 0 (bL k)) (by kernel_rfl) ⟨rangeB R3.out, rangeB R4.out⟩ (fun hHeld => ?_)
 have KV1 : Hid (Below W0.heap.size W0 W0.drew) := (Below.refl _ _).drew
 obtain ⟨V1, hV1⟩ : ∃ V, V = W0.drew := ⟨_, rfl⟩
 rw [← hV1] at hHeld KV1 ⊢
 clear hV1
 refine wpAnyH_take (i := 0) (oi := ⟨some 7, .slice 62 (.tmp 3) none none none, 89, "secret.go:64", #[], none⟩) (v := .slice (some ⟨w.heap.size, 0, none⟩) 32 32) rfl (by kernel_rfl) (by kernel_rfl) (by kernel_rfl) (fun _ _ _ h => h) (Or.inl ⟨by rfl, fun w _ => by go_simp⟩) hHeld ?_
 simp only [zaP, zsT, zsZ, zsS]
 refine wpAnyH_take (i := 1) (oi := ⟨some 8, .convert 89 9 (.tmp 7), 9, "secret.go:64", #[zeD 0], none⟩) (v := .string (strOf (leB r 32))) rfl (by kernel_rfl) (by kernel_rfl) (by kernel_rfl) (fun _ _ _ h => h) (Or.inl ⟨by rfl, fun v h => hrunConv _ rfl (w.heap.size) 0 r rfl v h.1⟩) hHeld ?_
 simp only [zaP, zsT, zsZ, zsS]
 refine wpAnyH_take (i := 2) (oi := ⟨some 9, .slice 62 (.tmp 4) none none none, 89, "secret.go:64", #[], none⟩) (v := .slice (some ⟨w.heap.size + 1, 0, none⟩) 32 32) rfl (by kernel_rfl) (by kernel_rfl) (by kernel_rfl) (fun _ _ _ h => h) (Or.inl ⟨by rfl, fun w _ => by go_simp⟩) hHeld ?_
 simp only [zaP, zsT, zsZ, zsS]
 refine wpAnyH_take (i := 3) (oi := ⟨some 10, .convert 89 9 (.tmp 9), 9, "secret.go:64", #[zeD 2], none⟩) (v := .string (strOf (leB k 32))) rfl (by kernel_rfl) (by kernel_rfl) (by kernel_rfl) (fun _ _ _ h => h) (Or.inl ⟨by rfl, fun v h => hrunConv _ rfl (w.heap.size + 1) 0 k rfl v h.2⟩) hHeld ?_
 simp only [zaP, zsT, zsZ, zsS]
 refine wpAnyH_take (i := 4) (oi := ⟨some 11, .move (.tmp 2), 9, "secret.go:64", #[], none⟩) (v := .string m) rfl (by kernel_rfl) (by kernel_rfl) (by kernel_rfl) (fun _ _ _ h => h) (Or.inl ⟨by rfl, fun w _ => by go_simp⟩) hHeld ?_
 simp only [zaP, zsT, zsZ, zsS]
 refine wpAnyH_ready (rs := [5]) (by kernel_rfl) (by simp) ?_
 refine AllReadyH.cons (o := ⟨some 12, .buildSlice 38 3 #[(0, .tmp 8), (1, .tmp 10), (2, .tmp 11)], 38, "secret.go:64", #[zeD 1, zeD 3, zeD 4], none⟩) rfl (fun K hK => ?_) ?_
 ·
  refine step_runTo (w' := V1.alloc (.cells (#[.string (strOf (leB r 32)), .string (strOf (leB k 32)), .string m]) 9)) (by rfl) (.slice (some ⟨V1.heap.size, 0, none⟩) 3 3) (hrunBuild3 _ _ _ rfl (strOf (leB r 32)) (strOf (leB k 32)) m rfl rfl rfl V1) ?_
  obtain ⟨b12, hb12⟩ : ∃ g, g = V1.heap.size := ⟨_, rfl⟩
  have Z12 : Hid ((V1.alloc (.cells (#[.string (strOf (leB r 32)), .string (strOf (leB k 32)), .string m]) 9)).heap[b12]? = some (.cells (#[.string (strOf (leB r 32)), .string (strOf (leB k 32)), .string m]) 9 (0, 0))) := by rw [hb12]; exact heap_alloc_new _ _
  have KV2 : Hid (Below W0.heap.size W0 (V1.alloc (.cells (#[.string (strOf (leB r 32)), .string (strOf (leB k 32)), .string m]) 9))) := KV1.out.alloc KV1.out.size _
  have GG12 : Hid (W0.heap.size ≤ b12) := by rw [hb12]; exact KV1.out.size
  rw [← hb12]
  obtain ⟨V2, hV2⟩ : ∃ V, V = V1.alloc (.cells (#[.string (strOf (leB r 32)), .string (strOf (leB k 32)), .string m]) 9) := ⟨_, rfl⟩
  rw [← hV2] at Z12 KV2 ⊢
  clear hV2 hb12
  refine hK.out _ _ ?_ (fun hHeld => ?_)
  · exact ⟨range_below (rangeB R3.out) KV2.out (lt_row R3.out), range_below (rangeB R4.out) KV2.out (lt_row R4.out)⟩
  clear hK K
  try simp only [zaP, zsT, zsZ, zsS]
  refine wpAnyH_ready (rs := [6]) (by kernel_rfl) (by simp) ?_
  refine AllReadyH.cons (o := ⟨some 13, .call ⟨.value (.func 70), #[.tmp 12], #[38]⟩, 60, "secret.go:64", #[zeD 5], none⟩) rfl (fun K hK => ?_) ?_
  ·
   refine step_callTo (by rfl) _ _ (hrunHashed _ rfl (.slice (some ⟨b12, 0, none⟩) 3 3) rfl V2) _ _ (hashed3 (strOf (leB r 32)) (strOf (leB k 32)) m b12 N HN.out V2 (HK.out.below KV2.out HK.out.lt) (HO.out.below KV2.out HO.out.lt) Z12.out S32a.out S32b.out Hm.out) (fun V3 HBx => ?_)
   have KV3 := kTr KV2 HBx
   have Z12 := hide (row_keep' Z12.out HBx)
   clear HBx
   refine hK.out _ _ ?_ (fun hHeld => ?_)
   · exact ⟨range_below (rangeB R3.out) KV3.out (lt_row R3.out), range_below (rangeB R4.out) KV3.out (lt_row R4.out)⟩
   clear hK K
   try simp only [zaP, zsT, zsZ, zsS]
   refine wpAnyH_ready (rs := [7]) (by kernel_rfl) (by simp) ?_
   refine AllReadyH.cons (o := ⟨none, .store 60 (.tmp 6) (.tmp 13), 0, "secret.go:64", #[zeD 6, zeC 6, zeP 0, zeP 1, zeP 2, zeP 3, zeP 4, zeP 5, zeP 6], none⟩) rfl (fun K hK => ?_) ?_
   ·
    have Z6 := hide (row_below Z6.out KV3.out (lt_row Z6.out))
    refine step_store_row _ (by rfl) 60 (.tmp 6) (.tmp 13) (by rfl) ((w.heap.size + 2)) (num4A N) (by rfl) (by rfl) 60 _ Z6.out (size4W _) (n4W _ _) (num4A_all _) ?_
    rw [put_none']
    obtain ⟨V4, hV4⟩ : ∃ V, V = World.setRow V3 (w.heap.size + 2) (num4A N) := ⟨_, rfl⟩
    have Z6 : Hid (V4.heap[(w.heap.size + 2)]? = some (.cells (num4A N) 60 (0, 0))) := by rw [hV4]; exact setRow_heap _ _ _ _ _ _ Z6.out
    have KV4 : Hid (Below w.heap.size w V4) := by rw [hV4]; exact below_setRow (B0.out.trans (KV3.out.mono B0.out.size)) (by omega) _
    have SS : Hid _ := hide ((⟨range_set (range_below (rangeB R3.out) KV3.out (lt_row R3.out)) (by omega), range_set (range_below (rangeB R4.out) KV3.out (lt_row R4.out)) (by omega)⟩ : (World.setRow _ (w.heap.size + 2) (num4A N)).rangeAt w.heap.size 0 (bL r) ∧ (World.setRow _ (w.heap.size + 2) (num4A N)).rangeAt (w.heap.size + 1) 0 (bL k)))
    rw [← hV4] at SS
    rw [← hV4]
    clear hV4
    refine hK.out _ _ ?_ (fun hHeld => ?_)
    · exact SS.out
    clear hK K
    try simp only [zaP, zsT, zsZ, zsS]
    refine wpAnyH_done (by kernel_rfl) ?_ _
    go_wp2_with fail
    refine bodyPost_ret (v := .agg (num4A N)) (results_cell_row Tryz.results71 _ _ (w.heap.size + 2) 60 _ (0, 0) _ (by rfl) Z6.out under4 rfl (size4W _)) rfl ⟨by rw [HN.out], KV4.out⟩
   exact AllReadyH.nil
  exact AllReadyH.nil
 exact AllReadyH.nil
end
theorem bT_bs : strOf bT = bs 31 := rfl
section
attribute [local irreducible] lAddS lAddE bT padB
set_option maxRecDepth 100000 in
set_option maxHeartbeats 1000000 in
theorem awakeK (w : World) (hG : GlB w) : Calls Tryz.prog 15 #[] w fun e w' => e = .returned (.bool true) ∧ Below w.heap.size w w' := by
 have HG := hide hG
 clear hG
 go_enter Tryz.func15, Tryz.ntmps15
 go_wp2_with fail
 refine (baseK _).mono ?_
 rintro e W1 ⟨rfl, hB1⟩
 have HB := hide hB1
 clear hB1
 obtain ⟨B, EB⟩ : ∃ B, Hid (B = strOf bT) := ⟨_, hide rfl⟩
 rw [← EB.out]
 go_wp2_with fail
 refine (baseK _).mono ?_
 rintro e W2 ⟨rfl, hB2⟩
 have HB := kTr HB hB2
 clear hB2
 rw [← EB.out]
 go_wp2_with fail
 refine (latchAddA B B _ (HG.out.keep HB.out).gl).mono ?_
 rintro e W3 ⟨rfl, hB3⟩
 have HB := kTr HB hB3
 clear hB3
 obtain ⟨e1, e2⟩ := dbl_S
 rw [show B = bs 31 from EB.out.trans bT_bs, e1, e2]
 unfold dblT
 go_wp2
 go_returns
 exact ⟨rfl, HB.out⟩
end
end Go.Proofs.YtccgfabojbjmjaaGreatDoor
