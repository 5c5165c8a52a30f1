import Derived.Test.YtccgfabojbjmjaaGreatDoorSd46
import Derived.Test.YtccgfabojbjmjaaGreatDoorSd42
namespace Go.Proofs.YtccgfabojbjmjaaGreatDoor
open Go.RowKit
theorem ord_num : (#[nv 6346243789798364141, nv 1503914060200516822, nv 0, nv 1152921504606846976] : Array Value) = num4A Lord := by kernel_rfl
theorem size4N (n : Nat) : (Tryz.prog.info? 60).map (·.size) = some (num4A n).size := size4
theorem zero4N (w : World) : (zeroValue 60).run Tryz.prog w = .ok (.agg (num4A 0)) w := by kernel_rfl
theorem ltN_one (a b : Nat) : (V (ltN a b) == 1) = decide (a < b) := by
 unfold ltN V
 by_cases h : a < b
 · rw [if_pos h, decide_eq_true h]; rfl
 · rw [if_neg h, decide_eq_false h]; rfl
section
attribute [local irreducible] num4A
set_option maxRecDepth 100000 in
set_option maxHeartbeats 1000000 in
theorem isA (n : Nat) (hn : n < 115792089237316195423570985008687907853269984665640564039457584007913129639936) (w : World) (hO : OrdAt w) :
  Calls Tryz.prog 115 #[.agg (num4A n)] w fun e w' => e = .returned (.bool (decide (n < Lord))) ∧ Below w.heap.size w w' := by
 have hz := zero4N
 have HN := hide hn
 obtain ⟨TT, frr, ho⟩ := hO.row
 rw [ord_num] at ho
 have HO := hide ho
 have lO := lt_row ho
 have hlt := ltN_one n Lord
 clear hn hO ho
 go_enter Tryz.func115, Tryz.ntmps115
 go_upto_region 1 with fail
 generalize hW0 : World.alloc _ _ = W0
 have R1 : Hid (W0.heap[w.heap.size]? = some (.cells (num4A n) 60 (0, 0))) := by rw [← hW0]; exact heap_alloc_new _ _
 have RO : Hid (W0.heap[6]? = some (.cells (num4A Lord) TT frr)) := by rw [← hW0]; exact (heap_alloc_old _ _ lO).trans HO.out
 have BL : Hid (Below w.heap.size w W0) := by rw [← hW0]; show Below _ _ _; go_grown
 clear hW0
 go_wp2_with (first
  | (refine wpList_load_row (by rfl) 60 (.tmp 1) (by rfl) w.heap.size (by rfl) 60 (num4A n) (0, 0) _ R1.out under4 rfl (size4N _) ?_)
  | (refine wpList_load_row (by rfl) 60 (.global 6) (by rfl) 6 (by rfl) TT (num4A Lord) frr _ RO.out under4 rfl (size4N _) ?_))
 refine (subA n Lord HN.out (by decide) _).mono ?_
 rintro e W1 ⟨d, rfl, hB⟩
 have BL := kTr BL hB
 clear hB
 go_upto_region 2 with (first
  | (refine wpList_store_row (by rfl) 60 (.tmp 3) (.tmp 9) (by rfl) W1.heap.size (num4A d) (by rfl) (by rfl) 60 _ (heap_alloc_new _ _) (size4N _) (n4_old _ _) (num4A_all _) ?_))
 try rw [put_none']
 generalize hW2 : World.setRow _ _ _ = W2
 have BL2 : Hid (Below w.heap.size w W2) := by rw [← hW2]; exact below_setRow (BL.out.alloc BL.out.size _) BL.out.size _
 clear hW2
 go_wp2_with fail
 go_returns
 exact ⟨rfl, BL2.out⟩
end
def sd0 (c : UInt8) : UInt8 := UInt8.ofNat (c.toNat / 8 * 8)
def sd31 (c : UInt8) : UInt8 := UInt8.ofNat (c.toNat % 64 + 64)
def sdL (l : List UInt8) : List UInt8 := (l.set 0 (sd0 (l.getD 0 0))).set 31 (sd31 (l.getD 31 0))
theorem andN7 (x : Nat) (h : x < 256) : bits .andNot .u8 (x : Int) 7 = ((x / 8 * 8 : Nat) : Int) := by
 have key : ∀ y : Fin 256, bits .andNot .u8 ((y.val : Nat) : Int) 7 = ((y.val / 8 * 8 : Nat) : Int) := by decide +kernel
 exact key ⟨x, h⟩
theorem or64 (x : Nat) (h : x < 128) : bits .or .u8 (x : Int) 64 = ((x % 64 + 64 : Nat) : Int) := by
 have key : ∀ y : Fin 128, bits .or .u8 ((y.val : Nat) : Int) 64 = ((y.val % 64 + 64 : Nat) : Int) := by decide +kernel
 exact key ⟨x, h⟩
theorem cv_of (n : Nat) (h : n < 256) : Value.int .u8 (n : Int) = cv (UInt8.ofNat n) := by
 show _ = Value.int .u8 (C8 _)
 unfold C8; rw [UInt8.toNat_ofNat', Nat.mod_eq_of_lt h]
section
set_option maxRecDepth 100000 in
set_option maxHeartbeats 1000000 in
theorem seedNumA (l : List UInt8) (hl : l.length = 32) (w : World) :
  Calls Tryz.prog 56 #[.agg (l.map cv).toArray] w fun e w' => e = .returned (.agg (num4A (valLE (sdL l)))) ∧ Below w.heap.size w w' := by
 have hz := zero4N
 have HL := hide hl
 clear hl
 obtain ⟨M, HM⟩ : ∃ M, Hid (M = (l.map cv).toArray) := ⟨_, hide rfl⟩
 rw [← HM.out]
 obtain ⟨c, Ec⟩ : ∃ c, Hid (c = l.getD 0 0) := ⟨_, hide rfl⟩
 obtain ⟨d, Ed⟩ : ∃ c, Hid (c = l.getD 31 0) := ⟨_, hide rfl⟩
 go_enter Tryz.func56, Tryz.ntmps56
 go_upto_region 1 with fail
 generalize hW0 : World.alloc _ _ = W0
 have R1 : Hid (W0.heap[w.heap.size]? = some (.cells (l.map cv).toArray 61 (0, 0))) := by rw [← hW0, ← HM.out]; exact (heap_alloc_old _ _ (by simp)).trans (heap_alloc_new _ _)
 have RZ : Hid (W0.heap[w.heap.size + 1]? = some (.cells (num4A 0) 60 (0, 0))) := by rw [← hW0]; exact heap_alloc2_new _ _ _
 have BL : Hid (Below w.heap.size w W0) := by rw [← hW0]; show Below _ _ _; go_grown
 clear hW0
 have c0 : W0.cell? ⟨w.heap.size, 0, none⟩ = some (.int .u8 (C8 c)) := by
  rw [cell_of_row W0 _ 0 _ _ _ R1.out, List.getElem?_toArray, List.getElem?_map, List.getElem?_eq_getElem (by rw [HL.out]; decide)]
  rw [Ec.out]; simp [List.getD, HL.out]
 have f0 := frozen_of_row W0 w.heap.size 0 _ _ R1.out
 obtain ⟨v0, E0⟩ : ∃ v : Int, Hid (v = ((c.toNat / 8 * 8 : Nat) : Int)) := ⟨_, hide rfl⟩
 have a7 : bits .andNot .u8 (C8 c) 7 = v0 := by rw [E0.out]; exact andN7 c.toNat c.toNat_lt
 have ev0 : Hid (Value.int .u8 v0 = cv (sd0 c)) := by show _ = _; rw [E0.out]; exact cv_of _ (by have := c.toNat_lt; omega)
 go_upto_region 2 with fail
 generalize hW1 : World.setCell _ _ _ = W1
 have R1' : Hid (W1.heap[w.heap.size]? = some (.cells ((l.set 0 (sd0 c)).map cv).toArray 61 (0, 0))) := by
  rw [← hW1, ev0.out]
  have e := row_store R1.out 0 (cv (sd0 c))
  rw [← List.map_set] at e
  exact e
 have RZ' : Hid (W1.heap[w.heap.size + 1]? = some (.cells (num4A 0) 60 (0, 0))) := by rw [← hW1]; exact (Below.heap_setCell _ _ _ _ (by simp)).trans RZ.out
 have BL' : Hid (Below w.heap.size w W1) := by rw [← hW1]; exact BL.out.setCell (by show _ ≤ _; simp) _
 clear hW1 R1 RZ BL c0 f0 a7 ev0 E0
 have c1 : W1.cell? ⟨w.heap.size, 31, none⟩ = some (.int .u8 (C8 d)) := by
  rw [cell_of_row W1 _ 31 _ _ _ R1'.out, List.getElem?_toArray, List.getElem?_map, List.getElem?_set_ne (by decide), List.getElem?_eq_getElem (by rw [HL.out]; decide)]
  rw [Ed.out]; simp [List.getD, HL.out]
 have f1 := frozen_of_row W1 w.heap.size 31 _ _ R1'.out
 obtain ⟨v1, E1⟩ : ∃ v : Int, Hid (v = ((d.toNat % 128 : Nat) : Int)) := ⟨_, hide rfl⟩
 have a8 : bits .andNot .u8 (C8 d) 128 = v1 := by rw [E1.out]; exact andNot128 d.toNat d.toNat_lt
 have ev1 : Hid (Value.int .u8 v1 = cv (UInt8.ofNat (d.toNat % 128))) := by show _ = _; rw [E1.out]; exact cv_of _ (by omega)
 go_upto_region 3 with fail
 generalize hW2 : World.setCell _ _ _ = W2
 have R2 : Hid (W2.heap[w.heap.size]? = some (.cells (((l.set 0 (sd0 c)).set 31 (UInt8.ofNat (d.toNat % 128))).map cv).toArray 61 (0, 0))) := by
  rw [← hW2, ev1.out]
  have e := row_store R1'.out 31 (cv (UInt8.ofNat (d.toNat % 128)))
  rw [← List.map_set] at e
  exact e
 have RZ2 : Hid (W2.heap[w.heap.size + 1]? = some (.cells (num4A 0) 60 (0, 0))) := by rw [← hW2]; exact (Below.heap_setCell _ _ _ _ (by simp)).trans RZ'.out
 have BL2 : Hid (Below w.heap.size w W2) := by rw [← hW2]; exact BL'.out.setCell (by show _ ≤ _; simp) _
 clear hW2 R1' RZ' BL' c1 f1 a8
 have c2 : W2.cell? ⟨w.heap.size, 31, none⟩ = some (.int .u8 v1) := by
  rw [cell_of_row W2 _ 31 _ _ _ R2.out, List.getElem?_toArray, List.getElem?_map, List.getElem?_set_self (by rw [List.length_set, HL.out]; decide), ev1.out]; rfl
 have f2 := frozen_of_row W2 w.heap.size 31 _ _ R2.out
 obtain ⟨v2, E2⟩ : ∃ v : Int, Hid (v = ((d.toNat % 64 + 64 : Nat) : Int)) := ⟨_, hide rfl⟩
 have a9 : bits .or .u8 v1 64 = v2 := by
  rw [E1.out, E2.out, or64 _ (Nat.mod_lt _ (by decide))]
  congr 1; omega
 have ev2 : Hid (Value.int .u8 v2 = cv (sd31 d)) := by show _ = _; rw [E2.out]; exact cv_of _ (by omega)
 go_upto_region 4 with fail
 generalize hW3 : World.setCell _ _ _ = W3
 have R3 : Hid (W3.heap[w.heap.size]? = some (.cells ((sdL l).map cv).toArray 61 (0, 0))) := by
  rw [← hW3, ev2.out]
  have e := row_store R2.out 31 (cv (sd31 d))
  rw [← List.map_set, List.set_set] at e
  unfold sdL
  rw [← Ec.out, ← Ed.out]
  exact e
 have RZ3 : Hid (W3.heap[w.heap.size + 1]? = some (.cells (num4A 0) 60 (0, 0))) := by rw [← hW3]; exact (Below.heap_setCell _ _ _ _ (by simp)).trans RZ2.out
 have BL3 : Hid (Below w.heap.size w W3) := by rw [← hW3]; exact BL2.out.setCell (by show _ ≤ _; simp) _
 clear hW3 R2 RZ2 BL2 c2 f2 a9
 have hls : (sdL l).length = 32 := by unfold sdL; rw [List.length_set, List.length_set]; exact HL.out
 obtain ⟨A, HA⟩ : ∃ A, Hid (A = ((sdL l).map cv).toArray) := ⟨_, hide rfl⟩
 rw [← HA.out] at R3
 have HSz : Hid ((Tryz.prog.info? 61).map (·.size) = some A.size) := by show _ = _; rw [HA.out, size32]; simp [hls]
 go_wp2_with (first
  | (refine wpList_load_row (by rfl) 61 (.tmp 1) (by rfl) w.heap.size (by rfl) 61 A (0, 0) _ R3.out under32 rfl HSz.out ?_))
 refine (ofBytes_list (sdL l) hls A HA.out W3).mono ?_
 rintro e W4 ⟨rfl, hB⟩
 have RZ4 := hide (row_keep' RZ3.out hB)
 have BL4 := kTr BL3 hB
 clear hB R3 RZ3 BL3
 obtain ⟨N, HN⟩ : ∃ n, Hid (n = valLE (sdL l)) := ⟨_, hide rfl⟩
 rw [← HN.out]
 go_wp2_with (first | (refine wpList_store_row (by rfl) 60 (.tmp 2) (.tmp 16) (by rfl) (w.heap.size + 1) (num4A N) (by rfl) (by rfl) 60 _ RZ4.out (size4N _) (n4_old _ _) (num4A_all _) ?_))
 refine bodyPost_ret (v := .agg (num4A N)) (results_cell_row Tryz.results56 _ _ (w.heap.size + 1) 60 _ (0, 0) _ (by rfl) (setRow_heap _ _ _ _ _ _ RZ4.out) under4 rfl (size4N _)) rfl ⟨by rw [HN.out], below_setRow BL4.out (by omega) _⟩
end
theorem bytesOfH_eq (s : ByteArray) : bytesOfH s = bytesOf s := rfl
def allB (L : List ByteArray) : List UInt8 := L.flatMap bytesOf
theorem allB_take (L : List ByteArray) (k : Nat) (h : k < L.length) : allB (L.take (k + 1)) = allB (L.take k) ++ bytesOf L[k] := by
 unfold allB
 rw [List.take_succ_eq_append_getElem h, List.flatMap_append]; simp
section
attribute [local irreducible] num4A
set_option maxRecDepth 100000 in
set_option maxHeartbeats 2000000 in
theorem hashedA (L : List ByteArray) (q : Nat) (w : World) (hK : Tab w) (hO : OrdAt w) (hL : ∀ k (h : k < L.length), w.cell? ⟨q, k, none⟩ = some (.string L[k])) (hq : q < w.heap.size) (hm : ∀ k (h : k < L.length), L[k].size ≤ maxLen) (hn : L.length ≤ 100) :
  Calls Tryz.prog 70 #[.slice (some ⟨q, 0, none⟩) L.length L.length] w fun e w' => e = .returned (.agg (num4A (valLE (hashOf (allB L)) % Lord))) ∧ Below w.heap.size w w' := by
 have hz := zero4W
 have hzH := zeroH
 have HK := hide hK
 have HO := hide hO
 have HL := hide hL
 have HM := hide hm
 clear hK hO hL hm
 go_enter Tryz.func70, Tryz.ntmps70
 go_upto_region 1 with fail
 obtain ⟨W0, hW0⟩ : ∃ W, W = w.alloc (.cells (num4A 0) 60) := ⟨_, rfl⟩
 have RZ : Hid (W0.heap[w.heap.size]? = some (.cells (num4A 0) 60 (0, 0))) := by rw [hW0]; exact heap_alloc_new _ _
 have BL : Hid (Below w.heap.size w W0) := by rw [hW0]; exact (Below.refl _ _).alloc (Nat.le_refl _) _
 rw [← hW0]
 clear hW0
 go_wp2_with fail
 refine (new_any _).mono ?_
 rintro e W1 ⟨rfl, hB⟩
 have RZ := hide (row_keep' RZ.out hB)
 have BL := kTr BL hB
 clear hB
 go_upto_region 2 with (first
  | (refine wpList_store_row (by rfl) 166 (.tmp 3) (.tmp 6) (by rfl) W1.heap.size r0 (by rfl) (by rfl) 166 _ (heap_alloc_new _ _) r0_size r0_zH r0_cell ?_))
 try rw [put_none']
 obtain ⟨b, hb⟩ : ∃ s, s = W1.heap.size := ⟨_, rfl⟩
 generalize hW2 : World.setRow _ _ _ = W2
 have hb1 : w.heap.size < b := by rw [hb]; exact lt_row RZ.out
 have HA : Hid (Has W2 b 166 H0) := ⟨by rw [← hW2, hb]; exact setRow_heap _ _ _ _ _ _ (heap_alloc_new _ _), H0_len⟩
 have RZ : Hid (W2.heap[w.heap.size]? = some (.cells (num4A 0) 60 (0, 0))) := by rw [← hW2]; exact (setRow_other _ _ _ _ (by omega)).trans ((heap_alloc_old _ _ (lt_row RZ.out)).trans RZ.out)
 have BL : Hid (Below w.heap.size w W2) := by rw [← hW2]; exact below_setRow (BL.out.alloc BL.out.size _) BL.out.size _
 rw [← hb]
 clear hW2 hb
 go_wp2_with fail
 go_loopw [9] (fun i wr => ∃ k : Nat, k ≤ L.length ∧ i = .int .i64 k ∧ Hid (Has wr b 166 (H0.puts (allB (L.take k)))) ∧ Hid (wr.heap[w.heap.size]? = some (.cells (num4A 0) 60 (0, 0))) ∧ Hid (Below w.heap.size w wr)) (fun i _ => L.length - (intOf i).toNat)
 case atStart => exact ⟨0, Nat.zero_le _, rfl, HA, RZ, BL⟩
 case round =>
  clear HA RZ BL
  obtain ⟨k, hk, rfl, HA, RZ, BL⟩ := hrel
  by_cases hlt : k < L.length
  ·
   have bk : (k : Int) < (L.length : Int) := by omega
   have ck := (BL.out.cell (show (⟨q, k, none⟩ : Addr).block < w.heap.size from hq)).trans (HL.out k hlt)
   obtain ⟨s, Es⟩ : ∃ s, Hid (s = L[k]) := ⟨_, hide rfl⟩
   rw [← Es.out] at ck
   have hs : s.size ≤ maxLen := by rw [Es.out]; exact HM.out k hlt
   go_wp2_with fail
   refine (write_any b 166 _ s _ HA.out (HK.out.below BL.out HK.out.lt) (by have := HK.out.lt; omega) hs).mono ?_
   rintro e W3 ⟨rfl, hA3, hT3⟩
   have HA3 : Hid (Has W3 b 166 (H0.puts (allB (L.take (k + 1))))) := by
    show Has _ _ _ _
    rw [allB_take L k hlt, HS.puts_append, ← Es.out]; exact hA3
   have RZ3 : Hid (W3.heap[w.heap.size]? = some (.cells (num4A 0) 60 (0, 0))) := (hT3.block _ (lt_row RZ.out) (by omega)).trans RZ.out
   have BL3 : Hid (Below w.heap.size w W3) := BL.out.trans (hT3.below (by omega) BL.out.size)
   clear hA3 hT3 HA RZ BL ck
   go_wp2_with fail
   exact ⟨⟨k + 1, by omega, by go_num, HA3, RZ3, BL3⟩, by simp [intOf]; omega⟩
  ·
   obtain rfl : k = L.length := by omega
   have HA2 : Hid (Has wr b 166 (H0.puts (allB L))) := by have e := HA.out; rw [List.take_length] at e; exact e
   clear HA
   go_wp2_with fail
   refine (sum_any b 166 _ _ HA2.out (HK.out.below BL.out HK.out.lt)).mono ?_
   rintro e W3 ⟨rfl, hB⟩
   have RZ := hide (row_keep' RZ.out hB)
   have BL3 := kTr BL hB
   clear hB BL
   obtain ⟨M, EM⟩ : ∃ M, Hid (M = (hashOf (allB L)).map cv) := ⟨_, hide rfl⟩
   rw [show (H0.puts (allB L)).sum.map cv = M from EM.out.symm]
   go_wp2_with fail
   refine (reduce_list (hashOf (allB L)) (hashOf_length _) M EM.out _ (HO.out.below BL3.out HO.out.lt)).mono ?_
   rintro e W4 ⟨rfl, hB⟩
   have RZ := hide (row_keep' RZ.out hB)
   have BL4 := kTr BL3 hB
   clear hB BL3
   obtain ⟨N, HN⟩ : ∃ n, Hid (n = valLE (hashOf (allB L)) % Lord) := ⟨_, hide rfl⟩
   rw [← HN.out]
   go_wp2_with (first | (refine wpList_store_row (by rfl) 60 (.tmp 2) (.tmp 17) (by rfl) w.heap.size (num4A N) (by rfl) (by rfl) 60 _ RZ.out (size4W _) (n4W _ _) (num4A_all _) ?_))
   refine bodyPost_ret (v := .agg (num4A N)) (results_cell_row Tryz.results70 _ _ w.heap.size 60 _ (0, 0) _ (by rfl) (setRow_heap _ _ _ _ _ _ RZ.out) under4 rfl (size4W _)) rfl ⟨by rw [HN.out], below_setRow BL4.out (by omega) _⟩
end
theorem convR (w : World) (q o : Nat) (l : List UInt8) (hl : l.length = 32) (h : w.rangeAt q o (l.map cv)) :
  (convert 89 9 (.slice (some ⟨q, o, none⟩) 32 32)).run Tryz.prog w = .ok (.string (strOf l)) w := by
 have e := run_convert_bytes_back (P := Tryz.prog) w 89 9 5 ⟨q, o, none⟩ 32 l underSl8 underU8 underStr (fun i hi => by
  rw [Addr.add_mid]
  exact h i _ (by simp [hi, C8]))
 rw [hl] at e
 exact e
theorem hrunConv {a : Act} {o : Oper} (x : Operand) (ho : o.op = .convert 89 9 x) (q i n : Nat) (hx : a.eval x = .slice (some ⟨q, i, none⟩) 32 32) (w : World) (h : w.rangeAt q i (bL n)) :
  (execOp a.eval o).run Tryz.prog w = .ok (.value (.string (strOf (leB n 32)))) w := by
 have e := convR w q i (leB n 32) (leB_length _ _) h
 unfold execOp
 simp only [ho, hx]
 go_simp
theorem build3 (s t u : ByteArray) (w : World) : (Instr.buildSlice 38 3 #[(0, .string s), (1, .string t), (2, .string u)]).run Tryz.prog w = .ok (.slice (some ⟨w.heap.size, 0, none⟩) 3 3) (w.alloc (.cells #[.string s, .string t, .string u] 9)) := by kernel_rfl
theorem build2 (s t : ByteArray) (w : World) : (Instr.buildSlice 38 2 #[(0, .string s), (1, .string t)]).run Tryz.prog w = .ok (.slice (some ⟨w.heap.size, 0, none⟩) 2 2) (w.alloc (.cells #[.string s, .string t] 9)) := by kernel_rfl
theorem hrunBuild3 {a : Act} {o : Oper} (x y z : Operand) (ho : o.op = .buildSlice 38 3 #[(0, x), (1, y), (2, z)]) (s t u : ByteArray) (hx : a.eval x = .string s) (hy : a.eval y = .string t) (hz : a.eval z = .string u) (w : World) :
  (execOp a.eval o).run Tryz.prog w = .ok (.value (.slice (some ⟨w.heap.size, 0, none⟩) 3 3)) (w.alloc (.cells #[.string s, .string t, .string u] 9)) := by
 have e := build3 s t u
 unfold execOp
 simp only [ho, hx, hy, hz, List.map_toArray, List.map_cons, List.map_nil]
 go_simp
theorem hrunHashed {a : Act} {o : Oper} (x : Operand) (ho : o.op = .call { callee := .value (.func 70), args := #[x], argTypes := #[38] }) (v1 : Value) (hx : a.eval x = v1) (w : World) :
  (execOp a.eval o).run Tryz.prog w = .ok (.enter 70 #[v1]) w := by
 unfold execOp
 simp only [ho]
 subst hx
 go_simp
theorem hashed3 (s t u : ByteArray) (q N : Nat) (hN : N = valLE (hashOf (bytesOf s ++ (bytesOf t ++ bytesOf u))) % Lord) (w : World) (hK : Tab w) (hO : OrdAt w) (hq : w.heap[q]? = some (.cells #[.string s, .string t, .string u] 9 (0, 0))) (hs : s.size ≤ maxLen) (ht : t.size ≤ maxLen) (hu : u.size ≤ maxLen) :
  Calls Tryz.prog 70 #[.slice (some ⟨q, 0, none⟩) 3 3] w fun e w' => e = .returned (.agg (num4A N)) ∧ Below w.heap.size w w' := by
 have h := hashedA [s, t, u] q w hK hO (fun k hk => by
  rw [cell_of_row w q k _ _ _ hq]
  have h3 : k = 0 ∨ k = 1 ∨ k = 2 := by simp at hk; omega
  rcases h3 with rfl | rfl | rfl <;> rfl) (lt_row hq) (fun k hk => by
  have h3 : k = 0 ∨ k = 1 ∨ k = 2 := by simp at hk; omega
  rcases h3 with rfl | rfl | rfl
  · exact hs
  · exact ht
  · exact hu) (by simp)
 have e : allB [s, t, u] = bytesOf s ++ (bytesOf t ++ bytesOf u) := by simp [allB]
 rw [e, ← hN] at h
 exact h
theorem hashed2 (s t : ByteArray) (q N : Nat) (hN : N = valLE (hashOf (bytesOf s ++ bytesOf t)) % Lord) (w : World) (hK : Tab w) (hO : OrdAt w) (hq : w.heap[q]? = some (.cells #[.string s, .string t] 9 (0, 0))) (hs : s.size ≤ maxLen) (ht : t.size ≤ maxLen) :
  Calls Tryz.prog 70 #[.slice (some ⟨q, 0, none⟩) 2 2] w fun e w' => e = .returned (.agg (num4A N)) ∧ Below w.heap.size w w' := by
 have h := hashedA [s, t] q w hK hO (fun k hk => by
  rw [cell_of_row w q k _ _ _ hq]
  have h3 : k = 0 ∨ k = 1 := by simp at hk; omega
  rcases h3 with rfl | rfl <;> rfl) (lt_row hq) (fun k hk => by
  have h3 : k = 0 ∨ k = 1 := by simp at hk; omega
  rcases h3 with rfl | rfl
  · exact hs
  · exact ht) (by simp)
 have e : allB [s, t] = bytesOf s ++ bytesOf t := by simp [allB]
 rw [e, ← hN] at h
 exact h
theorem strOf_size (l : List UInt8) : (strOf l).size = l.length := by unfold strOf; rfl
section
attribute [local irreducible] num4A nL bA bL
set_option maxRecDepth 100000 in
set_option maxHeartbeats 4000000 in
theorem challengeA (r k : Nat) (m : ByteArray) (hm : m.size ≤ maxLen) (w : World) (hK : Tab w) (hO : OrdAt w) :
  Calls Tryz.prog 71 #[.agg (bA r), .agg (bA k), .string m] w fun e w' => e = .returned (.agg (num4A (valLE (hashOf (leB r 32 ++ (leB k 32 ++ bytesOf m))) % Lord))) ∧ Below w.heap.size w w' := by
 have hz := zero4W
 have hsl := sliceCode_all
 have HK := hide hK
 have HO := hide hO
 have Hm := hide hm
 have S32a : Hid ((strOf (leB r 32)).size ≤ maxLen) := by show _ ≤ _; rw [strOf_size, leB_length]; decide
 have S32b : Hid ((strOf (leB k 32)).size ≤ maxLen) := by show _ ≤ _; rw [strOf_size, leB_length]; decide
 obtain ⟨N, HN⟩ : ∃ N, Hid (N = valLE (hashOf (bytesOf (strOf (leB r 32)) ++ (bytesOf (strOf (leB k 32)) ++ bytesOf m))) % Lord) := ⟨_, hide rfl⟩
 have HN' : N = valLE (hashOf (leB r 32 ++ (leB k 32 ++ bytesOf m))) % Lord := by rw [HN.out, bytesOf_strOf, bytesOf_strOf]
 rw [← HN']
 clear hK hO hm HN'
 go_enter Tryz.func71, Tryz.ntmps71
 go_upto_region 1 with fail
 generalize hW0 : World.alloc _ _ = W0
 have R3 : Hid (W0.heap[w.heap.size]? = some (.cells (bA r) 62 (0, 0))) := by rw [← hW0]; exact heap3_0 _ _ _ _
 have R4 : Hid (W0.heap[w.heap.size + 1]? = some (.cells (bA k) 62 (0, 0))) := by rw [← hW0]; exact heap3_1 _ _ _ _
 have Z6 : Hid (W0.heap[w.heap.size + 2]? = some (.cells (num4A 0) 60 (0, 0))) := by rw [← hW0]; exact heap3_2 _ _ _ _
 have B0 : Hid (Below w.heap.size w W0) := by rw [← hW0]; show Below _ _ _; go_grown
 have HK := hide (HK.out.below B0.out HK.out.lt)
 have HO := hide (HO.out.below B0.out HO.out.lt)
 clear hW0
 refine wp_region_held_drew (S := fun w' => w'.rangeAt w.heap.size 0 (bL r) ∧ w'.rangeAt (w.heap.size + 1) 0 (bL k)) (by kernel_rfl) ⟨rangeB R3.out, rangeB R4.out⟩ (fun hHeld => ?_)
 have KV1 : Hid (Below W0.heap.size W0 W0.drew) := (Below.refl _ _).drew
 obtain ⟨V1, hV1⟩ : ∃ V, V = W0.drew := ⟨_, rfl⟩
 rw [← hV1] at hHeld KV1 ⊢
 clear hV1
 refine wpAnyH_take (i := 0) (oi := ⟨some 7, .slice 62 (.tmp 3) none none none, 89, "secret.go:64", #[], none⟩) (v := .slice (some ⟨w.heap.size, 0, none⟩) 32 32) rfl (by kernel_rfl) (by kernel_rfl) (by kernel_rfl) (fun _ _ _ h => h) (Or.inl ⟨by rfl, fun w _ => by go_simp⟩) hHeld ?_
 simp only [zaP, zsT, zsZ, zsS]
 refine wpAnyH_take (i := 1) (oi := ⟨some 8, .convert 89 9 (.tmp 7), 9, "secret.go:64", #[zeD 0], none⟩) (v := .string (strOf (leB r 32))) rfl (by kernel_rfl) (by kernel_rfl) (by kernel_rfl) (fun _ _ _ h => h) (Or.inl ⟨by rfl, fun v h => hrunConv _ rfl (w.heap.size) 0 r rfl v h.1⟩) hHeld ?_
 simp only [zaP, zsT, zsZ, zsS]
 refine wpAnyH_take (i := 2) (oi := ⟨some 9, .slice 62 (.tmp 4) none none none, 89, "secret.go:64", #[], none⟩) (v := .slice (some ⟨w.heap.size + 1, 0, none⟩) 32 32) rfl (by kernel_rfl) (by kernel_rfl) (by kernel_rfl) (fun _ _ _ h => h) (Or.inl ⟨by rfl, fun w _ => by go_simp⟩) hHeld ?_
 simp only [zaP, zsT, zsZ, zsS]
 refine wpAnyH_take (i := 3) (oi := ⟨some 10, .convert 89 9 (.tmp 9), 9, "secret.go:64", #[zeD 2], none⟩) (v := .string (strOf (leB k 32))) rfl (by kernel_rfl) (by kernel_rfl) (by kernel_rfl) (fun _ _ _ h => h) (Or.inl ⟨by rfl, fun v h => hrunConv _ rfl (w.heap.size + 1) 0 k rfl v h.2⟩) hHeld ?_
 simp only [zaP, zsT, zsZ, zsS]
 refine wpAnyH_take (i := 4) (oi := ⟨some 11, .move (.tmp 2), 9, "secret.go:64", #[], none⟩) (v := .string m) rfl (by kernel_rfl) (by kernel_rfl) (by kernel_rfl) (fun _ _ _ h => h) (Or.inl ⟨by rfl, fun w _ => by go_simp⟩) hHeld ?_
 simp only [zaP, zsT, zsZ, zsS]
 refine wpAnyH_ready (rs := [5]) (by kernel_rfl) (by simp) ?_
 refine AllReadyH.cons (o := ⟨some 12, .buildSlice 38 3 #[(0, .tmp 8), (1, .tmp 10), (2, .tmp 11)], 38, "secret.go:64", #[zeD 1, zeD 3, zeD 4], none⟩) rfl (fun K hK => ?_) ?_
 ·
  refine step_runTo (w' := V1.alloc (.cells (#[.string (strOf (leB r 32)), .string (strOf (leB k 32)), .string m]) 9)) (by rfl) (.slice (some ⟨V1.heap.size, 0, none⟩) 3 3) (hrunBuild3 _ _ _ rfl (strOf (leB r 32)) (strOf (leB k 32)) m rfl rfl rfl V1) ?_
  obtain ⟨b12, hb12⟩ : ∃ g, g = V1.heap.size := ⟨_, rfl⟩
  have Z12 : Hid ((V1.alloc (.cells (#[.string (strOf (leB r 32)), .string (strOf (leB k 32)), .string m]) 9)).heap[b12]? = some (.cells (#[.string (strOf (leB r 32)), .string (strOf (leB k 32)), .string m]) 9 (0, 0))) := by rw [hb12]; exact heap_alloc_new _ _
  have KV2 : Hid (Below W0.heap.size W0 (V1.alloc (.cells (#[.string (strOf (leB r 32)), .string (strOf (leB k 32)), .string m]) 9))) := KV1.out.alloc KV1.out.size _
  have GG12 : Hid (W0.heap.size ≤ b12) := by rw [hb12]; exact KV1.out.size
  rw [← hb12]
  obtain ⟨V2, hV2⟩ : ∃ V, V = V1.alloc (.cells (#[.string (strOf (leB r 32)), .string (strOf (leB k 32)), .string m]) 9) := ⟨_, rfl⟩
  rw [← hV2] at Z12 KV2 ⊢
  clear hV2 hb12
  refine hK.out _ _ ?_ (fun hHeld => ?_)
  · exact ⟨range_below (rangeB R3.out) KV2.out (lt_row R3.out), range_below (rangeB R4.out) KV2.out (lt_row R4.out)⟩
  clear hK K
  try simp only [zaP, zsT, zsZ, zsS]
  refine wpAnyH_ready (rs := [6]) (by kernel_rfl) (by simp) ?_
  refine AllReadyH.cons (o := ⟨some 13, .call ⟨.value (.func 70), #[.tmp 12], #[38]⟩, 60, "secret.go:64", #[zeD 5], none⟩) rfl (fun K hK => ?_) ?_
  ·
   refine step_callTo (by rfl) _ _ (hrunHashed _ rfl (.slice (some ⟨b12, 0, none⟩) 3 3) rfl V2) _ _ (hashed3 (strOf (leB r 32)) (strOf (leB k 32)) m b12 N HN.out V2 (HK.out.below KV2.out HK.out.lt) (HO.out.below KV2.out HO.out.lt) Z12.out S32a.out S32b.out Hm.out) (fun V3 HBx => ?_)
   have KV3 := kTr KV2 HBx
   have Z12 := hide (row_keep' Z12.out HBx)
   clear HBx
   refine hK.out _ _ ?_ (fun hHeld => ?_)
   · exact ⟨range_below (rangeB R3.out) KV3.out (lt_row R3.out), range_below (rangeB R4.out) KV3.out (lt_row R4.out)⟩
   clear hK K
   try simp only [zaP, zsT, zsZ, zsS]
   refine wpAnyH_ready (rs := [7]) (by kernel_rfl) (by simp) ?_
   refine AllReadyH.cons (o := ⟨none, .store 60 (.tmp 6) (.tmp 13), 0, "secret.go:64", #[zeD 6, zeC 6, zeP 0, zeP 1, zeP 2, zeP 3, zeP 4, zeP 5, zeP 6], none⟩) rfl (fun K hK => ?_) ?_
   ·
    have Z6 := hide (row_below Z6.out KV3.out (lt_row Z6.out))
    refine step_store_row _ (by rfl) 60 (.tmp 6) (.tmp 13) (by rfl) ((w.heap.size + 2)) (num4A N) (by rfl) (by rfl) 60 _ Z6.out (size4W _) (n4W _ _) (num4A_all _) ?_
    rw [put_none']
    obtain ⟨V4, hV4⟩ : ∃ V, V = World.setRow V3 (w.heap.size + 2) (num4A N) := ⟨_, rfl⟩
    have Z6 : Hid (V4.heap[(w.heap.size + 2)]? = some (.cells (num4A N) 60 (0, 0))) := by rw [hV4]; exact setRow_heap _ _ _ _ _ _ Z6.out
    have KV4 : Hid (Below w.heap.size w V4) := by rw [hV4]; exact below_setRow (B0.out.trans (KV3.out.mono B0.out.size)) (by omega) _
    have SS : Hid _ := hide ((⟨range_set (range_below (rangeB R3.out) KV3.out (lt_row R3.out)) (by omega), range_set (range_below (rangeB R4.out) KV3.out (lt_row R4.out)) (by omega)⟩ : (World.setRow _ (w.heap.size + 2) (num4A N)).rangeAt w.heap.size 0 (bL r) ∧ (World.setRow _ (w.heap.size + 2) (num4A N)).rangeAt (w.heap.size + 1) 0 (bL k)))
    rw [← hV4] at SS
    rw [← hV4]
    clear hV4
    refine hK.out _ _ ?_ (fun hHeld => ?_)
    · exact SS.out
    clear hK K
    try simp only [zaP, zsT, zsZ, zsS]
    refine wpAnyH_done (by kernel_rfl) ?_ _
    go_wp2_with fail
    refine bodyPost_ret (v := .agg (num4A N)) (results_cell_row Tryz.results71 _ _ (w.heap.size + 2) 60 _ (0, 0) _ (by rfl) Z6.out under4 rfl (size4W _)) rfl ⟨by rw [HN.out], KV4.out⟩
   exact AllReadyH.nil
  exact AllReadyH.nil
 exact AllReadyH.nil
end
theorem hrunConvL {a : Act} {o : Oper} (x : Operand) (ho : o.op = .convert 89 9 x) (q i : Nat) (l : List UInt8) (hl : l.length = 32) (hx : a.eval x = .slice (some ⟨q, i, none⟩) 32 32) (w : World) (h : w.rangeAt q i (l.map cv)) :
  (execOp a.eval o).run Tryz.prog w = .ok (.value (.string (strOf l))) w := by
 have e := convR w q i l hl h
 unfold execOp
 simp only [ho, hx]
 go_simp
theorem hrunBaseTm {a : Act} {o : Oper} (x y : Operand) (ho : o.op = .call { callee := .value (.func 57), args := #[x, y], argTypes := #[58, 60] }) (v1 v2 : Value) (hx : a.eval x = v1) (hy : a.eval y = v2) (w : World) :
  (execOp a.eval o).run Tryz.prog w = .ok (.enter 57 #[v1, v2]) w := by
 unfold execOp
 simp only [ho]
 subst hx hy
 go_simp
def secL (b n : Nat) (p : ByteArray) (k : Nat) : List Value := .pointer (some ⟨b, 0, none⟩) :: (nL n ++ .string p :: (leB k 32).map cv)
def secA (b n : Nat) (p : ByteArray) (k : Nat) : Array Value := (secL b n p k).toArray
def secZ : Array Value := (Value.pointer none :: (nL 0 ++ .string ⟨#[]⟩ :: (leB 0 32).map cv)).toArray
theorem secA_len (b n : Nat) (p : ByteArray) (k : Nat) : (secA b n p k).size = 38 := by simp [secA, secL, leB_length, nL]
theorem secZ_len : secZ.size = 38 := by simp [secZ, leB_length, nL]
theorem sizeSec : (Tryz.prog.info? 64).map (·.size) = some 38 := by kernel_rfl
theorem secA_size (b n : Nat) (p : ByteArray) (k : Nat) : (Tryz.prog.info? 64).map (·.size) = some (secA b n p k).size := by rw [secA_len]; exact sizeSec
theorem secZ_size : (Tryz.prog.info? 64).map (·.size) = some secZ.size := by rw [secZ_len]; exact sizeSec
theorem secA_old (b n : Nat) (p : ByteArray) (k : Nat) : secZ.size = (secA b n p k).size := by rw [secA_len, secZ_len]
theorem secA_all (b n : Nat) (p : ByteArray) (k : Nat) : (secA b n p k).all (·.oneCell') = true := by
 refine all_oneCell_toArray ?_
 intro v hv
 unfold secL at hv
 rcases List.mem_cons.1 hv with rfl | hv
 · rfl
 rcases List.mem_append.1 hv with hv | hv
 ·
  simp only [nL, List.mem_cons, List.not_mem_nil, or_false] at hv
  rcases hv with rfl | rfl | rfl | rfl <;> rfl
 rcases List.mem_cons.1 hv with rfl | hv
 · rfl
 · exact bytes_cell _ v hv
theorem secZ_all : secZ.all (·.oneCell') = true := by kernel_rfl
theorem zeroSec (w : World) : (zeroValue 64).run Tryz.prog w = .ok (.agg secZ) w := by kernel_rfl
theorem builtSec0 : Tryz.prog.built 64 [] = some secZ := by kernel_rfl
theorem builtSec (b n : Nat) (p : ByteArray) (k : Nat) : Tryz.prog.built 64 [(0, .pointer (some ⟨b, 0, none⟩)), (1, .agg (num4A n)), (2, .string p), (3, .agg (bA k))] = some (secA b n p k) := by kernel_rfl
theorem Tab.bex {b : Nat} {w w' : World} (h : Tab w) (hx : Bex b w w') (hb : 9 ≠ b) : Tab w' := fun i hi =>
 (World.cell?_of_block (w := w) (hx.block 9 h.lt hb)).trans (h i hi)
theorem OrdAt.bex {b : Nat} {w w' : World} (h : OrdAt w) (hx : Bex b w w') (hb : 6 ≠ b) : OrdAt w' := by
 obtain ⟨t, f, e⟩ := h.row
 exact ⟨t, f, (hx.block _ (lt_row e) hb).trans e⟩
def seedTxt : ByteArray := ⟨#[116, 104, 101, 32, 115, 101, 101, 100]⟩
noncomputable def sdN (s : ByteArray) : Nat := valLE (sdL ((hashOf (bytesOf s)).take 32))
noncomputable def sdP (s : ByteArray) : ByteArray := strOf ((hashOf (bytesOf s)).drop 32)
noncomputable def sdC (s : ByteArray) : Nat := cdN (mlP (pwN bpP) (sdN s) 64)
theorem arr32 (b cap : Nat) (w : World) : (Instr.arrayAt 61 (.slice (some ⟨b, 0, none⟩) 32 cap)).run Tryz.prog w = .ok (.pointer (some ⟨b, 0, none⟩)) w := by
 simp [Instr.arrayAt, run_underlying under32]
section
attribute [local irreducible] num4A nL bA bL secA secZ pA psA psL pL bpP
set_option maxRecDepth 100000 in
set_option maxHeartbeats 4000000 in
theorem secretOf_no (b : Nat) (s : ByteArray) (hs : s.size ≠ 32) (w : World) :
  Calls Tryz.prog 29 #[.pointer (some ⟨b, 0, none⟩), .string s] w fun e w' => e = .returned (.tuple #[.agg secZ, atE seedTxt (szI s.size 32)]) ∧ Below w.heap.size w w' := by
 have hz := zeroSec
 have hs' : ¬ (s.size : Int) = 32 := by omega
 go_enter Tryz.func29, Tryz.ntmps29
 go_wp2_with fail
 refine (ofSize_any seedTxt s 32 _).mono ?_
 rintro e W1 ⟨rfl, rfl⟩
 unfold ofSzV
 rw [if_neg hs']
 obtain ⟨E, HE⟩ : ∃ E, Hid (E = Value.agg #[.string seedTxt, szI s.size 32]) := ⟨_, hide rfl⟩
 unfold atE
 rw [← HE.out]
 have hb0 := builtSec0
 go_wp2_with (first
  | (refine wpList_build_to (by rfl) 64 _ (by rfl) secZ (by exact hb0) ?_)
  | (refine wpList_store_row (by rfl) 64 (.tmp 4) (.tmp 13) (by rfl) w.heap.size secZ (by rfl) (by rfl) 64 _ (heap_alloc_new _ _) secZ_size rfl secZ_all ?_))
 refine bodyPost_ret (v := .tuple #[.agg secZ, .iface 173 E]) (results_cell_tmp_row Tryz.results29 _ _ w.heap.size 64 _ (0, 0) _ (by rfl) (setRow_heap _ _ _ _ _ _ (heap_alloc_new _ _)) Tryz.underlying64 rfl secZ_size) rfl ⟨by rw [HE.out]; rfl, below_setRow ((Below.refl _ _).alloc (Nat.le_refl _) _) (Nat.le_refl _) _⟩
set_option maxRecDepth 100000 in
set_option maxHeartbeats 4000000 in
theorem secretOf_yes (b : Nat) (s : ByteArray) (hs : s.size = 32) (w : World) (hG : GlB w) (hK : Tab w) (h7 : 13 ≤ b) (hN : BaseNew w b) :
  Calls Tryz.prog 29 #[.pointer (some ⟨b, 0, none⟩), .string s] w fun e w' => e = .returned (.tuple #[.agg (secA b (sdN s) (sdP s) (sdC s)), .nilIface]) ∧ Bex b w w' ∧ BaseDone w' b := by
 have hz := zeroSec
 have hz4 := zero4W
 have hz64 := zero64T
 have hs' : (s.size : Int) = 32 := by omega
 have HS := hide hs
 have HG := hide hG
 have HK := hide hK
 have HN := hide hN
 have lb := hN.lt
 clear hG hK hN hs
 go_enter Tryz.func29, Tryz.ntmps29
 go_wp2_with fail
 refine (ofSize_any seedTxt s 32 _).mono ?_
 rintro e W1 ⟨rfl, rfl⟩
 unfold ofSzV
 rw [if_pos hs']
 clear hs'
 obtain ⟨W0, hW0⟩ : ∃ W, W = w.alloc (.cells secZ 64) := ⟨_, rfl⟩
 have RZ : Hid (W0.heap[w.heap.size]? = some (.cells secZ 64 (0, 0))) := by rw [hW0]; exact heap_alloc_new _ _
 have B0 : Hid (Below w.heap.size w W0) := by rw [hW0]; exact (Below.refl _ _).alloc (Nat.le_refl _) _
 rw [← hW0]
 clear hW0
 go_wp2_with fail
 refine (of_any s _ (HK.out.below B0.out HK.out.lt) (by rw [HS.out]; decide)).mono ?_
 rintro e W1 ⟨rfl, hB⟩
 have RZ := hide (row_keep' RZ.out hB)
 have B1 := kTr B0 hB
 clear hB B0
 rw [bytesOfH_eq]
 obtain ⟨H, EH⟩ : ∃ H, Hid (H = hashOf (bytesOf s)) := ⟨_, hide rfl⟩
 have HH : Hid (H.length = 64) := by rw [EH.out]; exact hashOf_length _
 rw [← EH.out]
 obtain ⟨M, EM⟩ : ∃ M, Hid (M = (H.map cv).toArray) := ⟨_, hide rfl⟩
 have hM64 : M.size = 64 := by rw [EM.out]; simp [HH.out]
 have MS : Hid ((Tryz.prog.info? 102).map (·.size) = some M.size) := by show _ = _; rw [hM64]; exact size64
 have MO : Hid (z64.size = M.size) := by show _ = _; rw [hM64, z64_def]; simp
 have MA : Hid (M.all (·.oneCell') = true) := by show _ = _; rw [EM.out]; exact all_oneCell_toArray (bytes_cell _)
 rw [← EM.out]
 go_upto_region 5 with (first
  | (refine wpList_store_row (by rfl) 102 (.tmp 7) (.tmp 16) (by rfl) W1.heap.size M (by rfl) (by rfl) 102 _ (heap_alloc_new _ _) MS.out MO.out MA.out ?_))
 try rw [put_none']
 obtain ⟨g7, hg7⟩ : ∃ s, s = W1.heap.size := ⟨_, rfl⟩
 generalize hW2 : World.setRow _ _ _ = W2
 have hgz : w.heap.size < g7 := by rw [hg7]; exact lt_row RZ.out
 have R7 : Hid (W2.heap[g7]? = some (.cells M 102 (0, 0))) := by rw [← hW2, hg7]; exact setRow_heap _ _ _ _ _ _ (heap_alloc_new _ _)
 have RZ : Hid (W2.heap[w.heap.size]? = some (.cells secZ 64 (0, 0))) := by rw [← hW2]; exact (setRow_other _ _ _ _ (by omega)).trans ((heap_alloc_old _ _ (lt_row RZ.out)).trans RZ.out)
 have B2 : Hid (Below w.heap.size w W2) := by rw [← hW2]; exact below_setRow (B1.out.alloc B1.out.size _) B1.out.size _
 rw [← hg7]
 clear hW2 hg7 B1
 obtain ⟨P1, EP1⟩ : ∃ P, Hid (P = H.take 32) := ⟨_, hide rfl⟩
 obtain ⟨P2, EP2⟩ : ∃ P, Hid (P = H.drop 32) := ⟨_, hide rfl⟩
 have HP1 : Hid (P1.length = 32) := by show _ = _; rw [EP1.out, List.length_take, HH.out]; rfl
 have HP2 : Hid (P2.length = 32) := by show _ = _; rw [EP2.out, List.length_drop, HH.out]
 have HHP : Hid (H = P1 ++ P2) := by show _ = _; rw [EP1.out, EP2.out, List.take_append_drop]
 have rM : ∀ {v : World} {T : TypeId} {fr : Nat × Nat}, v.heap[g7]? = some (.cells M T fr) → v.rangeAt g7 0 (P1.map cv) ∧ v.rangeAt g7 32 (P2.map cv) := by
  intro v T fr h
  refine ⟨fun j x hx => ?_, fun j x hx => ?_⟩
  ·
   rw [Nat.zero_add, cell_of_row v g7 j _ T _ h, EM.out, HHP.out, List.getElem?_toArray, List.map_append, List.getElem?_append_left (by
    rcases Nat.lt_or_ge j (P1.map cv).length with k | k
    · exact k
    · rw [List.getElem?_eq_none k] at hx; cases hx)]
   exact hx
  ·
   rw [cell_of_row v g7 (32 + j) _ T _ h, EM.out, HHP.out, List.getElem?_toArray, List.map_append, List.getElem?_append_right (by rw [List.length_map, HP1.out]; omega), List.length_map, HP1.out, Nat.add_sub_cancel_left]
   exact hx
 have hs1 := slice64_to
 have hs2 := arr32
 have hs3 := slice64_from
 have R7a := hide (rM R7.out).1
 have S32 : Hid ((Tryz.prog.info? 61).map (·.size) = some (P1.map cv).length) := by show _ = _; rw [List.length_map, HP1.out]; exact size32
 obtain ⟨A1, EA1⟩ : ∃ A, Hid (A = P1.map cv) := ⟨_, hide rfl⟩
 rw [← EA1.out] at R7a S32
 go_wp2_with (first
  | (refine wpList_load_mid (by rfl) 61 (.tmp 18) (by rfl) g7 0 (by rfl) A1 _ R7a.out under32 rfl S32.out ?_))
 rw [EA1.out]
 refine (seedNumA P1 HP1.out _).mono ?_
 rintro e W3 ⟨rfl, hB⟩
 have RZ := hide (row_keep' RZ.out hB)
 have R7 := hide (row_keep' R7.out hB)
 have B3 := kTr B2 hB
 clear hB B2 R7a S32 EA1
 obtain ⟨n, En⟩ : ∃ n, Hid (n = valLE (sdL P1)) := ⟨_, hide rfl⟩
 rw [← En.out]
 go_upto_region 6 with (first
  | (refine wpList_store_row (by rfl) 60 (.tmp 8) (.tmp 20) (by rfl) W3.heap.size (num4A n) (by rfl) (by rfl) 60 _ (heap_alloc_new _ _) (size4W _) (n4W _ _) (num4A_all _) ?_))
 try rw [put_none']
 obtain ⟨g8, hg8⟩ : ∃ s, s = W3.heap.size := ⟨_, rfl⟩
 generalize hW5 : World.setRow _ _ _ = W5
 have hg87 : g7 < g8 := by rw [hg8]; exact lt_row R7.out
 have R8 : Hid (W5.heap[g8]? = some (.cells (num4A n) 60 (0, 0))) := by rw [← hW5, hg8]; exact setRow_heap _ _ _ _ _ _ (heap_alloc_new _ _)
 have R7 : Hid (W5.heap[g7]? = some (.cells M 102 (0, 0))) := by rw [← hW5]; exact (setRow_other _ _ _ _ (by omega)).trans ((heap_alloc_old _ _ (lt_row R7.out)).trans R7.out)
 have RZ : Hid (W5.heap[w.heap.size]? = some (.cells secZ 64 (0, 0))) := by rw [← hW5]; exact (setRow_other _ _ _ _ (by omega)).trans ((heap_alloc_old _ _ (lt_row RZ.out)).trans RZ.out)
 have B5 : Hid (Below w.heap.size w W5) := by rw [← hW5]; exact below_setRow (B3.out.alloc B3.out.size _) B3.out.size _
 rw [← hg8]
 clear hW5 hg8 B3
 have R7b := hide (rM R7.out).2
 have l7 := lt_row R7.out
 have n8 : g8 ≠ b := by omega
 have n7 : g7 ≠ b := by omega
 have nz : w.heap.size ≠ b := by omega
 have G5 := hide (HG.out.keep B5.out)
 have N5 := hide (HN.out.keep (B5.out.block b lb))
 have lb5 := N5.out.lt
 have BX5 : Hid (Bex b w W5) := Bex.of B5.out
 clear rM R7
 refine wp_region_held_drew (S := fun w' => w'.rangeAt g8 0 (nL n) ∧ w'.rangeAt g7 32 (P2.map cv)) (by kernel_rfl) ⟨rangeN R8.out, R7b.out⟩ (fun hHeld => ?_)
 have KV1 : Hid (Below W5.heap.size W5 W5.drew) := (Below.refl _ _).drew
 obtain ⟨V1, hV1⟩ : ∃ V, V = W5.drew := ⟨_, rfl⟩
 rw [← hV1] at hHeld KV1 ⊢
 clear hV1
 refine wpAnyH_take (i := 0) (oi := ⟨some 21, .move (.tmp 0), 58, "secret.go:29", #[], none⟩) (v := .pointer (some ⟨b, 0, none⟩)) rfl (by kernel_rfl) (by kernel_rfl) (by kernel_rfl) (fun _ _ _ h => h) (Or.inl ⟨by rfl, fun w _ => by go_simp⟩) hHeld ?_
 simp only [zaP, zsT, zsZ, zsS]
 refine wpAnyH_take (i := 1) (oi := ⟨some 22, .load 60 (.tmp 8), 60, "secret.go:29", #[], none⟩) (v := .agg (num4A n)) rfl (by kernel_rfl) (by kernel_rfl) (by kernel_rfl) (fun _ _ _ h => h) (yldU (by rfl) _ rfl g8 0 n rfl (fun w h => h.1)) hHeld ?_
 simp only [zaP, zsT, zsZ, zsS]
 refine wpAnyH_take (i := 2) (oi := ⟨some 23, .slice 102 (.tmp 7) (some (.const (.int .i64 32))) none none, 89, "secret.go:29", #[], none⟩) (v := .slice (some ⟨g7, 32, none⟩) 32 32) rfl (by kernel_rfl) (by kernel_rfl) (by kernel_rfl) (fun _ _ _ h => h) (Or.inl ⟨by rfl, fun w _ => by go_simp⟩) hHeld ?_
 simp only [zaP, zsT, zsZ, zsS]
 refine wpAnyH_take (i := 3) (oi := ⟨some 24, .convert 89 9 (.tmp 23), 9, "secret.go:29", #[zeD 2], none⟩) (v := .string (strOf P2)) rfl (by kernel_rfl) (by kernel_rfl) (by kernel_rfl) (fun _ _ _ h => h) (Or.inl ⟨by rfl, fun v h => hrunConvL _ rfl g7 32 P2 HP2.out rfl v h.2⟩) hHeld ?_
 simp only [zaP, zsT, zsZ, zsS]
 refine wpAnyH_take (i := 4) (oi := ⟨some 25, .move (.tmp 0), 58, "secret.go:29", #[], none⟩) (v := .pointer (some ⟨b, 0, none⟩)) rfl (by kernel_rfl) (by kernel_rfl) (by kernel_rfl) (fun _ _ _ h => h) (Or.inl ⟨by rfl, fun w _ => by go_simp⟩) hHeld ?_
 simp only [zaP, zsT, zsZ, zsS]
 refine wpAnyH_take (i := 5) (oi := ⟨some 26, .load 60 (.tmp 8), 60, "secret.go:29", #[], none⟩) (v := .agg (num4A n)) rfl (by kernel_rfl) (by kernel_rfl) (by kernel_rfl) (fun _ _ _ h => h) (yldU (by rfl) _ rfl g8 0 n rfl (fun w h => h.1)) hHeld ?_
 simp only [zaP, zsT, zsZ, zsS]
 have G1 := hide (G5.out.keep KV1.out)
 have N1 := hide (N5.out.keep (KV1.out.block b lb5))
 refine wpAnyH_ready (rs := [6]) (by kernel_rfl) (by simp) ?_
 refine AllReadyH.cons (o := ⟨some 27, .call ⟨.value (.func 57), #[.tmp 25, .tmp 26], #[58, 60]⟩, 82, "secret.go:33", #[zeD 4, zeD 5], none⟩) rfl (fun K hK => ?_) AllReadyH.nil
 refine step_callTo (by rfl) _ _ (hrunBaseTm _ _ rfl (.pointer (some ⟨b, 0, none⟩)) (.agg (num4A n)) rfl rfl V1) _ (fun V2 => Bex b V1 V2 ∧ BaseDone V2 b) (baseTimesNew b n V1 G1.out h7 N1.out) (fun V2 HBx => ?_)
 have X2 : Hid (Bex b W5 V2) := (Bex.of KV1.out).trans HBx.1
 have D2 := hide HBx.2
 clear HBx
 have R8 : Hid (V2.heap[g8]? = some (.cells (num4A n) 60 (0, 0))) := (X2.out.block _ (lt_row R8.out) n8).trans R8.out
 have R7b : Hid (V2.rangeAt g7 32 (P2.map cv)) := fun j v hv => (World.cell?_of_block (X2.out.block _ l7 n7)).trans (R7b.out j v hv)
 have RZ : Hid (V2.heap[w.heap.size]? = some (.cells secZ 64 (0, 0))) := (X2.out.block _ (lt_row RZ.out) nz).trans RZ.out
 refine hK.out _ _ ⟨rangeN R8.out, R7b.out⟩ (fun hHeld => ?_)
 clear hK K
 try simp only [zaP, zsT, zsZ, zsS]
 refine wpAnyH_ready (rs := [7]) (by kernel_rfl) (by simp) ?_
 refine AllReadyH.cons (o := ⟨some 28, .call ⟨.value (.func 58), #[.tmp 27], #[82]⟩, 62, "secret.go:33", #[zeD 6, zeC 6], none⟩) rfl (fun K hK => ?_) AllReadyH.nil
 refine step_callTo (by rfl) _ _ (hrunPtCode _ rfl (.agg (pA (mlP (pwN bpP) n 64))) rfl V2) _ _ (ptCodeA (mlP (pwN bpP) n 64) (mlP_ok _ n 64) V2) (fun V3 HBx => ?_)
 have R8 := hide (row_keep' R8.out HBx)
 have l7v : g7 < V2.heap.size := World.block_lt_of_cell? V2 _ (R7b.out 0 (cv (P2.getD 0 0)) (by rw [List.getElem?_map, List.getElem?_eq_getElem (by rw [HP2.out]; decide)]; simp [List.getD, HP2.out]))
 have R7b : Hid (V3.rangeAt g7 32 (P2.map cv)) := fun j v hv => (World.cell?_of_block (HBx.block _ l7v)).trans (R7b.out j v hv)
 have RZ := hide (row_keep' RZ.out HBx)
 have D3 := hide (D2.out.keep (HBx.block b D2.out.lt))
 have X3 := hide (X2.out.trans (Bex.of HBx))
 clear HBx X2 D2
 obtain ⟨c, Ec⟩ : ∃ c, Hid (c = cdN (mlP (pwN bpP) n 64)) := ⟨_, hide rfl⟩
 rw [← Ec.out]
 refine hK.out _ _ ⟨rangeN R8.out, R7b.out⟩ (fun hHeld => ?_)
 clear hK K
 try simp only [zaP, zsT, zsZ, zsS]
 refine wpAnyH_take (i := 8) (oi := ⟨some 29, .build 64 #[(0, .tmp 21), (1, .tmp 22), (2, .tmp 24), (3, .tmp 28)], 64, "secret.go:29", #[zeD 0, zeD 1, zeD 3, zeD 7], none⟩) (v := .agg (secA b n (strOf P2) c)) rfl (by kernel_rfl) (by kernel_rfl) (by kernel_rfl) (fun _ _ _ h => h) (yld_build' (by rfl) _ _ rfl _ _ (by kernel_rfl) (builtSec b n (strOf P2) c)) hHeld ?_
 simp only [zaP, zsT, zsZ, zsS]
 refine wpAnyH_ready (rs := [9]) (by kernel_rfl) (by simp) ?_
 refine AllReadyH.cons (o := ⟨none, .store 64 (.tmp 4) (.tmp 29), 0, "secret.go:29", #[zeD 8, zeC 7, zeP 0, zeP 1, zeP 2, zeP 3, zeP 4, zeP 5, zeP 6, zeP 7, zeP 8], none⟩) rfl (fun K hK => ?_) AllReadyH.nil
 refine step_store_row _ (by rfl) 64 (.tmp 4) (.tmp 29) (by rfl) w.heap.size (secA b n (strOf P2) c) (by rfl) (by rfl) 64 _ RZ.out (secA_size _ _ _ _) (secA_old _ _ _ _) (secA_all _ _ _ _) ?_
 rw [put_none']
 obtain ⟨V4, hV4⟩ : ∃ V, V = World.setRow V3 w.heap.size (secA b n (strOf P2) c) := ⟨_, rfl⟩
 have RZ : Hid (V4.heap[w.heap.size]? = some (.cells (secA b n (strOf P2) c) 64 (0, 0))) := by rw [hV4]; exact setRow_heap _ _ _ _ _ _ RZ.out
 have D4 : Hid (BaseDone V4 b) := by rw [hV4]; exact D3.out.keep (setRow_other _ _ _ _ (by omega))
 have X4 : Hid (Bex b w V4) := by rw [hV4]; exact (BX5.out.trans X3.out).setRow (Nat.le_refl _) _
 have S4 : Hid (V4.rangeAt g8 0 (nL n) ∧ V4.rangeAt g7 32 (P2.map cv)) := by rw [hV4]; exact ⟨range_set (rangeN R8.out) (by omega), range_set R7b.out (by omega)⟩
 rw [← hV4]
 clear hV4
 refine hK.out _ _ S4.out (fun hHeld => ?_)
 clear hK K
 try simp only [zaP, zsT, zsZ, zsS]
 refine wpAnyH_take (i := 10) (oi := ⟨some 5, .assign (.const .nilIface), 66, "secret.go:29", #[zeC 9, zeP 0, zeP 1, zeP 2, zeP 3, zeP 4, zeP 5, zeP 6, zeP 7, zeP 8, zeP 9], none⟩) (v := .nilIface) rfl (by kernel_rfl) (by kernel_rfl) (by kernel_rfl) (fun _ _ _ h => h) (Or.inl ⟨by rfl, fun w _ => by go_simp⟩) hHeld ?_
 simp only [zaP, zsT, zsZ, zsS]
 refine wpAnyH_done (by kernel_rfl) ?_ _
 go_wp2_with fail
 refine bodyPost_ret (v := .tuple #[.agg (secA b n (strOf P2) c), .nilIface]) (results_cell_tmp_row Tryz.results29 _ _ w.heap.size 64 _ (0, 0) _ (by rfl) RZ.out Tryz.underlying64 rfl (secA_size _ _ _ _)) rfl ⟨?_, X4.out, D4.out⟩
 unfold sdC sdP sdN
 rw [← EH.out, ← EP1.out, ← EP2.out, ← En.out, Ec.out]
end
theorem bT_bs : strOf bT = bs 31 := rfl
section
attribute [local irreducible] lAddS lAddE bT padB
set_option maxRecDepth 100000 in
set_option maxHeartbeats 1000000 in
theorem awakeK (w : World) (hG : GlB w) : Calls Tryz.prog 15 #[] w fun e w' => e = .returned (.bool true) ∧ Below w.heap.size w w' := by
 have HG := hide hG
 clear hG
 go_enter Tryz.func15, Tryz.ntmps15
 go_wp2_with fail
 refine (baseK _).mono ?_
 rintro e W1 ⟨rfl, hB1⟩
 have HB := hide hB1
 clear hB1
 obtain ⟨B, EB⟩ : ∃ B, Hid (B = strOf bT) := ⟨_, hide rfl⟩
 rw [← EB.out]
 go_wp2_with fail
 refine (baseK _).mono ?_
 rintro e W2 ⟨rfl, hB2⟩
 have HB := kTr HB hB2
 clear hB2
 rw [← EB.out]
 go_wp2_with fail
 refine (latchAddA B B _ (HG.out.keep HB.out).gl).mono ?_
 rintro e W3 ⟨rfl, hB3⟩
 have HB := kTr HB hB3
 clear hB3
 obtain ⟨e1, e2⟩ := dbl_S
 rw [show B = bs 31 from EB.out.trans bT_bs, e1, e2]
 unfold dblT
 go_wp2
 go_returns
 exact ⟨rfl, HB.out⟩
end
end Go.Proofs.YtccgfabojbjmjaaGreatDoor
