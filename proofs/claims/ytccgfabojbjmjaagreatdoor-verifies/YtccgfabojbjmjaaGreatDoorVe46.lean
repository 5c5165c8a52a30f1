import Derived.Test.YtccgfabojbjmjaaGreatDoorVe42
namespace Go.Proofs.YtccgfabojbjmjaaGreatDoor
open Go.RowKit
def allB (L : List ByteArray) : List UInt8 := L.flatMap bytesOf
theorem allB_take (L : List ByteArray) (k : Nat) (h : k < L.length) : allB (L.take (k + 1)) = allB (L.take k) ++ bytesOf L[k] := by
 unfold allB
 rw [List.take_succ_eq_append_getElem h, List.flatMap_append]; simp
section
attribute [local irreducible] num4A
set_option maxRecDepth 100000 in
set_option maxHeartbeats 2000000 in
theorem hashedA (L : List ByteArray) (q : Nat) (w : World) (hK : Tab w) (hO : OrdAt w) (hL : ∀ k (h : k < L.length), w.cell? ⟨q, k, none⟩ = some (.string L[k])) (hq : q < w.heap.size) (hm : ∀ k (h : k < L.length), L[k].size ≤ maxLen) (hn : L.length ≤ 100) :
  Calls Tryz.prog 70 #[.slice (some ⟨q, 0, none⟩) L.length L.length] w fun e w' => e = .returned (.agg (num4A (valLE (hashOf (allB L)) % Lord))) ∧ Below w.heap.size w w' := by
 have hz := zero4W
 have hzH := zeroH
 have HK := hide hK
 have HO := hide hO
 have HL := hide hL
 have HM := hide hm
 clear hK hO hL hm
 go_enter Tryz.func70, Tryz.ntmps70
 go_upto_region 1 with fail
 obtain ⟨W0, hW0⟩ : ∃ W, W = w.alloc (.cells (num4A 0) 60) := ⟨_, rfl⟩
 have RZ : Hid (W0.heap[w.heap.size]? = some (.cells (num4A 0) 60 (0, 0))) := by rw [hW0]; exact heap_alloc_new _ _
 have BL : Hid (Below w.heap.size w W0) := by rw [hW0]; exact (Below.refl _ _).alloc (Nat.le_refl _) _
 rw [← hW0]
 clear hW0
 go_wp2_with fail
 refine (new_any _).mono ?_
 rintro e W1 ⟨rfl, hB⟩
 have RZ := hide (row_keep' RZ.out hB)
 have BL := kTr BL hB
 clear hB
 go_upto_region 2 with (first
  | (refine wpList_store_row (by rfl) 166 (.tmp 3) (.tmp 6) (by rfl) W1.heap.size r0 (by rfl) (by rfl) 166 _ (heap_alloc_new _ _) r0_size r0_zH r0_cell ?_))
 try rw [put_none']
 obtain ⟨b, hb⟩ : ∃ s, s = W1.heap.size := ⟨_, rfl⟩
 generalize hW2 : World.setRow _ _ _ = W2
 have hb1 : w.heap.size < b := by rw [hb]; exact lt_row RZ.out
 have HA : Hid (Has W2 b 166 H0) := ⟨by rw [← hW2, hb]; exact setRow_heap _ _ _ _ _ _ (heap_alloc_new _ _), H0_len⟩
 have RZ : Hid (W2.heap[w.heap.size]? = some (.cells (num4A 0) 60 (0, 0))) := by rw [← hW2]; exact (setRow_other _ _ _ _ (by omega)).trans ((heap_alloc_old _ _ (lt_row RZ.out)).trans RZ.out)
 have BL : Hid (Below w.heap.size w W2) := by rw [← hW2]; exact below_setRow (BL.out.alloc BL.out.size _) BL.out.size _
 rw [← hb]
 clear hW2 hb
 go_wp2_with fail
 go_loopw [9] (fun i wr => ∃ k : Nat, k ≤ L.length ∧ i = .int .i64 k ∧ Hid (Has wr b 166 (H0.puts (allB (L.take k)))) ∧ Hid (wr.heap[w.heap.size]? = some (.cells (num4A 0) 60 (0, 0))) ∧ Hid (Below w.heap.size w wr)) (fun i _ => L.length - (intOf i).toNat)
 case atStart => exact ⟨0, Nat.zero_le _, rfl, HA, RZ, BL⟩
 case round =>
  clear HA RZ BL
  obtain ⟨k, hk, rfl, HA, RZ, BL⟩ := hrel
  by_cases hlt : k < L.length
  ·
   have bk : (k : Int) < (L.length : Int) := by omega
   have ck := (BL.out.cell (show (⟨q, k, none⟩ : Addr).block < w.heap.size from hq)).trans (HL.out k hlt)
   obtain ⟨s, Es⟩ : ∃ s, Hid (s = L[k]) := ⟨_, hide rfl⟩
   rw [← Es.out] at ck
   have hs : s.size ≤ maxLen := by rw [Es.out]; exact HM.out k hlt
   go_wp2_with fail
   refine (write_any b 166 _ s _ HA.out (HK.out.below BL.out HK.out.lt) (by have := HK.out.lt; omega) hs).mono ?_
   rintro e W3 ⟨rfl, hA3, hT3⟩
   have HA3 : Hid (Has W3 b 166 (H0.puts (allB (L.take (k + 1))))) := by
    show Has _ _ _ _
    rw [allB_take L k hlt, HS.puts_append, ← Es.out]; exact hA3
   have RZ3 : Hid (W3.heap[w.heap.size]? = some (.cells (num4A 0) 60 (0, 0))) := (hT3.block _ (lt_row RZ.out) (by omega)).trans RZ.out
   have BL3 : Hid (Below w.heap.size w W3) := BL.out.trans (hT3.below (by omega) BL.out.size)
   clear hA3 hT3 HA RZ BL ck
   go_wp2_with fail
   exact ⟨⟨k + 1, by omega, by go_num, HA3, RZ3, BL3⟩, by simp [intOf]; omega⟩
  ·
   obtain rfl : k = L.length := by omega
   have HA2 : Hid (Has wr b 166 (H0.puts (allB L))) := by have e := HA.out; rw [List.take_length] at e; exact e
   clear HA
   go_wp2_with fail
   refine (sum_any b 166 _ _ HA2.out (HK.out.below BL.out HK.out.lt)).mono ?_
   rintro e W3 ⟨rfl, hB⟩
   have RZ := hide (row_keep' RZ.out hB)
   have BL3 := kTr BL hB
   clear hB BL
   obtain ⟨M, EM⟩ : ∃ M, Hid (M = (hashOf (allB L)).map cv) := ⟨_, hide rfl⟩
   rw [show (H0.puts (allB L)).sum.map cv = M from EM.out.symm]
   go_wp2_with fail
   refine (reduce_list (hashOf (allB L)) (hashOf_length _) M EM.out _ (HO.out.below BL3.out HO.out.lt)).mono ?_
   rintro e W4 ⟨rfl, hB⟩
   have RZ := hide (row_keep' RZ.out hB)
   have BL4 := kTr BL3 hB
   clear hB BL3
   obtain ⟨N, HN⟩ : ∃ n, Hid (n = valLE (hashOf (allB L)) % Lord) := ⟨_, hide rfl⟩
   rw [← HN.out]
   go_wp2_with (first | (refine wpList_store_row (by rfl) 60 (.tmp 2) (.tmp 17) (by rfl) w.heap.size (num4A N) (by rfl) (by rfl) 60 _ RZ.out (size4W _) (n4W _ _) (num4A_all _) ?_))
   refine bodyPost_ret (v := .agg (num4A N)) (results_cell_row Tryz.results70 _ _ w.heap.size 60 _ (0, 0) _ (by rfl) (setRow_heap _ _ _ _ _ _ RZ.out) under4 rfl (size4W _)) rfl ⟨by rw [HN.out], below_setRow BL4.out (by omega) _⟩
end
theorem strOf_sizeS (l : List UInt8) : (strOf l).size = l.length := by unfold strOf; rfl
theorem sRow_16 (l : List UInt8) : (sRow l 16).getD 16 0 = 0 := by
 unfold sRow
 simp [zr, List.getD]
theorem sRow_eq (D : List Int) (l : List UInt8) (hD : D.length = 17) (h : ∀ i, i < 16 → D.getD i 0 = wI l i) (h16 : D.getD 16 0 = 0) : D = sRow l 16 := by
 refine List.ext_getElem (by rw [hD, sRow_len]) (fun i h1 h2 => ?_)
 have e : ∀ (L : List Int) (h : i < L.length), L[i] = L.getD i 0 := fun L h => by simp [List.getD, h]
 rw [e D h1, e _ h2]
 by_cases c : i < 16
 · rw [h i c, sRow_get l 16 i c (by omega)]
 ·
  have : i = 16 := by omega
  subst this
  rw [h16, sRow_16]
theorem wI_le (n i : Nat) (hi : i < 16) : wI (leB n 32) i = ((n / 65536 ^ i % 65536 : Nat) : Int) := by
 unfold wI
 have g : ∀ j, j < 32 → (leB n 32).getD j 0 = byteLE n j := fun j hj => leB_getD n 32 j hj
 rw [g _ (by omega), g _ (by omega)]
 unfold C8
 rw [byteLE_nat, byteLE_nat]
 have e1 : 65536 ^ i = 256 ^ (2 * i) := by rw [Nat.pow_mul]
 have e2 : n / 256 ^ (2 * i + 1) = n / 256 ^ (2 * i) / 256 := by rw [Nat.pow_succ, Nat.div_div_eq_div_mul]
 rw [e1, e2]
 omega
theorem sA_dB (n : Nat) (hn : n < 115792089237316195423570985008687907853269984665640564039457584007913129639936) : sA (leB n 32) = ((dB 65536 17 (n : Int)).map iv).toArray := by
 rw [sA_def, ← sRow_eq (dB 65536 17 (n : Int)) (leB n 32) (dB_length _ _ _)]
 ·
  intro i hi
  rw [dB_getR 65536 (by decide) 17 i _ (by omega), wI_le n i hi]
  rw [show ((65536 : Int) ^ i) = ((65536 ^ i : Nat) : Int) by simp]
  omega
 ·
  rw [dB_getR 65536 (by decide) 17 16 _ (by omega)]
  have e : (n : Int) / 65536 ^ 16 = 0 := by
   have : (65536 : Int) ^ 16 = 115792089237316195423570985008687907853269984665640564039457584007913129639936 := by decide
   rw [this]; omega
  rw [e]; rfl
theorem red_sA (H : List UInt8) : ((redAt (strOf H) 0).map iv).toArray = sA (leB (valLE H % Lord) 32) := by
 rw [sA_dB _ (Nat.lt_trans (Nat.mod_lt _ (by decide)) (by decide))]
 unfold redAt
 rw [bytesOf_strOf, Nat.pow_zero, Nat.div_one]
 rfl
theorem refHash_S (s : ByteArray) (w : World) (hs : s.size ≤ 140737488351744) :
  Calls Tryz.prog 61 #[.string s] w fun e w' => e = .returned (.string (strOf (hashOf (bytesOf s)))) ∧ Below w.heap.size w w' := by
 refine (refHash_any s w hs).mono ?_
 rintro e w' ⟨NB, hNB, rfl, hB⟩
 refine ⟨?_, hB⟩
 rw [same_hash (bytesOfH s) NB hNB (by rw [bytesOf_lengthH]; omega)]
 rfl
section
attribute [local irreducible] sA
set_option maxRecDepth 100000 in
set_option maxHeartbeats 1000000 in
theorem refHashed (s : ByteArray) (hs : s.size ≤ 140737488351744) (N : Nat) (hN : N = valLE (hashOf (bytesOf s)) % Lord) (w : World) :
  Calls Tryz.prog 38 #[.string s] w fun e w' => e = .returned (.agg (sA (leB N 32))) ∧ Below w.heap.size w w' := by
 have hz := zeroS
 have HN := hide hN
 have HS := hide hs
 clear hN hs
 go_enter Tryz.func38, Tryz.ntmps38
 go_upto_region 1 with fail
 obtain ⟨W0, hW0⟩ : ∃ W, W = w.alloc (.cells zS 91) := ⟨_, rfl⟩
 have RZ : Hid (W0.heap[w.heap.size]? = some (.cells zS 91 (0, 0))) := by rw [hW0]; exact heap_alloc_new _ _
 have BL : Hid (Below w.heap.size w W0) := by rw [hW0]; exact (Below.refl _ _).alloc (Nat.le_refl _) _
 rw [← hW0]
 clear hW0
 go_wp2_with fail
 refine (refHash_S s _ HS.out).mono ?_
 rintro e W1 ⟨rfl, hB⟩
 have RZ := hide (row_keep' RZ.out hB)
 have BL := kTr BL hB
 clear hB
 obtain ⟨H, EH⟩ : ∃ H, Hid (H = hashOf (bytesOf s)) := ⟨_, hide rfl⟩
 rw [← EH.out]
 go_wp2_with fail
 refine (reduced_any (strOf H) (by rw [strOf_sizeS, EH.out, hashOf_length]; decide) _).mono ?_
 rintro e W2 ⟨rfl, hB⟩
 have RZ := hide (row_keep' RZ.out hB)
 have BL := kTr BL hB
 clear hB
 rw [red_sA, EH.out, ← HN.out]
 go_wp2_with (first | (refine wpList_store_row (by rfl) 91 (.tmp 2) (.tmp 7) (by rfl) w.heap.size (sA (leB N 32)) (by rfl) (by rfl) 91 _ RZ.out (sA_size _) (sA_old _) (sA_all _) ?_))
 refine bodyPost_ret (v := .agg (sA (leB N 32))) (results_cell_row Tryz.results38 _ _ w.heap.size 91 _ (0, 0) _ (by rfl) (setRow_heap _ _ _ _ _ _ RZ.out) underS' rfl (sA_size _)) rfl ⟨rfl, below_setRow BL.out (Nat.le_refl _) _⟩
end
theorem qL_A (p : Q3) : (qL p).toArray = qA p := rfl
theorem qL_size (p : Q3) : (Tryz.prog.info? 98).map (·.size) = some (qL p).length := by rw [qL_len]; exact sizeQ
theorem rangeQA {w : World} {b : Nat} {p : Q3} {T : TypeId} {fr : Nat × Nat} (h : w.heap[b]? = some (.cells (qA p) T fr)) : w.rangeAt b 0 (qL p) := by
 intro j v hv
 rw [Nat.zero_add, cell_of_row w b j _ T _ h, ← qL_A, List.getElem?_toArray]
 exact hv
theorem yldQ {ops : Array Oper} {S : World → Prop} {op : Oper} {a : Act} (hw : Region.wanted op (yielded ops a.tmps) = true) (x : Operand) (ho : op.op = .load 98 x)
  (b o : Nat) (p : Q3) (hx : a.eval x = .pointer (some ⟨b, o, none⟩)) (hS : ∀ w, S w → w.rangeAt b o (qL p)) : YieldsIf Tryz.prog ops S op (.agg (qA p)) a :=
 yld_load hw _ x ho b o hx (qL p) (qA p) rfl _ hS Tryz.underlying98 rfl (qL_size p)
theorem rangeF {w : World} {b n : Nat} {T : TypeId} {fr : Nat × Nat} (h : w.heap[b]? = some (.cells (fA n) T fr)) : w.rangeAt b 0 (fL n) := by
 intro j v hv
 rw [Nat.zero_add, cell_of_row w b j _ T _ h, show fA n = (fL n).toArray from rfl, List.getElem?_toArray]
 exact hv
theorem hrunTimesD {a : Act} {o : Oper} (x y z : Operand) (ho : o.op = .call { callee := .value (.func 34), args := #[x, y, z], argTypes := #[95, 91, 98] }) (v1 v2 v3 : Value) (hx : a.eval x = v1) (hy : a.eval y = v2) (hz : a.eval z = v3) (w : World) :
  (execOp a.eval o).run Tryz.prog w = .ok (.enter 34 #[v1, v2, v3]) w := by
 unfold execOp
 simp only [ho]
 subst hx hy hz
 go_simp
theorem hrunAllocQ {a : Act} {o : Oper} (ho : o.op = .alloc 98) (w : World) :
  (execOp a.eval o).run Tryz.prog w = .ok (.value (.pointer (some ⟨w.heap.size, 0, none⟩))) (w.alloc (.cells (qA q0) 98)) := by
 have hz := zeroQ
 unfold execOp
 simp only [ho]
 go_simp
theorem vB_full (n : Nat) (hn : n < 115792089237316195423570985008687907853269984665640564039457584007913129639936) : vB 65536 (dB 65536 17 (n : Int)) = n := by
 rw [vB_dB 65536 (by decide)]
 have : (65536 : Int) ^ 17 = 7588550360256754183279148073529370729071901715047420004889892225542594864082845696 := by decide
 rw [this]; omega
end Go.Proofs.YtccgfabojbjmjaaGreatDoor
namespace Go.Proofs.YtccgfabojbjmjaaGreatDoor
theorem hash1 (l b : List UInt8) (S : S8) (h1 : padBH l = b) (hb : b.length = 128) (hS : ivH.add (rnds (sch b 64) ivH 80) = S) (hl : l.length < 2305843009213693952) : hashOf l = S.words.flatMap be8 := by
 have hc : chunk b 0 = b := by unfold chunk; rw [Nat.mul_zero, List.drop_zero, List.take_of_length_le (by omega)]
 rw [← same_hash l 1 (by rw [h1, hb]) hl, mixTo_succ, h1, hc]
 show (ivH.add (rnds (sch b 64) ivH 80)).words.flatMap be8 = _
 rw [hS]
end Go.Proofs.YtccgfabojbjmjaaGreatDoor
