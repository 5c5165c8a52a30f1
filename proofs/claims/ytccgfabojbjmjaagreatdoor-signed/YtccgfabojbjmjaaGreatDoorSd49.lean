import Derived.Test.YtccgfabojbjmjaaGreatDoorSd48
namespace Go.Proofs.YtccgfabojbjmjaaGreatDoor
open Go.RowKit
theorem convRn (w : World) (q o n : Nat) (l : List UInt8) (hl : l.length = n) (h : w.rangeAt q o (l.map cv)) :
  (convert 89 9 (.slice (some ⟨q, o, none⟩) n n)).run Tryz.prog w = .ok (.string (strOf l)) w := by
 have e := run_convert_bytes_back (P := Tryz.prog) w 89 9 5 ⟨q, o, none⟩ n l underSl8 underU8 underStr (fun i hi => by
  rw [Addr.add_mid]
  exact h i _ (by simp [hi, C8]))
 rw [hl] at e
 exact e
theorem rangeA {w : World} {b : Nat} {l : List UInt8} {T : TypeId} {fr : Nat × Nat} (h : w.heap[b]? = some (.cells (l.map cv).toArray T fr)) : w.rangeAt b 0 (l.map cv) := by
 intro j v hv
 rw [Nat.zero_add, cell_of_row w b j _ T _ h, List.getElem?_toArray]
 exact hv
theorem sdL_lenP (l : List UInt8) : (sdL l).length = l.length := by unfold sdL; rw [List.length_set, List.length_set]
theorem sdN_lt (s : ByteArray) : sdN s < 115792089237316195423570985008687907853269984665640564039457584007913129639936 := by
 unfold sdN
 have := valLE_lt (sdL ((hashOf (bytesOf s)).take 32))
 rw [sdL_lenP, List.length_take, hashOf_length] at this
 exact Nat.lt_of_lt_of_le this (by decide)
theorem sdP_le (s : ByteArray) : (sdP s).size ≤ maxLen := by
 unfold sdP; rw [strOf_size, List.length_drop, hashOf_length]; decide
theorem rangeBm {w : World} {b n : Nat} {T : TypeId} {fr : Nat × Nat} (h : w.heap[b]? = some (.cells (bA n) T fr)) : w.rangeAt b 0 ((leB n 32).map cv) := rangeB h
section
attribute [local irreducible] num4A nL bA bL secA secZ pA psA psL pL bpP baseZ z64
set_option maxRecDepth 100000 in
set_option maxHeartbeats 1000000 in
theorem secKey (b n c : Nat) (p : ByteArray) (w : World) :
  Calls Tryz.prog 31 #[.agg (secA b n p c)] w fun e w' => e = .returned (.agg (bA c)) ∧ Below w.heap.size w w' := by
 have hzc := zeroCode
 go_enter Tryz.func31, Tryz.ntmps31
 go_upto_region 1 with fail
 generalize hW0 : World.alloc _ _ = W0
 have R1 : Hid (W0.heap[w.heap.size]? = some (.cells (secA b n p c) 64 (0, 0))) := by rw [← hW0]; exact heap_alloc2_old _ _ _
 have RZ : Hid (W0.heap[w.heap.size + 1]? = some (.cells (bA 0) 62 (0, 0))) := by rw [← hW0]; exact heap_alloc2_new _ _ _
 have B0 : Hid (Below w.heap.size w W0) := by rw [← hW0]; show Below _ _ _; go_grown
 clear hW0
 have r6 := hide (sec_r6 R1.out)
 have bS : Hid ((Tryz.prog.info? 62).map (·.size) = some (bL c).length) := by show _ = _; rw [sizeCode]; simp [bL, leB_length]
 have S1 : Hid ((Tryz.prog.info? 62).map (·.size) = some (bL c).toArray.size) := by show _ = _; rw [bL_A]; exact bA_size c
 have S2 : Hid ((bA 0).size = (bL c).toArray.size) := by show _ = _; rw [bL_A]; exact bA_old _ _
 have S3 : Hid ((bL c).toArray.all (·.oneCell') = true) := by show _ = _; rw [bL_A]; exact bA_all _
 go_wp2_with (first
  | (refine wpList_load_mid (by rfl) 62 (.tmp 3) (by rfl) w.heap.size 6 (by rfl) (bL c) _ r6.out underCode rfl bS.out ?_)
  | (refine wpList_store_row (by rfl) 62 (.tmp 2) (.tmp 4) (by rfl) (w.heap.size + 1) (bL c).toArray (by rfl) (by rfl) 62 _ RZ.out S1.out S2.out S3.out ?_))
 refine bodyPost_ret (v := .agg (bL c).toArray) (results_cell_row Tryz.results31 _ _ (w.heap.size + 1) 62 _ (0, 0) _ (by rfl) (setRow_heap _ _ _ _ _ _ RZ.out) underCode rfl S1.out) rfl ⟨by rw [bL_A], below_setRow B0.out (by omega) _⟩
noncomputable def lkS (s : ByteArray) : ByteArray := if s.size = 32 then strOf (leB (sdC s) 32) else ⟨#[]⟩
def lkE (s : ByteArray) : Int := if s.size = 32 then 0 else 1
noncomputable def lsS (s m : ByteArray) : ByteArray := if s.size = 32 then strOf (leB (sgC (sdP s) m) 32 ++ leB (sgS (sdN s) (sdC s) (sdP s) m) 32) else ⟨#[]⟩
set_option maxRecDepth 100000 in
set_option maxHeartbeats 4000000 in
theorem latchKeyA (s : ByteArray) (w : World) (hG : GlB w) (hK : Tab w) (hE : w.cell? ⟨3, 0, none⟩ = some (rtV 66)) :
  Calls Tryz.prog 8 #[.string s] w fun e w' => e = .returned (.tuple #[.string (lkS s), .int .i64 (lkE s)]) ∧ Below w.heap.size w w' := by
 have hzb := zeroBase
 have hzs := zeroSec
 have hzc := zeroCode
 have HG := hide hG
 have HK := hide hK
 have HE := hide hE
 have h7 := hG.seven
 clear hG hK hE
 go_enter Tryz.func8, Tryz.ntmps8
 go_upto_region 1 with fail
 obtain ⟨W0, hW0⟩ : ∃ W, W = w.alloc (.cells baseZ 86) := ⟨_, rfl⟩
 have RB : Hid (W0.heap[w.heap.size]? = some (.cells baseZ 86 (0, 0))) := by rw [hW0]; exact heap_alloc_new _ _
 have B0 : Hid (Below w.heap.size w W0) := by rw [hW0]; exact (Below.refl _ _).alloc (Nat.le_refl _) _
 by_cases h32 : s.size = 32
 ·
  have HS := hide h32
  clear h32
  go_wp2_with fail
  rw [← hW0]
  clear hW0
  refine (secretOf_yes w.heap.size s HS.out W0 (HG.out.keep B0.out) (HK.out.below B0.out HK.out.lt) h7 (baseZ_new RB.out)).mono ?_
  rintro e W1 ⟨rfl, hX, hD⟩
  have B1 : Hid (Below w.heap.size w W1) := B0.out.trans (hX.below B0.out.size)
  clear hX hD B0 RB
  obtain ⟨c, Ec⟩ : ∃ n, Hid (n = sdC s) := ⟨_, hide rfl⟩
  rw [← Ec.out]
  obtain ⟨n, En⟩ : ∃ n, Hid (n = sdN s) := ⟨_, hide rfl⟩
  obtain ⟨p, Ep⟩ : ∃ n, Hid (n = sdP s) := ⟨_, hide rfl⟩
  rw [← En.out, ← Ep.out]
  go_upto_region 4 with (first
   | (refine wpList_store_row (by rfl) 64 (.tmp 4) (.tmp 11) (by rfl) W1.heap.size (secA w.heap.size n p c) (by rfl) (by rfl) 64 _ (heap_alloc_new _ _) (secA_size _ _ _ _) (secA_old _ _ _ _) (secA_all _ _ _ _) ?_))
  try rw [put_none']
  obtain ⟨g4, hg4⟩ : ∃ q, q = W1.heap.size := ⟨_, rfl⟩
  generalize hW2 : World.setRow _ _ _ = W2
  have R4 : Hid (W2.heap[g4]? = some (.cells (secA w.heap.size n p c) 64 (0, 0))) := by rw [← hW2, hg4]; exact setRow_heap _ _ _ _ _ _ (heap_alloc_new _ _)
  have B2 : Hid (Below w.heap.size w W2) := by rw [← hW2]; exact below_setRow (B1.out.alloc B1.out.size _) B1.out.size _
  rw [← hg4]
  clear hW2 hg4 B1
  go_wp2_with (first
   | (refine wpList_load_row (by rfl) 64 (.tmp 4) (by rfl) g4 (by rfl) 64 (secA w.heap.size n p c) (0, 0) _ R4.out Tryz.underlying64 rfl (secA_size _ _ _ _) ?_))
  refine (secKey w.heap.size n c p W2).mono ?_
  rintro e W3 ⟨rfl, hB⟩
  have B3 := kTr B2 hB
  clear hB B2 R4
  go_upto_region 5 with (first
   | (refine wpList_store_row (by rfl) 62 (.tmp 6) (.tmp 18) (by rfl) W3.heap.size (bA c) (by rfl) (by rfl) 62 _ (heap_alloc_new _ _) (bA_size _) (bA_old _ _) (bA_all _) ?_))
  try rw [put_none']
  obtain ⟨g6, hg6⟩ : ∃ q, q = W3.heap.size := ⟨_, rfl⟩
  generalize hW4 : World.setRow _ _ _ = W4
  have R6 : Hid (W4.heap[g6]? = some (.cells (bA c) 62 (0, 0))) := by rw [← hW4, hg6]; exact setRow_heap _ _ _ _ _ _ (heap_alloc_new _ _)
  have B4 : Hid (Below w.heap.size w W4) := by rw [← hW4]; exact below_setRow (B3.out.alloc B3.out.size _) B3.out.size _
  rw [← hg6]
  clear hW4 hg6 B3
  have hsl := sliceCode_all
  have hcv := convRn W4 g6 0 32 (leB c 32) (leB_length _ _) (rangeBm R6.out)
  obtain ⟨T, HT⟩ : ∃ T, Hid (T = strOf (leB c 32)) := ⟨_, hide rfl⟩
  rw [← HT.out] at hcv
  go_wp2_with fail
  go_returns
  refine ⟨?_, B4.out⟩
  unfold lkS lkE
  rw [if_pos HS.out, if_pos HS.out, ← Ec.out, ← HT.out]; rfl
 ·
  have HS := hide h32
  clear h32
  go_wp2_with fail
  rw [← hW0]
  clear hW0
  refine (secretOf_no w.heap.size s HS.out W0).mono ?_
  rintro e W1 ⟨rfl, hB⟩
  have B1 := kTr B0 hB
  clear hB B0 RB
  obtain ⟨E, HEE⟩ : ∃ E, Hid (E = Value.agg #[.string seedTxt, szI s.size 32]) := ⟨_, rfl⟩
  rw [show atE seedTxt (szI s.size 32) = .iface 173 E by rw [HEE.out]; rfl]
  go_upto_region 3 with (first
   | (refine wpList_store_row (by rfl) 64 (.tmp 4) (.tmp 11) (by rfl) W1.heap.size secZ (by rfl) (by rfl) 64 _ (heap_alloc_new _ _) secZ_size rfl secZ_all ?_))
  try rw [put_none']
  generalize hW2 : World.setRow _ _ _ = W2
  have B2 : Hid (Below w.heap.size w W2) := by rw [← hW2]; exact below_setRow (B1.out.alloc B1.out.size _) B1.out.size _
  clear hW2 B1
  go_wp2_with fail
  rw [HEE.out]
  refine (codeOf_size seedTxt s.size 32 W2 ((B2.out.cell (World.block_lt_of_cell? w _ HE.out)).trans HE.out)).mono ?_
  rintro e W3 ⟨rfl, hB⟩
  have B3 := kTr B2 hB
  clear hB B2
  go_wp2_with fail
  go_returns
  refine ⟨?_, B3.out⟩
  unfold lkS lkE
  rw [if_neg HS.out, if_neg HS.out]; rfl
set_option maxRecDepth 100000 in
set_option maxHeartbeats 4000000 in
theorem latchSignA (s m : ByteArray) (hm : m.size ≤ maxLen) (w : World) (hG : GlB w) (hK : Tab w) (hO : OrdAt w) (hE : w.cell? ⟨3, 0, none⟩ = some (rtV 66)) :
  Calls Tryz.prog 10 #[.string s, .string m] w fun e w' => e = .returned (.tuple #[.string (lsS s m), .int .i64 (lkE s)]) ∧ Below w.heap.size w w' := by
 have hzb := zeroBase
 have hzs := zeroSec
 have hz64 := zero64T
 have HG := hide hG
 have HK := hide hK
 have HE := hide hE
 have HO := hide hO
 have Hm := hide hm
 have h7 := hG.seven
 clear hG hK hE hO hm
 go_enter Tryz.func10, Tryz.ntmps10
 go_upto_region 1 with fail
 obtain ⟨W0, hW0⟩ : ∃ W, W = w.alloc (.cells baseZ 86) := ⟨_, rfl⟩
 have RB : Hid (W0.heap[w.heap.size]? = some (.cells baseZ 86 (0, 0))) := by rw [hW0]; exact heap_alloc_new _ _
 have B0 : Hid (Below w.heap.size w W0) := by rw [hW0]; exact (Below.refl _ _).alloc (Nat.le_refl _) _
 by_cases h32 : s.size = 32
 ·
  have HS := hide h32
  clear h32
  go_wp2_with fail
  rw [← hW0]
  clear hW0
  refine (secretOf_yes w.heap.size s HS.out W0 (HG.out.keep B0.out) (HK.out.below B0.out HK.out.lt) h7 (baseZ_new RB.out)).mono ?_
  rintro e W1 ⟨rfl, hX, hD⟩
  have B1 : Hid (Below w.heap.size w W1) := B0.out.trans (hX.below B0.out.size)
  have D1 := hide hD
  clear hX hD B0 RB
  obtain ⟨c, Ec⟩ : ∃ n, Hid (n = sdC s) := ⟨_, hide rfl⟩
  obtain ⟨n, En⟩ : ∃ n, Hid (n = sdN s) := ⟨_, hide rfl⟩
  obtain ⟨p, Ep⟩ : ∃ n, Hid (n = sdP s) := ⟨_, hide rfl⟩
  rw [← Ec.out, ← En.out, ← Ep.out]
  go_upto_region 4 with (first
   | (refine wpList_store_row (by rfl) 64 (.tmp 6) (.tmp 13) (by rfl) W1.heap.size (secA w.heap.size n p c) (by rfl) (by rfl) 64 _ (heap_alloc_new _ _) (secA_size _ _ _ _) (secA_old _ _ _ _) (secA_all _ _ _ _) ?_))
  try rw [put_none']
  obtain ⟨g6, hg6⟩ : ∃ q, q = W1.heap.size := ⟨_, rfl⟩
  generalize hW2 : World.setRow _ _ _ = W2
  have K2 : Hid (Below W1.heap.size W1 W2) := by rw [← hW2]; exact below_setRow ((Below.refl _ _).alloc (Nat.le_refl _) _) (Nat.le_refl _) _
  have R6 : Hid (W2.heap[g6]? = some (.cells (secA w.heap.size n p c) 64 (0, 0))) := by rw [← hW2, hg6]; exact setRow_heap _ _ _ _ _ _ (heap_alloc_new _ _)
  have B2 : Hid (Below w.heap.size w W2) := B1.out.trans (K2.out.mono B1.out.size)
  have D2 := hide (D1.out.keep (K2.out.block _ D1.out.lt))
  rw [← hg6]
  clear hW2 hg6 B1 D1 K2
  go_wp2_with (first
   | (refine wpList_load_row (by rfl) 64 (.tmp 6) (by rfl) g6 (by rfl) 64 (secA w.heap.size n p c) (0, 0) _ R6.out Tryz.underlying64 rfl (secA_size _ _ _ _) ?_))
  refine (secSign w.heap.size n c p m (by rw [En.out]; exact sdN_lt s) (by rw [Ep.out]; exact sdP_le s) Hm.out W2 (HG.out.keep B2.out) (HK.out.below B2.out HK.out.lt) (HO.out.below B2.out HO.out.lt) h7 D2.out).mono ?_
  rintro e W3 ⟨rfl, hX, _⟩
  have B3 : Hid (Below w.heap.size w W3) := B2.out.trans (hX.below B2.out.size)
  clear hX B2 R6 D2
  obtain ⟨L, EL⟩ : ∃ L, Hid (L = leB (sgC p m) 32 ++ leB (sgS n c p m) 32) := ⟨_, hide rfl⟩
  rw [← EL.out]
  have hlen : Hid (L.length = 64) := by show _ = _; rw [EL.out]; simp [leB_length]
  obtain ⟨M, EM⟩ : ∃ M, Hid (M = (L.map cv).toArray) := ⟨_, hide rfl⟩
  have hM64 : M.size = 64 := by rw [EM.out]; simp [hlen.out]
  have MS : Hid ((Tryz.prog.info? 102).map (·.size) = some M.size) := by show _ = _; rw [hM64]; exact size64
  have MO : Hid (z64.size = M.size) := by show _ = _; rw [hM64, z64_def]; simp
  have MA : Hid (M.all (·.oneCell') = true) := by show _ = _; rw [EM.out]; exact all_oneCell_toArray (bytes_cell _)
  rw [← EM.out]
  go_upto_region 5 with (first
   | (refine wpList_store_row (by rfl) 102 (.tmp 8) (.tmp 21) (by rfl) W3.heap.size M (by rfl) (by rfl) 102 _ (heap_alloc_new _ _) MS.out MO.out MA.out ?_))
  try rw [put_none']
  obtain ⟨g8, hg8⟩ : ∃ q, q = W3.heap.size := ⟨_, rfl⟩
  generalize hW4 : World.setRow _ _ _ = W4
  have R8 : Hid (W4.heap[g8]? = some (.cells (L.map cv).toArray 102 (0, 0))) := by rw [← hW4, hg8, ← EM.out]; exact setRow_heap _ _ _ _ _ _ (heap_alloc_new _ _)
  have B4 : Hid (Below w.heap.size w W4) := by rw [← hW4]; exact below_setRow (B3.out.alloc B3.out.size _) B3.out.size _
  rw [← hg8]
  clear hW4 hg8 B3
  have hsl := slice64w
  have hcv := convRn W4 g8 0 64 L hlen.out (rangeA R8.out)
  obtain ⟨T, HT⟩ : ∃ T, Hid (T = strOf L) := ⟨_, hide rfl⟩
  rw [← HT.out] at hcv
  go_wp2_with fail
  go_returns
  refine ⟨?_, B4.out⟩
  unfold lsS lkE
  rw [if_pos HS.out, if_pos HS.out, ← Ec.out, ← En.out, ← Ep.out, ← EL.out, ← HT.out]; rfl
 ·
  have HS := hide h32
  clear h32
  go_wp2_with fail
  rw [← hW0]
  clear hW0
  refine (secretOf_no w.heap.size s HS.out W0).mono ?_
  rintro e W1 ⟨rfl, hB⟩
  have B1 := kTr B0 hB
  clear hB B0 RB
  obtain ⟨E, HEE⟩ : ∃ E, Hid (E = Value.agg #[.string seedTxt, szI s.size 32]) := ⟨_, rfl⟩
  rw [show atE seedTxt (szI s.size 32) = .iface 173 E by rw [HEE.out]; rfl]
  go_upto_region 3 with (first
   | (refine wpList_store_row (by rfl) 64 (.tmp 6) (.tmp 13) (by rfl) W1.heap.size secZ (by rfl) (by rfl) 64 _ (heap_alloc_new _ _) secZ_size rfl secZ_all ?_))
  try rw [put_none']
  generalize hW2 : World.setRow _ _ _ = W2
  have B2 : Hid (Below w.heap.size w W2) := by rw [← hW2]; exact below_setRow (B1.out.alloc B1.out.size _) B1.out.size _
  clear hW2 B1
  go_wp2_with fail
  rw [HEE.out]
  refine (codeOf_size seedTxt s.size 32 W2 ((B2.out.cell (World.block_lt_of_cell? w _ HE.out)).trans HE.out)).mono ?_
  rintro e W3 ⟨rfl, hB⟩
  have B3 := kTr B2 hB
  clear hB B2
  go_wp2_with fail
  go_returns
  refine ⟨?_, B3.out⟩
  unfold lsS lkE
  rw [if_neg HS.out, if_neg HS.out]; rfl
end
end Go.Proofs.YtccgfabojbjmjaaGreatDoor
