import Derived.Test.YtccgfabojbjmjaaGreatDoorSd47
namespace Go.Proofs.YtccgfabojbjmjaaGreatDoor
open Go.RowKit
theorem sec_c0 {w : World} {g b n k : Nat} {p : ByteArray} {T : TypeId} {fr : Nat × Nat} (h : w.heap[g]? = some (.cells (secA b n p k) T fr)) : w.cell? ⟨g, 0, none⟩ = some (.pointer (some ⟨b, 0, none⟩)) := by rw [cell_of_row w g 0 _ T _ h]; rfl
theorem sec_c5 {w : World} {g b n k : Nat} {p : ByteArray} {T : TypeId} {fr : Nat × Nat} (h : w.heap[g]? = some (.cells (secA b n p k) T fr)) : w.cell? ⟨g, 5, none⟩ = some (.string p) := by rw [cell_of_row w g 5 _ T _ h]; rfl
theorem sec_r1 {w : World} {g b n k : Nat} {p : ByteArray} {T : TypeId} {fr : Nat × Nat} (h : w.heap[g]? = some (.cells (secA b n p k) T fr)) : w.rangeAt g 1 (nL n) := by
 intro j v hv
 rw [cell_of_row w g (1 + j) _ T _ h, secA, List.getElem?_toArray, secL, Nat.add_comm 1 j, List.getElem?_cons_succ, List.getElem?_append_left (by
  rcases Nat.lt_or_ge j (nL n).length with k | k
  · exact k
  · rw [List.getElem?_eq_none k] at hv; cases hv)]
 exact hv
theorem sec_r6 {w : World} {g b n k : Nat} {p : ByteArray} {T : TypeId} {fr : Nat × Nat} (h : w.heap[g]? = some (.cells (secA b n p k) T fr)) : w.rangeAt g 6 (bL k) := by
 intro j v hv
 have e : ∀ l : List Value, (.pointer (some ⟨b, 0, none⟩) :: (nL n ++ .string p :: l) : List Value)[6 + j]? = l[j]? := by
  intro l
  rw [show 6 + j = (j + 5) + 1 by omega, List.getElem?_cons_succ, List.getElem?_append_right (by show 4 ≤ _; omega), show j + 5 - (nL n).length = j + 1 by show j + 5 - 4 = _; omega, List.getElem?_cons_succ]
 rw [cell_of_row w g (6 + j) _ T _ h, secA, List.getElem?_toArray, secL, e]
 exact hv
noncomputable def sgR (p m : ByteArray) : Nat := valLE (hashOf (bytesOf p ++ bytesOf m)) % Lord
noncomputable def sgC (p m : ByteArray) : Nat := cdN (mlP (pwN bpP) (sgR p m) 64)
noncomputable def sgK (c : Nat) (p m : ByteArray) : Nat := valLE (hashOf (leB (sgC p m) 32 ++ (leB c 32 ++ bytesOf m))) % Lord
noncomputable def sgS (n c : Nat) (p m : ByteArray) : Nat := (sgK c p m * n + sgR p m) % Lord
theorem nL_A (n : Nat) : (nL n).toArray = num4A n := rfl
theorem nL_size4 (n : Nat) : (Tryz.prog.info? 60).map (·.size) = some (nL n).length := size4
theorem LordM_lt {n : Nat} : n % Lord < 115792089237316195423570985008687907853269984665640564039457584007913129639936 := Nat.lt_trans (Nat.mod_lt _ (by decide)) (by decide)
section
attribute [local irreducible] num4A nL bA bL secA secZ pA psA psL pL bpP z64
set_option maxRecDepth 100000 in
set_option maxHeartbeats 4000000 in
theorem secSign (b n c : Nat) (p m : ByteArray) (hn : n < 115792089237316195423570985008687907853269984665640564039457584007913129639936) (hp : p.size ≤ maxLen) (hm : m.size ≤ maxLen) (w : World) (hG : GlB w) (hK : Tab w) (hO : OrdAt w) (h7 : 13 ≤ b) (hD : BaseDone w b) :
  Calls Tryz.prog 37 #[.agg (secA b n p c), .string m] w fun e w' => e = .returned (.agg ((leB (sgC p m) 32 ++ leB (sgS n c p m) 32).map cv).toArray) ∧ Bex b w w' ∧ BaseDone w' b := by
 have hz4 := zero4W
 have hz64 := zero64T
 have hz32 := zero32A
 have hzc := zeroCode
 have Hn := hide hn
 have HG := hide hG
 have HK := hide hK
 have HO := hide hO
 have HD := hide hD
 have Hp := hide hp
 have Hm := hide hm
 have lb := hD.lt
 clear hn hG hK hO hD hp hm
 go_enter Tryz.func37, Tryz.ntmps37
 go_upto_region 1 with fail
 generalize hW0 : World.alloc _ _ = W0
 have R2 : Hid (W0.heap[w.heap.size]? = some (.cells (secA b n p c) 64 (0, 0))) := by rw [← hW0]; exact heap_alloc2_old _ _ _
 have RZ : Hid (W0.heap[w.heap.size + 1]? = some (.cells z64 102 (0, 0))) := by rw [← hW0]; exact heap_alloc2_new _ _ _
 have B0 : Hid (Below w.heap.size w W0) := by rw [← hW0]; show Below _ _ _; go_grown
 clear hW0
 have lz0 := lt_row RZ.out
 have c5 := sec_c5 R2.out
 have hbu := build2 p m
 obtain ⟨r, Er⟩ : ∃ r, Hid (r = sgR p m) := ⟨_, hide rfl⟩
 go_wp2_with fail
 obtain ⟨W1, hW1⟩ : ∃ W, W = W0.alloc (.cells #[.string p, .string m] 9) := ⟨_, rfl⟩
 have RQ : Hid (W1.heap[W0.heap.size]? = some (.cells #[.string p, .string m] 9 (0, 0))) := by rw [hW1]; exact heap_alloc_new _ _
 have B1 : Hid (Below W0.heap.size W0 W1) := by rw [hW1]; exact (Below.refl _ _).alloc (Nat.le_refl _) _
 rw [← hW1]
 clear hW1
 have T1 := hide (HK.out.below (B0.out.trans (B1.out.mono B0.out.size)) HK.out.lt)
 have O1 := hide (HO.out.below (B0.out.trans (B1.out.mono B0.out.size)) HO.out.lt)
 refine (hashed2 p m W0.heap.size r Er.out W1 T1.out O1.out RQ.out Hp.out Hm.out).mono ?_
 rintro e W2 ⟨rfl, hB⟩
 have K2 := kTr B1 hB
 clear hB B1 T1 O1 RQ hbu c5
 go_upto_region 2 with (first
  | (refine wpList_store_row (by rfl) 60 (.tmp 5) (.tmp 14) (by rfl) W2.heap.size (num4A r) (by rfl) (by rfl) 60 _ (heap_alloc_new _ _) (size4W _) (n4W _ _) (num4A_all _) ?_))
 try rw [put_none']
 obtain ⟨g5, hg5⟩ : ∃ s, s = W2.heap.size := ⟨_, rfl⟩
 generalize hW3 : World.setRow _ _ _ = W3
 have hg50 : W0.heap.size ≤ g5 := by rw [hg5]; exact K2.out.size
 have K3 : Hid (Below W0.heap.size W0 W3) := by rw [← hW3]; exact below_setRow (K2.out.alloc K2.out.size _) K2.out.size _
 have R5 : Hid (W3.heap[g5]? = some (.cells (num4A r) 60 (0, 0))) := by rw [← hW3, hg5]; exact setRow_heap _ _ _ _ _ _ (heap_alloc_new _ _)
 rw [← hg5]
 clear hW3 hg5 K2
 have R2 := hide (row_keep' R2.out K3.out)
 have RZ := hide (row_keep' RZ.out K3.out)
 have B3 : Hid (Below w.heap.size w W3) := B0.out.trans (K3.out.mono B0.out.size)
 have hsz0 : w.heap.size + 2 ≤ g5 := by omega
 clear K3 B0 lz0 hg50
 have G3 := hide (HG.out.keep B3.out)
 have D3 := hide (HD.out.keep (B3.out.block b lb))
 have BX := hide (Bex.of (b := b) B3.out)
 have T3 := hide (HK.out.below B3.out HK.out.lt)
 have O3 := hide (HO.out.below B3.out HO.out.lt)
 clear B3 HG HD HK HO
 have c0 := sec_c0 R2.out
 go_wp2_with (first
  | (refine wpList_load_row (by rfl) 60 (.tmp 5) (by rfl) g5 (by rfl) 60 (num4A r) (0, 0) _ R5.out under4 rfl (size4W _) ?_))
 refine (baseTimesDone b r W3 G3.out h7 D3.out).mono ?_
 rintro e W4 ⟨rfl, hX, hD4⟩
 have n2 : w.heap.size ≠ b := by omega
 have nz1 : w.heap.size + 1 ≠ b := by omega
 have n5 : g5 ≠ b := by omega
 have R2 : Hid (W4.heap[w.heap.size]? = some (.cells (secA b n p c) 64 (0, 0))) := (hX.block _ (lt_row R2.out) n2).trans R2.out
 have RZ : Hid (W4.heap[w.heap.size + 1]? = some (.cells z64 102 (0, 0))) := (hX.block _ (lt_row RZ.out) nz1).trans RZ.out
 have R5 : Hid (W4.heap[g5]? = some (.cells (num4A r) 60 (0, 0))) := (hX.block _ (lt_row R5.out) n5).trans R5.out
 have BX := hide (BX.out.trans hX)
 have T4 := hide (T3.out.bex hX (by omega))
 have O4 := hide (O3.out.bex hX (by omega))
 have D4 := hide hD4
 clear hX hD4 T3 O3 D3 G3 c0
 go_wp2_with fail
 refine (ptCodeA (mlP (pwN bpP) r 64) (mlP_ok _ r 64) W4).mono ?_
 rintro e W5 ⟨rfl, hB⟩
 have R2 := hide (row_keep' R2.out hB)
 have RZ := hide (row_keep' RZ.out hB)
 have R5 := hide (row_keep' R5.out hB)
 have BX := hide (BX.out.trans (Bex.of hB))
 have T5 := hide (T4.out.below hB T4.out.lt)
 have O5 := hide (O4.out.below hB O4.out.lt)
 have D5 := hide (D4.out.keep (hB.block b D4.out.lt))
 clear hB T4 O4 D4
 obtain ⟨cR, EcR⟩ : ∃ x, Hid (x = cdN (mlP (pwN bpP) r 64)) := ⟨_, hide rfl⟩
 rw [← EcR.out]
 go_upto_region 3 with (first
  | (refine wpList_store_row (by rfl) 62 (.tmp 6) (.tmp 19) (by rfl) W5.heap.size (bA cR) (by rfl) (by rfl) 62 _ (heap_alloc_new _ _) (bA_size _) (bA_old _ _) (bA_all _) ?_))
 try rw [put_none']
 obtain ⟨g6, hg6⟩ : ∃ s, s = W5.heap.size := ⟨_, rfl⟩
 generalize hW6 : World.setRow _ _ _ = W6
 have hg65 : g5 < g6 := by rw [hg6]; exact lt_row R5.out
 have K6 : Hid (Below W5.heap.size W5 W6) := by rw [← hW6]; exact below_setRow ((Below.refl _ _).alloc (Nat.le_refl _) _) (Nat.le_refl _) _
 have R6 : Hid (W6.heap[g6]? = some (.cells (bA cR) 62 (0, 0))) := by rw [← hW6, hg6]; exact setRow_heap _ _ _ _ _ _ (heap_alloc_new _ _)
 rw [← hg6]
 clear hW6 hg6
 have R2 := hide (row_keep' R2.out K6.out)
 have RZ := hide (row_keep' RZ.out K6.out)
 have R5 := hide (row_keep' R5.out K6.out)
 have BX := hide (BX.out.trans (Bex.of K6.out))
 have T6 := hide (T5.out.below K6.out T5.out.lt)
 have O6 := hide (O5.out.below K6.out O5.out.lt)
 have D6 := hide (D5.out.keep (K6.out.block b D5.out.lt))
 clear K6 T5 O5 D5
 have r6 := hide (sec_r6 R2.out)
 have bS : Hid ((Tryz.prog.info? 62).map (·.size) = some (bL c).length) := by show _ = _; rw [sizeCode]; simp [bL, leB_length]
 have bLA : (bL c).toArray = bA c := bL_A c
 go_wp2_with (first
  | (refine wpList_load_row (by rfl) 62 (.tmp 6) (by rfl) g6 (by rfl) 62 (bA cR) (0, 0) _ R6.out underCode rfl (bA_size _) ?_)
  | (refine wpList_load_mid (by rfl) 62 (.tmp 21) (by rfl) w.heap.size 6 (by rfl) (bL c) _ r6.out underCode rfl bS.out ?_))
 refine (challengeA cR c m Hm.out W6 T6.out O6.out).mono ?_
 rintro e W7 ⟨rfl, hB⟩
 have R2 := hide (row_keep' R2.out hB)
 have RZ := hide (row_keep' RZ.out hB)
 have R5 := hide (row_keep' R5.out hB)
 have R6 := hide (row_keep' R6.out hB)
 have BX := hide (BX.out.trans (Bex.of hB))
 have O7 := hide (O6.out.below hB O6.out.lt)
 have D7 := hide (D6.out.keep (hB.block b D6.out.lt))
 clear hB T6 O6 D6 r6 bS bLA
 obtain ⟨kN, Ek⟩ : ∃ x, Hid (x = valLE (hashOf (leB cR 32 ++ (leB c 32 ++ bytesOf m))) % Lord) := ⟨_, hide rfl⟩
 rw [← Ek.out]
 go_upto_region 4 with (first
  | (refine wpList_store_row (by rfl) 60 (.tmp 7) (.tmp 24) (by rfl) W7.heap.size (num4A kN) (by rfl) (by rfl) 60 _ (heap_alloc_new _ _) (size4W _) (n4W _ _) (num4A_all _) ?_))
 try rw [put_none']
 obtain ⟨g7, hg7⟩ : ∃ s, s = W7.heap.size := ⟨_, rfl⟩
 generalize hW8 : World.setRow _ _ _ = W8
 have hg76 : g6 < g7 := by rw [hg7]; exact lt_row R6.out
 have K8 : Hid (Below W7.heap.size W7 W8) := by rw [← hW8]; exact below_setRow ((Below.refl _ _).alloc (Nat.le_refl _) _) (Nat.le_refl _) _
 have R7 : Hid (W8.heap[g7]? = some (.cells (num4A kN) 60 (0, 0))) := by rw [← hW8, hg7]; exact setRow_heap _ _ _ _ _ _ (heap_alloc_new _ _)
 rw [← hg7]
 clear hW8 hg7
 have R2 := hide (row_keep' R2.out K8.out)
 have RZ := hide (row_keep' RZ.out K8.out)
 have R5 := hide (row_keep' R5.out K8.out)
 have R6 := hide (row_keep' R6.out K8.out)
 have BX := hide (BX.out.trans (Bex.of K8.out))
 have O8 := hide (O7.out.below K8.out O7.out.lt)
 have D8 := hide (D7.out.keep (K8.out.block b D7.out.lt))
 clear K8 O7 D7
 have r1 := hide (sec_r1 R2.out)
 have nLA : (nL n).toArray = num4A n := nL_A n
 have nS : Hid ((Tryz.prog.info? 60).map (·.size) = some (nL n).length) := nL_size4 n
 go_wp2_with (first
  | (refine wpList_load_row (by rfl) 60 (.tmp 7) (by rfl) g7 (by rfl) 60 (num4A kN) (0, 0) _ R7.out under4 rfl (size4W _) ?_)
  | (refine wpList_load_mid (by rfl) 60 (.tmp 26) (by rfl) w.heap.size 1 (by rfl) (nL n) _ r1.out under4 rfl nS.out ?_)
  | (refine wpList_load_row (by rfl) 60 (.tmp 5) (by rfl) g5 (by rfl) 60 (num4A r) (0, 0) _ R5.out under4 rfl (size4W _) ?_))
 refine (timesPlusA kN n r (by rw [Ek.out]; exact LordM_lt) Hn.out (by rw [Er.out]; exact LordM_lt) W8 O8.out).mono ?_
 rintro e W9 ⟨rfl, hB⟩
 have RZ := hide (row_keep' RZ.out hB)
 have R6 := hide (row_keep' R6.out hB)
 have R7 := hide (row_keep' R7.out hB)
 have BX := hide (BX.out.trans (Bex.of hB))
 have D9 := hide (D8.out.keep (hB.block b D8.out.lt))
 clear hB O8 D8 r1 nS nLA R2 R5
 obtain ⟨sN, Es⟩ : ∃ x, Hid (x = (kN * n + r) % Lord) := ⟨_, hide rfl⟩
 rw [← Es.out]
 go_wp2_with fail
 refine (bytesN sN W9).mono ?_
 rintro e W10 ⟨rfl, hB⟩
 have RZ := hide (row_keep' RZ.out hB)
 have R6 := hide (row_keep' R6.out hB)
 have R7 := hide (row_keep' R7.out hB)
 have BX := hide (BX.out.trans (Bex.of hB))
 have D10 := hide (D9.out.keep (hB.block b D9.out.lt))
 clear hB D9
 have hs1 := slice64w
 have hs2 := slice32_all
 have hs3 := slice64_from
 have hs4 := sliceCode_all
 go_upto_region 5 with (first
  | (refine wpList_store_row (by rfl) 61 (.tmp 8) (.tmp 30) (by rfl) W10.heap.size (bA sN) (by rfl) (by rfl) 61 _ (heap_alloc_new _ _) (bA_size' _) (bA_old _ _) (bA_all _) ?_))
 obtain ⟨g8, hg8⟩ : ∃ s, s = W10.heap.size := ⟨_, rfl⟩
 generalize hWs : World.setRow _ _ _ = Ws
 have hg86 : g6 < g8 := by rw [hg8]; exact lt_row R6.out
 have Ks : Hid (Below W10.heap.size W10 Ws) := by rw [← hWs]; exact below_setRow ((Below.refl _ _).alloc (Nat.le_refl _) _) (Nat.le_refl _) _
 have R8 : Hid (Ws.heap[g8]? = some (.cells (bA sN) 61 (0, 0))) := by rw [← hWs, hg8]; exact setRow_heap _ _ _ _ _ _ (heap_alloc_new _ _)
 rw [← hg8]
 clear hWs hg8
 have RZ := hide (row_keep' RZ.out Ks.out)
 have R6 := hide (row_keep' R6.out Ks.out)
 have BX := hide (BX.out.trans (Bex.of Ks.out))
 have Ds := hide (D10.out.keep (Ks.out.block b D10.out.lt))
 clear Ks D10
 try rw [put_none']
 go_upto_region 6 with fail
 obtain ⟨g, hg⟩ : ∃ s, s = Ws.heap.size := ⟨_, rfl⟩
 generalize hW9 : World.alloc _ _ = W9
 have R9 : Hid (W9.heap[g]? = some (.cells ((List.replicate 64 (0 : UInt8)).map cv).toArray 102 (0, 0))) := by rw [← hW9, hg, z64_def]; exact heap_alloc_new _ _
 have l8 := lt_row R8.out
 have K9 : Hid (Below Ws.heap.size Ws W9) := by rw [← hW9]; exact (Below.refl _ _).alloc (Nat.le_refl _) _
 have R8 : Hid (W9.heap[g8]? = some (.cells ((leB sN 32).map cv).toArray 61 (0, 0))) := by rw [← bA_def]; exact row_keep' R8.out K9.out
 have R6 : Hid (W9.heap[g6]? = some (.cells ((leB cR 32).map cv).toArray 62 (0, 0))) := by rw [← bA_def]; exact row_keep' R6.out K9.out
 have RZ : Hid (W9.heap[w.heap.size + 1]? = some (.cells ((List.replicate 64 (0 : UInt8)).map cv).toArray 102 (0, 0))) := by rw [← z64_def]; exact row_keep' RZ.out K9.out
 have BX := hide (BX.out.trans (Bex.of K9.out))
 have DN := hide (Ds.out.keep (K9.out.block b Ds.out.lt))
 have n8 : g8 ≠ g := by omega
 have nz : w.heap.size + 1 ≠ g := by omega
 have nb : b ≠ g := by omega
 have hgw : w.heap.size ≤ g := by omega
 rw [← hg]
 clear hW9 hg l8 K9 Ds
 refine wp_region_held_drew (S := fun _ => True) (by kernel_rfl) trivial (fun hHeld => ?_)
 have R8 : Hid (W9.drew.heap[g8]? = some (.cells (((leB sN 32).map cv).toArray) 61 (0, 0))) := R8
 have RZ : Hid (W9.drew.heap[w.heap.size + 1]? = some (.cells (((List.replicate 64 (0 : UInt8)).map cv).toArray) 102 (0, 0))) := RZ
 have BX : Hid (Bex b w W9.drew) := BX.out.drew
 have DN : Hid (BaseDone W9.drew b) := hide (DN.out.keep rfl)
 have R9 : Hid (W9.drew.heap[g]? = some (.cells (((List.replicate 64 (0 : UInt8)).map cv).toArray) 102 (0, 0))) := R9
 have R6 : Hid (W9.drew.heap[g6]? = some (.cells ((leB cR 32).map cv).toArray 62 (0, 0))) := R6
 obtain ⟨DV6, hDV6⟩ : ∃ V, V = W9.drew := ⟨_, rfl⟩
 rw [← hDV6] at R6 R8 RZ BX DN R9 ⊢
 clear hDV6
 refine wpAnyH_take (i := 0) (oi := ⟨some 31, .slice 102 (.tmp 9) none none none, 89, "secret.go:56", #[], none⟩) (v := .slice (some ⟨g, 0, none⟩) 64 64) rfl (by kernel_rfl) (by kernel_rfl) (by kernel_rfl) (fun _ _ _ h => h) (Or.inl ⟨by rfl, fun w _ => by go_simp⟩) hHeld ?_
 simp only [zaP, zsT, zsZ, zsS]
 refine wpAnyH_take (i := 1) (oi := ⟨some 32, .slice 62 (.tmp 6) none none none, 89, "secret.go:56", #[], none⟩) (v := .slice (some ⟨g6, 0, none⟩) 32 32) rfl (by kernel_rfl) (by kernel_rfl) (by kernel_rfl) (fun _ _ _ h => h) (Or.inl ⟨by rfl, fun w _ => by go_simp⟩) hHeld ?_
 simp only [zaP, zsT, zsZ, zsS]
 refine wpAnyH_ready (rs := [2]) (by kernel_rfl) (by simp) ?_
 refine AllReadyH.cons (o := ⟨some 33, .call ⟨.builtin .copy, #[.tmp 31, .tmp 32], #[89, 89]⟩, 3, "secret.go:56", #[zeD 0, zeD 1], none⟩) rfl (fun K hK => ?_) AllReadyH.nil
 refine step_runTo (by rfl) (.int .i64 32) (hrunCopy _ _ rfl g 0 g6 64 (by decide) rfl rfl DV6 (leB cR 32) (List.replicate 64 0) (leB_length _ _) (by simp) _ _ R6.out R9.out) ?_
 obtain ⟨V6, hV6⟩ : ∃ V, V = World.setRow DV6 g ((splice (List.replicate 64 (0 : UInt8)) 0 (leB cR 32)).map cv).toArray := ⟨_, rfl⟩
 have R8 : Hid (V6.heap[g8]? = some (.cells (((leB sN 32).map cv).toArray) 61 (0, 0))) := by rw [hV6]; exact (setRow_other _ _ _ _ n8).trans R8.out
 have RZ : Hid (V6.heap[w.heap.size + 1]? = some (.cells (((List.replicate 64 (0 : UInt8)).map cv).toArray) 102 (0, 0))) := by rw [hV6]; exact (setRow_other _ _ _ _ nz).trans RZ.out
 have BX : Hid (Bex b w V6) := by rw [hV6]; exact BX.out.setRow hgw _
 have DN : Hid (BaseDone V6 b) := by rw [hV6]; exact DN.out.keep (setRow_other _ _ _ _ nb)
 have R9 : Hid (V6.heap[g]? = some (.cells (((splice (List.replicate 64 (0 : UInt8)) 0 (leB cR 32)).map cv).toArray) 102 (0, 0))) := by rw [hV6]; exact setRow_heap _ _ _ _ _ _ R9.out
 rw [← hV6]
 clear hV6
 refine hK.out _ _ trivial (fun hHeld => ?_)
 clear hK K hHeld
 try simp only [zaP, zsT, zsZ, zsS]
 refine wpAnyH_done (by kernel_rfl) ?_ _
 rw [sp1 _ (leB_length _ _)] at R9
 go_upto_region 7 with fail
 refine wp_region_held_drew (S := fun _ => True) (by kernel_rfl) trivial (fun hHeld => ?_)
 have R8 : Hid (V6.drew.heap[g8]? = some (.cells (((leB sN 32).map cv).toArray) 61 (0, 0))) := R8
 have RZ : Hid (V6.drew.heap[w.heap.size + 1]? = some (.cells (((List.replicate 64 (0 : UInt8)).map cv).toArray) 102 (0, 0))) := RZ
 have BX : Hid (Bex b w V6.drew) := BX.out.drew
 have DN : Hid (BaseDone V6.drew b) := hide (DN.out.keep rfl)
 have R9 : Hid (V6.drew.heap[g]? = some (.cells (((leB cR 32 ++ List.replicate 32 (0 : UInt8)).map cv).toArray) 102 (0, 0))) := R9
 obtain ⟨DV7, hDV7⟩ : ∃ V, V = V6.drew := ⟨_, rfl⟩
 rw [← hDV7] at R8 RZ BX DN R9 ⊢
 clear hDV7
 refine wpAnyH_take (i := 0) (oi := ⟨some 34, .slice 102 (.tmp 9) (some (.const (.int .i64 32))) none none, 89, "secret.go:57", #[], none⟩) (v := .slice (some ⟨g, 32, none⟩) 32 32) rfl (by kernel_rfl) (by kernel_rfl) (by kernel_rfl) (fun _ _ _ h => h) (Or.inl ⟨by rfl, fun w _ => by go_simp⟩) hHeld ?_
 simp only [zaP, zsT, zsZ, zsS]
 refine wpAnyH_take (i := 1) (oi := ⟨some 35, .slice 61 (.tmp 8) none none none, 89, "secret.go:57", #[], none⟩) (v := .slice (some ⟨g8, 0, none⟩) 32 32) rfl (by kernel_rfl) (by kernel_rfl) (by kernel_rfl) (fun _ _ _ h => h) (Or.inl ⟨by rfl, fun w _ => by go_simp⟩) hHeld ?_
 simp only [zaP, zsT, zsZ, zsS]
 refine wpAnyH_ready (rs := [2]) (by kernel_rfl) (by simp) ?_
 refine AllReadyH.cons (o := ⟨some 36, .call ⟨.builtin .copy, #[.tmp 34, .tmp 35], #[89, 89]⟩, 3, "secret.go:57", #[zeD 0, zeD 1], none⟩) rfl (fun K hK => ?_) AllReadyH.nil
 refine step_runTo (by rfl) (.int .i64 32) (hrunCopy _ _ rfl g 32 g8 32 (by decide) rfl rfl DV7 (leB sN 32) (leB cR 32 ++ List.replicate 32 0) (leB_length _ _) (by simp [leB_length]) _ _ R8.out R9.out) ?_
 obtain ⟨V7, hV7⟩ : ∃ V, V = World.setRow DV7 g ((splice (leB cR 32 ++ List.replicate 32 (0 : UInt8)) 32 (leB sN 32)).map cv).toArray := ⟨_, rfl⟩
 have R8 : Hid (V7.heap[g8]? = some (.cells (((leB sN 32).map cv).toArray) 61 (0, 0))) := by rw [hV7]; exact (setRow_other _ _ _ _ n8).trans R8.out
 have RZ : Hid (V7.heap[w.heap.size + 1]? = some (.cells (((List.replicate 64 (0 : UInt8)).map cv).toArray) 102 (0, 0))) := by rw [hV7]; exact (setRow_other _ _ _ _ nz).trans RZ.out
 have BX : Hid (Bex b w V7) := by rw [hV7]; exact BX.out.setRow hgw _
 have DN : Hid (BaseDone V7 b) := by rw [hV7]; exact DN.out.keep (setRow_other _ _ _ _ nb)
 have R9 : Hid (V7.heap[g]? = some (.cells (((splice (leB cR 32 ++ List.replicate 32 (0 : UInt8)) 32 (leB sN 32)).map cv).toArray) 102 (0, 0))) := by rw [hV7]; exact setRow_heap _ _ _ _ _ _ R9.out
 rw [← hV7]
 clear hV7
 refine hK.out _ _ trivial (fun hHeld => ?_)
 clear hK K hHeld
 try simp only [zaP, zsT, zsZ, zsS]
 refine wpAnyH_done (by kernel_rfl) ?_ _
 rw [sp2 _ _ (leB_length _ _) (leB_length _ _)] at R9
 obtain ⟨L, HL⟩ : ∃ L, Hid (L = leB cR 32 ++ leB sN 32) := ⟨_, hide rfl⟩
 rw [← HL.out] at R9
 have hlen : Hid (L.length = 64) := by show _ = _; rw [HL.out]; simp [leB_length]
 obtain ⟨M, HM⟩ : ∃ M, Hid (M = (L.map cv).toArray) := ⟨_, hide rfl⟩
 rw [← HM.out] at R9
 have hM64 : M.size = 64 := by rw [HM.out]; simp [hlen.out]
 have MS : Hid ((Tryz.prog.info? 102).map (·.size) = some M.size) := by show _ = _; rw [hM64]; exact size64
 have MO : Hid (((List.replicate 64 (0 : UInt8)).map cv).toArray.size = M.size) := by show _ = _; rw [hM64]; simp
 have MA : Hid (M.all (·.oneCell') = true) := by show _ = _; rw [HM.out]; exact all_oneCell_toArray (bytes_cell _)
 go_wp2_with (first
  | (refine wpList_load_row (by rfl) 102 (.tmp 9) (by rfl) g (by rfl) 102 M (0, 0) _ R9.out under64 rfl MS.out ?_)
  | (refine wpList_store_row (by rfl) 102 (.tmp 4) (.tmp 37) (by rfl) (w.heap.size + 1) M (by rfl) (by rfl) 102 _ RZ.out MS.out MO.out MA.out ?_))
 refine bodyPost_ret (v := .agg M) (results_cell_row Tryz.results37 _ _ (w.heap.size + 1) 102 _ (0, 0) _ (by rfl) (setRow_heap _ _ _ _ _ _ RZ.out) under64 rfl MS.out) rfl ⟨?_, BX.out.setRow (by omega) _, DN.out.keep (setRow_other _ _ _ _ (by omega))⟩
 unfold sgS sgK sgC
 rw [← Er.out, ← EcR.out, ← Ek.out, ← Es.out, ← HL.out, HM.out]
end
end Go.Proofs.YtccgfabojbjmjaaGreatDoor
