import Derived.Test.YtccgfabojbjmjaaGreatDoorPx40
namespace Go.Proofs.YtccgfabojbjmjaaGreatDoor
open Go.RowKit
theorem hrunConvL {a : Act} {o : Oper} (x : Operand) (ho : o.op = .convert 89 9 x) (q i : Nat) (l : List UInt8) (hl : l.length = 32) (hx : a.eval x = .slice (some ⟨q, i, none⟩) 32 32) (w : World) (h : w.rangeAt q i (l.map cv)) :
  (execOp a.eval o).run Tryz.prog w = .ok (.value (.string (strOf l))) w := by
 have e := convR w q i l hl h
 unfold execOp
 simp only [ho, hx]
 go_simp
theorem hrunBaseTm {a : Act} {o : Oper} (x y : Operand) (ho : o.op = .call { callee := .value (.func 57), args := #[x, y], argTypes := #[58, 60] }) (v1 v2 : Value) (hx : a.eval x = v1) (hy : a.eval y = v2) (w : World) :
  (execOp a.eval o).run Tryz.prog w = .ok (.enter 57 #[v1, v2]) w := by
 unfold execOp
 simp only [ho]
 subst hx hy
 go_simp
def secL (b n : Nat) (p : ByteArray) (k : Nat) : List Value := .pointer (some ⟨b, 0, none⟩) :: (nL n ++ .string p :: (leB k 32).map cv)
def secA (b n : Nat) (p : ByteArray) (k : Nat) : Array Value := (secL b n p k).toArray
def secZ : Array Value := (Value.pointer none :: (nL 0 ++ .string ⟨#[]⟩ :: (leB 0 32).map cv)).toArray
theorem secA_len (b n : Nat) (p : ByteArray) (k : Nat) : (secA b n p k).size = 38 := by simp [secA, secL, leB_length, nL]
theorem secZ_len : secZ.size = 38 := by simp [secZ, leB_length, nL]
theorem sizeSec : (Tryz.prog.info? 64).map (·.size) = some 38 := by kernel_rfl
theorem secA_size (b n : Nat) (p : ByteArray) (k : Nat) : (Tryz.prog.info? 64).map (·.size) = some (secA b n p k).size := by rw [secA_len]; exact sizeSec
theorem secZ_size : (Tryz.prog.info? 64).map (·.size) = some secZ.size := by rw [secZ_len]; exact sizeSec
theorem secA_old (b n : Nat) (p : ByteArray) (k : Nat) : secZ.size = (secA b n p k).size := by rw [secA_len, secZ_len]
theorem secA_all (b n : Nat) (p : ByteArray) (k : Nat) : (secA b n p k).all (·.oneCell') = true := by
 refine all_oneCell_toArray ?_
 intro v hv
 unfold secL at hv
 rcases List.mem_cons.1 hv with rfl | hv
 · rfl
 rcases List.mem_append.1 hv with hv | hv
 ·
  simp only [nL, List.mem_cons, List.not_mem_nil, or_false] at hv
  rcases hv with rfl | rfl | rfl | rfl <;> rfl
 rcases List.mem_cons.1 hv with rfl | hv
 · rfl
 · exact bytes_cell _ v hv
theorem secZ_all : secZ.all (·.oneCell') = true := by kernel_rfl
theorem zeroSec (w : World) : (zeroValue 64).run Tryz.prog w = .ok (.agg secZ) w := by kernel_rfl
theorem builtSec0 : Tryz.prog.built 64 [] = some secZ := by kernel_rfl
theorem builtSec (b n : Nat) (p : ByteArray) (k : Nat) : Tryz.prog.built 64 [(0, .pointer (some ⟨b, 0, none⟩)), (1, .agg (num4A n)), (2, .string p), (3, .agg (bA k))] = some (secA b n p k) := by kernel_rfl
theorem Tab.bex {b : Nat} {w w' : World} (h : Tab w) (hx : Bex b w w') (hb : 9 ≠ b) : Tab w' := fun i hi =>
 (World.cell?_of_block (w := w) (hx.block 9 h.lt hb)).trans (h i hi)
theorem OrdAt.bex {b : Nat} {w w' : World} (h : OrdAt w) (hx : Bex b w w') (hb : 6 ≠ b) : OrdAt w' := by
 obtain ⟨t, f, e⟩ := h.row
 exact ⟨t, f, (hx.block _ (lt_row e) hb).trans e⟩
def seedTxt : ByteArray := ⟨#[116, 104, 101, 32, 115, 101, 101, 100]⟩
noncomputable def sdN (s : ByteArray) : Nat := valLE (sdL ((hashOf (bytesOf s)).take 32))
noncomputable def sdP (s : ByteArray) : ByteArray := strOf ((hashOf (bytesOf s)).drop 32)
noncomputable def sdC (s : ByteArray) : Nat := cdN (mlP (pwN bpP) (sdN s) 64)
theorem arr32 (b cap : Nat) (w : World) : (Instr.arrayAt 61 (.slice (some ⟨b, 0, none⟩) 32 cap)).run Tryz.prog w = .ok (.pointer (some ⟨b, 0, none⟩)) w := by
 simp [Instr.arrayAt, run_underlying under32]
section
attribute [local irreducible] num4A nL bA bL secA secZ pA psA psL pL bpP
set_option maxRecDepth 100000 in
set_option maxHeartbeats 4000000 in
theorem secretOf_no (b : Nat) (s : ByteArray) (hs : s.size ≠ 32) (w : World) :
  Calls Tryz.prog 29 #[.pointer (some ⟨b, 0, none⟩), .string s] w fun e w' => e = .returned (.tuple #[.agg secZ, atE seedTxt (szI s.size 32)]) ∧ Below w.heap.size w w' := by
 have hz := zeroSec
 have hs' : ¬ (s.size : Int) = 32 := by omega
 go_enter Tryz.func29, Tryz.ntmps29
 go_wp2_with fail
 refine (ofSize_any seedTxt s 32 _).mono ?_
 rintro e W1 ⟨rfl, rfl⟩
 unfold ofSzV
 rw [if_neg hs']
 obtain ⟨E, HE⟩ : ∃ E, Hid (E = Value.agg #[.string seedTxt, szI s.size 32]) := ⟨_, hide rfl⟩
 unfold atE
 rw [← HE.out]
 have hb0 := builtSec0
 go_wp2_with (first
  | (refine wpList_build_to (by rfl) 64 _ (by rfl) secZ (by exact hb0) ?_)
  | (refine wpList_store_row (by rfl) 64 (.tmp 4) (.tmp 13) (by rfl) w.heap.size secZ (by rfl) (by rfl) 64 _ (heap_alloc_new _ _) secZ_size rfl secZ_all ?_))
 refine bodyPost_ret (v := .tuple #[.agg secZ, .iface 173 E]) (results_cell_tmp_row Tryz.results29 _ _ w.heap.size 64 _ (0, 0) _ (by rfl) (setRow_heap _ _ _ _ _ _ (heap_alloc_new _ _)) Tryz.underlying64 rfl secZ_size) rfl ⟨by rw [HE.out]; rfl, below_setRow ((Below.refl _ _).alloc (Nat.le_refl _) _) (Nat.le_refl _) _⟩
set_option maxRecDepth 100000 in
set_option maxHeartbeats 4000000 in
theorem secretOf_yes (b : Nat) (s : ByteArray) (hs : s.size = 32) (w : World) (hG : GlB w) (hK : Tab w) (h7 : 13 ≤ b) (hN : BaseNew w b) :
  Calls Tryz.prog 29 #[.pointer (some ⟨b, 0, none⟩), .string s] w fun e w' => e = .returned (.tuple #[.agg (secA b (sdN s) (sdP s) (sdC s)), .nilIface]) ∧ Bex b w w' ∧ BaseDone w' b := by
 have hz := zeroSec
 have hz4 := zero4W
 have hz64 := zero64T
 have hs' : (s.size : Int) = 32 := by omega
 have HS := hide hs
 have HG := hide hG
 have HK := hide hK
 have HN := hide hN
 have lb := hN.lt
 clear hG hK hN hs
 go_enter Tryz.func29, Tryz.ntmps29
 go_wp2_with fail
 refine (ofSize_any seedTxt s 32 _).mono ?_
 rintro e W1 ⟨rfl, rfl⟩
 unfold ofSzV
 rw [if_pos hs']
 clear hs'
 obtain ⟨W0, hW0⟩ : ∃ W, W = w.alloc (.cells secZ 64) := ⟨_, rfl⟩
 have RZ : Hid (W0.heap[w.heap.size]? = some (.cells secZ 64 (0, 0))) := by rw [hW0]; exact heap_alloc_new _ _
 have B0 : Hid (Below w.heap.size w W0) := by rw [hW0]; exact (Below.refl _ _).alloc (Nat.le_refl _) _
 rw [← hW0]
 clear hW0
 go_wp2_with fail
 refine (of_any s _ (HK.out.below B0.out HK.out.lt) (by rw [HS.out]; decide)).mono ?_
 rintro e W1 ⟨rfl, hB⟩
 have RZ := hide (row_keep' RZ.out hB)
 have B1 := kTr B0 hB
 clear hB B0
 rw [bytesOfH_eq]
 obtain ⟨H, EH⟩ : ∃ H, Hid (H = hashOf (bytesOf s)) := ⟨_, hide rfl⟩
 have HH : Hid (H.length = 64) := by rw [EH.out]; exact hashOf_length _
 rw [← EH.out]
 obtain ⟨M, EM⟩ : ∃ M, Hid (M = (H.map cv).toArray) := ⟨_, hide rfl⟩
 have hM64 : M.size = 64 := by rw [EM.out]; simp [HH.out]
 have MS : Hid ((Tryz.prog.info? 102).map (·.size) = some M.size) := by show _ = _; rw [hM64]; exact size64
 have MO : Hid (z64.size = M.size) := by show _ = _; rw [hM64, z64_def]; simp
 have MA : Hid (M.all (·.oneCell') = true) := by show _ = _; rw [EM.out]; exact all_oneCell_toArray (bytes_cell _)
 rw [← EM.out]
 go_upto_region 5 with (first
  | (refine wpList_store_row (by rfl) 102 (.tmp 7) (.tmp 16) (by rfl) W1.heap.size M (by rfl) (by rfl) 102 _ (heap_alloc_new _ _) MS.out MO.out MA.out ?_))
 try rw [put_none']
 obtain ⟨g7, hg7⟩ : ∃ s, s = W1.heap.size := ⟨_, rfl⟩
 generalize hW2 : World.setRow _ _ _ = W2
 have hgz : w.heap.size < g7 := by rw [hg7]; exact lt_row RZ.out
 have R7 : Hid (W2.heap[g7]? = some (.cells M 102 (0, 0))) := by rw [← hW2, hg7]; exact setRow_heap _ _ _ _ _ _ (heap_alloc_new _ _)
 have RZ : Hid (W2.heap[w.heap.size]? = some (.cells secZ 64 (0, 0))) := by rw [← hW2]; exact (setRow_other _ _ _ _ (by omega)).trans ((heap_alloc_old _ _ (lt_row RZ.out)).trans RZ.out)
 have B2 : Hid (Below w.heap.size w W2) := by rw [← hW2]; exact below_setRow (B1.out.alloc B1.out.size _) B1.out.size _
 rw [← hg7]
 clear hW2 hg7 B1
 obtain ⟨P1, EP1⟩ : ∃ P, Hid (P = H.take 32) := ⟨_, hide rfl⟩
 obtain ⟨P2, EP2⟩ : ∃ P, Hid (P = H.drop 32) := ⟨_, hide rfl⟩
 have HP1 : Hid (P1.length = 32) := by show _ = _; rw [EP1.out, List.length_take, HH.out]; rfl
 have HP2 : Hid (P2.length = 32) := by show _ = _; rw [EP2.out, List.length_drop, HH.out]
 have HHP : Hid (H = P1 ++ P2) := by show _ = _; rw [EP1.out, EP2.out, List.take_append_drop]
 have rM : ∀ {v : World} {T : TypeId} {fr : Nat × Nat}, v.heap[g7]? = some (.cells M T fr) → v.rangeAt g7 0 (P1.map cv) ∧ v.rangeAt g7 32 (P2.map cv) := by
  intro v T fr h
  refine ⟨fun j x hx => ?_, fun j x hx => ?_⟩
  ·
   rw [Nat.zero_add, cell_of_row v g7 j _ T _ h, EM.out, HHP.out, List.getElem?_toArray, List.map_append, List.getElem?_append_left (by
    rcases Nat.lt_or_ge j (P1.map cv).length with k | k
    · exact k
    · rw [List.getElem?_eq_none k] at hx; cases hx)]
   exact hx
  ·
   rw [cell_of_row v g7 (32 + j) _ T _ h, EM.out, HHP.out, List.getElem?_toArray, List.map_append, List.getElem?_append_right (by rw [List.length_map, HP1.out]; omega), List.length_map, HP1.out, Nat.add_sub_cancel_left]
   exact hx
 have hs1 := slice64_to
 have hs2 := arr32
 have hs3 := slice64_from
 have R7a := hide (rM R7.out).1
 have S32 : Hid ((Tryz.prog.info? 61).map (·.size) = some (P1.map cv).length) := by show _ = _; rw [List.length_map, HP1.out]; exact size32
 obtain ⟨A1, EA1⟩ : ∃ A, Hid (A = P1.map cv) := ⟨_, hide rfl⟩
 rw [← EA1.out] at R7a S32
 go_wp2_with (first
  | (refine wpList_load_mid (by rfl) 61 (.tmp 18) (by rfl) g7 0 (by rfl) A1 _ R7a.out under32 rfl S32.out ?_))
 rw [EA1.out]
 refine (seedNumA P1 HP1.out _).mono ?_
 rintro e W3 ⟨rfl, hB⟩
 have RZ := hide (row_keep' RZ.out hB)
 have R7 := hide (row_keep' R7.out hB)
 have B3 := kTr B2 hB
 clear hB B2 R7a S32 EA1
 obtain ⟨n, En⟩ : ∃ n, Hid (n = valLE (sdL P1)) := ⟨_, hide rfl⟩
 rw [← En.out]
 go_upto_region 6 with (first
  | (refine wpList_store_row (by rfl) 60 (.tmp 8) (.tmp 20) (by rfl) W3.heap.size (num4A n) (by rfl) (by rfl) 60 _ (heap_alloc_new _ _) (size4W _) (n4W _ _) (num4A_all _) ?_))
 try rw [put_none']
 obtain ⟨g8, hg8⟩ : ∃ s, s = W3.heap.size := ⟨_, rfl⟩
 generalize hW5 : World.setRow _ _ _ = W5
 have hg87 : g7 < g8 := by rw [hg8]; exact lt_row R7.out
 have R8 : Hid (W5.heap[g8]? = some (.cells (num4A n) 60 (0, 0))) := by rw [← hW5, hg8]; exact setRow_heap _ _ _ _ _ _ (heap_alloc_new _ _)
 have R7 : Hid (W5.heap[g7]? = some (.cells M 102 (0, 0))) := by rw [← hW5]; exact (setRow_other _ _ _ _ (by omega)).trans ((heap_alloc_old _ _ (lt_row R7.out)).trans R7.out)
 have RZ : Hid (W5.heap[w.heap.size]? = some (.cells secZ 64 (0, 0))) := by rw [← hW5]; exact (setRow_other _ _ _ _ (by omega)).trans ((heap_alloc_old _ _ (lt_row RZ.out)).trans RZ.out)
 have B5 : Hid (Below w.heap.size w W5) := by rw [← hW5]; exact below_setRow (B3.out.alloc B3.out.size _) B3.out.size _
 rw [← hg8]
 clear hW5 hg8 B3
 have R7b := hide (rM R7.out).2
 have l7 := lt_row R7.out
 have n8 : g8 ≠ b := by omega
 have n7 : g7 ≠ b := by omega
 have nz : w.heap.size ≠ b := by omega
 have G5 := hide (HG.out.keep B5.out)
 have N5 := hide (HN.out.keep (B5.out.block b lb))
 have lb5 := N5.out.lt
 have BX5 : Hid (Bex b w W5) := Bex.of B5.out
 clear rM R7
 refine wp_region_held_drew (S := fun w' => w'.rangeAt g8 0 (nL n) ∧ w'.rangeAt g7 32 (P2.map cv)) (by kernel_rfl) ⟨rangeN R8.out, R7b.out⟩ (fun hHeld => ?_)
 have KV1 : Hid (Below W5.heap.size W5 W5.drew) := (Below.refl _ _).drew
 obtain ⟨V1, hV1⟩ : ∃ V, V = W5.drew := ⟨_, rfl⟩
 rw [← hV1] at hHeld KV1 ⊢
 clear hV1
 refine wpAnyH_take (i := 0) (oi := ⟨some 21, .move (.tmp 0), 58, "secret.go:29", #[], none⟩) (v := .pointer (some ⟨b, 0, none⟩)) rfl (by kernel_rfl) (by kernel_rfl) (by kernel_rfl) (fun _ _ _ h => h) (Or.inl ⟨by rfl, fun w _ => by go_simp⟩) hHeld ?_
 simp only [zaP, zsT, zsZ, zsS]
 refine wpAnyH_take (i := 1) (oi := ⟨some 22, .load 60 (.tmp 8), 60, "secret.go:29", #[], none⟩) (v := .agg (num4A n)) rfl (by kernel_rfl) (by kernel_rfl) (by kernel_rfl) (fun _ _ _ h => h) (yldU (by rfl) _ rfl g8 0 n rfl (fun w h => h.1)) hHeld ?_
 simp only [zaP, zsT, zsZ, zsS]
 refine wpAnyH_take (i := 2) (oi := ⟨some 23, .slice 102 (.tmp 7) (some (.const (.int .i64 32))) none none, 89, "secret.go:29", #[], none⟩) (v := .slice (some ⟨g7, 32, none⟩) 32 32) rfl (by kernel_rfl) (by kernel_rfl) (by kernel_rfl) (fun _ _ _ h => h) (Or.inl ⟨by rfl, fun w _ => by go_simp⟩) hHeld ?_
 simp only [zaP, zsT, zsZ, zsS]
 refine wpAnyH_take (i := 3) (oi := ⟨some 24, .convert 89 9 (.tmp 23), 9, "secret.go:29", #[zeD 2], none⟩) (v := .string (strOf P2)) rfl (by kernel_rfl) (by kernel_rfl) (by kernel_rfl) (fun _ _ _ h => h) (Or.inl ⟨by rfl, fun v h => hrunConvL _ rfl g7 32 P2 HP2.out rfl v h.2⟩) hHeld ?_
 simp only [zaP, zsT, zsZ, zsS]
 refine wpAnyH_take (i := 4) (oi := ⟨some 25, .move (.tmp 0), 58, "secret.go:29", #[], none⟩) (v := .pointer (some ⟨b, 0, none⟩)) rfl (by kernel_rfl) (by kernel_rfl) (by kernel_rfl) (fun _ _ _ h => h) (Or.inl ⟨by rfl, fun w _ => by go_simp⟩) hHeld ?_
 simp only [zaP, zsT, zsZ, zsS]
 refine wpAnyH_take (i := 5) (oi := ⟨some 26, .load 60 (.tmp 8), 60, "secret.go:29", #[], none⟩) (v := .agg (num4A n)) rfl (by kernel_rfl) (by kernel_rfl) (by kernel_rfl) (fun _ _ _ h => h) (yldU (by rfl) _ rfl g8 0 n rfl (fun w h => h.1)) hHeld ?_
 simp only [zaP, zsT, zsZ, zsS]
 have G1 := hide (G5.out.keep KV1.out)
 have N1 := hide (N5.out.keep (KV1.out.block b lb5))
 refine wpAnyH_ready (rs := [6]) (by kernel_rfl) (by simp) ?_
 refine AllReadyH.cons (o := ⟨some 27, .call ⟨.value (.func 57), #[.tmp 25, .tmp 26], #[58, 60]⟩, 82, "secret.go:33", #[zeD 4, zeD 5], none⟩) rfl (fun K hK => ?_) AllReadyH.nil
 refine step_callTo (by rfl) _ _ (hrunBaseTm _ _ rfl (.pointer (some ⟨b, 0, none⟩)) (.agg (num4A n)) rfl rfl V1) _ (fun V2 => Bex b V1 V2 ∧ BaseDone V2 b) (baseTimesNew b n V1 G1.out h7 N1.out) (fun V2 HBx => ?_)
 have X2 : Hid (Bex b W5 V2) := (Bex.of KV1.out).trans HBx.1
 have D2 := hide HBx.2
 clear HBx
 have R8 : Hid (V2.heap[g8]? = some (.cells (num4A n) 60 (0, 0))) := (X2.out.block _ (lt_row R8.out) n8).trans R8.out
 have R7b : Hid (V2.rangeAt g7 32 (P2.map cv)) := fun j v hv => (World.cell?_of_block (X2.out.block _ l7 n7)).trans (R7b.out j v hv)
 have RZ : Hid (V2.heap[w.heap.size]? = some (.cells secZ 64 (0, 0))) := (X2.out.block _ (lt_row RZ.out) nz).trans RZ.out
 refine hK.out _ _ ⟨rangeN R8.out, R7b.out⟩ (fun hHeld => ?_)
 clear hK K
 try simp only [zaP, zsT, zsZ, zsS]
 refine wpAnyH_ready (rs := [7]) (by kernel_rfl) (by simp) ?_
 refine AllReadyH.cons (o := ⟨some 28, .call ⟨.value (.func 58), #[.tmp 27], #[82]⟩, 62, "secret.go:33", #[zeD 6, zeC 6], none⟩) rfl (fun K hK => ?_) AllReadyH.nil
 refine step_callTo (by rfl) _ _ (hrunPtCode _ rfl (.agg (pA (mlP (pwN bpP) n 64))) rfl V2) _ _ (ptCodeA (mlP (pwN bpP) n 64) (mlP_ok _ n 64) V2) (fun V3 HBx => ?_)
 have R8 := hide (row_keep' R8.out HBx)
 have l7v : g7 < V2.heap.size := World.block_lt_of_cell? V2 _ (R7b.out 0 (cv (P2.getD 0 0)) (by rw [List.getElem?_map, List.getElem?_eq_getElem (by rw [HP2.out]; decide)]; simp [List.getD, HP2.out]))
 have R7b : Hid (V3.rangeAt g7 32 (P2.map cv)) := fun j v hv => (World.cell?_of_block (HBx.block _ l7v)).trans (R7b.out j v hv)
 have RZ := hide (row_keep' RZ.out HBx)
 have D3 := hide (D2.out.keep (HBx.block b D2.out.lt))
 have X3 := hide (X2.out.trans (Bex.of HBx))
 clear HBx X2 D2
 obtain ⟨c, Ec⟩ : ∃ c, Hid (c = cdN (mlP (pwN bpP) n 64)) := ⟨_, hide rfl⟩
 rw [← Ec.out]
 refine hK.out _ _ ⟨rangeN R8.out, R7b.out⟩ (fun hHeld => ?_)
 clear hK K
 try simp only [zaP, zsT, zsZ, zsS]
 refine wpAnyH_take (i := 8) (oi := ⟨some 29, .build 64 #[(0, .tmp 21), (1, .tmp 22), (2, .tmp 24), (3, .tmp 28)], 64, "secret.go:29", #[zeD 0, zeD 1, zeD 3, zeD 7], none⟩) (v := .agg (secA b n (strOf P2) c)) rfl (by kernel_rfl) (by kernel_rfl) (by kernel_rfl) (fun _ _ _ h => h) (yld_build' (by rfl) _ _ rfl _ _ (by kernel_rfl) (builtSec b n (strOf P2) c)) hHeld ?_
 simp only [zaP, zsT, zsZ, zsS]
 refine wpAnyH_ready (rs := [9]) (by kernel_rfl) (by simp) ?_
 refine AllReadyH.cons (o := ⟨none, .store 64 (.tmp 4) (.tmp 29), 0, "secret.go:29", #[zeD 8, zeC 7, zeP 0, zeP 1, zeP 2, zeP 3, zeP 4, zeP 5, zeP 6, zeP 7, zeP 8], none⟩) rfl (fun K hK => ?_) AllReadyH.nil
 refine step_store_row _ (by rfl) 64 (.tmp 4) (.tmp 29) (by rfl) w.heap.size (secA b n (strOf P2) c) (by rfl) (by rfl) 64 _ RZ.out (secA_size _ _ _ _) (secA_old _ _ _ _) (secA_all _ _ _ _) ?_
 rw [put_none']
 obtain ⟨V4, hV4⟩ : ∃ V, V = World.setRow V3 w.heap.size (secA b n (strOf P2) c) := ⟨_, rfl⟩
 have RZ : Hid (V4.heap[w.heap.size]? = some (.cells (secA b n (strOf P2) c) 64 (0, 0))) := by rw [hV4]; exact setRow_heap _ _ _ _ _ _ RZ.out
 have D4 : Hid (BaseDone V4 b) := by rw [hV4]; exact D3.out.keep (setRow_other _ _ _ _ (by omega))
 have X4 : Hid (Bex b w V4) := by rw [hV4]; exact (BX5.out.trans X3.out).setRow (Nat.le_refl _) _
 have S4 : Hid (V4.rangeAt g8 0 (nL n) ∧ V4.rangeAt g7 32 (P2.map cv)) := by rw [hV4]; exact ⟨range_set (rangeN R8.out) (by omega), range_set R7b.out (by omega)⟩
 rw [← hV4]
 clear hV4
 refine hK.out _ _ S4.out (fun hHeld => ?_)
 clear hK K
 try simp only [zaP, zsT, zsZ, zsS]
 refine wpAnyH_take (i := 10) (oi := ⟨some 5, .assign (.const .nilIface), 66, "secret.go:29", #[zeC 9, zeP 0, zeP 1, zeP 2, zeP 3, zeP 4, zeP 5, zeP 6, zeP 7, zeP 8, zeP 9], none⟩) (v := .nilIface) rfl (by kernel_rfl) (by kernel_rfl) (by kernel_rfl) (fun _ _ _ h => h) (Or.inl ⟨by rfl, fun w _ => by go_simp⟩) hHeld ?_
 simp only [zaP, zsT, zsZ, zsS]
 refine wpAnyH_done (by kernel_rfl) ?_ _
 go_wp2_with fail
 refine bodyPost_ret (v := .tuple #[.agg (secA b n (strOf P2) c), .nilIface]) (results_cell_tmp_row Tryz.results29 _ _ w.heap.size 64 _ (0, 0) _ (by rfl) RZ.out Tryz.underlying64 rfl (secA_size _ _ _ _)) rfl ⟨?_, X4.out, D4.out⟩
 unfold sdC sdP sdN
 rw [← EH.out, ← EP1.out, ← EP2.out, ← En.out, Ec.out]
end
theorem sec_c0 {w : World} {g b n k : Nat} {p : ByteArray} {T : TypeId} {fr : Nat × Nat} (h : w.heap[g]? = some (.cells (secA b n p k) T fr)) : w.cell? ⟨g, 0, none⟩ = some (.pointer (some ⟨b, 0, none⟩)) := by rw [cell_of_row w g 0 _ T _ h]; rfl
theorem sec_c5 {w : World} {g b n k : Nat} {p : ByteArray} {T : TypeId} {fr : Nat × Nat} (h : w.heap[g]? = some (.cells (secA b n p k) T fr)) : w.cell? ⟨g, 5, none⟩ = some (.string p) := by rw [cell_of_row w g 5 _ T _ h]; rfl
theorem sec_r1 {w : World} {g b n k : Nat} {p : ByteArray} {T : TypeId} {fr : Nat × Nat} (h : w.heap[g]? = some (.cells (secA b n p k) T fr)) : w.rangeAt g 1 (nL n) := by
 intro j v hv
 rw [cell_of_row w g (1 + j) _ T _ h, secA, List.getElem?_toArray, secL, Nat.add_comm 1 j, List.getElem?_cons_succ, List.getElem?_append_left (by
  rcases Nat.lt_or_ge j (nL n).length with k | k
  · exact k
  · rw [List.getElem?_eq_none k] at hv; cases hv)]
 exact hv
theorem sec_r6 {w : World} {g b n k : Nat} {p : ByteArray} {T : TypeId} {fr : Nat × Nat} (h : w.heap[g]? = some (.cells (secA b n p k) T fr)) : w.rangeAt g 6 (bL k) := by
 intro j v hv
 have e : ∀ l : List Value, (.pointer (some ⟨b, 0, none⟩) :: (nL n ++ .string p :: l) : List Value)[6 + j]? = l[j]? := by
  intro l
  rw [show 6 + j = (j + 5) + 1 by omega, List.getElem?_cons_succ, List.getElem?_append_right (by show 4 ≤ _; omega), show j + 5 - (nL n).length = j + 1 by show j + 5 - 4 = _; omega, List.getElem?_cons_succ]
 rw [cell_of_row w g (6 + j) _ T _ h, secA, List.getElem?_toArray, secL, e]
 exact hv
noncomputable def sgR (p m : ByteArray) : Nat := valLE (hashOf (bytesOf p ++ bytesOf m)) % Lord
noncomputable def sgC (p m : ByteArray) : Nat := cdN (mlP (pwN bpP) (sgR p m) 64)
noncomputable def sgK (c : Nat) (p m : ByteArray) : Nat := valLE (hashOf (leB (sgC p m) 32 ++ (leB c 32 ++ bytesOf m))) % Lord
noncomputable def sgS (n c : Nat) (p m : ByteArray) : Nat := (sgK c p m * n + sgR p m) % Lord
theorem nL_A (n : Nat) : (nL n).toArray = num4A n := rfl
theorem nL_size4 (n : Nat) : (Tryz.prog.info? 60).map (·.size) = some (nL n).length := size4
theorem LordM_lt {n : Nat} : n % Lord < 115792089237316195423570985008687907853269984665640564039457584007913129639936 := Nat.lt_trans (Nat.mod_lt _ (by decide)) (by decide)
section
attribute [local irreducible] num4A nL bA bL secA secZ pA psA psL pL bpP z64
set_option maxRecDepth 100000 in
set_option maxHeartbeats 4000000 in
theorem secSign (b n c : Nat) (p m : ByteArray) (hn : n < 115792089237316195423570985008687907853269984665640564039457584007913129639936) (hp : p.size ≤ maxLen) (hm : m.size ≤ maxLen) (w : World) (hG : GlB w) (hK : Tab w) (hO : OrdAt w) (h7 : 13 ≤ b) (hD : BaseDone w b) :
  Calls Tryz.prog 37 #[.agg (secA b n p c), .string m] w fun e w' => e = .returned (.agg ((leB (sgC p m) 32 ++ leB (sgS n c p m) 32).map cv).toArray) ∧ Bex b w w' ∧ BaseDone w' b := by
 have hz4 := zero4W
 have hz64 := zero64T
 have hz32 := zero32A
 have hzc := zeroCode
 have Hn := hide hn
 have HG := hide hG
 have HK := hide hK
 have HO := hide hO
 have HD := hide hD
 have Hp := hide hp
 have Hm := hide hm
 have lb := hD.lt
 clear hn hG hK hO hD hp hm
 go_enter Tryz.func37, Tryz.ntmps37
 go_upto_region 1 with fail
 generalize hW0 : World.alloc _ _ = W0
 have R2 : Hid (W0.heap[w.heap.size]? = some (.cells (secA b n p c) 64 (0, 0))) := by rw [← hW0]; exact heap_alloc2_old _ _ _
 have RZ : Hid (W0.heap[w.heap.size + 1]? = some (.cells z64 102 (0, 0))) := by rw [← hW0]; exact heap_alloc2_new _ _ _
 have B0 : Hid (Below w.heap.size w W0) := by rw [← hW0]; show Below _ _ _; go_grown
 clear hW0
 have lz0 := lt_row RZ.out
 have c5 := sec_c5 R2.out
 have hbu := build2 p m
 obtain ⟨r, Er⟩ : ∃ r, Hid (r = sgR p m) := ⟨_, hide rfl⟩
 go_wp2_with fail
 obtain ⟨W1, hW1⟩ : ∃ W, W = W0.alloc (.cells #[.string p, .string m] 9) := ⟨_, rfl⟩
 have RQ : Hid (W1.heap[W0.heap.size]? = some (.cells #[.string p, .string m] 9 (0, 0))) := by rw [hW1]; exact heap_alloc_new _ _
 have B1 : Hid (Below W0.heap.size W0 W1) := by rw [hW1]; exact (Below.refl _ _).alloc (Nat.le_refl _) _
 rw [← hW1]
 clear hW1
 have T1 := hide (HK.out.below (B0.out.trans (B1.out.mono B0.out.size)) HK.out.lt)
 have O1 := hide (HO.out.below (B0.out.trans (B1.out.mono B0.out.size)) HO.out.lt)
 refine (hashed2 p m W0.heap.size r Er.out W1 T1.out O1.out RQ.out Hp.out Hm.out).mono ?_
 rintro e W2 ⟨rfl, hB⟩
 have K2 := kTr B1 hB
 clear hB B1 T1 O1 RQ hbu c5
 go_upto_region 2 with (first
  | (refine wpList_store_row (by rfl) 60 (.tmp 5) (.tmp 14) (by rfl) W2.heap.size (num4A r) (by rfl) (by rfl) 60 _ (heap_alloc_new _ _) (size4W _) (n4W _ _) (num4A_all _) ?_))
 try rw [put_none']
 obtain ⟨g5, hg5⟩ : ∃ s, s = W2.heap.size := ⟨_, rfl⟩
 generalize hW3 : World.setRow _ _ _ = W3
 have hg50 : W0.heap.size ≤ g5 := by rw [hg5]; exact K2.out.size
 have K3 : Hid (Below W0.heap.size W0 W3) := by rw [← hW3]; exact below_setRow (K2.out.alloc K2.out.size _) K2.out.size _
 have R5 : Hid (W3.heap[g5]? = some (.cells (num4A r) 60 (0, 0))) := by rw [← hW3, hg5]; exact setRow_heap _ _ _ _ _ _ (heap_alloc_new _ _)
 rw [← hg5]
 clear hW3 hg5 K2
 have R2 := hide (row_keep' R2.out K3.out)
 have RZ := hide (row_keep' RZ.out K3.out)
 have B3 : Hid (Below w.heap.size w W3) := B0.out.trans (K3.out.mono B0.out.size)
 have hsz0 : w.heap.size + 2 ≤ g5 := by omega
 clear K3 B0 lz0 hg50
 have G3 := hide (HG.out.keep B3.out)
 have D3 := hide (HD.out.keep (B3.out.block b lb))
 have BX := hide (Bex.of (b := b) B3.out)
 have T3 := hide (HK.out.below B3.out HK.out.lt)
 have O3 := hide (HO.out.below B3.out HO.out.lt)
 clear B3 HG HD HK HO
 have c0 := sec_c0 R2.out
 go_wp2_with (first
  | (refine wpList_load_row (by rfl) 60 (.tmp 5) (by rfl) g5 (by rfl) 60 (num4A r) (0, 0) _ R5.out under4 rfl (size4W _) ?_))
 refine (baseTimesDone b r W3 G3.out h7 D3.out).mono ?_
 rintro e W4 ⟨rfl, hX, hD4⟩
 have n2 : w.heap.size ≠ b := by omega
 have nz1 : w.heap.size + 1 ≠ b := by omega
 have n5 : g5 ≠ b := by omega
 have R2 : Hid (W4.heap[w.heap.size]? = some (.cells (secA b n p c) 64 (0, 0))) := (hX.block _ (lt_row R2.out) n2).trans R2.out
 have RZ : Hid (W4.heap[w.heap.size + 1]? = some (.cells z64 102 (0, 0))) := (hX.block _ (lt_row RZ.out) nz1).trans RZ.out
 have R5 : Hid (W4.heap[g5]? = some (.cells (num4A r) 60 (0, 0))) := (hX.block _ (lt_row R5.out) n5).trans R5.out
 have BX := hide (BX.out.trans hX)
 have T4 := hide (T3.out.bex hX (by omega))
 have O4 := hide (O3.out.bex hX (by omega))
 have D4 := hide hD4
 clear hX hD4 T3 O3 D3 G3 c0
 go_wp2_with fail
 refine (ptCodeA (mlP (pwN bpP) r 64) (mlP_ok _ r 64) W4).mono ?_
 rintro e W5 ⟨rfl, hB⟩
 have R2 := hide (row_keep' R2.out hB)
 have RZ := hide (row_keep' RZ.out hB)
 have R5 := hide (row_keep' R5.out hB)
 have BX := hide (BX.out.trans (Bex.of hB))
 have T5 := hide (T4.out.below hB T4.out.lt)
 have O5 := hide (O4.out.below hB O4.out.lt)
 have D5 := hide (D4.out.keep (hB.block b D4.out.lt))
 clear hB T4 O4 D4
 obtain ⟨cR, EcR⟩ : ∃ x, Hid (x = cdN (mlP (pwN bpP) r 64)) := ⟨_, hide rfl⟩
 rw [← EcR.out]
 go_upto_region 3 with (first
  | (refine wpList_store_row (by rfl) 62 (.tmp 6) (.tmp 19) (by rfl) W5.heap.size (bA cR) (by rfl) (by rfl) 62 _ (heap_alloc_new _ _) (bA_size _) (bA_old _ _) (bA_all _) ?_))
 try rw [put_none']
 obtain ⟨g6, hg6⟩ : ∃ s, s = W5.heap.size := ⟨_, rfl⟩
 generalize hW6 : World.setRow _ _ _ = W6
 have hg65 : g5 < g6 := by rw [hg6]; exact lt_row R5.out
 have K6 : Hid (Below W5.heap.size W5 W6) := by rw [← hW6]; exact below_setRow ((Below.refl _ _).alloc (Nat.le_refl _) _) (Nat.le_refl _) _
 have R6 : Hid (W6.heap[g6]? = some (.cells (bA cR) 62 (0, 0))) := by rw [← hW6, hg6]; exact setRow_heap _ _ _ _ _ _ (heap_alloc_new _ _)
 rw [← hg6]
 clear hW6 hg6
 have R2 := hide (row_keep' R2.out K6.out)
 have RZ := hide (row_keep' RZ.out K6.out)
 have R5 := hide (row_keep' R5.out K6.out)
 have BX := hide (BX.out.trans (Bex.of K6.out))
 have T6 := hide (T5.out.below K6.out T5.out.lt)
 have O6 := hide (O5.out.below K6.out O5.out.lt)
 have D6 := hide (D5.out.keep (K6.out.block b D5.out.lt))
 clear K6 T5 O5 D5
 have r6 := hide (sec_r6 R2.out)
 have bS : Hid ((Tryz.prog.info? 62).map (·.size) = some (bL c).length) := by show _ = _; rw [sizeCode]; simp [bL, leB_length]
 have bLA : (bL c).toArray = bA c := bL_A c
 go_wp2_with (first
  | (refine wpList_load_row (by rfl) 62 (.tmp 6) (by rfl) g6 (by rfl) 62 (bA cR) (0, 0) _ R6.out underCode rfl (bA_size _) ?_)
  | (refine wpList_load_mid (by rfl) 62 (.tmp 21) (by rfl) w.heap.size 6 (by rfl) (bL c) _ r6.out underCode rfl bS.out ?_))
 refine (challengeA cR c m Hm.out W6 T6.out O6.out).mono ?_
 rintro e W7 ⟨rfl, hB⟩
 have R2 := hide (row_keep' R2.out hB)
 have RZ := hide (row_keep' RZ.out hB)
 have R5 := hide (row_keep' R5.out hB)
 have R6 := hide (row_keep' R6.out hB)
 have BX := hide (BX.out.trans (Bex.of hB))
 have O7 := hide (O6.out.below hB O6.out.lt)
 have D7 := hide (D6.out.keep (hB.block b D6.out.lt))
 clear hB T6 O6 D6 r6 bS bLA
 obtain ⟨kN, Ek⟩ : ∃ x, Hid (x = valLE (hashOf (leB cR 32 ++ (leB c 32 ++ bytesOf m))) % Lord) := ⟨_, hide rfl⟩
 rw [← Ek.out]
 go_upto_region 4 with (first
  | (refine wpList_store_row (by rfl) 60 (.tmp 7) (.tmp 24) (by rfl) W7.heap.size (num4A kN) (by rfl) (by rfl) 60 _ (heap_alloc_new _ _) (size4W _) (n4W _ _) (num4A_all _) ?_))
 try rw [put_none']
 obtain ⟨g7, hg7⟩ : ∃ s, s = W7.heap.size := ⟨_, rfl⟩
 generalize hW8 : World.setRow _ _ _ = W8
 have hg76 : g6 < g7 := by rw [hg7]; exact lt_row R6.out
 have K8 : Hid (Below W7.heap.size W7 W8) := by rw [← hW8]; exact below_setRow ((Below.refl _ _).alloc (Nat.le_refl _) _) (Nat.le_refl _) _
 have R7 : Hid (W8.heap[g7]? = some (.cells (num4A kN) 60 (0, 0))) := by rw [← hW8, hg7]; exact setRow_heap _ _ _ _ _ _ (heap_alloc_new _ _)
 rw [← hg7]
 clear hW8 hg7
 have R2 := hide (row_keep' R2.out K8.out)
 have RZ := hide (row_keep' RZ.out K8.out)
 have R5 := hide (row_keep' R5.out K8.out)
 have R6 := hide (row_keep' R6.out K8.out)
 have BX := hide (BX.out.trans (Bex.of K8.out))
 have O8 := hide (O7.out.below K8.out O7.out.lt)
 have D8 := hide (D7.out.keep (K8.out.block b D7.out.lt))
 clear K8 O7 D7
 have r1 := hide (sec_r1 R2.out)
 have nLA : (nL n).toArray = num4A n := nL_A n
 have nS : Hid ((Tryz.prog.info? 60).map (·.size) = some (nL n).length) := nL_size4 n
 go_wp2_with (first
  | (refine wpList_load_row (by rfl) 60 (.tmp 7) (by rfl) g7 (by rfl) 60 (num4A kN) (0, 0) _ R7.out under4 rfl (size4W _) ?_)
  | (refine wpList_load_mid (by rfl) 60 (.tmp 26) (by rfl) w.heap.size 1 (by rfl) (nL n) _ r1.out under4 rfl nS.out ?_)
  | (refine wpList_load_row (by rfl) 60 (.tmp 5) (by rfl) g5 (by rfl) 60 (num4A r) (0, 0) _ R5.out under4 rfl (size4W _) ?_))
 refine (timesPlusA kN n r (by rw [Ek.out]; exact LordM_lt) Hn.out (by rw [Er.out]; exact LordM_lt) W8 O8.out).mono ?_
 rintro e W9 ⟨rfl, hB⟩
 have RZ := hide (row_keep' RZ.out hB)
 have R6 := hide (row_keep' R6.out hB)
 have R7 := hide (row_keep' R7.out hB)
 have BX := hide (BX.out.trans (Bex.of hB))
 have D9 := hide (D8.out.keep (hB.block b D8.out.lt))
 clear hB O8 D8 r1 nS nLA R2 R5
 obtain ⟨sN, Es⟩ : ∃ x, Hid (x = (kN * n + r) % Lord) := ⟨_, hide rfl⟩
 rw [← Es.out]
 go_wp2_with fail
 refine (bytesN sN W9).mono ?_
 rintro e W10 ⟨rfl, hB⟩
 have RZ := hide (row_keep' RZ.out hB)
 have R6 := hide (row_keep' R6.out hB)
 have R7 := hide (row_keep' R7.out hB)
 have BX := hide (BX.out.trans (Bex.of hB))
 have D10 := hide (D9.out.keep (hB.block b D9.out.lt))
 clear hB D9
 have hs1 := slice64w
 have hs2 := slice32_all
 have hs3 := slice64_from
 have hs4 := sliceCode_all
 go_upto_region 5 with (first
  | (refine wpList_store_row (by rfl) 61 (.tmp 8) (.tmp 30) (by rfl) W10.heap.size (bA sN) (by rfl) (by rfl) 61 _ (heap_alloc_new _ _) (bA_size' _) (bA_old _ _) (bA_all _) ?_))
 obtain ⟨g8, hg8⟩ : ∃ s, s = W10.heap.size := ⟨_, rfl⟩
 generalize hWs : World.setRow _ _ _ = Ws
 have hg86 : g6 < g8 := by rw [hg8]; exact lt_row R6.out
 have Ks : Hid (Below W10.heap.size W10 Ws) := by rw [← hWs]; exact below_setRow ((Below.refl _ _).alloc (Nat.le_refl _) _) (Nat.le_refl _) _
 have R8 : Hid (Ws.heap[g8]? = some (.cells (bA sN) 61 (0, 0))) := by rw [← hWs, hg8]; exact setRow_heap _ _ _ _ _ _ (heap_alloc_new _ _)
 rw [← hg8]
 clear hWs hg8
 have RZ := hide (row_keep' RZ.out Ks.out)
 have R6 := hide (row_keep' R6.out Ks.out)
 have BX := hide (BX.out.trans (Bex.of Ks.out))
 have Ds := hide (D10.out.keep (Ks.out.block b D10.out.lt))
 clear Ks D10
 try rw [put_none']
 go_upto_region 6 with fail
 obtain ⟨g, hg⟩ : ∃ s, s = Ws.heap.size := ⟨_, rfl⟩
 generalize hW9 : World.alloc _ _ = W9
 have R9 : Hid (W9.heap[g]? = some (.cells ((List.replicate 64 (0 : UInt8)).map cv).toArray 102 (0, 0))) := by rw [← hW9, hg, z64_def]; exact heap_alloc_new _ _
 have l8 := lt_row R8.out
 have K9 : Hid (Below Ws.heap.size Ws W9) := by rw [← hW9]; exact (Below.refl _ _).alloc (Nat.le_refl _) _
 have R8 : Hid (W9.heap[g8]? = some (.cells ((leB sN 32).map cv).toArray 61 (0, 0))) := by rw [← bA_def]; exact row_keep' R8.out K9.out
 have R6 : Hid (W9.heap[g6]? = some (.cells ((leB cR 32).map cv).toArray 62 (0, 0))) := by rw [← bA_def]; exact row_keep' R6.out K9.out
 have RZ : Hid (W9.heap[w.heap.size + 1]? = some (.cells ((List.replicate 64 (0 : UInt8)).map cv).toArray 102 (0, 0))) := by rw [← z64_def]; exact row_keep' RZ.out K9.out
 have BX := hide (BX.out.trans (Bex.of K9.out))
 have DN := hide (Ds.out.keep (K9.out.block b Ds.out.lt))
 have n8 : g8 ≠ g := by omega
 have nz : w.heap.size + 1 ≠ g := by omega
 have nb : b ≠ g := by omega
 have hgw : w.heap.size ≤ g := by omega
 rw [← hg]
 clear hW9 hg l8 K9 Ds
 refine wp_region_held_drew (S := fun _ => True) (by kernel_rfl) trivial (fun hHeld => ?_)
 have R8 : Hid (W9.drew.heap[g8]? = some (.cells (((leB sN 32).map cv).toArray) 61 (0, 0))) := R8
 have RZ : Hid (W9.drew.heap[w.heap.size + 1]? = some (.cells (((List.replicate 64 (0 : UInt8)).map cv).toArray) 102 (0, 0))) := RZ
 have BX : Hid (Bex b w W9.drew) := BX.out.drew
 have DN : Hid (BaseDone W9.drew b) := hide (DN.out.keep rfl)
 have R9 : Hid (W9.drew.heap[g]? = some (.cells (((List.replicate 64 (0 : UInt8)).map cv).toArray) 102 (0, 0))) := R9
 have R6 : Hid (W9.drew.heap[g6]? = some (.cells ((leB cR 32).map cv).toArray 62 (0, 0))) := R6
 obtain ⟨DV6, hDV6⟩ : ∃ V, V = W9.drew := ⟨_, rfl⟩
 rw [← hDV6] at R6 R8 RZ BX DN R9 ⊢
 clear hDV6
 refine wpAnyH_take (i := 0) (oi := ⟨some 31, .slice 102 (.tmp 9) none none none, 89, "secret.go:56", #[], none⟩) (v := .slice (some ⟨g, 0, none⟩) 64 64) rfl (by kernel_rfl) (by kernel_rfl) (by kernel_rfl) (fun _ _ _ h => h) (Or.inl ⟨by rfl, fun w _ => by go_simp⟩) hHeld ?_
 simp only [zaP, zsT, zsZ, zsS]
 refine wpAnyH_take (i := 1) (oi := ⟨some 32, .slice 62 (.tmp 6) none none none, 89, "secret.go:56", #[], none⟩) (v := .slice (some ⟨g6, 0, none⟩) 32 32) rfl (by kernel_rfl) (by kernel_rfl) (by kernel_rfl) (fun _ _ _ h => h) (Or.inl ⟨by rfl, fun w _ => by go_simp⟩) hHeld ?_
 simp only [zaP, zsT, zsZ, zsS]
 refine wpAnyH_ready (rs := [2]) (by kernel_rfl) (by simp) ?_
 refine AllReadyH.cons (o := ⟨some 33, .call ⟨.builtin .copy, #[.tmp 31, .tmp 32], #[89, 89]⟩, 3, "secret.go:56", #[zeD 0, zeD 1], none⟩) rfl (fun K hK => ?_) AllReadyH.nil
 refine step_runTo (by rfl) (.int .i64 32) (hrunCopy _ _ rfl g 0 g6 64 (by decide) rfl rfl DV6 (leB cR 32) (List.replicate 64 0) (leB_length _ _) (by simp) _ _ R6.out R9.out) ?_
 obtain ⟨V6, hV6⟩ : ∃ V, V = World.setRow DV6 g ((splice (List.replicate 64 (0 : UInt8)) 0 (leB cR 32)).map cv).toArray := ⟨_, rfl⟩
 have R8 : Hid (V6.heap[g8]? = some (.cells (((leB sN 32).map cv).toArray) 61 (0, 0))) := by rw [hV6]; exact (setRow_other _ _ _ _ n8).trans R8.out
 have RZ : Hid (V6.heap[w.heap.size + 1]? = some (.cells (((List.replicate 64 (0 : UInt8)).map cv).toArray) 102 (0, 0))) := by rw [hV6]; exact (setRow_other _ _ _ _ nz).trans RZ.out
 have BX : Hid (Bex b w V6) := by rw [hV6]; exact BX.out.setRow hgw _
 have DN : Hid (BaseDone V6 b) := by rw [hV6]; exact DN.out.keep (setRow_other _ _ _ _ nb)
 have R9 : Hid (V6.heap[g]? = some (.cells (((splice (List.replicate 64 (0 : UInt8)) 0 (leB cR 32)).map cv).toArray) 102 (0, 0))) := by rw [hV6]; exact setRow_heap _ _ _ _ _ _ R9.out
 rw [← hV6]
 clear hV6
 refine hK.out _ _ trivial (fun hHeld => ?_)
 clear hK K hHeld
 try simp only [zaP, zsT, zsZ, zsS]
 refine wpAnyH_done (by kernel_rfl) ?_ _
 rw [sp1 _ (leB_length _ _)] at R9
 go_upto_region 7 with fail
 refine wp_region_held_drew (S := fun _ => True) (by kernel_rfl) trivial (fun hHeld => ?_)
 have R8 : Hid (V6.drew.heap[g8]? = some (.cells (((leB sN 32).map cv).toArray) 61 (0, 0))) := R8
 have RZ : Hid (V6.drew.heap[w.heap.size + 1]? = some (.cells (((List.replicate 64 (0 : UInt8)).map cv).toArray) 102 (0, 0))) := RZ
 have BX : Hid (Bex b w V6.drew) := BX.out.drew
 have DN : Hid (BaseDone V6.drew b) := hide (DN.out.keep rfl)
 have R9 : Hid (V6.drew.heap[g]? = some (.cells (((leB cR 32 ++ List.replicate 32 (0 : UInt8)).map cv).toArray) 102 (0, 0))) := R9
 obtain ⟨DV7, hDV7⟩ : ∃ V, V = V6.drew := ⟨_, rfl⟩
 rw [← hDV7] at R8 RZ BX DN R9 ⊢
 clear hDV7
 refine wpAnyH_take (i := 0) (oi := ⟨some 34, .slice 102 (.tmp 9) (some (.const (.int .i64 32))) none none, 89, "secret.go:57", #[], none⟩) (v := .slice (some ⟨g, 32, none⟩) 32 32) rfl (by kernel_rfl) (by kernel_rfl) (by kernel_rfl) (fun _ _ _ h => h) (Or.inl ⟨by rfl, fun w _ => by go_simp⟩) hHeld ?_
 simp only [zaP, zsT, zsZ, zsS]
 refine wpAnyH_take (i := 1) (oi := ⟨some 35, .slice 61 (.tmp 8) none none none, 89, "secret.go:57", #[], none⟩) (v := .slice (some ⟨g8, 0, none⟩) 32 32) rfl (by kernel_rfl) (by kernel_rfl) (by kernel_rfl) (fun _ _ _ h => h) (Or.inl ⟨by rfl, fun w _ => by go_simp⟩) hHeld ?_
 simp only [zaP, zsT, zsZ, zsS]
 refine wpAnyH_ready (rs := [2]) (by kernel_rfl) (by simp) ?_
 refine AllReadyH.cons (o := ⟨some 36, .call ⟨.builtin .copy, #[.tmp 34, .tmp 35], #[89, 89]⟩, 3, "secret.go:57", #[zeD 0, zeD 1], none⟩) rfl (fun K hK => ?_) AllReadyH.nil
 refine step_runTo (by rfl) (.int .i64 32) (hrunCopy _ _ rfl g 32 g8 32 (by decide) rfl rfl DV7 (leB sN 32) (leB cR 32 ++ List.replicate 32 0) (leB_length _ _) (by simp [leB_length]) _ _ R8.out R9.out) ?_
 obtain ⟨V7, hV7⟩ : ∃ V, V = World.setRow DV7 g ((splice (leB cR 32 ++ List.replicate 32 (0 : UInt8)) 32 (leB sN 32)).map cv).toArray := ⟨_, rfl⟩
 have R8 : Hid (V7.heap[g8]? = some (.cells (((leB sN 32).map cv).toArray) 61 (0, 0))) := by rw [hV7]; exact (setRow_other _ _ _ _ n8).trans R8.out
 have RZ : Hid (V7.heap[w.heap.size + 1]? = some (.cells (((List.replicate 64 (0 : UInt8)).map cv).toArray) 102 (0, 0))) := by rw [hV7]; exact (setRow_other _ _ _ _ nz).trans RZ.out
 have BX : Hid (Bex b w V7) := by rw [hV7]; exact BX.out.setRow hgw _
 have DN : Hid (BaseDone V7 b) := by rw [hV7]; exact DN.out.keep (setRow_other _ _ _ _ nb)
 have R9 : Hid (V7.heap[g]? = some (.cells (((splice (leB cR 32 ++ List.replicate 32 (0 : UInt8)) 32 (leB sN 32)).map cv).toArray) 102 (0, 0))) := by rw [hV7]; exact setRow_heap _ _ _ _ _ _ R9.out
 rw [← hV7]
 clear hV7
 refine hK.out _ _ trivial (fun hHeld => ?_)
 clear hK K hHeld
 try simp only [zaP, zsT, zsZ, zsS]
 refine wpAnyH_done (by kernel_rfl) ?_ _
 rw [sp2 _ _ (leB_length _ _) (leB_length _ _)] at R9
 obtain ⟨L, HL⟩ : ∃ L, Hid (L = leB cR 32 ++ leB sN 32) := ⟨_, hide rfl⟩
 rw [← HL.out] at R9
 have hlen : Hid (L.length = 64) := by show _ = _; rw [HL.out]; simp [leB_length]
 obtain ⟨M, HM⟩ : ∃ M, Hid (M = (L.map cv).toArray) := ⟨_, hide rfl⟩
 rw [← HM.out] at R9
 have hM64 : M.size = 64 := by rw [HM.out]; simp [hlen.out]
 have MS : Hid ((Tryz.prog.info? 102).map (·.size) = some M.size) := by show _ = _; rw [hM64]; exact size64
 have MO : Hid (((List.replicate 64 (0 : UInt8)).map cv).toArray.size = M.size) := by show _ = _; rw [hM64]; simp
 have MA : Hid (M.all (·.oneCell') = true) := by show _ = _; rw [HM.out]; exact all_oneCell_toArray (bytes_cell _)
 go_wp2_with (first
  | (refine wpList_load_row (by rfl) 102 (.tmp 9) (by rfl) g (by rfl) 102 M (0, 0) _ R9.out under64 rfl MS.out ?_)
  | (refine wpList_store_row (by rfl) 102 (.tmp 4) (.tmp 37) (by rfl) (w.heap.size + 1) M (by rfl) (by rfl) 102 _ RZ.out MS.out MO.out MA.out ?_))
 refine bodyPost_ret (v := .agg M) (results_cell_row Tryz.results37 _ _ (w.heap.size + 1) 102 _ (0, 0) _ (by rfl) (setRow_heap _ _ _ _ _ _ RZ.out) under64 rfl MS.out) rfl ⟨?_, BX.out.setRow (by omega) _, DN.out.keep (setRow_other _ _ _ _ (by omega))⟩
 unfold sgS sgK sgC
 rw [← Er.out, ← EcR.out, ← Ek.out, ← Es.out, ← HL.out, HM.out]
end
theorem convRn (w : World) (q o n : Nat) (l : List UInt8) (hl : l.length = n) (h : w.rangeAt q o (l.map cv)) :
  (convert 89 9 (.slice (some ⟨q, o, none⟩) n n)).run Tryz.prog w = .ok (.string (strOf l)) w := by
 have e := run_convert_bytes_back (P := Tryz.prog) w 89 9 5 ⟨q, o, none⟩ n l underSl8 underU8 underStr (fun i hi => by
  rw [Addr.add_mid]
  exact h i _ (by simp [hi, C8]))
 rw [hl] at e
 exact e
theorem rangeA {w : World} {b : Nat} {l : List UInt8} {T : TypeId} {fr : Nat × Nat} (h : w.heap[b]? = some (.cells (l.map cv).toArray T fr)) : w.rangeAt b 0 (l.map cv) := by
 intro j v hv
 rw [Nat.zero_add, cell_of_row w b j _ T _ h, List.getElem?_toArray]
 exact hv
theorem sdL_lenP (l : List UInt8) : (sdL l).length = l.length := by unfold sdL; rw [List.length_set, List.length_set]
theorem sdN_lt (s : ByteArray) : sdN s < 115792089237316195423570985008687907853269984665640564039457584007913129639936 := by
 unfold sdN
 have := valLE_lt (sdL ((hashOf (bytesOf s)).take 32))
 rw [sdL_lenP, List.length_take, hashOf_length] at this
 exact Nat.lt_of_lt_of_le this (by decide)
theorem sdP_le (s : ByteArray) : (sdP s).size ≤ maxLen := by
 unfold sdP; rw [strOf_size, List.length_drop, hashOf_length]; decide
theorem rangeBm {w : World} {b n : Nat} {T : TypeId} {fr : Nat × Nat} (h : w.heap[b]? = some (.cells (bA n) T fr)) : w.rangeAt b 0 ((leB n 32).map cv) := rangeB h
section
attribute [local irreducible] num4A nL bA bL secA secZ pA psA psL pL bpP baseZ z64
set_option maxRecDepth 100000 in
set_option maxHeartbeats 1000000 in
theorem secKey (b n c : Nat) (p : ByteArray) (w : World) :
  Calls Tryz.prog 31 #[.agg (secA b n p c)] w fun e w' => e = .returned (.agg (bA c)) ∧ Below w.heap.size w w' := by
 have hzc := zeroCode
 go_enter Tryz.func31, Tryz.ntmps31
 go_upto_region 1 with fail
 generalize hW0 : World.alloc _ _ = W0
 have R1 : Hid (W0.heap[w.heap.size]? = some (.cells (secA b n p c) 64 (0, 0))) := by rw [← hW0]; exact heap_alloc2_old _ _ _
 have RZ : Hid (W0.heap[w.heap.size + 1]? = some (.cells (bA 0) 62 (0, 0))) := by rw [← hW0]; exact heap_alloc2_new _ _ _
 have B0 : Hid (Below w.heap.size w W0) := by rw [← hW0]; show Below _ _ _; go_grown
 clear hW0
 have r6 := hide (sec_r6 R1.out)
 have bS : Hid ((Tryz.prog.info? 62).map (·.size) = some (bL c).length) := by show _ = _; rw [sizeCode]; simp [bL, leB_length]
 have S1 : Hid ((Tryz.prog.info? 62).map (·.size) = some (bL c).toArray.size) := by show _ = _; rw [bL_A]; exact bA_size c
 have S2 : Hid ((bA 0).size = (bL c).toArray.size) := by show _ = _; rw [bL_A]; exact bA_old _ _
 have S3 : Hid ((bL c).toArray.all (·.oneCell') = true) := by show _ = _; rw [bL_A]; exact bA_all _
 go_wp2_with (first
  | (refine wpList_load_mid (by rfl) 62 (.tmp 3) (by rfl) w.heap.size 6 (by rfl) (bL c) _ r6.out underCode rfl bS.out ?_)
  | (refine wpList_store_row (by rfl) 62 (.tmp 2) (.tmp 4) (by rfl) (w.heap.size + 1) (bL c).toArray (by rfl) (by rfl) 62 _ RZ.out S1.out S2.out S3.out ?_))
 refine bodyPost_ret (v := .agg (bL c).toArray) (results_cell_row Tryz.results31 _ _ (w.heap.size + 1) 62 _ (0, 0) _ (by rfl) (setRow_heap _ _ _ _ _ _ RZ.out) underCode rfl S1.out) rfl ⟨by rw [bL_A], below_setRow B0.out (by omega) _⟩
noncomputable def lkS (s : ByteArray) : ByteArray := if s.size = 32 then strOf (leB (sdC s) 32) else ⟨#[]⟩
def lkE (s : ByteArray) : Int := if s.size = 32 then 0 else 1
noncomputable def lsS (s m : ByteArray) : ByteArray := if s.size = 32 then strOf (leB (sgC (sdP s) m) 32 ++ leB (sgS (sdN s) (sdC s) (sdP s) m) 32) else ⟨#[]⟩
set_option maxRecDepth 100000 in
set_option maxHeartbeats 4000000 in
theorem latchKeyA (s : ByteArray) (w : World) (hG : GlB w) (hK : Tab w) (hE : w.cell? ⟨3, 0, none⟩ = some (rtV 66)) :
  Calls Tryz.prog 8 #[.string s] w fun e w' => e = .returned (.tuple #[.string (lkS s), .int .i64 (lkE s)]) ∧ Below w.heap.size w w' := by
 have hzb := zeroBase
 have hzs := zeroSec
 have hzc := zeroCode
 have HG := hide hG
 have HK := hide hK
 have HE := hide hE
 have h7 := hG.seven
 clear hG hK hE
 go_enter Tryz.func8, Tryz.ntmps8
 go_upto_region 1 with fail
 obtain ⟨W0, hW0⟩ : ∃ W, W = w.alloc (.cells baseZ 86) := ⟨_, rfl⟩
 have RB : Hid (W0.heap[w.heap.size]? = some (.cells baseZ 86 (0, 0))) := by rw [hW0]; exact heap_alloc_new _ _
 have B0 : Hid (Below w.heap.size w W0) := by rw [hW0]; exact (Below.refl _ _).alloc (Nat.le_refl _) _
 by_cases h32 : s.size = 32
 ·
  have HS := hide h32
  clear h32
  go_wp2_with fail
  rw [← hW0]
  clear hW0
  refine (secretOf_yes w.heap.size s HS.out W0 (HG.out.keep B0.out) (HK.out.below B0.out HK.out.lt) h7 (baseZ_new RB.out)).mono ?_
  rintro e W1 ⟨rfl, hX, hD⟩
  have B1 : Hid (Below w.heap.size w W1) := B0.out.trans (hX.below B0.out.size)
  clear hX hD B0 RB
  obtain ⟨c, Ec⟩ : ∃ n, Hid (n = sdC s) := ⟨_, hide rfl⟩
  rw [← Ec.out]
  obtain ⟨n, En⟩ : ∃ n, Hid (n = sdN s) := ⟨_, hide rfl⟩
  obtain ⟨p, Ep⟩ : ∃ n, Hid (n = sdP s) := ⟨_, hide rfl⟩
  rw [← En.out, ← Ep.out]
  go_upto_region 4 with (first
   | (refine wpList_store_row (by rfl) 64 (.tmp 4) (.tmp 11) (by rfl) W1.heap.size (secA w.heap.size n p c) (by rfl) (by rfl) 64 _ (heap_alloc_new _ _) (secA_size _ _ _ _) (secA_old _ _ _ _) (secA_all _ _ _ _) ?_))
  try rw [put_none']
  obtain ⟨g4, hg4⟩ : ∃ q, q = W1.heap.size := ⟨_, rfl⟩
  generalize hW2 : World.setRow _ _ _ = W2
  have R4 : Hid (W2.heap[g4]? = some (.cells (secA w.heap.size n p c) 64 (0, 0))) := by rw [← hW2, hg4]; exact setRow_heap _ _ _ _ _ _ (heap_alloc_new _ _)
  have B2 : Hid (Below w.heap.size w W2) := by rw [← hW2]; exact below_setRow (B1.out.alloc B1.out.size _) B1.out.size _
  rw [← hg4]
  clear hW2 hg4 B1
  go_wp2_with (first
   | (refine wpList_load_row (by rfl) 64 (.tmp 4) (by rfl) g4 (by rfl) 64 (secA w.heap.size n p c) (0, 0) _ R4.out Tryz.underlying64 rfl (secA_size _ _ _ _) ?_))
  refine (secKey w.heap.size n c p W2).mono ?_
  rintro e W3 ⟨rfl, hB⟩
  have B3 := kTr B2 hB
  clear hB B2 R4
  go_upto_region 5 with (first
   | (refine wpList_store_row (by rfl) 62 (.tmp 6) (.tmp 18) (by rfl) W3.heap.size (bA c) (by rfl) (by rfl) 62 _ (heap_alloc_new _ _) (bA_size _) (bA_old _ _) (bA_all _) ?_))
  try rw [put_none']
  obtain ⟨g6, hg6⟩ : ∃ q, q = W3.heap.size := ⟨_, rfl⟩
  generalize hW4 : World.setRow _ _ _ = W4
  have R6 : Hid (W4.heap[g6]? = some (.cells (bA c) 62 (0, 0))) := by rw [← hW4, hg6]; exact setRow_heap _ _ _ _ _ _ (heap_alloc_new _ _)
  have B4 : Hid (Below w.heap.size w W4) := by rw [← hW4]; exact below_setRow (B3.out.alloc B3.out.size _) B3.out.size _
  rw [← hg6]
  clear hW4 hg6 B3
  have hsl := sliceCode_all
  have hcv := convRn W4 g6 0 32 (leB c 32) (leB_length _ _) (rangeBm R6.out)
  obtain ⟨T, HT⟩ : ∃ T, Hid (T = strOf (leB c 32)) := ⟨_, hide rfl⟩
  rw [← HT.out] at hcv
  go_wp2_with fail
  go_returns
  refine ⟨?_, B4.out⟩
  unfold lkS lkE
  rw [if_pos HS.out, if_pos HS.out, ← Ec.out, ← HT.out]; rfl
 ·
  have HS := hide h32
  clear h32
  go_wp2_with fail
  rw [← hW0]
  clear hW0
  refine (secretOf_no w.heap.size s HS.out W0).mono ?_
  rintro e W1 ⟨rfl, hB⟩
  have B1 := kTr B0 hB
  clear hB B0 RB
  obtain ⟨E, HEE⟩ : ∃ E, Hid (E = Value.agg #[.string seedTxt, szI s.size 32]) := ⟨_, rfl⟩
  rw [show atE seedTxt (szI s.size 32) = .iface 173 E by rw [HEE.out]; rfl]
  go_upto_region 3 with (first
   | (refine wpList_store_row (by rfl) 64 (.tmp 4) (.tmp 11) (by rfl) W1.heap.size secZ (by rfl) (by rfl) 64 _ (heap_alloc_new _ _) secZ_size rfl secZ_all ?_))
  try rw [put_none']
  generalize hW2 : World.setRow _ _ _ = W2
  have B2 : Hid (Below w.heap.size w W2) := by rw [← hW2]; exact below_setRow (B1.out.alloc B1.out.size _) B1.out.size _
  clear hW2 B1
  go_wp2_with fail
  rw [HEE.out]
  refine (codeOf_size seedTxt s.size 32 W2 ((B2.out.cell (World.block_lt_of_cell? w _ HE.out)).trans HE.out)).mono ?_
  rintro e W3 ⟨rfl, hB⟩
  have B3 := kTr B2 hB
  clear hB B2
  go_wp2_with fail
  go_returns
  refine ⟨?_, B3.out⟩
  unfold lkS lkE
  rw [if_neg HS.out, if_neg HS.out]; rfl
set_option maxRecDepth 100000 in
set_option maxHeartbeats 4000000 in
theorem latchSignA (s m : ByteArray) (hm : m.size ≤ maxLen) (w : World) (hG : GlB w) (hK : Tab w) (hO : OrdAt w) (hE : w.cell? ⟨3, 0, none⟩ = some (rtV 66)) :
  Calls Tryz.prog 10 #[.string s, .string m] w fun e w' => e = .returned (.tuple #[.string (lsS s m), .int .i64 (lkE s)]) ∧ Below w.heap.size w w' := by
 have hzb := zeroBase
 have hzs := zeroSec
 have hz64 := zero64T
 have HG := hide hG
 have HK := hide hK
 have HE := hide hE
 have HO := hide hO
 have Hm := hide hm
 have h7 := hG.seven
 clear hG hK hE hO hm
 go_enter Tryz.func10, Tryz.ntmps10
 go_upto_region 1 with fail
 obtain ⟨W0, hW0⟩ : ∃ W, W = w.alloc (.cells baseZ 86) := ⟨_, rfl⟩
 have RB : Hid (W0.heap[w.heap.size]? = some (.cells baseZ 86 (0, 0))) := by rw [hW0]; exact heap_alloc_new _ _
 have B0 : Hid (Below w.heap.size w W0) := by rw [hW0]; exact (Below.refl _ _).alloc (Nat.le_refl _) _
 by_cases h32 : s.size = 32
 ·
  have HS := hide h32
  clear h32
  go_wp2_with fail
  rw [← hW0]
  clear hW0
  refine (secretOf_yes w.heap.size s HS.out W0 (HG.out.keep B0.out) (HK.out.below B0.out HK.out.lt) h7 (baseZ_new RB.out)).mono ?_
  rintro e W1 ⟨rfl, hX, hD⟩
  have B1 : Hid (Below w.heap.size w W1) := B0.out.trans (hX.below B0.out.size)
  have D1 := hide hD
  clear hX hD B0 RB
  obtain ⟨c, Ec⟩ : ∃ n, Hid (n = sdC s) := ⟨_, hide rfl⟩
  obtain ⟨n, En⟩ : ∃ n, Hid (n = sdN s) := ⟨_, hide rfl⟩
  obtain ⟨p, Ep⟩ : ∃ n, Hid (n = sdP s) := ⟨_, hide rfl⟩
  rw [← Ec.out, ← En.out, ← Ep.out]
  go_upto_region 4 with (first
   | (refine wpList_store_row (by rfl) 64 (.tmp 6) (.tmp 13) (by rfl) W1.heap.size (secA w.heap.size n p c) (by rfl) (by rfl) 64 _ (heap_alloc_new _ _) (secA_size _ _ _ _) (secA_old _ _ _ _) (secA_all _ _ _ _) ?_))
  try rw [put_none']
  obtain ⟨g6, hg6⟩ : ∃ q, q = W1.heap.size := ⟨_, rfl⟩
  generalize hW2 : World.setRow _ _ _ = W2
  have K2 : Hid (Below W1.heap.size W1 W2) := by rw [← hW2]; exact below_setRow ((Below.refl _ _).alloc (Nat.le_refl _) _) (Nat.le_refl _) _
  have R6 : Hid (W2.heap[g6]? = some (.cells (secA w.heap.size n p c) 64 (0, 0))) := by rw [← hW2, hg6]; exact setRow_heap _ _ _ _ _ _ (heap_alloc_new _ _)
  have B2 : Hid (Below w.heap.size w W2) := B1.out.trans (K2.out.mono B1.out.size)
  have D2 := hide (D1.out.keep (K2.out.block _ D1.out.lt))
  rw [← hg6]
  clear hW2 hg6 B1 D1 K2
  go_wp2_with (first
   | (refine wpList_load_row (by rfl) 64 (.tmp 6) (by rfl) g6 (by rfl) 64 (secA w.heap.size n p c) (0, 0) _ R6.out Tryz.underlying64 rfl (secA_size _ _ _ _) ?_))
  refine (secSign w.heap.size n c p m (by rw [En.out]; exact sdN_lt s) (by rw [Ep.out]; exact sdP_le s) Hm.out W2 (HG.out.keep B2.out) (HK.out.below B2.out HK.out.lt) (HO.out.below B2.out HO.out.lt) h7 D2.out).mono ?_
  rintro e W3 ⟨rfl, hX, _⟩
  have B3 : Hid (Below w.heap.size w W3) := B2.out.trans (hX.below B2.out.size)
  clear hX B2 R6 D2
  obtain ⟨L, EL⟩ : ∃ L, Hid (L = leB (sgC p m) 32 ++ leB (sgS n c p m) 32) := ⟨_, hide rfl⟩
  rw [← EL.out]
  have hlen : Hid (L.length = 64) := by show _ = _; rw [EL.out]; simp [leB_length]
  obtain ⟨M, EM⟩ : ∃ M, Hid (M = (L.map cv).toArray) := ⟨_, hide rfl⟩
  have hM64 : M.size = 64 := by rw [EM.out]; simp [hlen.out]
  have MS : Hid ((Tryz.prog.info? 102).map (·.size) = some M.size) := by show _ = _; rw [hM64]; exact size64
  have MO : Hid (z64.size = M.size) := by show _ = _; rw [hM64, z64_def]; simp
  have MA : Hid (M.all (·.oneCell') = true) := by show _ = _; rw [EM.out]; exact all_oneCell_toArray (bytes_cell _)
  rw [← EM.out]
  go_upto_region 5 with (first
   | (refine wpList_store_row (by rfl) 102 (.tmp 8) (.tmp 21) (by rfl) W3.heap.size M (by rfl) (by rfl) 102 _ (heap_alloc_new _ _) MS.out MO.out MA.out ?_))
  try rw [put_none']
  obtain ⟨g8, hg8⟩ : ∃ q, q = W3.heap.size := ⟨_, rfl⟩
  generalize hW4 : World.setRow _ _ _ = W4
  have R8 : Hid (W4.heap[g8]? = some (.cells (L.map cv).toArray 102 (0, 0))) := by rw [← hW4, hg8, ← EM.out]; exact setRow_heap _ _ _ _ _ _ (heap_alloc_new _ _)
  have B4 : Hid (Below w.heap.size w W4) := by rw [← hW4]; exact below_setRow (B3.out.alloc B3.out.size _) B3.out.size _
  rw [← hg8]
  clear hW4 hg8 B3
  have hsl := slice64w
  have hcv := convRn W4 g8 0 64 L hlen.out (rangeA R8.out)
  obtain ⟨T, HT⟩ : ∃ T, Hid (T = strOf L) := ⟨_, hide rfl⟩
  rw [← HT.out] at hcv
  go_wp2_with fail
  go_returns
  refine ⟨?_, B4.out⟩
  unfold lsS lkE
  rw [if_pos HS.out, if_pos HS.out, ← Ec.out, ← En.out, ← Ep.out, ← EL.out, ← HT.out]; rfl
 ·
  have HS := hide h32
  clear h32
  go_wp2_with fail
  rw [← hW0]
  clear hW0
  refine (secretOf_no w.heap.size s HS.out W0).mono ?_
  rintro e W1 ⟨rfl, hB⟩
  have B1 := kTr B0 hB
  clear hB B0 RB
  obtain ⟨E, HEE⟩ : ∃ E, Hid (E = Value.agg #[.string seedTxt, szI s.size 32]) := ⟨_, rfl⟩
  rw [show atE seedTxt (szI s.size 32) = .iface 173 E by rw [HEE.out]; rfl]
  go_upto_region 3 with (first
   | (refine wpList_store_row (by rfl) 64 (.tmp 6) (.tmp 13) (by rfl) W1.heap.size secZ (by rfl) (by rfl) 64 _ (heap_alloc_new _ _) secZ_size rfl secZ_all ?_))
  try rw [put_none']
  generalize hW2 : World.setRow _ _ _ = W2
  have B2 : Hid (Below w.heap.size w W2) := by rw [← hW2]; exact below_setRow (B1.out.alloc B1.out.size _) B1.out.size _
  clear hW2 B1
  go_wp2_with fail
  rw [HEE.out]
  refine (codeOf_size seedTxt s.size 32 W2 ((B2.out.cell (World.block_lt_of_cell? w _ HE.out)).trans HE.out)).mono ?_
  rintro e W3 ⟨rfl, hB⟩
  have B3 := kTr B2 hB
  clear hB B2
  go_wp2_with fail
  go_returns
  refine ⟨?_, B3.out⟩
  unfold lsS lkE
  rw [if_neg HS.out, if_neg HS.out]; rfl
end
end Go.Proofs.YtccgfabojbjmjaaGreatDoor
