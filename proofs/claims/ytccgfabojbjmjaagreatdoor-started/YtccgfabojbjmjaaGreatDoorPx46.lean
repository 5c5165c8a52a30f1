import Derived.Test.YtccgfabojbjmjaaGreatDoorPx44
import Derived.Test.YtccgfabojbjmjaaGreatDoorPx45
namespace Go.Proofs.YtccgfabojbjmjaaGreatDoor
open Go.RowKit
abbrev oImgOf14 : Oper := ⟨some 23, .convert 9 89 (.tmp 22), 89, "image.go:40", #[zeD 11], none⟩
abbrev oImgOf15 : Oper := ⟨some 24, .sliceToArrayPointer 102 (.tmp 23), 0, "image.go:40", #[zeD 12], none⟩
abbrev oImgOf16 : Oper := ⟨some 28, .convert 9 89 (.tmp 27), 89, "image.go:40", #[zeD 16], none⟩
abbrev oImgOf17 : Oper := ⟨some 29, .sliceToArrayPointer 102 (.tmp 28), 0, "image.go:40", #[zeD 17], none⟩
abbrev oImgOf18 : Oper := ⟨some 30, .load 102 (.tmp 29), 102, "image.go:40", #[zeD 18], none⟩
abbrev oImgOf19 : Oper := ⟨some 25, .load 102 (.tmp 24), 102, "image.go:40", #[zeD 13], none⟩
theorem valLE_leB64 (l : List UInt8) (h : l.length = 64) : leB (valLE l) 64 = l := by
 apply List.ext_getElem
 · rw [leB_length, h]
 ·
  intro i h1 h2
  have g : ∀ h : i < (leB (valLE l) 64).length, (leB (valLE l) 64)[i] = byteLE (valLE l) i := by intro h; simp [leB]
  rw [g]
  apply UInt8.toNat_inj.1
  rw [byteLE_nat, valLE_byte]
  simp [List.getD, List.getElem?_eq_getElem h2]
theorem builtImg_gen (v k : Int) (p sg : ByteArray) (x y : Nat) : Tryz.prog.built 114 [(0, .int .u32 v), (1, .int .i64 k), (2, .string p), (3, .string sg), (4, .agg ((leB x 64).map cv).toArray), (5, .agg ((leB y 64).map cv).toArray)] = some (imgA v k p sg (leB x 64) (leB y 64)) := by kernel_rfl
theorem builtImg (v k : Int) (p sg : ByteArray) (S D : List UInt8) (hS : S.length = 64) (hD : D.length = 64) (M1 M2 : Array Value) (h1 : M1 = (S.map cv).toArray) (h2 : M2 = (D.map cv).toArray) : Tryz.prog.built 114 [(0, .int .u32 v), (1, .int .i64 k), (2, .string p), (3, .string sg), (4, .agg M1), (5, .agg M2)] = some (imgA v k p sg S D) := by
 have e := builtImg_gen v k p sg (valLE S) (valLE D)
 rw [valLE_leB64 S hS, valLE_leB64 D hD] at e
 rw [h1, h2]
 exact e
def z64L : List UInt8 := List.replicate 64 0
def imgZ : Array Value := imgA 0 0 ByteArray.empty ByteArray.empty z64L z64L
theorem zeroImg (w : World) : (zeroValue 114).run Tryz.prog w = .ok (.agg imgZ) w := by kernel_rfl
theorem builtImg0 : Tryz.prog.built 114 [] = some imgZ := by kernel_rfl
theorem sizeImg : (Tryz.prog.info? 114).map (·.size) = some 132 := by kernel_rfl
theorem imgA_132 (v k : Int) (p sg : ByteArray) (S D : List UInt8) (hS : S.length = 64) (hD : D.length = 64) : (imgA v k p sg S D).size = 132 := by rw [imgA_size, hS, hD]
theorem imgA_all (v k : Int) (p sg : ByteArray) (S D : List UInt8) : (imgA v k p sg S D).all (·.oneCell') = true := by
 refine all_oneCell_toArray ?_
 intro x hx
 unfold imgL at hx
 simp only [List.mem_cons, List.mem_append] at hx
 rcases hx with rfl | rfl | rfl | rfl | h | h
 · rfl
 · rfl
 · rfl
 · rfl
 · exact cvs_cell _ x h
 · exact cvs_cell _ x h
theorem imgZ_size : imgZ.size = 132 := by unfold imgZ; rw [imgA_size]; rfl
theorem imgZ_all : imgZ.all (·.oneCell') = true := imgA_all _ _ _ _ _ _
theorem hrunLittle {a : Act} {o : Oper} (x : Operand) (ho : o.op = .call { callee := .value (.func 131), args := #[x], argTypes := #[9] }) (v1 : Value) (hx : a.eval x = v1) (w : World) :
  (execOp a.eval o).run Tryz.prog w = .ok (.enter 131 #[v1]) w := by
 unfold execOp
 simp only [ho]
 subst hx
 go_simp
theorem littleN (s : ByteArray) (hs : s.size = 4) (n : Nat) (hn : n = le4 s 4) (w : World) : Calls Tryz.prog 131 #[.string s] w fun e w' => e = .returned (.int .u32 n) ∧ Below w.heap.size w w' := by
 refine (little_any s hs w).mono ?_
 rintro e w' ⟨rfl, rfl⟩
 exact ⟨by rw [hn], Below.refl _ _⟩
noncomputable def imV (s : ByteArray) : Nat := le4 (s.extract 8 12) 4
def imK (s : ByteArray) : Int := C8 ((bytesOf s).getD 16 0)
def imP (s : ByteArray) : ByteArray := s.extract 192 s.size
def imG (s : ByteArray) : ByteArray := s.extract 0 128
def imS (s : ByteArray) : List UInt8 := bytesOf (s.extract 128 192)
def imD (s : ByteArray) : List UInt8 := bytesOf (s.extract 64 128)
noncomputable def imR (s : ByteArray) : Array Value := imgA (imV s) (imK s) (imP s) (imG s) (imS s) (imD s)
abbrev imT (w : World) (s A P C G D : ByteArray) (z : Int) (t13 t23 t24 t25 t28 t29 t30 : Value) : Act := { tmps := #[.string s, undef, .pointer (some ⟨w.heap.size, 0, none⟩), .nilIface, .nilIface, .string s, .nilIface, .nilIface, .bool false, undef, undef, .string s, .string A, t13, .string s, .int .u8 z, .int .i64 z, .string s, .string P, .string s, .string C, .string s, .string G, t23, t24, t25, .string s, .string D, t28, t29, t30, undef], defers := [] }
section
attribute [local irreducible] imgA imgL imgZ z64L
set_option maxRecDepth 100000 in
set_option maxHeartbeats 4000000 in
theorem imageOf_no (s : ByteArray) (hm : s.size ≤ maxLen) (E : Value) (hE : mkE s = .iface 173 E) (w : World) :
  Calls Tryz.prog 84 #[.string s] w fun e w' => e = .returned (.tuple #[.agg imgZ, .iface 173 E]) ∧ Below w.heap.size w w' := by
 have hz := zeroImg
 have HE := hide hE
 have Hm := hide hm
 clear hE hm
 go_enter Tryz.func84, Tryz.ntmps84
 go_wp2_with fail
 refine (checkMake_any s Hm.out _).mono ?_
 rintro e W1 ⟨rfl, hB⟩
 rw [HE.out]
 have B1 : Hid (Below w.heap.size w W1) := ((Below.refl _ _).alloc (Nat.le_refl _) _).trans (hB.mono (by simp))
 have R1 : Hid (W1.heap[w.heap.size]? = some (.cells imgZ 114 (0, 0))) := row_keep' (heap_alloc_new _ _) hB
 clear hB
 have hb0 := builtImg0
 go_wp2_with (first
  | (refine wpList_build_to (by rfl) 114 _ (by rfl) imgZ (by exact hb0) ?_)
  | (refine wpList_store_row (by rfl) 114 (.tmp 2) (.tmp 9) (by rfl) w.heap.size imgZ (by rfl) (by rfl) 114 _ R1.out (by rw [sizeImg, imgZ_size]) rfl imgZ_all ?_))
 refine bodyPost_ret (v := .tuple #[.agg imgZ, .iface 173 E]) (results_cell_tmp_row Tryz.results84 _ _ (w.heap.size) 114 _ (0, 0) _ (by rfl) (setRow_heap _ _ _ _ _ _ R1.out) Tryz.underlying114 rfl (by rw [sizeImg, imgZ_size])) rfl ⟨rfl, below_setRow B1.out (Nat.le_refl _) _⟩
set_option maxRecDepth 100000 in
set_option maxHeartbeats 8000000 in
theorem imageOf_yes (s : ByteArray) (hm : s.size ≤ maxLen) (hE : mkE s = .nilIface) (h192 : 192 ≤ s.size) (w : World) :
  Calls Tryz.prog 84 #[.string s] w fun e w' => e = .returned (.tuple #[.agg (imR s), .nilIface]) ∧ Below w.heap.size w w' := by
 have hz := zeroImg
 have HE := hide hE
 have Hm := hide hm
 have H192 := hide h192
 clear hE hm
 have h12 : (12 : Int) ≤ (s.size : Int) := by omega
 have h16 : (16 : Int) < (s.size : Int) := by omega
 have h64 : (64 : Int) ≤ (s.size : Int) := by omega
 have h128 : (128 : Int) ≤ (s.size : Int) := by omega
 have h192i : (192 : Int) ≤ (s.size : Int) := by omega
 obtain ⟨A, EA⟩ : ∃ A, Hid (A = s.extract 8 12) := ⟨_, hide rfl⟩
 have hxA : s.extract 8 12 = A := EA.out.symm
 have A4 : Hid (A.size = 4) := by show _ = _; rw [EA.out, sub_size _ _ _ (by omega)]
 obtain ⟨n, En⟩ : ∃ n, Hid (n = le4 A 4) := ⟨_, hide rfl⟩
 obtain ⟨P, EP⟩ : ∃ A, Hid (A = s.extract 192 s.size) := ⟨_, hide rfl⟩
 have hxP : s.extract 192 s.size = P := EP.out.symm
 obtain ⟨C, EC⟩ : ∃ A, Hid (A = s.extract 0 128) := ⟨_, hide rfl⟩
 have hxC : s.extract 0 128 = C := EC.out.symm
 obtain ⟨G, EG⟩ : ∃ A, Hid (A = s.extract 128 192) := ⟨_, hide rfl⟩
 have hxG : s.extract 128 192 = G := EG.out.symm
 have G64 : Hid (G.size = 64) := by show _ = _; rw [EG.out, sub_size _ _ _ (by omega)]
 obtain ⟨D, ED⟩ : ∃ A, Hid (A = s.extract 64 128) := ⟨_, hide rfl⟩
 have hxD : s.extract 64 128 = D := ED.out.symm
 have D64 : Hid (D.size = 64) := by show _ = _; rw [ED.out, sub_size _ _ _ (by omega)]
 obtain ⟨z, Ez⟩ : ∃ z, Hid (z = C8 ((bytesOf s).getD 16 0)) := ⟨_, hide rfl⟩
 have hix : ∀ w, (Instr.index 9 (.string s) (.int .i64 16)).run Tryz.prog w = .ok (.int .u8 z) w := by rw [Ez.out]; exact strAt s 16 (by omega)
 have hzw : IntKind.i64.wrap z = z := by
  have h1 := C8_nonneg ((bytesOf s).getD 16 0)
  have h2 := C8_lt ((bytesOf s).getD 16 0)
  rw [← Ez.out] at h1 h2
  rw [IntKind.wrap_i64]; omega
 have lG : Hid (((bytesOf G).map cv).length = 64) := by show _ = _; rw [List.length_map, bytesOf_length, G64.out]
 have lD : Hid (((bytesOf D).map cv).length = 64) := by show _ = _; rw [List.length_map, bytesOf_length, D64.out]
 have lG' : Hid ((bytesOf G).length = 64) := by show _ = _; rw [bytesOf_length, G64.out]
 have lD' : Hid ((bytesOf D).length = 64) := by show _ = _; rw [bytesOf_length, D64.out]
 obtain ⟨M1, EM1⟩ : ∃ M, Hid (M = ((bytesOf G).map cv).toArray) := ⟨_, hide rfl⟩
 obtain ⟨M2, EM2⟩ : ∃ M, Hid (M = ((bytesOf D).map cv).toArray) := ⟨_, hide rfl⟩
 obtain ⟨I, EI⟩ : ∃ M, Hid (M = imgA n z P C (bytesOf G) (bytesOf D)) := ⟨_, hide rfl⟩
 have HIs : Hid (I.size = 132) := by show _ = _; rw [EI.out]; exact imgA_132 _ _ _ _ _ _ lG'.out lD'.out
 have HIa : Hid (I.all (·.oneCell') = true) := by show _ = _; rw [EI.out]; exact imgA_all _ _ _ _ _ _
 have HIb : Hid (Tryz.prog.built 114 [(0, .int .u32 n), (1, .int .i64 z), (2, .string P), (3, .string C), (4, .agg M1), (5, .agg M2)] = some I) := by show _ = _; rw [EI.out]; exact builtImg _ _ _ _ _ _ lG'.out lD'.out _ _ EM1.out EM2.out
 have EIR : Hid (I = imR s) := by show _ = _; rw [EI.out, En.out, Ez.out, EP.out, EC.out, EG.out, ED.out, EA.out]; rfl
 have ha64 := arr64
 clear h192
 go_enter Tryz.func84, Tryz.ntmps84
 go_wp2_with fail
 refine (checkMake_any s Hm.out _).mono ?_
 rintro e W1 ⟨rfl, hB⟩
 rw [HE.out]
 have B1 : Hid (Below w.heap.size w W1) := ((Below.refl _ _).alloc (Nat.le_refl _) _).trans (hB.mono (by simp))
 have R1 : Hid (W1.heap[w.heap.size]? = some (.cells imgZ 114 (0, 0))) := row_keep' (heap_alloc_new _ _) hB
 clear hB
 go_upto_region 4 with fail
 refine wp_region_held_drew (S := fun _ => True) (by kernel_rfl) trivial (fun hHeld => ?_)
 have KV1 : Hid (Below W1.heap.size W1 W1.drew) := (Below.refl _ _).drew
 obtain ⟨V1, hV1⟩ : ∃ V, V = W1.drew := ⟨_, rfl⟩
 rw [← hV1] at KV1 ⊢
 clear hV1
 refine wpAnyH_take (i := 0) (oi := ⟨some 11, .move (.tmp 0), 9, "image.go:40", #[], none⟩) (v := .string s) rfl (by kernel_rfl) (by kernel_rfl) (by kernel_rfl) (fun _ _ _ h => h) (Or.inl ⟨by rfl, fun w _ => by go_simp⟩) hHeld ?_
 simp only [zaP, zsT, zsZ, zsS]
 refine wpAnyH_take (i := 1) (oi := ⟨some 12, .slice 9 (.tmp 11) (some (.const (.int .i64 8))) (some (.const (.int .i64 12))) none, 9, "image.go:40", #[zeD 0], none⟩) (v := .string A) rfl (by kernel_rfl) (by kernel_rfl) (by kernel_rfl) (fun _ _ _ h => h) (Or.inl ⟨by rfl, fun w _ => by go_simp⟩) hHeld ?_
 simp only [zaP, zsT, zsZ, zsS]
 refine wpAnyH_take (i := 3) (oi := ⟨some 14, .move (.tmp 0), 9, "image.go:40", #[], none⟩) (v := .string s) rfl (by kernel_rfl) (by kernel_rfl) (by kernel_rfl) (fun _ _ _ h => h) (Or.inl ⟨by rfl, fun w _ => by go_simp⟩) hHeld ?_
 simp only [zaP, zsT, zsZ, zsS]
 refine wpAnyH_take (i := 4) (oi := ⟨some 15, .index 9 (.tmp 14) (.const (.int .i64 16)), 5, "image.go:40", #[zeD 3], none⟩) (v := .int .u8 z) rfl (by kernel_rfl) (by kernel_rfl) (by kernel_rfl) (fun _ _ _ h => h) (Or.inl ⟨by rfl, fun w _ => by go_simp⟩) hHeld ?_
 simp only [zaP, zsT, zsZ, zsS]
 refine wpAnyH_take (i := 5) (oi := ⟨some 16, .convert 5 3 (.tmp 15), 3, "image.go:40", #[zeD 4], none⟩) (v := .int .i64 z) rfl (by kernel_rfl) (by kernel_rfl) (by kernel_rfl) (fun _ _ _ h => h) (Or.inl ⟨by rfl, fun w _ => by go_simp⟩) hHeld ?_
 simp only [zaP, zsT, zsZ, zsS]
 refine wpAnyH_take (i := 6) (oi := ⟨some 17, .move (.tmp 0), 9, "image.go:40", #[], none⟩) (v := .string s) rfl (by kernel_rfl) (by kernel_rfl) (by kernel_rfl) (fun _ _ _ h => h) (Or.inl ⟨by rfl, fun w _ => by go_simp⟩) hHeld ?_
 simp only [zaP, zsT, zsZ, zsS]
 refine wpAnyH_take (i := 7) (oi := ⟨some 18, .slice 9 (.tmp 17) (some (.const (.int .i64 192))) none none, 9, "image.go:40", #[zeD 6], none⟩) (v := .string P) rfl (by kernel_rfl) (by kernel_rfl) (by kernel_rfl) (fun _ _ _ h => h) (Or.inl ⟨by rfl, fun w _ => by go_simp⟩) hHeld ?_
 simp only [zaP, zsT, zsZ, zsS]
 refine wpAnyH_take (i := 8) (oi := ⟨some 19, .move (.tmp 0), 9, "image.go:40", #[], none⟩) (v := .string s) rfl (by kernel_rfl) (by kernel_rfl) (by kernel_rfl) (fun _ _ _ h => h) (Or.inl ⟨by rfl, fun w _ => by go_simp⟩) hHeld ?_
 simp only [zaP, zsT, zsZ, zsS]
 refine wpAnyH_take (i := 9) (oi := ⟨some 20, .slice 9 (.tmp 19) none (some (.const (.int .i64 128))) none, 9, "image.go:40", #[zeD 8], none⟩) (v := .string C) rfl (by kernel_rfl) (by kernel_rfl) (by kernel_rfl) (fun _ _ _ h => h) (Or.inl ⟨by rfl, fun w _ => by go_simp⟩) hHeld ?_
 simp only [zaP, zsT, zsZ, zsS]
 refine wpAnyH_take (i := 10) (oi := ⟨some 21, .move (.tmp 0), 9, "image.go:40", #[], none⟩) (v := .string s) rfl (by kernel_rfl) (by kernel_rfl) (by kernel_rfl) (fun _ _ _ h => h) (Or.inl ⟨by rfl, fun w _ => by go_simp⟩) hHeld ?_
 simp only [zaP, zsT, zsZ, zsS]
 refine wpAnyH_take (i := 11) (oi := ⟨some 22, .slice 9 (.tmp 21) (some (.const (.int .i64 128))) (some (.const (.int .i64 192))) none, 9, "image.go:40", #[zeD 10], none⟩) (v := .string G) rfl (by kernel_rfl) (by kernel_rfl) (by kernel_rfl) (fun _ _ _ h => h) (Or.inl ⟨by rfl, fun w _ => by go_simp⟩) hHeld ?_
 simp only [zaP, zsT, zsZ, zsS]
 refine wpAnyH_take (i := 15) (oi := ⟨some 26, .move (.tmp 0), 9, "image.go:40", #[], none⟩) (v := .string s) rfl (by kernel_rfl) (by kernel_rfl) (by kernel_rfl) (fun _ _ _ h => h) (Or.inl ⟨by rfl, fun w _ => by go_simp⟩) hHeld ?_
 simp only [zaP, zsT, zsZ, zsS]
 refine wpAnyH_take (i := 16) (oi := ⟨some 27, .slice 9 (.tmp 26) (some (.const (.int .i64 64))) (some (.const (.int .i64 128))) none, 9, "image.go:40", #[zeD 15], none⟩) (v := .string D) rfl (by kernel_rfl) (by kernel_rfl) (by kernel_rfl) (fun _ _ _ h => h) (Or.inl ⟨by rfl, fun w _ => by go_simp⟩) hHeld ?_
 simp only [zaP, zsT, zsZ, zsS]
 refine wpAnyH_states (fun s => match s with | 0 => #[true, true, false, true, true, true, true, true, true, true, true, true, false, false, false, true, true, false, false, false, false, false, false] | 1 => #[true, true, false, true, true, true, true, true, true, true, true, true, false, false, false, true, true, true, true, false, false, false, false] | 2 => #[true, true, false, true, true, true, true, true, true, true, true, true, true, true, false, true, true, false, false, false, false, false, false] | 3 => #[true, true, true, true, true, true, true, true, true, true, true, true, false, false, false, true, true, false, false, false, false, false, false] | 4 => #[true, true, false, true, true, true, true, true, true, true, true, true, false, false, false, true, true, true, true, true, false, false, false] | 5 => #[true, true, false, true, true, true, true, true, true, true, true, true, true, true, false, true, true, true, true, false, false, false, false] | 6 => #[true, true, false, true, true, true, true, true, true, true, true, true, true, true, true, true, true, false, false, false, false, false, false] | 7 => #[true, true, true, true, true, true, true, true, true, true, true, true, false, false, false, true, true, true, true, false, false, false, false] | 8 => #[true, true, true, true, true, true, true, true, true, true, true, true, true, true, false, true, true, false, false, false, false, false, false] | 9 => #[true, true, false, true, true, true, true, true, true, true, true, true, true, true, false, true, true, true, true, true, false, false, false] | 10 => #[true, true, false, true, true, true, true, true, true, true, true, true, true, true, true, true, true, true, true, false, false, false, false] | 11 => #[true, true, true, true, true, true, true, true, true, true, true, true, false, false, false, true, true, true, true, true, false, false, false] | 12 => #[true, true, true, true, true, true, true, true, true, true, true, true, true, true, false, true, true, true, true, false, false, false, false] | 13 => #[true, true, true, true, true, true, true, true, true, true, true, true, true, true, true, true, true, false, false, false, false, false, false] | 14 => #[true, true, false, true, true, true, true, true, true, true, true, true, true, true, true, true, true, true, true, true, false, false, false] | 15 => #[true, true, true, true, true, true, true, true, true, true, true, true, true, true, false, true, true, true, true, true, false, false, false] | 16 => #[true, true, true, true, true, true, true, true, true, true, true, true, true, true, true, true, true, true, true, false, false, false, false] | 17 => #[true, true, true, true, true, true, true, true, true, true, true, true, true, true, true, true, true, true, true, true, false, false, false] | _ => #[]) (fun s => match s with | 0 => 10 | 1 => 8 | 2 => 8 | 3 => 9 | 4 => 7 | 5 => 6 | 6 => 7 | 7 => 7 | 8 => 7 | 9 => 5 | 10 => 5 | 11 => 6 | 12 => 5 | 13 => 6 | 14 => 4 | 15 => 4 | 16 => 4 | 17 => 3 | _ => 0)
  (fun s' a v => match s' with | 0 => a = imT w s A P C G D z undef undef undef undef undef undef undef ∧ Hid (Below W1.heap.size W1 v) | 1 => ∃ q2 c2 : Nat, a = imT w s A P C G D z undef undef undef undef (.slice (some ⟨q2, 0, none⟩) 64 c2) (.pointer (some ⟨q2, 0, none⟩)) undef ∧ Hid (v.rangeAt q2 0 ((bytesOf D).map cv)) ∧ Hid (q2 < v.heap.size) ∧ Hid (Below W1.heap.size W1 v) | 2 => ∃ q1 c1 : Nat, a = imT w s A P C G D z undef (.slice (some ⟨q1, 0, none⟩) 64 c1) (.pointer (some ⟨q1, 0, none⟩)) undef undef undef undef ∧ Hid (v.rangeAt q1 0 ((bytesOf G).map cv)) ∧ Hid (q1 < v.heap.size) ∧ Hid (Below W1.heap.size W1 v) | 3 => a = imT w s A P C G D z (.int .u32 (n : Nat)) undef undef undef undef undef undef ∧ Hid (Below W1.heap.size W1 v) | 4 => ∃ q2 c2 : Nat, a = imT w s A P C G D z undef undef undef undef (.slice (some ⟨q2, 0, none⟩) 64 c2) (.pointer (some ⟨q2, 0, none⟩)) (.agg M2) ∧ Hid (Below W1.heap.size W1 v) | 5 => ∃ q1 c1 : Nat, ∃ q2 c2 : Nat, a = imT w s A P C G D z undef (.slice (some ⟨q1, 0, none⟩) 64 c1) (.pointer (some ⟨q1, 0, none⟩)) undef (.slice (some ⟨q2, 0, none⟩) 64 c2) (.pointer (some ⟨q2, 0, none⟩)) undef ∧ Hid (v.rangeAt q1 0 ((bytesOf G).map cv)) ∧ Hid (q1 < v.heap.size) ∧ Hid (v.rangeAt q2 0 ((bytesOf D).map cv)) ∧ Hid (q2 < v.heap.size) ∧ Hid (Below W1.heap.size W1 v) | 6 => ∃ q1 c1 : Nat, a = imT w s A P C G D z undef (.slice (some ⟨q1, 0, none⟩) 64 c1) (.pointer (some ⟨q1, 0, none⟩)) (.agg M1) undef undef undef ∧ Hid (Below W1.heap.size W1 v) | 7 => ∃ q2 c2 : Nat, a = imT w s A P C G D z (.int .u32 (n : Nat)) undef undef undef (.slice (some ⟨q2, 0, none⟩) 64 c2) (.pointer (some ⟨q2, 0, none⟩)) undef ∧ Hid (v.rangeAt q2 0 ((bytesOf D).map cv)) ∧ Hid (q2 < v.heap.size) ∧ Hid (Below W1.heap.size W1 v) | 8 => ∃ q1 c1 : Nat, a = imT w s A P C G D z (.int .u32 (n : Nat)) (.slice (some ⟨q1, 0, none⟩) 64 c1) (.pointer (some ⟨q1, 0, none⟩)) undef undef undef undef ∧ Hid (v.rangeAt q1 0 ((bytesOf G).map cv)) ∧ Hid (q1 < v.heap.size) ∧ Hid (Below W1.heap.size W1 v) | 9 => ∃ q1 c1 : Nat, ∃ q2 c2 : Nat, a = imT w s A P C G D z undef (.slice (some ⟨q1, 0, none⟩) 64 c1) (.pointer (some ⟨q1, 0, none⟩)) undef (.slice (some ⟨q2, 0, none⟩) 64 c2) (.pointer (some ⟨q2, 0, none⟩)) (.agg M2) ∧ Hid (v.rangeAt q1 0 ((bytesOf G).map cv)) ∧ Hid (q1 < v.heap.size) ∧ Hid (Below W1.heap.size W1 v) | 10 => ∃ q1 c1 : Nat, ∃ q2 c2 : Nat, a = imT w s A P C G D z undef (.slice (some ⟨q1, 0, none⟩) 64 c1) (.pointer (some ⟨q1, 0, none⟩)) (.agg M1) (.slice (some ⟨q2, 0, none⟩) 64 c2) (.pointer (some ⟨q2, 0, none⟩)) undef ∧ Hid (v.rangeAt q2 0 ((bytesOf D).map cv)) ∧ Hid (q2 < v.heap.size) ∧ Hid (Below W1.heap.size W1 v) | 11 => ∃ q2 c2 : Nat, a = imT w s A P C G D z (.int .u32 (n : Nat)) undef undef undef (.slice (some ⟨q2, 0, none⟩) 64 c2) (.pointer (some ⟨q2, 0, none⟩)) (.agg M2) ∧ Hid (Below W1.heap.size W1 v) | 12 => ∃ q1 c1 : Nat, ∃ q2 c2 : Nat, a = imT w s A P C G D z (.int .u32 (n : Nat)) (.slice (some ⟨q1, 0, none⟩) 64 c1) (.pointer (some ⟨q1, 0, none⟩)) undef (.slice (some ⟨q2, 0, none⟩) 64 c2) (.pointer (some ⟨q2, 0, none⟩)) undef ∧ Hid (v.rangeAt q1 0 ((bytesOf G).map cv)) ∧ Hid (q1 < v.heap.size) ∧ Hid (v.rangeAt q2 0 ((bytesOf D).map cv)) ∧ Hid (q2 < v.heap.size) ∧ Hid (Below W1.heap.size W1 v) | 13 => ∃ q1 c1 : Nat, a = imT w s A P C G D z (.int .u32 (n : Nat)) (.slice (some ⟨q1, 0, none⟩) 64 c1) (.pointer (some ⟨q1, 0, none⟩)) (.agg M1) undef undef undef ∧ Hid (Below W1.heap.size W1 v) | 14 => ∃ q1 c1 : Nat, ∃ q2 c2 : Nat, a = imT w s A P C G D z undef (.slice (some ⟨q1, 0, none⟩) 64 c1) (.pointer (some ⟨q1, 0, none⟩)) (.agg M1) (.slice (some ⟨q2, 0, none⟩) 64 c2) (.pointer (some ⟨q2, 0, none⟩)) (.agg M2) ∧ Hid (Below W1.heap.size W1 v) | 15 => ∃ q1 c1 : Nat, ∃ q2 c2 : Nat, a = imT w s A P C G D z (.int .u32 (n : Nat)) (.slice (some ⟨q1, 0, none⟩) 64 c1) (.pointer (some ⟨q1, 0, none⟩)) undef (.slice (some ⟨q2, 0, none⟩) 64 c2) (.pointer (some ⟨q2, 0, none⟩)) (.agg M2) ∧ Hid (v.rangeAt q1 0 ((bytesOf G).map cv)) ∧ Hid (q1 < v.heap.size) ∧ Hid (Below W1.heap.size W1 v) | 16 => ∃ q1 c1 : Nat, ∃ q2 c2 : Nat, a = imT w s A P C G D z (.int .u32 (n : Nat)) (.slice (some ⟨q1, 0, none⟩) 64 c1) (.pointer (some ⟨q1, 0, none⟩)) (.agg M1) (.slice (some ⟨q2, 0, none⟩) 64 c2) (.pointer (some ⟨q2, 0, none⟩)) undef ∧ Hid (v.rangeAt q2 0 ((bytesOf D).map cv)) ∧ Hid (q2 < v.heap.size) ∧ Hid (Below W1.heap.size W1 v) | 17 => ∃ q1 c1 : Nat, ∃ q2 c2 : Nat, a = imT w s A P C G D z (.int .u32 (n : Nat)) (.slice (some ⟨q1, 0, none⟩) 64 c1) (.pointer (some ⟨q1, 0, none⟩)) (.agg M1) (.slice (some ⟨q2, 0, none⟩) 64 c2) (.pointer (some ⟨q2, 0, none⟩)) (.agg M2) ∧ Hid (Below W1.heap.size W1 v) | _ => False) 18 ?_ 0 (by decide) _ _ _ _ (by rfl) (by kernel_rfl) ⟨rfl, KV1⟩
 clear hHeld KV1
 intro s' hs ih a v hI
 match s', hs, ih, hI with
 | 0, _, ih, hI =>
  dsimp only [imT] at hI
  obtain ⟨rfl, KV⟩ := hI
  refine wpAnyH_ready (rs := [2, 12, 17]) (by kernel_rfl) (by simp) ?_
  refine AllReadyH.cons (o := ⟨some 13, .call ⟨.value (.func 131), #[.tmp 12], #[9]⟩, 39, "image.go:41", #[zeD 1], none⟩) rfl (fun K hK => ?_) ?_
  ·
   refine step_callTo (by rfl) _ _ (hrunLittle _ rfl (.string A) rfl v) _ _ (littleN A A4.out n En.out v) (fun V HBx => ?_)
   refine hK.out _ _ trivial (fun hHeld => ?_)
   clear hK K
   try simp only [zaP, zsT, zsZ, zsS]
   exact ih 3 (by decide) (by decide) _ _ _ _ (by rfl) (by kernel_rfl) ⟨rfl, hide (KV.out.trans (HBx.mono KV.out.size))⟩
  refine AllReadyH.cons (o := oImgOf14) rfl (fun K hK => ?_) ?_
  ·
   obtain ⟨cc, V, hcv, hR, HBx, hSz⟩ := conv_bytes 9 89 5 underStr underSl8 underU8 G v
   rw [G64.out] at hcv
   refine step_runTo (by rfl) (.slice (some ⟨v.heap.size, 0, none⟩) 64 cc) (hrunConvS _ rfl G rfl _ _ _ hcv) ?_
   refine hK.out _ _ trivial (fun hHeld => ?_)
   clear hK K hcv
   try simp only [zaP, zsT, zsZ, zsS]
   refine wpAnyH_take (i := 13) (oi := oImgOf15) (v := .pointer (some ⟨v.heap.size, 0, none⟩)) rfl (by kernel_rfl) (by kernel_rfl) (by kernel_rfl) (fun _ _ _ h => h) (Or.inl ⟨by rfl, fun w _ => by go_simp⟩) hHeld ?_
   simp only [zaP, zsT, zsZ, zsS]
   exact ih 2 (by decide) (by decide) _ _ _ _ (by rfl) (by kernel_rfl) ⟨v.heap.size, cc, rfl, hide hR, hide (by show _ < _; rw [hSz]; exact Nat.lt_succ_self _), hide (KV.out.trans (HBx.mono KV.out.size))⟩
  refine AllReadyH.cons (o := oImgOf16) rfl (fun K hK => ?_) ?_
  ·
   obtain ⟨cc, V, hcv, hR, HBx, hSz⟩ := conv_bytes 9 89 5 underStr underSl8 underU8 D v
   rw [D64.out] at hcv
   refine step_runTo (by rfl) (.slice (some ⟨v.heap.size, 0, none⟩) 64 cc) (hrunConvS _ rfl D rfl _ _ _ hcv) ?_
   refine hK.out _ _ trivial (fun hHeld => ?_)
   clear hK K hcv
   try simp only [zaP, zsT, zsZ, zsS]
   refine wpAnyH_take (i := 18) (oi := oImgOf17) (v := .pointer (some ⟨v.heap.size, 0, none⟩)) rfl (by kernel_rfl) (by kernel_rfl) (by kernel_rfl) (fun _ _ _ h => h) (Or.inl ⟨by rfl, fun w _ => by go_simp⟩) hHeld ?_
   simp only [zaP, zsT, zsZ, zsS]
   exact ih 1 (by decide) (by decide) _ _ _ _ (by rfl) (by kernel_rfl) ⟨v.heap.size, cc, rfl, hide hR, hide (by show _ < _; rw [hSz]; exact Nat.lt_succ_self _), hide (KV.out.trans (HBx.mono KV.out.size))⟩
  exact AllReadyH.nil
 | 1, _, ih, hI =>
  dsimp only [imT] at hI
  obtain ⟨q2, c2, rfl, H2, L2, KV⟩ := hI
  refine wpAnyH_ready (rs := [2, 12, 19]) (by kernel_rfl) (by simp) ?_
  refine AllReadyH.cons (o := ⟨some 13, .call ⟨.value (.func 131), #[.tmp 12], #[9]⟩, 39, "image.go:41", #[zeD 1], none⟩) rfl (fun K hK => ?_) ?_
  ·
   refine step_callTo (by rfl) _ _ (hrunLittle _ rfl (.string A) rfl v) _ _ (littleN A A4.out n En.out v) (fun V HBx => ?_)
   refine hK.out _ _ trivial (fun hHeld => ?_)
   clear hK K
   try simp only [zaP, zsT, zsZ, zsS]
   exact ih 7 (by decide) (by decide) _ _ _ _ (by rfl) (by kernel_rfl) ⟨q2, c2, rfl, hide (range_below H2.out HBx L2.out), hide (Nat.lt_of_lt_of_le L2.out HBx.size), hide (KV.out.trans (HBx.mono KV.out.size))⟩
  refine AllReadyH.cons (o := oImgOf14) rfl (fun K hK => ?_) ?_
  ·
   obtain ⟨cc, V, hcv, hR, HBx, hSz⟩ := conv_bytes 9 89 5 underStr underSl8 underU8 G v
   rw [G64.out] at hcv
   refine step_runTo (by rfl) (.slice (some ⟨v.heap.size, 0, none⟩) 64 cc) (hrunConvS _ rfl G rfl _ _ _ hcv) ?_
   refine hK.out _ _ trivial (fun hHeld => ?_)
   clear hK K hcv
   try simp only [zaP, zsT, zsZ, zsS]
   refine wpAnyH_take (i := 13) (oi := oImgOf15) (v := .pointer (some ⟨v.heap.size, 0, none⟩)) rfl (by kernel_rfl) (by kernel_rfl) (by kernel_rfl) (fun _ _ _ h => h) (Or.inl ⟨by rfl, fun w _ => by go_simp⟩) hHeld ?_
   simp only [zaP, zsT, zsZ, zsS]
   exact ih 5 (by decide) (by decide) _ _ _ _ (by rfl) (by kernel_rfl) ⟨v.heap.size, cc, q2, c2, rfl, hide hR, hide (by show _ < _; rw [hSz]; exact Nat.lt_succ_self _), hide (range_below H2.out HBx L2.out), hide (Nat.lt_of_lt_of_le L2.out HBx.size), hide (KV.out.trans (HBx.mono KV.out.size))⟩
  refine AllReadyH.cons (o := oImgOf18) rfl (fun K hK => ?_) ?_
  ·
   refine step_load_mid (by rfl) 102 (.tmp 29) (by rfl) q2 0 (by rfl) ((bytesOf D).map cv) _ H2.out under64 rfl (by rw [lD.out]; exact size64) ?_
   rw [← EM2.out]
   refine hK.out _ _ trivial (fun hHeld => ?_)
   clear hK K
   try simp only [zaP, zsT, zsZ, zsS]
   exact ih 4 (by decide) (by decide) _ _ _ _ (by rfl) (by kernel_rfl) ⟨q2, c2, rfl, KV⟩
  exact AllReadyH.nil
 | 2, _, ih, hI =>
  dsimp only [imT] at hI
  obtain ⟨q1, c1, rfl, H1, L1, KV⟩ := hI
  refine wpAnyH_ready (rs := [2, 14, 17]) (by kernel_rfl) (by simp) ?_
  refine AllReadyH.cons (o := ⟨some 13, .call ⟨.value (.func 131), #[.tmp 12], #[9]⟩, 39, "image.go:41", #[zeD 1], none⟩) rfl (fun K hK => ?_) ?_
  ·
   refine step_callTo (by rfl) _ _ (hrunLittle _ rfl (.string A) rfl v) _ _ (littleN A A4.out n En.out v) (fun V HBx => ?_)
   refine hK.out _ _ trivial (fun hHeld => ?_)
   clear hK K
   try simp only [zaP, zsT, zsZ, zsS]
   exact ih 8 (by decide) (by decide) _ _ _ _ (by rfl) (by kernel_rfl) ⟨q1, c1, rfl, hide (range_below H1.out HBx L1.out), hide (Nat.lt_of_lt_of_le L1.out HBx.size), hide (KV.out.trans (HBx.mono KV.out.size))⟩
  refine AllReadyH.cons (o := oImgOf19) rfl (fun K hK => ?_) ?_
  ·
   refine step_load_mid (by rfl) 102 (.tmp 24) (by rfl) q1 0 (by rfl) ((bytesOf G).map cv) _ H1.out under64 rfl (by rw [lG.out]; exact size64) ?_
   rw [← EM1.out]
   refine hK.out _ _ trivial (fun hHeld => ?_)
   clear hK K
   try simp only [zaP, zsT, zsZ, zsS]
   exact ih 6 (by decide) (by decide) _ _ _ _ (by rfl) (by kernel_rfl) ⟨q1, c1, rfl, KV⟩
  refine AllReadyH.cons (o := oImgOf16) rfl (fun K hK => ?_) ?_
  ·
   obtain ⟨cc, V, hcv, hR, HBx, hSz⟩ := conv_bytes 9 89 5 underStr underSl8 underU8 D v
   rw [D64.out] at hcv
   refine step_runTo (by rfl) (.slice (some ⟨v.heap.size, 0, none⟩) 64 cc) (hrunConvS _ rfl D rfl _ _ _ hcv) ?_
   refine hK.out _ _ trivial (fun hHeld => ?_)
   clear hK K hcv
   try simp only [zaP, zsT, zsZ, zsS]
   refine wpAnyH_take (i := 18) (oi := oImgOf17) (v := .pointer (some ⟨v.heap.size, 0, none⟩)) rfl (by kernel_rfl) (by kernel_rfl) (by kernel_rfl) (fun _ _ _ h => h) (Or.inl ⟨by rfl, fun w _ => by go_simp⟩) hHeld ?_
   simp only [zaP, zsT, zsZ, zsS]
   exact ih 5 (by decide) (by decide) _ _ _ _ (by rfl) (by kernel_rfl) ⟨q1, c1, v.heap.size, cc, rfl, hide (range_below H1.out HBx L1.out), hide (Nat.lt_of_lt_of_le L1.out HBx.size), hide hR, hide (by show _ < _; rw [hSz]; exact Nat.lt_succ_self _), hide (KV.out.trans (HBx.mono KV.out.size))⟩
  exact AllReadyH.nil
 | 3, _, ih, hI =>
  dsimp only [imT] at hI
  obtain ⟨rfl, KV⟩ := hI
  refine wpAnyH_ready (rs := [12, 17]) (by kernel_rfl) (by simp) ?_
  refine AllReadyH.cons (o := oImgOf14) rfl (fun K hK => ?_) ?_
  ·
   obtain ⟨cc, V, hcv, hR, HBx, hSz⟩ := conv_bytes 9 89 5 underStr underSl8 underU8 G v
   rw [G64.out] at hcv
   refine step_runTo (by rfl) (.slice (some ⟨v.heap.size, 0, none⟩) 64 cc) (hrunConvS _ rfl G rfl _ _ _ hcv) ?_
   refine hK.out _ _ trivial (fun hHeld => ?_)
   clear hK K hcv
   try simp only [zaP, zsT, zsZ, zsS]
   refine wpAnyH_take (i := 13) (oi := oImgOf15) (v := .pointer (some ⟨v.heap.size, 0, none⟩)) rfl (by kernel_rfl) (by kernel_rfl) (by kernel_rfl) (fun _ _ _ h => h) (Or.inl ⟨by rfl, fun w _ => by go_simp⟩) hHeld ?_
   simp only [zaP, zsT, zsZ, zsS]
   exact ih 8 (by decide) (by decide) _ _ _ _ (by rfl) (by kernel_rfl) ⟨v.heap.size, cc, rfl, hide hR, hide (by show _ < _; rw [hSz]; exact Nat.lt_succ_self _), hide (KV.out.trans (HBx.mono KV.out.size))⟩
  refine AllReadyH.cons (o := oImgOf16) rfl (fun K hK => ?_) ?_
  ·
   obtain ⟨cc, V, hcv, hR, HBx, hSz⟩ := conv_bytes 9 89 5 underStr underSl8 underU8 D v
   rw [D64.out] at hcv
   refine step_runTo (by rfl) (.slice (some ⟨v.heap.size, 0, none⟩) 64 cc) (hrunConvS _ rfl D rfl _ _ _ hcv) ?_
   refine hK.out _ _ trivial (fun hHeld => ?_)
   clear hK K hcv
   try simp only [zaP, zsT, zsZ, zsS]
   refine wpAnyH_take (i := 18) (oi := oImgOf17) (v := .pointer (some ⟨v.heap.size, 0, none⟩)) rfl (by kernel_rfl) (by kernel_rfl) (by kernel_rfl) (fun _ _ _ h => h) (Or.inl ⟨by rfl, fun w _ => by go_simp⟩) hHeld ?_
   simp only [zaP, zsT, zsZ, zsS]
   exact ih 7 (by decide) (by decide) _ _ _ _ (by rfl) (by kernel_rfl) ⟨v.heap.size, cc, rfl, hide hR, hide (by show _ < _; rw [hSz]; exact Nat.lt_succ_self _), hide (KV.out.trans (HBx.mono KV.out.size))⟩
  exact AllReadyH.nil
 | 4, _, ih, hI =>
  dsimp only [imT] at hI
  obtain ⟨q2, c2, rfl, KV⟩ := hI
  refine wpAnyH_ready (rs := [2, 12]) (by kernel_rfl) (by simp) ?_
  refine AllReadyH.cons (o := ⟨some 13, .call ⟨.value (.func 131), #[.tmp 12], #[9]⟩, 39, "image.go:41", #[zeD 1], none⟩) rfl (fun K hK => ?_) ?_
  ·
   refine step_callTo (by rfl) _ _ (hrunLittle _ rfl (.string A) rfl v) _ _ (littleN A A4.out n En.out v) (fun V HBx => ?_)
   refine hK.out _ _ trivial (fun hHeld => ?_)
   clear hK K
   try simp only [zaP, zsT, zsZ, zsS]
   exact ih 11 (by decide) (by decide) _ _ _ _ (by rfl) (by kernel_rfl) ⟨q2, c2, rfl, hide (KV.out.trans (HBx.mono KV.out.size))⟩
  refine AllReadyH.cons (o := oImgOf14) rfl (fun K hK => ?_) ?_
  ·
   obtain ⟨cc, V, hcv, hR, HBx, hSz⟩ := conv_bytes 9 89 5 underStr underSl8 underU8 G v
   rw [G64.out] at hcv
   refine step_runTo (by rfl) (.slice (some ⟨v.heap.size, 0, none⟩) 64 cc) (hrunConvS _ rfl G rfl _ _ _ hcv) ?_
   refine hK.out _ _ trivial (fun hHeld => ?_)
   clear hK K hcv
   try simp only [zaP, zsT, zsZ, zsS]
   refine wpAnyH_take (i := 13) (oi := oImgOf15) (v := .pointer (some ⟨v.heap.size, 0, none⟩)) rfl (by kernel_rfl) (by kernel_rfl) (by kernel_rfl) (fun _ _ _ h => h) (Or.inl ⟨by rfl, fun w _ => by go_simp⟩) hHeld ?_
   simp only [zaP, zsT, zsZ, zsS]
   exact ih 9 (by decide) (by decide) _ _ _ _ (by rfl) (by kernel_rfl) ⟨v.heap.size, cc, q2, c2, rfl, hide hR, hide (by show _ < _; rw [hSz]; exact Nat.lt_succ_self _), hide (KV.out.trans (HBx.mono KV.out.size))⟩
  exact AllReadyH.nil
 | 5, _, ih, hI =>
  dsimp only [imT] at hI
  obtain ⟨q1, c1, q2, c2, rfl, H1, L1, H2, L2, KV⟩ := hI
  refine wpAnyH_ready (rs := [2, 14, 19]) (by kernel_rfl) (by simp) ?_
  refine AllReadyH.cons (o := ⟨some 13, .call ⟨.value (.func 131), #[.tmp 12], #[9]⟩, 39, "image.go:41", #[zeD 1], none⟩) rfl (fun K hK => ?_) ?_
  ·
   refine step_callTo (by rfl) _ _ (hrunLittle _ rfl (.string A) rfl v) _ _ (littleN A A4.out n En.out v) (fun V HBx => ?_)
   refine hK.out _ _ trivial (fun hHeld => ?_)
   clear hK K
   try simp only [zaP, zsT, zsZ, zsS]
   exact ih 12 (by decide) (by decide) _ _ _ _ (by rfl) (by kernel_rfl) ⟨q1, c1, q2, c2, rfl, hide (range_below H1.out HBx L1.out), hide (Nat.lt_of_lt_of_le L1.out HBx.size), hide (range_below H2.out HBx L2.out), hide (Nat.lt_of_lt_of_le L2.out HBx.size), hide (KV.out.trans (HBx.mono KV.out.size))⟩
  refine AllReadyH.cons (o := oImgOf19) rfl (fun K hK => ?_) ?_
  ·
   refine step_load_mid (by rfl) 102 (.tmp 24) (by rfl) q1 0 (by rfl) ((bytesOf G).map cv) _ H1.out under64 rfl (by rw [lG.out]; exact size64) ?_
   rw [← EM1.out]
   refine hK.out _ _ trivial (fun hHeld => ?_)
   clear hK K
   try simp only [zaP, zsT, zsZ, zsS]
   exact ih 10 (by decide) (by decide) _ _ _ _ (by rfl) (by kernel_rfl) ⟨q1, c1, q2, c2, rfl, H2, L2, KV⟩
  refine AllReadyH.cons (o := oImgOf18) rfl (fun K hK => ?_) ?_
  ·
   refine step_load_mid (by rfl) 102 (.tmp 29) (by rfl) q2 0 (by rfl) ((bytesOf D).map cv) _ H2.out under64 rfl (by rw [lD.out]; exact size64) ?_
   rw [← EM2.out]
   refine hK.out _ _ trivial (fun hHeld => ?_)
   clear hK K
   try simp only [zaP, zsT, zsZ, zsS]
   exact ih 9 (by decide) (by decide) _ _ _ _ (by rfl) (by kernel_rfl) ⟨q1, c1, q2, c2, rfl, H1, L1, KV⟩
  exact AllReadyH.nil
 | 6, _, ih, hI =>
  dsimp only [imT] at hI
  obtain ⟨q1, c1, rfl, KV⟩ := hI
  refine wpAnyH_ready (rs := [2, 17]) (by kernel_rfl) (by simp) ?_
  refine AllReadyH.cons (o := ⟨some 13, .call ⟨.value (.func 131), #[.tmp 12], #[9]⟩, 39, "image.go:41", #[zeD 1], none⟩) rfl (fun K hK => ?_) ?_
  ·
   refine step_callTo (by rfl) _ _ (hrunLittle _ rfl (.string A) rfl v) _ _ (littleN A A4.out n En.out v) (fun V HBx => ?_)
   refine hK.out _ _ trivial (fun hHeld => ?_)
   clear hK K
   try simp only [zaP, zsT, zsZ, zsS]
   exact ih 13 (by decide) (by decide) _ _ _ _ (by rfl) (by kernel_rfl) ⟨q1, c1, rfl, hide (KV.out.trans (HBx.mono KV.out.size))⟩
  refine AllReadyH.cons (o := oImgOf16) rfl (fun K hK => ?_) ?_
  ·
   obtain ⟨cc, V, hcv, hR, HBx, hSz⟩ := conv_bytes 9 89 5 underStr underSl8 underU8 D v
   rw [D64.out] at hcv
   refine step_runTo (by rfl) (.slice (some ⟨v.heap.size, 0, none⟩) 64 cc) (hrunConvS _ rfl D rfl _ _ _ hcv) ?_
   refine hK.out _ _ trivial (fun hHeld => ?_)
   clear hK K hcv
   try simp only [zaP, zsT, zsZ, zsS]
   refine wpAnyH_take (i := 18) (oi := oImgOf17) (v := .pointer (some ⟨v.heap.size, 0, none⟩)) rfl (by kernel_rfl) (by kernel_rfl) (by kernel_rfl) (fun _ _ _ h => h) (Or.inl ⟨by rfl, fun w _ => by go_simp⟩) hHeld ?_
   simp only [zaP, zsT, zsZ, zsS]
   exact ih 10 (by decide) (by decide) _ _ _ _ (by rfl) (by kernel_rfl) ⟨q1, c1, v.heap.size, cc, rfl, hide hR, hide (by show _ < _; rw [hSz]; exact Nat.lt_succ_self _), hide (KV.out.trans (HBx.mono KV.out.size))⟩
  exact AllReadyH.nil
 | 7, _, ih, hI =>
  dsimp only [imT] at hI
  obtain ⟨q2, c2, rfl, H2, L2, KV⟩ := hI
  refine wpAnyH_ready (rs := [12, 19]) (by kernel_rfl) (by simp) ?_
  refine AllReadyH.cons (o := oImgOf14) rfl (fun K hK => ?_) ?_
  ·
   obtain ⟨cc, V, hcv, hR, HBx, hSz⟩ := conv_bytes 9 89 5 underStr underSl8 underU8 G v
   rw [G64.out] at hcv
   refine step_runTo (by rfl) (.slice (some ⟨v.heap.size, 0, none⟩) 64 cc) (hrunConvS _ rfl G rfl _ _ _ hcv) ?_
   refine hK.out _ _ trivial (fun hHeld => ?_)
   clear hK K hcv
   try simp only [zaP, zsT, zsZ, zsS]
   refine wpAnyH_take (i := 13) (oi := oImgOf15) (v := .pointer (some ⟨v.heap.size, 0, none⟩)) rfl (by kernel_rfl) (by kernel_rfl) (by kernel_rfl) (fun _ _ _ h => h) (Or.inl ⟨by rfl, fun w _ => by go_simp⟩) hHeld ?_
   simp only [zaP, zsT, zsZ, zsS]
   exact ih 12 (by decide) (by decide) _ _ _ _ (by rfl) (by kernel_rfl) ⟨v.heap.size, cc, q2, c2, rfl, hide hR, hide (by show _ < _; rw [hSz]; exact Nat.lt_succ_self _), hide (range_below H2.out HBx L2.out), hide (Nat.lt_of_lt_of_le L2.out HBx.size), hide (KV.out.trans (HBx.mono KV.out.size))⟩
  refine AllReadyH.cons (o := oImgOf18) rfl (fun K hK => ?_) ?_
  ·
   refine step_load_mid (by rfl) 102 (.tmp 29) (by rfl) q2 0 (by rfl) ((bytesOf D).map cv) _ H2.out under64 rfl (by rw [lD.out]; exact size64) ?_
   rw [← EM2.out]
   refine hK.out _ _ trivial (fun hHeld => ?_)
   clear hK K
   try simp only [zaP, zsT, zsZ, zsS]
   exact ih 11 (by decide) (by decide) _ _ _ _ (by rfl) (by kernel_rfl) ⟨q2, c2, rfl, KV⟩
  exact AllReadyH.nil
 | 8, _, ih, hI =>
  dsimp only [imT] at hI
  obtain ⟨q1, c1, rfl, H1, L1, KV⟩ := hI
  refine wpAnyH_ready (rs := [14, 17]) (by kernel_rfl) (by simp) ?_
  refine AllReadyH.cons (o := oImgOf19) rfl (fun K hK => ?_) ?_
  ·
   refine step_load_mid (by rfl) 102 (.tmp 24) (by rfl) q1 0 (by rfl) ((bytesOf G).map cv) _ H1.out under64 rfl (by rw [lG.out]; exact size64) ?_
   rw [← EM1.out]
   refine hK.out _ _ trivial (fun hHeld => ?_)
   clear hK K
   try simp only [zaP, zsT, zsZ, zsS]
   exact ih 13 (by decide) (by decide) _ _ _ _ (by rfl) (by kernel_rfl) ⟨q1, c1, rfl, KV⟩
  refine AllReadyH.cons (o := oImgOf16) rfl (fun K hK => ?_) ?_
  ·
   obtain ⟨cc, V, hcv, hR, HBx, hSz⟩ := conv_bytes 9 89 5 underStr underSl8 underU8 D v
   rw [D64.out] at hcv
   refine step_runTo (by rfl) (.slice (some ⟨v.heap.size, 0, none⟩) 64 cc) (hrunConvS _ rfl D rfl _ _ _ hcv) ?_
   refine hK.out _ _ trivial (fun hHeld => ?_)
   clear hK K hcv
   try simp only [zaP, zsT, zsZ, zsS]
   refine wpAnyH_take (i := 18) (oi := oImgOf17) (v := .pointer (some ⟨v.heap.size, 0, none⟩)) rfl (by kernel_rfl) (by kernel_rfl) (by kernel_rfl) (fun _ _ _ h => h) (Or.inl ⟨by rfl, fun w _ => by go_simp⟩) hHeld ?_
   simp only [zaP, zsT, zsZ, zsS]
   exact ih 12 (by decide) (by decide) _ _ _ _ (by rfl) (by kernel_rfl) ⟨q1, c1, v.heap.size, cc, rfl, hide (range_below H1.out HBx L1.out), hide (Nat.lt_of_lt_of_le L1.out HBx.size), hide hR, hide (by show _ < _; rw [hSz]; exact Nat.lt_succ_self _), hide (KV.out.trans (HBx.mono KV.out.size))⟩
  exact AllReadyH.nil
 | 9, _, ih, hI =>
  dsimp only [imT] at hI
  obtain ⟨q1, c1, q2, c2, rfl, H1, L1, KV⟩ := hI
  refine wpAnyH_ready (rs := [2, 14]) (by kernel_rfl) (by simp) ?_
  refine AllReadyH.cons (o := ⟨some 13, .call ⟨.value (.func 131), #[.tmp 12], #[9]⟩, 39, "image.go:41", #[zeD 1], none⟩) rfl (fun K hK => ?_) ?_
  ·
   refine step_callTo (by rfl) _ _ (hrunLittle _ rfl (.string A) rfl v) _ _ (littleN A A4.out n En.out v) (fun V HBx => ?_)
   refine hK.out _ _ trivial (fun hHeld => ?_)
   clear hK K
   try simp only [zaP, zsT, zsZ, zsS]
   exact ih 15 (by decide) (by decide) _ _ _ _ (by rfl) (by kernel_rfl) ⟨q1, c1, q2, c2, rfl, hide (range_below H1.out HBx L1.out), hide (Nat.lt_of_lt_of_le L1.out HBx.size), hide (KV.out.trans (HBx.mono KV.out.size))⟩
  refine AllReadyH.cons (o := oImgOf19) rfl (fun K hK => ?_) ?_
  ·
   refine step_load_mid (by rfl) 102 (.tmp 24) (by rfl) q1 0 (by rfl) ((bytesOf G).map cv) _ H1.out under64 rfl (by rw [lG.out]; exact size64) ?_
   rw [← EM1.out]
   refine hK.out _ _ trivial (fun hHeld => ?_)
   clear hK K
   try simp only [zaP, zsT, zsZ, zsS]
   exact ih 14 (by decide) (by decide) _ _ _ _ (by rfl) (by kernel_rfl) ⟨q1, c1, q2, c2, rfl, KV⟩
  exact AllReadyH.nil
 | 10, _, ih, hI =>
  dsimp only [imT] at hI
  obtain ⟨q1, c1, q2, c2, rfl, H2, L2, KV⟩ := hI
  refine wpAnyH_ready (rs := [2, 19]) (by kernel_rfl) (by simp) ?_
  refine AllReadyH.cons (o := ⟨some 13, .call ⟨.value (.func 131), #[.tmp 12], #[9]⟩, 39, "image.go:41", #[zeD 1], none⟩) rfl (fun K hK => ?_) ?_
  ·
   refine step_callTo (by rfl) _ _ (hrunLittle _ rfl (.string A) rfl v) _ _ (littleN A A4.out n En.out v) (fun V HBx => ?_)
   refine hK.out _ _ trivial (fun hHeld => ?_)
   clear hK K
   try simp only [zaP, zsT, zsZ, zsS]
   exact ih 16 (by decide) (by decide) _ _ _ _ (by rfl) (by kernel_rfl) ⟨q1, c1, q2, c2, rfl, hide (range_below H2.out HBx L2.out), hide (Nat.lt_of_lt_of_le L2.out HBx.size), hide (KV.out.trans (HBx.mono KV.out.size))⟩
  refine AllReadyH.cons (o := oImgOf18) rfl (fun K hK => ?_) ?_
  ·
   refine step_load_mid (by rfl) 102 (.tmp 29) (by rfl) q2 0 (by rfl) ((bytesOf D).map cv) _ H2.out under64 rfl (by rw [lD.out]; exact size64) ?_
   rw [← EM2.out]
   refine hK.out _ _ trivial (fun hHeld => ?_)
   clear hK K
   try simp only [zaP, zsT, zsZ, zsS]
   exact ih 14 (by decide) (by decide) _ _ _ _ (by rfl) (by kernel_rfl) ⟨q1, c1, q2, c2, rfl, KV⟩
  exact AllReadyH.nil
 | 11, _, ih, hI =>
  dsimp only [imT] at hI
  obtain ⟨q2, c2, rfl, KV⟩ := hI
  refine wpAnyH_ready (rs := [12]) (by kernel_rfl) (by simp) ?_
  refine AllReadyH.cons (o := oImgOf14) rfl (fun K hK => ?_) ?_
  ·
   obtain ⟨cc, V, hcv, hR, HBx, hSz⟩ := conv_bytes 9 89 5 underStr underSl8 underU8 G v
   rw [G64.out] at hcv
   refine step_runTo (by rfl) (.slice (some ⟨v.heap.size, 0, none⟩) 64 cc) (hrunConvS _ rfl G rfl _ _ _ hcv) ?_
   refine hK.out _ _ trivial (fun hHeld => ?_)
   clear hK K hcv
   try simp only [zaP, zsT, zsZ, zsS]
   refine wpAnyH_take (i := 13) (oi := oImgOf15) (v := .pointer (some ⟨v.heap.size, 0, none⟩)) rfl (by kernel_rfl) (by kernel_rfl) (by kernel_rfl) (fun _ _ _ h => h) (Or.inl ⟨by rfl, fun w _ => by go_simp⟩) hHeld ?_
   simp only [zaP, zsT, zsZ, zsS]
   exact ih 15 (by decide) (by decide) _ _ _ _ (by rfl) (by kernel_rfl) ⟨v.heap.size, cc, q2, c2, rfl, hide hR, hide (by show _ < _; rw [hSz]; exact Nat.lt_succ_self _), hide (KV.out.trans (HBx.mono KV.out.size))⟩
  exact AllReadyH.nil
 | 12, _, ih, hI =>
  dsimp only [imT] at hI
  obtain ⟨q1, c1, q2, c2, rfl, H1, L1, H2, L2, KV⟩ := hI
  refine wpAnyH_ready (rs := [14, 19]) (by kernel_rfl) (by simp) ?_
  refine AllReadyH.cons (o := oImgOf19) rfl (fun K hK => ?_) ?_
  ·
   refine step_load_mid (by rfl) 102 (.tmp 24) (by rfl) q1 0 (by rfl) ((bytesOf G).map cv) _ H1.out under64 rfl (by rw [lG.out]; exact size64) ?_
   rw [← EM1.out]
   refine hK.out _ _ trivial (fun hHeld => ?_)
   clear hK K
   try simp only [zaP, zsT, zsZ, zsS]
   exact ih 16 (by decide) (by decide) _ _ _ _ (by rfl) (by kernel_rfl) ⟨q1, c1, q2, c2, rfl, H2, L2, KV⟩
  refine AllReadyH.cons (o := oImgOf18) rfl (fun K hK => ?_) ?_
  ·
   refine step_load_mid (by rfl) 102 (.tmp 29) (by rfl) q2 0 (by rfl) ((bytesOf D).map cv) _ H2.out under64 rfl (by rw [lD.out]; exact size64) ?_
   rw [← EM2.out]
   refine hK.out _ _ trivial (fun hHeld => ?_)
   clear hK K
   try simp only [zaP, zsT, zsZ, zsS]
   exact ih 15 (by decide) (by decide) _ _ _ _ (by rfl) (by kernel_rfl) ⟨q1, c1, q2, c2, rfl, H1, L1, KV⟩
  exact AllReadyH.nil
 | 13, _, ih, hI =>
  dsimp only [imT] at hI
  obtain ⟨q1, c1, rfl, KV⟩ := hI
  refine wpAnyH_ready (rs := [17]) (by kernel_rfl) (by simp) ?_
  refine AllReadyH.cons (o := oImgOf16) rfl (fun K hK => ?_) ?_
  ·
   obtain ⟨cc, V, hcv, hR, HBx, hSz⟩ := conv_bytes 9 89 5 underStr underSl8 underU8 D v
   rw [D64.out] at hcv
   refine step_runTo (by rfl) (.slice (some ⟨v.heap.size, 0, none⟩) 64 cc) (hrunConvS _ rfl D rfl _ _ _ hcv) ?_
   refine hK.out _ _ trivial (fun hHeld => ?_)
   clear hK K hcv
   try simp only [zaP, zsT, zsZ, zsS]
   refine wpAnyH_take (i := 18) (oi := oImgOf17) (v := .pointer (some ⟨v.heap.size, 0, none⟩)) rfl (by kernel_rfl) (by kernel_rfl) (by kernel_rfl) (fun _ _ _ h => h) (Or.inl ⟨by rfl, fun w _ => by go_simp⟩) hHeld ?_
   simp only [zaP, zsT, zsZ, zsS]
   exact ih 16 (by decide) (by decide) _ _ _ _ (by rfl) (by kernel_rfl) ⟨q1, c1, v.heap.size, cc, rfl, hide hR, hide (by show _ < _; rw [hSz]; exact Nat.lt_succ_self _), hide (KV.out.trans (HBx.mono KV.out.size))⟩
  exact AllReadyH.nil
 | 14, _, ih, hI =>
  dsimp only [imT] at hI
  obtain ⟨q1, c1, q2, c2, rfl, KV⟩ := hI
  refine wpAnyH_ready (rs := [2]) (by kernel_rfl) (by simp) ?_
  refine AllReadyH.cons (o := ⟨some 13, .call ⟨.value (.func 131), #[.tmp 12], #[9]⟩, 39, "image.go:41", #[zeD 1], none⟩) rfl (fun K hK => ?_) ?_
  ·
   refine step_callTo (by rfl) _ _ (hrunLittle _ rfl (.string A) rfl v) _ _ (littleN A A4.out n En.out v) (fun V HBx => ?_)
   refine hK.out _ _ trivial (fun hHeld => ?_)
   clear hK K
   try simp only [zaP, zsT, zsZ, zsS]
   exact ih 17 (by decide) (by decide) _ _ _ _ (by rfl) (by kernel_rfl) ⟨q1, c1, q2, c2, rfl, hide (KV.out.trans (HBx.mono KV.out.size))⟩
  exact AllReadyH.nil
 | 15, _, ih, hI =>
  dsimp only [imT] at hI
  obtain ⟨q1, c1, q2, c2, rfl, H1, L1, KV⟩ := hI
  refine wpAnyH_ready (rs := [14]) (by kernel_rfl) (by simp) ?_
  refine AllReadyH.cons (o := oImgOf19) rfl (fun K hK => ?_) ?_
  ·
   refine step_load_mid (by rfl) 102 (.tmp 24) (by rfl) q1 0 (by rfl) ((bytesOf G).map cv) _ H1.out under64 rfl (by rw [lG.out]; exact size64) ?_
   rw [← EM1.out]
   refine hK.out _ _ trivial (fun hHeld => ?_)
   clear hK K
   try simp only [zaP, zsT, zsZ, zsS]
   exact ih 17 (by decide) (by decide) _ _ _ _ (by rfl) (by kernel_rfl) ⟨q1, c1, q2, c2, rfl, KV⟩
  exact AllReadyH.nil
 | 16, _, ih, hI =>
  dsimp only [imT] at hI
  obtain ⟨q1, c1, q2, c2, rfl, H2, L2, KV⟩ := hI
  refine wpAnyH_ready (rs := [19]) (by kernel_rfl) (by simp) ?_
  refine AllReadyH.cons (o := oImgOf18) rfl (fun K hK => ?_) ?_
  ·
   refine step_load_mid (by rfl) 102 (.tmp 29) (by rfl) q2 0 (by rfl) ((bytesOf D).map cv) _ H2.out under64 rfl (by rw [lD.out]; exact size64) ?_
   rw [← EM2.out]
   refine hK.out _ _ trivial (fun hHeld => ?_)
   clear hK K
   try simp only [zaP, zsT, zsZ, zsS]
   exact ih 17 (by decide) (by decide) _ _ _ _ (by rfl) (by kernel_rfl) ⟨q1, c1, q2, c2, rfl, KV⟩
  exact AllReadyH.nil
 | 17, _, ih, hI =>
  dsimp only [imT] at hI
  obtain ⟨q1, c1, q2, c2, rfl, KV⟩ := hI
  have hHeld : True := trivial
  refine wpAnyH_take (i := 20) (oi := ⟨some 31, .build 114 #[(0, .tmp 13), (1, .tmp 16), (2, .tmp 18), (3, .tmp 20), (4, .tmp 25), (5, .tmp 30)], 114, "image.go:40", #[zeD 2, zeD 5, zeD 7, zeD 9, zeD 14, zeD 19], none⟩) (v := .agg I) rfl (by kernel_rfl) (by kernel_rfl) (by kernel_rfl) (fun _ _ _ h => h) (yld_build' (by rfl) _ _ rfl _ _ (by kernel_rfl) HIb.out) hHeld ?_
  simp only [zaP, zsT, zsZ, zsS]
  have ZN := hide (row_below R1.out KV.out (lt_row R1.out))
  have BF := hide (B1.out.trans (KV.out.mono B1.out.size))
  refine wpAnyH_ready (rs := [21]) (by kernel_rfl) (by simp) ?_
  refine AllReadyH.cons (o := ⟨none, .store 114 (.tmp 2) (.tmp 31), 0, "image.go:40", #[zeD 20, zeC 2, zeP 0, zeP 1, zeP 2, zeP 3, zeP 4, zeP 5, zeP 6, zeP 7, zeP 8, zeP 9, zeP 10, zeP 11, zeP 12, zeP 13, zeP 14, zeP 15, zeP 16, zeP 17, zeP 18, zeP 19, zeP 20], none⟩) rfl (fun K hK => ?_) AllReadyH.nil
  refine step_store_row _ (by rfl) 114 (.tmp 2) (.tmp 31) (by rfl) (w.heap.size) I (by rfl) (by rfl) 114 _ ZN.out (by rw [sizeImg, HIs.out]) (by rw [imgZ_size, HIs.out]) HIa.out ?_
  rw [put_none']
  refine hK.out _ _ trivial (fun hHeld => ?_)
  clear hK K
  try simp only [zsT, zsZ, zsS]
  refine wpAnyH_take (i := 22) (oi := ⟨some 3, .assign (.const .nilIface), 66, "image.go:40", #[zeC 21, zeP 0, zeP 1, zeP 2, zeP 3, zeP 4, zeP 5, zeP 6, zeP 7, zeP 8, zeP 9, zeP 10, zeP 11, zeP 12, zeP 13, zeP 14, zeP 15, zeP 16, zeP 17, zeP 18, zeP 19, zeP 20, zeP 21], none⟩) (v := .nilIface) rfl (by kernel_rfl) (by kernel_rfl) (by kernel_rfl) (fun _ _ _ h => h) (Or.inl ⟨by rfl, fun w _ => by go_simp⟩) hHeld ?_
  simp only [zaP, zsT, zsZ, zsS]
  refine wpAnyH_done (by kernel_rfl) ?_ _
  go_wp2_with fail
  refine bodyPost_ret (v := .tuple #[.agg I, .nilIface]) (results_cell_tmp_row Tryz.results84 _ _ (w.heap.size) 114 _ (0, 0) _ (by rfl) (setRow_heap _ _ _ _ _ _ ZN.out) Tryz.underlying114 rfl (by rw [sizeImg, HIs.out])) rfl ⟨by rw [EIR.out], below_setRow BF.out (Nat.le_refl _) _⟩
end
def ldA (kv : Value) (v : Int) (b r : Nat) : Array Value := #[kv, .int .u32 v, .pointer (some ⟨b, 0, none⟩), .map (some r)]
def KeysAt (w : World) (kv : Value) (ks : List Nat) : Prop :=
 (kv = .slice none 0 0 ∧ ks = []) ∨ ∃ q cap, kv = .slice (some ⟨q, 0, none⟩) ks.length cap ∧ ks.length ≤ cap ∧ cap ≤ maxLen ∧ q < w.heap.size ∧ ∀ i (h : i < ks.length), w.rangeAt q (32 * i) (bL ks[i])
theorem KeysAt.kept {w w' : World} {kv : Value} {ks : List Nat} (h : KeysAt w kv ks) (hs : w.heap.size ≤ w'.heap.size) (hk : ∀ q, kv.ownBlock = some q → w'.heap[q]? = w.heap[q]?) : KeysAt w' kv ks := by
 rcases h with h | ⟨q, cap, rfl, h1, h2, h3, h4⟩
 · exact .inl h
 · exact .inr ⟨q, cap, rfl, h1, h2, Nat.lt_of_lt_of_le h3 hs, fun i hi j v hv => (World.cell?_of_block (hk q rfl)).trans (h4 i hi j v hv)⟩
structure Ld (w : World) (g : Nat) (T : TypeId) (kv : Value) (ks : List Nat) (v : Int) (b r : Nat) (l : List (Nat × Nat)) (clock : Nat) : Prop where
 row : w.heap[g]? = some (.cells (ldA kv v b r) T (0, 0))
 keys : KeysAt w kv ks
 small : ∀ k ∈ ks, k < big
 base : BaseAny w b
 map : w.heap[r]? = some (.map (meA b l) clock)
 ent : ∀ x ∈ l, x.1 < big ∧ dcB x.1 = true
 v0 : 0 ≤ v
 v1 : v < 4294967296
 gb : g ≠ b
 gr : g ≠ r
 br : b ≠ r
 kg : ∀ q, kv.ownBlock = some q → q ≠ g ∧ q ≠ b ∧ q ≠ r
set_option maxRecDepth 100000 in
theorem least_any (w : World) (g : Nat) (v : Int) (h : w.cell? ⟨g, 1, none⟩ = some (.int .u32 v)) :
  Calls Tryz.prog 54 #[.pointer (some ⟨g, 0, none⟩)] w fun e w' => e = .returned (.int .u32 v) ∧ w' = w := by
 go_enter Tryz.func54, Tryz.ntmps54
 go_wp2_with fail
 go_returns
 exact ⟨rfl, rfl⟩
set_option maxRecDepth 100000 in
theorem version_any (w : World) (g : Nat) (v : Int) (h : w.cell? ⟨g, 1, none⟩ = some (.int .u32 v)) :
  Calls Tryz.prog 28 #[.pointer (some ⟨g, 0, none⟩)] w fun e w' => e = .returned (.int .u32 v) ∧ w' = w := by
 have HH := hide h
 clear h
 go_enter Tryz.func28, Tryz.ntmps28
 go_wp2_with fail
 refine (least_any w g v HH.out).mono ?_
 rintro e W1 ⟨rfl, hw⟩
 have hw' := hw.symm
 subst hw'
 clear hw
 go_wp2_with fail
 go_returns
 exact ⟨rfl, rfl⟩
end Go.Proofs.YtccgfabojbjmjaaGreatDoor
