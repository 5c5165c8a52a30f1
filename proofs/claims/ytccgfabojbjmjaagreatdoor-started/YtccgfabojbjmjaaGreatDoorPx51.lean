import Derived.Test.YtccgfabojbjmjaaGreatDoorPx49
namespace Go.Proofs.YtccgfabojbjmjaaGreatDoor
open Go.RowKit
abbrev oKeepTn36 : Oper := ⟨some 100, .move (.tmp 12), 9, "keep.go:234", #[], none⟩
abbrev oKeepTn37 : Oper := ⟨some 101, .move (.tmp 3), 38, "keep.go:234", #[], none⟩
abbrev oKeepTn38 : Oper := ⟨some 102, .move (.tmp 14), 3, "keep.go:234", #[], none⟩
abbrev oKeepTn39 : Oper := ⟨some 103, .indexAddr 38 (.tmp 101) (.tmp 102), 0, "keep.go:234", #[zeD 1, zeD 2], none⟩
abbrev oKeepTn40 : Oper := ⟨some 104, .load 9 (.tmp 103), 9, "keep.go:234", #[zeD 3], none⟩
abbrev oKeepTn41 : Oper := ⟨some 105, .move (.tmp 12), 9, "keep.go:234", #[], none⟩
abbrev oKeepTn42 : Oper := ⟨some 106, .slice 9 (.tmp 105) none (some (.const (.int .i64 128))) none, 9, "keep.go:234", #[zeD 5], none⟩
abbrev oKeepTn43 : Oper := ⟨some 107, .move (.tmp 12), 9, "keep.go:234", #[], none⟩
abbrev oKeepTn44 : Oper := ⟨some 108, .slice 9 (.tmp 107) (some (.const (.int .i64 128))) (some (.const (.int .i64 192))) none, 9, "keep.go:234", #[zeD 7], none⟩
abbrev oKeepTn46 : Oper := ⟨some 10, .assign (.tmp 100), 9, "keep.go:234", #[zeD 0, zeC 9, zeP 0, ⟨1, .textOnly .lateStores⟩, ⟨2, .textOnly .lateStores⟩, ⟨3, .textOnly .lateStores⟩, ⟨4, .textOnly .lateStores⟩, ⟨5, .textOnly .lateStores⟩, ⟨6, .textOnly .lateStoresUnsure⟩, ⟨7, .textOnly .lateStores⟩, ⟨8, .textOnly .lateStoresUnsure⟩, ⟨9, .textOnly .lateStoresUnsure⟩], none⟩
abbrev oKeepTn47 : Oper := ⟨some 11, .assign (.tmp 109), 22, "keep.go:234", #[zeD 9, zeC 10, zeP 0, zeP 1, zeP 2, zeP 3, zeP 4, zeP 5, zeP 6, zeP 7, zeP 8, zeP 9, zeP 10], none⟩
theorem bits_xor8 (a b : UInt8) : bits .xor .u8 (C8 a) (C8 b) = C8 (a ^^^ b) := by
 have ha := a.toNat_lt
 have hb := b.toNat_lt
 have hx : a.toNat ^^^ b.toNat < 2 ^ 8 := Nat.xor_lt_two_pow (by omega) (by omega)
 have h1 : (BitVec.ofInt 8 (a.toNat : Int)).toNat = a.toNat := by
  rw [BitVec.ofInt_natCast, BitVec.toNat_ofNat]; exact Nat.mod_eq_of_lt (by omega)
 have h2 : (BitVec.ofInt 8 (b.toNat : Int)).toNat = b.toNat := by
  rw [BitVec.ofInt_natCast, BitVec.toNat_ofNat]; exact Nat.mod_eq_of_lt (by omega)
 show IntKind.u8.wrap ((BitVec.ofInt 8 (a.toNat : Int) ^^^ BitVec.ofInt 8 (b.toNat : Int)).toNat : Int) = ((a ^^^ b).toNat : Int)
 rw [BitVec.toNat_xor, h1, h2, IntKind.wrap_u8, UInt8.toNat_xor]
 omega
theorem build8 (z : Int) (w : World) : (Instr.buildSlice 89 1 #[(0, .int .u8 z)]).run Tryz.prog w = .ok (.slice (some ⟨w.heap.size, 0, none⟩) 1 1) (w.alloc (.cells #[.int .u8 z] 5)) := by kernel_rfl
theorem hrunBS1 {a : Act} {o : Oper} (x : Operand) (ho : o.op = .buildSlice 89 1 #[(0, x)]) (u : Value) (hx : a.eval x = u) (v : Value) (w w' : World) (h : (Instr.buildSlice 89 1 #[(0, u)]).run Tryz.prog w = .ok v w') :
  (execOp a.eval o).run Tryz.prog w = .ok (.value v) w' := by
 unfold execOp
 simp only [ho, Sem.run_bind, Sem.run_pure, Result.andThen_ok, List.map_toArray, List.map_cons, List.map_nil, hx, h]
theorem hrunConvB {a : Act} {o : Oper} (x : Operand) (ho : o.op = .convert 89 9 x) (u : Value) (hx : a.eval x = u) (v : Value) (w w' : World) (h : (convert 89 9 u).run Tryz.prog w = .ok v w') :
  (execOp a.eval o).run Tryz.prog w = .ok (.value v) w' := by
 unfold execOp
 simp only [ho, hx]
 go_simp
theorem imV_four (u : ByteArray) (h : 192 ≤ u.size) : (imV u : Int) = C8 ((bytesOf u).getD 8 0) + C8 ((bytesOf u).getD 9 0) * 256 + C8 ((bytesOf u).getD 10 0) * 65536 + C8 ((bytesOf u).getD 11 0) * 16777216 := by
 have hs : (u.extract 8 12).size = 4 := sub_size _ _ _ (by omega)
 have g : ∀ k, k < 4 → (bytesOf (u.extract 8 12)).getD k 0 = (bytesOf u).getD (8 + k) 0 := by
  intro k hk
  rw [bytes_sub, List.getD_eq_getElem?_getD, List.getElem?_take, if_pos (by omega), List.getElem?_drop, List.getD_eq_getElem?_getD]
 unfold imV
 have e0 : le4 (u.extract 8 12) 0 = 0 := rfl
 have g0 : (bytesOf (u.extract 8 12)).getD 0 0 = (bytesOf u).getD 8 0 := g 0 (by omega)
 have g1 : (bytesOf (u.extract 8 12)).getD 1 0 = (bytesOf u).getD 9 0 := g 1 (by omega)
 have g2 : (bytesOf (u.extract 8 12)).getD 2 0 = (bytesOf u).getD 10 0 := g 2 (by omega)
 have g3 : (bytesOf (u.extract 8 12)).getD 3 0 = (bytesOf u).getD 11 0 := g 3 (by omega)
 rw [le4_step _ 3 (by omega), le4_step _ 2 (by omega), le4_step _ 1 (by omega), le4_step _ 0 (by omega), e0, g0, g1, g2, g3]
 unfold C8
 omega
theorem set_parts (l : List UInt8) (n : Nat) (h : n < l.length) (c : UInt8) : l.take n ++ [c] ++ l.drop (n + 1) = l.set n c := by
 rw [List.set_eq_take_append_cons_drop, if_pos h, List.append_assoc]; rfl
section
attribute [local irreducible] imV imK imP imG imS imD lvE tuW
set_option maxRecDepth 100000 in
set_option maxHeartbeats 8000000 in
theorem turnedK (t : ByteArray) (n : Nat) (c : UInt8) (keys : List ByteArray) (q cap : Nat) (v : Int) (ht : 192 ≤ t.size) (hm : t.size ≤ 2000000) (hn : n < (bytesOf t).length) (w : World) (hS : StrsAt w q keys) (hq : q < w.heap.size) (k p s gA : Addr) (hV : Env w k p s gA)
  (u : ByteArray) (hu : bytesOf u = (bytesOf t).set n ((bytesOf t)[n] ^^^ c)) (d : Int) (hd : tuW keys v n u = d) :
  Calls Tryz.prog 27 #[.string t, .int .i64 n, .int .u8 (C8 c), .slice (some ⟨q, 0, none⟩) keys.length cap, .int .u32 v] w fun e w' => e = .returned (.tuple #[.string u, .int .i64 d]) ∧ Below w.heap.size w w' := by
 have HS := hide hS
 have HV := hide hV
 have hsz := size_set hu
 have hn' : n < t.size := by rw [bytesOf_length] at hn; exact hn
 obtain ⟨e, Ee⟩ : ∃ e, Hid (e = (bytesOf t)[n] ^^^ c) := ⟨_, hide rfl⟩
 have hix : ∀ w, (Instr.index 9 (.string t) (.int .i64 (n : Int))).run Tryz.prog w = .ok (.int .u8 (C8 ((bytesOf t)[n]))) w := by
  intro w
  have h := strAt t n hn' w
  rw [List.getD_eq_getElem?_getD, List.getElem?_eq_getElem hn] at h
  exact h
 obtain ⟨x, Ex⟩ : ∃ x, Hid (x = C8 ((bytesOf t)[n])) := ⟨_, hide rfl⟩
 rw [← Ex.out] at hix
 obtain ⟨y, Ey⟩ : ∃ x, Hid (x = C8 c) := ⟨_, hide rfl⟩
 obtain ⟨z, Ez⟩ : ∃ x, Hid (x = C8 e) := ⟨_, hide rfl⟩
 have hxor : bits .xor .u8 x y = z := by rw [Ex.out, Ey.out, Ez.out, Ee.out]; exact bits_xor8 _ _
 rw [← Ey.out]
 obtain ⟨A, EA⟩ : ∃ A, Hid (A = t.extract 0 n) := ⟨_, hide rfl⟩
 have hxA : t.extract 0 n = A := EA.out.symm
 obtain ⟨C, EC⟩ : ∃ A, Hid (A = t.extract (n + 1) t.size) := ⟨_, hide rfl⟩
 have hxC : t.extract (n + 1) t.size = C := EC.out.symm
 obtain ⟨X, EX⟩ : ∃ A, Hid (A = strOf [e]) := ⟨_, hide rfl⟩
 obtain ⟨AX, EAX⟩ : ∃ M, Hid (M = A ++ X) := ⟨_, hide rfl⟩
 have hAX : A ++ X = AX := EAX.out.symm
 have bA0 : bytesOf A = (bytesOf t).take n := by rw [EA.out, bytes_sub, List.drop_zero, Nat.sub_zero]
 have bC0 : bytesOf C = (bytesOf t).drop (n + 1) := by
  rw [EC.out, bytes_sub]
  refine List.take_of_length_le ?_
  rw [List.length_drop, bytesOf_length]; omega
 have hU : AX ++ C = u := by
  apply bytes_inj
  rw [EAX.out, sadd_bytes, sadd_bytes, bA0, bC0, EX.out, bytesOf_strOf, hu]
  exact (set_parts _ _ hn _).trans (congrArg (fun x => (bytesOf t).set n x) Ee.out)
 have sA : A.size = n := by rw [EA.out, sub_size _ _ _ (by omega)]; omega
 have sX : X.size = 1 := by rw [EX.out, strOf_size]; rfl
 have sC : C.size ≤ 2000000 := by rw [EC.out, sub_size _ _ _ (by omega)]; omega
 have hs1 : A.size + X.size ≤ 9223372036854775807 := by omega
 have hs2 : AX.size + C.size ≤ 9223372036854775807 := by rw [EAX.out, sadd_size]; omega
 have bn : (n : Int) ≤ (t.size : Int) := by omega
 have bn1 : ((n + 1 : Nat) : Int) ≤ (t.size : Int) := by omega
 have bn2 : (n : Int) < 2000000 := by omega
 have u192 : 192 ≤ u.size := by omega
 have uM : u.size ≤ maxLen := by unfold maxLen; omega
 have HuM := hide uM
 obtain ⟨z0, E0⟩ : ∃ x, Hid (x = C8 ((bytesOf u).getD 8 0)) := ⟨_, hide rfl⟩
 obtain ⟨z1, E1⟩ : ∃ x, Hid (x = C8 ((bytesOf u).getD 9 0)) := ⟨_, hide rfl⟩
 obtain ⟨z2, E2⟩ : ∃ x, Hid (x = C8 ((bytesOf u).getD 10 0)) := ⟨_, hide rfl⟩
 obtain ⟨z3, E3⟩ : ∃ x, Hid (x = C8 ((bytesOf u).getD 11 0)) := ⟨_, hide rfl⟩
 have i0 : ∀ w, (Instr.index 9 (.string u) (.int .i64 8)).run Tryz.prog w = .ok (.int .u8 z0) w := by intro w; rw [E0.out]; exact strAt u 8 (by omega) w
 have i1 : ∀ w, (Instr.index 9 (.string u) (.int .i64 9)).run Tryz.prog w = .ok (.int .u8 z1) w := by intro w; rw [E1.out]; exact strAt u 9 (by omega) w
 have i2 : ∀ w, (Instr.index 9 (.string u) (.int .i64 10)).run Tryz.prog w = .ok (.int .u8 z2) w := by intro w; rw [E2.out]; exact strAt u 10 (by omega) w
 have i3 : ∀ w, (Instr.index 9 (.string u) (.int .i64 11)).run Tryz.prog w = .ok (.int .u8 z3) w := by intro w; rw [E3.out]; exact strAt u 11 (by omega) w
 have p0 : 0 ≤ z0 := by rw [E0.out]; exact C8_nonneg _
 have q0 : z0 < 256 := by rw [E0.out]; exact C8_lt _
 have p1 : 0 ≤ z1 := by rw [E1.out]; exact C8_nonneg _
 have q1 : z1 < 256 := by rw [E1.out]; exact C8_lt _
 have p2 : 0 ≤ z2 := by rw [E2.out]; exact C8_nonneg _
 have q2 : z2 < 256 := by rw [E2.out]; exact C8_lt _
 have p3 : 0 ≤ z3 := by rw [E3.out]; exact C8_nonneg _
 have q3 : z3 < 256 := by rw [E3.out]; exact C8_lt _
 obtain ⟨ve, Eve⟩ : ∃ x : Int, Hid (x = imV u) := ⟨_, hide rfl⟩
 have EV4 : Hid (z0 + z1 * 256 + z2 * 65536 + z3 * 16777216 = ve) := by show _ = _; rw [Eve.out, imV_four u u192, E0.out, E1.out, E2.out, E3.out]
 obtain ⟨i, Ei⟩ : ∃ i : Nat, Hid ((i : Int) = imK u) := ⟨(imK u).toNat, hide (Int.toNat_of_nonneg (imK_nn u))⟩
 have i256 : (i : Int) < 256 := by rw [Ei.out]; unfold imK; exact C8_lt _
 have hi16 : ∀ w, (Instr.index 9 (.string u) (.int .i64 16)).run Tryz.prog w = .ok (.int .u8 i) w := by intro w; rw [Ei.out]; unfold imK; exact strAt u 16 (by omega) w
 have hiw : IntKind.i64.wrap (i : Int) = i := by rw [IntKind.wrap_i64]; omega
 have Hd : Hid (d = if n < 8 then 6 else if 17 ≤ n ∧ n < 64 then 7 else if 12 ≤ n ∧ n < 16 then 8 else if (keys.length : Int) ≤ i then 9 else if ve < v then 10 else if 64 ≤ n ∧ n < 128 then 11
   else if hashOf (bytesOf (imP u)) = imD u then lvE (keys.getD i ByteArray.empty) (imG u) (u.extract 128 192) else 11) := by
  show _ = _
  rw [← hd]
  unfold tuW
  rw [← Ei.out, Eve.out, Int.toNat_natCast]
 have Hut := hide hu
 clear hS hV hu hd hm uM bA0 bC0 sA sX sC
 go_enter Tryz.func27, Tryz.ntmps27
 go_upto_region 1 with fail
 refine wp_region_held_drew (S := fun _ => True) (by kernel_rfl) trivial (fun hHeld => ?_)
 obtain ⟨V1, hV1⟩ : ∃ V, V = w.drew := ⟨_, rfl⟩
 have K1 : Hid (Below w.heap.size w V1) := by rw [hV1]; exact (Below.refl _ _).drew
 rw [← hV1]
 clear hV1
 refine wpAnyH_take (i := 0) (oi := ⟨some 16, .move (.tmp 0), 9, "keep.go:213", #[], none⟩) (v := .string t) rfl (by kernel_rfl) (by kernel_rfl) (by kernel_rfl) (fun _ _ _ h => h) (Or.inl ⟨by rfl, fun w _ => by first | (go_simp; done) | (go_simp; rw [IntKind.wrap_u32]; omega) | (go_simp; rw [IntKind.wrap_i64]; omega)⟩) hHeld ?_
 simp only [zaP, zsT, zsZ, zsS]
 refine wpAnyH_take (i := 1) (oi := ⟨some 17, .move (.tmp 1), 3, "keep.go:213", #[], none⟩) (v := .int .i64 (n : Int)) rfl (by kernel_rfl) (by kernel_rfl) (by kernel_rfl) (fun _ _ _ h => h) (Or.inl ⟨by rfl, fun w _ => by first | (go_simp; done) | (go_simp; rw [IntKind.wrap_u32]; omega) | (go_simp; rw [IntKind.wrap_i64]; omega)⟩) hHeld ?_
 simp only [zaP, zsT, zsZ, zsS]
 refine wpAnyH_take (i := 2) (oi := ⟨some 18, .slice 9 (.tmp 16) none (some (.tmp 17)) none, 9, "keep.go:213", #[zeD 0, zeD 1], none⟩) (v := .string A) rfl (by kernel_rfl) (by kernel_rfl) (by kernel_rfl) (fun _ _ _ h => h) (Or.inl ⟨by rfl, fun w _ => by first | (go_simp; done) | (go_simp; rw [IntKind.wrap_u32]; omega) | (go_simp; rw [IntKind.wrap_i64]; omega)⟩) hHeld ?_
 simp only [zaP, zsT, zsZ, zsS]
 refine wpAnyH_take (i := 3) (oi := ⟨some 19, .move (.tmp 0), 9, "keep.go:213", #[], none⟩) (v := .string t) rfl (by kernel_rfl) (by kernel_rfl) (by kernel_rfl) (fun _ _ _ h => h) (Or.inl ⟨by rfl, fun w _ => by first | (go_simp; done) | (go_simp; rw [IntKind.wrap_u32]; omega) | (go_simp; rw [IntKind.wrap_i64]; omega)⟩) hHeld ?_
 simp only [zaP, zsT, zsZ, zsS]
 refine wpAnyH_take (i := 4) (oi := ⟨some 20, .move (.tmp 1), 3, "keep.go:213", #[], none⟩) (v := .int .i64 (n : Int)) rfl (by kernel_rfl) (by kernel_rfl) (by kernel_rfl) (fun _ _ _ h => h) (Or.inl ⟨by rfl, fun w _ => by first | (go_simp; done) | (go_simp; rw [IntKind.wrap_u32]; omega) | (go_simp; rw [IntKind.wrap_i64]; omega)⟩) hHeld ?_
 simp only [zaP, zsT, zsZ, zsS]
 refine wpAnyH_take (i := 5) (oi := ⟨some 21, .index 9 (.tmp 19) (.tmp 20), 5, "keep.go:213", #[zeD 3, zeD 4], none⟩) (v := .int .u8 x) rfl (by kernel_rfl) (by kernel_rfl) (by kernel_rfl) (fun _ _ _ h => h) (Or.inl ⟨by rfl, fun w _ => by first | (go_simp; done) | (go_simp; rw [IntKind.wrap_u32]; omega) | (go_simp; rw [IntKind.wrap_i64]; omega)⟩) hHeld ?_
 simp only [zaP, zsT, zsZ, zsS]
 refine wpAnyH_take (i := 6) (oi := ⟨some 22, .move (.tmp 2), 5, "keep.go:213", #[], none⟩) (v := .int .u8 y) rfl (by kernel_rfl) (by kernel_rfl) (by kernel_rfl) (fun _ _ _ h => h) (Or.inl ⟨by rfl, fun w _ => by first | (go_simp; done) | (go_simp; rw [IntKind.wrap_u32]; omega) | (go_simp; rw [IntKind.wrap_i64]; omega)⟩) hHeld ?_
 simp only [zaP, zsT, zsZ, zsS]
 refine wpAnyH_take (i := 7) (oi := ⟨some 23, .binOp .xor 5 (.tmp 21) (.tmp 22) 5, 5, "keep.go:213", #[zeD 5, zeD 6], none⟩) (v := .int .u8 z) rfl (by kernel_rfl) (by kernel_rfl) (by kernel_rfl) (fun _ _ _ h => h) (Or.inl ⟨by rfl, fun w _ => by first | (go_simp; done) | (go_simp; rw [IntKind.wrap_u32]; omega) | (go_simp; rw [IntKind.wrap_i64]; omega)⟩) hHeld ?_
 simp only [zaP, zsT, zsZ, zsS]
 refine wpAnyH_take (i := 11) (oi := ⟨some 27, .move (.tmp 0), 9, "keep.go:213", #[], none⟩) (v := .string t) rfl (by kernel_rfl) (by kernel_rfl) (by kernel_rfl) (fun _ _ _ h => h) (Or.inl ⟨by rfl, fun w _ => by first | (go_simp; done) | (go_simp; rw [IntKind.wrap_u32]; omega) | (go_simp; rw [IntKind.wrap_i64]; omega)⟩) hHeld ?_
 simp only [zaP, zsT, zsZ, zsS]
 refine wpAnyH_take (i := 12) (oi := ⟨some 28, .move (.tmp 1), 3, "keep.go:213", #[], none⟩) (v := .int .i64 (n : Int)) rfl (by kernel_rfl) (by kernel_rfl) (by kernel_rfl) (fun _ _ _ h => h) (Or.inl ⟨by rfl, fun w _ => by first | (go_simp; done) | (go_simp; rw [IntKind.wrap_u32]; omega) | (go_simp; rw [IntKind.wrap_i64]; omega)⟩) hHeld ?_
 simp only [zaP, zsT, zsZ, zsS]
 refine wpAnyH_take (i := 13) (oi := ⟨some 29, .binOp .add 3 (.tmp 28) (.const (.int .i64 1)) 3, 3, "keep.go:213", #[zeD 12], none⟩) (v := .int .i64 ((n + 1 : Nat) : Int)) rfl (by kernel_rfl) (by kernel_rfl) (by kernel_rfl) (fun _ _ _ h => h) (Or.inl ⟨by rfl, fun w _ => by first | (go_simp; done) | (go_simp; rw [IntKind.wrap_u32]; omega) | (go_simp; rw [IntKind.wrap_i64]; omega)⟩) hHeld ?_
 simp only [zaP, zsT, zsZ, zsS]
 refine wpAnyH_take (i := 14) (oi := ⟨some 30, .slice 9 (.tmp 27) (some (.tmp 29)) none none, 9, "keep.go:213", #[zeD 11, zeD 13], none⟩) (v := .string C) rfl (by kernel_rfl) (by kernel_rfl) (by kernel_rfl) (fun _ _ _ h => h) (Or.inl ⟨by rfl, fun w _ => by go_simp; intro h; exact absurd (h (by omega)) (by omega)⟩) hHeld ?_
 simp only [zaP, zsT, zsZ, zsS]
 have hbs := build8 z V1
 refine wpAnyH_ready (rs := [8]) (by kernel_rfl) (by simp) ?_
 refine AllReadyH.cons (o := ⟨some 24, .buildSlice 89 1 #[(0, .tmp 23)], 89, "keep.go:213", #[zeD 7], none⟩) rfl (fun K hK => ?_) AllReadyH.nil
 refine step_runTo (by rfl) (.slice (some ⟨V1.heap.size, 0, none⟩) 1 1) (hrunBS1 _ rfl (.int .u8 z) rfl _ _ _ hbs) ?_
 refine hK.out _ _ trivial (fun hHeld => ?_)
 clear hK K hbs
 try simp only [zaP, zsT, zsZ, zsS]
 have er : ([e].map cv).toArray = #[.int .u8 z] := by rw [Ez.out]; rfl
 have R2 : Hid ((V1.alloc (.cells #[.int .u8 z] 5)).heap[V1.heap.size]? = some (.cells ([e].map cv).toArray 5 (0, 0))) := by rw [er]; exact heap_alloc_new _ _
 have K2 : Hid (Below w.heap.size w (V1.alloc (.cells #[.int .u8 z] 5))) := K1.out.alloc K1.out.size _
 obtain ⟨g2, hg2⟩ : ∃ g, g = V1.heap.size := ⟨_, rfl⟩
 rw [← hg2] at R2 ⊢
 obtain ⟨V2, hV2⟩ : ∃ V, V = V1.alloc (.cells #[.int .u8 z] 5) := ⟨_, rfl⟩
 rw [← hV2] at R2 K2 ⊢
 clear hV2 hg2 K1
 have hcv := convN 1 V2 g2 [e] rfl 5 R2.out
 rw [← EX.out] at hcv
 refine wpAnyH_ready (rs := [9]) (by kernel_rfl) (by simp) ?_
 refine AllReadyH.cons (o := ⟨some 25, .convert 89 9 (.tmp 24), 9, "keep.go:213", #[zeD 8], none⟩) rfl (fun K hK => ?_) AllReadyH.nil
 refine step_runTo (by rfl) (.string X) (hrunConvB _ rfl (.slice (some ⟨g2, 0, none⟩) 1 1) rfl _ _ _ hcv) ?_
 refine hK.out _ _ trivial (fun hHeld => ?_)
 clear hK K hcv
 try simp only [zaP, zsT, zsZ, zsS]
 refine wpAnyH_take (i := 10) (oi := ⟨some 26, .binOp .add 9 (.tmp 18) (.tmp 25) 9, 9, "keep.go:213", #[zeD 2, zeD 9], none⟩) (v := .string AX) rfl (by kernel_rfl) (by kernel_rfl) (by kernel_rfl) (fun _ _ _ h => h) (Or.inl ⟨by rfl, fun w _ => by first | (go_simp; done) | (go_simp; rw [IntKind.wrap_u32]; omega) | (go_simp; rw [IntKind.wrap_i64]; omega)⟩) hHeld ?_
 simp only [zaP, zsT, zsZ, zsS]
 refine wpAnyH_take (i := 15) (oi := ⟨some 31, .binOp .add 9 (.tmp 26) (.tmp 30) 9, 9, "keep.go:213", #[zeD 10, zeD 14], none⟩) (v := .string u) rfl (by kernel_rfl) (by kernel_rfl) (by kernel_rfl) (fun _ _ _ h => h) (Or.inl ⟨by rfl, fun w _ => by first | (go_simp; done) | (go_simp; rw [IntKind.wrap_u32]; omega) | (go_simp; rw [IntKind.wrap_i64]; omega)⟩) hHeld ?_
 simp only [zaP, zsT, zsZ, zsS]
 refine wpAnyH_take (i := 16) (oi := ⟨some 12, .assign (.tmp 31), 9, "keep.go:213", #[zeD 15, zeP 0, zeP 1, zeP 2, zeP 3, zeP 4, zeP 5, zeP 6, zeP 7, zeP 8, zeP 9, zeP 10, zeP 11, zeP 12, zeP 13, zeP 14, zeP 15], none⟩) (v := .string u) rfl (by kernel_rfl) (by kernel_rfl) (by kernel_rfl) (fun _ _ _ h => h) (Or.inl ⟨by rfl, fun w _ => by first | (go_simp; done) | (go_simp; rw [IntKind.wrap_u32]; omega) | (go_simp; rw [IntKind.wrap_i64]; omega)⟩) hHeld ?_
 simp only [zaP, zsT, zsZ, zsS]
 refine wpAnyH_done (by kernel_rfl) ?_ _
 obtain ⟨W1, hW1⟩ : ∃ W, W = V2 := ⟨_, rfl⟩
 have B1 : Hid (Below w.heap.size w W1) := by rw [hW1]; exact K2.out
 rw [← hW1]
 clear hW1 K2 R2
 clear hix hxor hxA hxC hAX hU hs1 hs2 bn bn1
 go_upto_region 2 with fail
 refine wp_region_held_drew (S := fun _ => True) (by kernel_rfl) trivial (fun hHeld => ?_)
 refine wpAnyH_take (i := 0) (oi := ⟨some 32, .move (.tmp 12), 9, "keep.go:214", #[], none⟩) (v := .string u) rfl (by kernel_rfl) (by kernel_rfl) (by kernel_rfl) (fun _ _ _ h => h) (Or.inl ⟨by rfl, fun w _ => by first | (go_simp; done) | (go_simp; rw [IntKind.wrap_u32]; omega) | (go_simp; rw [IntKind.wrap_i64]; omega)⟩) hHeld ?_
 simp only [zaP, zsT, zsZ, zsS]
 refine wpAnyH_take (i := 1) (oi := ⟨some 33, .index 9 (.tmp 32) (.const (.int .i64 8)), 5, "keep.go:214", #[zeD 0], none⟩) (v := .int .u8 z0) rfl (by kernel_rfl) (by kernel_rfl) (by kernel_rfl) (fun _ _ _ h => h) (Or.inl ⟨by rfl, fun w _ => by first | (go_simp; done) | (go_simp; rw [IntKind.wrap_u32]; omega) | (go_simp; rw [IntKind.wrap_i64]; omega)⟩) hHeld ?_
 simp only [zaP, zsT, zsZ, zsS]
 refine wpAnyH_take (i := 2) (oi := ⟨some 34, .convert 5 39 (.tmp 33), 39, "keep.go:214", #[zeD 1], none⟩) (v := .int .u32 z0) rfl (by kernel_rfl) (by kernel_rfl) (by kernel_rfl) (fun _ _ _ h => h) (Or.inl ⟨by rfl, fun w _ => by first | (go_simp; done) | (go_simp; rw [IntKind.wrap_u32]; omega) | (go_simp; rw [IntKind.wrap_i64]; omega)⟩) hHeld ?_
 simp only [zaP, zsT, zsZ, zsS]
 refine wpAnyH_take (i := 3) (oi := ⟨some 35, .move (.tmp 12), 9, "keep.go:214", #[], none⟩) (v := .string u) rfl (by kernel_rfl) (by kernel_rfl) (by kernel_rfl) (fun _ _ _ h => h) (Or.inl ⟨by rfl, fun w _ => by first | (go_simp; done) | (go_simp; rw [IntKind.wrap_u32]; omega) | (go_simp; rw [IntKind.wrap_i64]; omega)⟩) hHeld ?_
 simp only [zaP, zsT, zsZ, zsS]
 refine wpAnyH_take (i := 4) (oi := ⟨some 36, .index 9 (.tmp 35) (.const (.int .i64 9)), 5, "keep.go:214", #[zeD 3], none⟩) (v := .int .u8 z1) rfl (by kernel_rfl) (by kernel_rfl) (by kernel_rfl) (fun _ _ _ h => h) (Or.inl ⟨by rfl, fun w _ => by first | (go_simp; done) | (go_simp; rw [IntKind.wrap_u32]; omega) | (go_simp; rw [IntKind.wrap_i64]; omega)⟩) hHeld ?_
 simp only [zaP, zsT, zsZ, zsS]
 refine wpAnyH_take (i := 5) (oi := ⟨some 37, .convert 5 39 (.tmp 36), 39, "keep.go:214", #[zeD 4], none⟩) (v := .int .u32 z1) rfl (by kernel_rfl) (by kernel_rfl) (by kernel_rfl) (fun _ _ _ h => h) (Or.inl ⟨by rfl, fun w _ => by first | (go_simp; done) | (go_simp; rw [IntKind.wrap_u32]; omega) | (go_simp; rw [IntKind.wrap_i64]; omega)⟩) hHeld ?_
 simp only [zaP, zsT, zsZ, zsS]
 refine wpAnyH_take (i := 6) (oi := ⟨some 38, .binOp .shl 39 (.tmp 37) (.const (.int .u64 8)) 129, 39, "keep.go:214", #[zeD 5], none⟩) (v := .int .u32 (z1 * 256)) rfl (by kernel_rfl) (by kernel_rfl) (by kernel_rfl) (fun _ _ _ h => h) (Or.inl ⟨by rfl, fun w _ => by first | (go_simp; done) | (go_simp; rw [IntKind.wrap_u32]; omega) | (go_simp; rw [IntKind.wrap_i64]; omega)⟩) hHeld ?_
 simp only [zaP, zsT, zsZ, zsS]
 refine wpAnyH_take (i := 7) (oi := ⟨some 39, .binOp .add 39 (.tmp 34) (.tmp 38) 39, 39, "keep.go:214", #[zeD 2, zeD 6], none⟩) (v := .int .u32 (z0 + z1 * 256)) rfl (by kernel_rfl) (by kernel_rfl) (by kernel_rfl) (fun _ _ _ h => h) (Or.inl ⟨by rfl, fun w _ => by first | (go_simp; done) | (go_simp; rw [IntKind.wrap_u32]; omega) | (go_simp; rw [IntKind.wrap_i64]; omega)⟩) hHeld ?_
 simp only [zaP, zsT, zsZ, zsS]
 refine wpAnyH_take (i := 8) (oi := ⟨some 40, .move (.tmp 12), 9, "keep.go:214", #[], none⟩) (v := .string u) rfl (by kernel_rfl) (by kernel_rfl) (by kernel_rfl) (fun _ _ _ h => h) (Or.inl ⟨by rfl, fun w _ => by first | (go_simp; done) | (go_simp; rw [IntKind.wrap_u32]; omega) | (go_simp; rw [IntKind.wrap_i64]; omega)⟩) hHeld ?_
 simp only [zaP, zsT, zsZ, zsS]
 refine wpAnyH_take (i := 9) (oi := ⟨some 41, .index 9 (.tmp 40) (.const (.int .i64 10)), 5, "keep.go:214", #[zeD 8], none⟩) (v := .int .u8 z2) rfl (by kernel_rfl) (by kernel_rfl) (by kernel_rfl) (fun _ _ _ h => h) (Or.inl ⟨by rfl, fun w _ => by first | (go_simp; done) | (go_simp; rw [IntKind.wrap_u32]; omega) | (go_simp; rw [IntKind.wrap_i64]; omega)⟩) hHeld ?_
 simp only [zaP, zsT, zsZ, zsS]
 refine wpAnyH_take (i := 10) (oi := ⟨some 42, .convert 5 39 (.tmp 41), 39, "keep.go:214", #[zeD 9], none⟩) (v := .int .u32 z2) rfl (by kernel_rfl) (by kernel_rfl) (by kernel_rfl) (fun _ _ _ h => h) (Or.inl ⟨by rfl, fun w _ => by first | (go_simp; done) | (go_simp; rw [IntKind.wrap_u32]; omega) | (go_simp; rw [IntKind.wrap_i64]; omega)⟩) hHeld ?_
 simp only [zaP, zsT, zsZ, zsS]
 refine wpAnyH_take (i := 11) (oi := ⟨some 43, .binOp .shl 39 (.tmp 42) (.const (.int .u64 16)) 129, 39, "keep.go:214", #[zeD 10], none⟩) (v := .int .u32 (z2 * 65536)) rfl (by kernel_rfl) (by kernel_rfl) (by kernel_rfl) (fun _ _ _ h => h) (Or.inl ⟨by rfl, fun w _ => by first | (go_simp; done) | (go_simp; rw [IntKind.wrap_u32]; omega) | (go_simp; rw [IntKind.wrap_i64]; omega)⟩) hHeld ?_
 simp only [zaP, zsT, zsZ, zsS]
 refine wpAnyH_take (i := 12) (oi := ⟨some 44, .binOp .add 39 (.tmp 39) (.tmp 43) 39, 39, "keep.go:214", #[zeD 7, zeD 11], none⟩) (v := .int .u32 (z0 + z1 * 256 + z2 * 65536)) rfl (by kernel_rfl) (by kernel_rfl) (by kernel_rfl) (fun _ _ _ h => h) (Or.inl ⟨by rfl, fun w _ => by first | (go_simp; done) | (go_simp; rw [IntKind.wrap_u32]; omega) | (go_simp; rw [IntKind.wrap_i64]; omega)⟩) hHeld ?_
 simp only [zaP, zsT, zsZ, zsS]
 refine wpAnyH_take (i := 13) (oi := ⟨some 45, .move (.tmp 12), 9, "keep.go:214", #[], none⟩) (v := .string u) rfl (by kernel_rfl) (by kernel_rfl) (by kernel_rfl) (fun _ _ _ h => h) (Or.inl ⟨by rfl, fun w _ => by first | (go_simp; done) | (go_simp; rw [IntKind.wrap_u32]; omega) | (go_simp; rw [IntKind.wrap_i64]; omega)⟩) hHeld ?_
 simp only [zaP, zsT, zsZ, zsS]
 refine wpAnyH_take (i := 14) (oi := ⟨some 46, .index 9 (.tmp 45) (.const (.int .i64 11)), 5, "keep.go:214", #[zeD 13], none⟩) (v := .int .u8 z3) rfl (by kernel_rfl) (by kernel_rfl) (by kernel_rfl) (fun _ _ _ h => h) (Or.inl ⟨by rfl, fun w _ => by first | (go_simp; done) | (go_simp; rw [IntKind.wrap_u32]; omega) | (go_simp; rw [IntKind.wrap_i64]; omega)⟩) hHeld ?_
 simp only [zaP, zsT, zsZ, zsS]
 refine wpAnyH_take (i := 15) (oi := ⟨some 47, .convert 5 39 (.tmp 46), 39, "keep.go:214", #[zeD 14], none⟩) (v := .int .u32 z3) rfl (by kernel_rfl) (by kernel_rfl) (by kernel_rfl) (fun _ _ _ h => h) (Or.inl ⟨by rfl, fun w _ => by first | (go_simp; done) | (go_simp; rw [IntKind.wrap_u32]; omega) | (go_simp; rw [IntKind.wrap_i64]; omega)⟩) hHeld ?_
 simp only [zaP, zsT, zsZ, zsS]
 refine wpAnyH_take (i := 16) (oi := ⟨some 48, .binOp .shl 39 (.tmp 47) (.const (.int .u64 24)) 129, 39, "keep.go:214", #[zeD 15], none⟩) (v := .int .u32 (z3 * 16777216)) rfl (by kernel_rfl) (by kernel_rfl) (by kernel_rfl) (fun _ _ _ h => h) (Or.inl ⟨by rfl, fun w _ => by first | (go_simp; done) | (go_simp; rw [IntKind.wrap_u32]; omega) | (go_simp; rw [IntKind.wrap_i64]; omega)⟩) hHeld ?_
 simp only [zaP, zsT, zsZ, zsS]
 refine wpAnyH_take (i := 17) (oi := ⟨some 49, .binOp .add 39 (.tmp 44) (.tmp 48) 39, 39, "keep.go:214", #[zeD 12, zeD 16], none⟩) (v := .int .u32 (z0 + z1 * 256 + z2 * 65536 + z3 * 16777216)) rfl (by kernel_rfl) (by kernel_rfl) (by kernel_rfl) (fun _ _ _ h => h) (Or.inl ⟨by rfl, fun w _ => by first | (go_simp; done) | (go_simp; rw [IntKind.wrap_u32]; omega) | (go_simp; rw [IntKind.wrap_i64]; omega)⟩) hHeld ?_
 simp only [zaP, zsT, zsZ, zsS]
 refine wpAnyH_take (i := 18) (oi := ⟨some 13, .assign (.tmp 49), 39, "keep.go:214", #[zeD 17, zeP 0, zeP 1, zeP 2, zeP 3, zeP 4, zeP 5, zeP 6, zeP 7, zeP 8, zeP 9, zeP 10, zeP 11, zeP 12, zeP 13, zeP 14, zeP 15, zeP 16, zeP 17], none⟩) (v := .int .u32 (z0 + z1 * 256 + z2 * 65536 + z3 * 16777216)) rfl (by kernel_rfl) (by kernel_rfl) (by kernel_rfl) (fun _ _ _ h => h) (Or.inl ⟨by rfl, fun w _ => by first | (go_simp; done) | (go_simp; rw [IntKind.wrap_u32]; omega) | (go_simp; rw [IntKind.wrap_i64]; omega)⟩) hHeld ?_
 simp only [zaP, zsT, zsZ, zsS]
 refine wpAnyH_done (by kernel_rfl) ?_ _
 rw [EV4.out]
 have B2 := hide B1.out.drew
 obtain ⟨W2, hW2⟩ : ∃ W, W = W1.drew := ⟨_, rfl⟩
 rw [← hW2] at B2 ⊢
 clear hW2 i0 i1 i2 i3 B1
 go_upto_region 4 with fail
 have hk : (192 : Int) ≤ (u.size : Int) := by omega
 clear bn2 ht u192 hsz
 by_cases c1 : n < 8
 ·
  have b1 : (n : Int) < 8 := by omega
  have e1 : d = 6 := by rw [Hd.out, if_pos c1]
  clear c1
  go_wp2_with fail
  go_returns
  exact ⟨by first | rfl | (rw [e1] <;> rfl), B2.out⟩
 by_cases c2 : 17 ≤ n ∧ n < 64
 ·
  have b1 : (8 : Int) ≤ n := by omega
  have b2 : (17 : Int) ≤ n := by omega
  have b3 : (n : Int) < 64 := by omega
  have e1 : d = 7 := by rw [Hd.out, if_neg c1, if_pos c2]
  clear c1 c2
  go_wp2_with fail
  go_returns
  exact ⟨by first | rfl | (rw [e1] <;> rfl), B2.out⟩
 by_cases c3 : 12 ≤ n ∧ n < 16
 ·
  have b1 : (8 : Int) ≤ n := by omega
  have b2 : (n : Int) < 17 := by omega
  have b3 : (12 : Int) ≤ n := by omega
  have b4 : (n : Int) < 16 := by omega
  have e1 : d = 8 := by rw [Hd.out, if_neg c1, if_neg c2, if_pos c3]
  clear c1 c2 c3
  go_wp2_with fail
  go_returns
  exact ⟨by first | rfl | (rw [e1] <;> rfl), B2.out⟩
 have Hd := hide (Hd.out.trans (by rw [if_neg c1, if_neg c2, if_neg c3]))
 have b1 : (8 : Int) ≤ n := by omega
 by_cases d1 : n < 12
 ·
  have b2 : (n : Int) < 17 := by omega
  have b3 : (n : Int) < 12 := by omega
  have b4 : (n : Int) < 64 := by omega
  have Hd := hide (Hd.out)
  by_cases c4 : (keys.length : Int) ≤ i
  ·
   have e1 : d = 9 := by rw [Hd.out, if_pos c4]
   go_wp2_with fail
   go_returns
   exact ⟨by first | rfl | (rw [e1] <;> rfl), B2.out⟩
  have c4' : (i : Int) < (keys.length : Int) := by omega
  have Hd := hide (Hd.out.trans (by rw [if_neg c4]))
  clear c4
  by_cases c5 : ve < v
  ·
   have e1 : d = 10 := by rw [Hd.out, if_pos c5]
   go_wp2_with fail
   go_returns
   exact ⟨by first | rfl | (rw [e1] <;> rfl), B2.out⟩
  have c5' : v ≤ ve := by omega
  have Hd := hide (Hd.out.trans (by rw [if_neg c5]))
  clear c5
  have Hd := hide (Hd.out.trans (by rw [if_neg (by omega)]))
  clear c1 c2 c3 d1
  obtain ⟨PP, EPP⟩ : ∃ x, Hid (x = imP u) := ⟨_, hide rfl⟩
  have hxP : u.extract 192 u.size = PP := by rw [EPP.out]; unfold imP; rfl
  obtain ⟨DD, EDD⟩ : ∃ x, Hid (x = u.extract 64 128) := ⟨_, hide rfl⟩
  have hxD : u.extract 64 128 = DD := EDD.out.symm
  obtain ⟨GG, EGG⟩ : ∃ x, Hid (x = imG u) := ⟨_, hide rfl⟩
  have hxG : u.extract 0 128 = GG := by rw [EGG.out]; unfold imG; rfl
  obtain ⟨SS, ESS⟩ : ∃ x, Hid (x = u.extract 128 192) := ⟨_, hide rfl⟩
  have hxS : u.extract 128 192 = SS := ESS.out.symm
  have k128 : (128 : Int) ≤ (u.size : Int) := by omega
  have k64 : (64 : Int) ≤ (u.size : Int) := by omega
  have lP : PP.size ≤ maxLen := by rw [← hxP, sub_size _ _ _ (Nat.le_refl _)]; have := HuM.out; omega
  have lG : Hid (GG.size ≤ maxLen) := by show _ ≤ _; rw [← hxG, sub_size _ _ _ (by omega)]; unfold maxLen; omega
  go_wp2_with fail
  try rw [hxP]
  refine (hashS PP W2 (HV.out.below B2.out).tab lP).mono ?_
  rintro e W3 ⟨rfl, hB⟩
  have B3 := hide (B2.out.trans (hB.mono B2.out.size))
  clear hB B2
  obtain ⟨H, EH⟩ : ∃ x, Hid (x = strOf (hashOf (bytesOf PP))) := ⟨_, hide rfl⟩
  rw [← EH.out]
  by_cases c6 : hashOf (bytesOf PP) = imD u
  case neg =>
   have e1 : d = 11 := by rw [Hd.out, ← EPP.out, if_neg c6]
   have hne : (H.toList == DD.toList) = false := str_nebS (fun h => c6 (by unfold imD; rw [hxD, ← h, EH.out, bytesOf_strOf]))
   go_wp2_with fail
   go_returns
   exact ⟨by first | rfl | (rw [e1] <;> rfl), B3.out⟩
  have heq : (H.toList == DD.toList) = true := str_eqbS (by rw [EH.out, c6]; unfold imD; rw [hxD, strOf_bytesOf])
  have hil : i < keys.length := by omega
  have e1 : Hid (d = lvE keys[i] GG SS) := by show _ = _; rw [Hd.out, ← EPP.out, if_pos c6, ← EGG.out, ← ESS.out, List.getD_eq_getElem?_getD, List.getElem?_eq_getElem hil]; rfl
  clear c6
  obtain ⟨Ky, EKy⟩ : ∃ x, Hid (x = keys[i]) := ⟨_, hide rfl⟩
  have hkix := idxStrs q keys.length i cap hil
  have CK : Hid (W3.cell? ⟨q, i, none⟩ = some (.string Ky)) := by rw [EKy.out]; exact (B3.out.cell hq).trans (HS.out i hil)
  go_upto_region 19 with fail
  refine wp_region_held_drew (S := fun w' => w'.cell? ⟨q, i, none⟩ = some (.string Ky)) (by kernel_rfl) CK.out (fun hHeld => ?_)
  have KV1 : Hid (Below w.heap.size w W3.drew) := B3.out.drew
  obtain ⟨V1, hV1⟩ : ∃ V, V = W3.drew := ⟨_, rfl⟩
  rw [← hV1] at hHeld KV1 ⊢
  clear hV1
  refine wpAnyH_take (i := 0) (oi := oKeepTn36) (v := .string u) rfl (by kernel_rfl) (by kernel_rfl) (by kernel_rfl) (fun _ _ _ h => h) (Or.inl ⟨by rfl, fun w _ => by first | (go_simp; done) | (go_simp; rw [IntKind.wrap_u32]; omega) | (go_simp; rw [IntKind.wrap_i64]; omega)⟩) hHeld ?_
  simp only [zaP, zsT, zsZ, zsS]
  refine wpAnyH_take (i := 1) (oi := oKeepTn37) (v := .slice (some ⟨q, 0, none⟩) keys.length cap) rfl (by kernel_rfl) (by kernel_rfl) (by kernel_rfl) (fun _ _ _ h => h) (Or.inl ⟨by rfl, fun w _ => by first | (go_simp; done) | (go_simp; rw [IntKind.wrap_u32]; omega) | (go_simp; rw [IntKind.wrap_i64]; omega)⟩) hHeld ?_
  simp only [zaP, zsT, zsZ, zsS]
  refine wpAnyH_take (i := 2) (oi := oKeepTn38) (v := .int .i64 i) rfl (by kernel_rfl) (by kernel_rfl) (by kernel_rfl) (fun _ _ _ h => h) (Or.inl ⟨by rfl, fun w _ => by first | (go_simp; done) | (go_simp; rw [IntKind.wrap_u32]; omega) | (go_simp; rw [IntKind.wrap_i64]; omega)⟩) hHeld ?_
  simp only [zaP, zsT, zsZ, zsS]
  refine wpAnyH_take (i := 3) (oi := oKeepTn39) (v := .pointer (some ⟨q, i, none⟩)) rfl (by kernel_rfl) (by kernel_rfl) (by kernel_rfl) (fun _ _ _ h => h) (Or.inl ⟨by rfl, fun w _ => by first | (go_simp; done) | (go_simp; rw [IntKind.wrap_u32]; omega) | (go_simp; rw [IntKind.wrap_i64]; omega)⟩) hHeld ?_
  simp only [zaP, zsT, zsZ, zsS]
  refine wpAnyH_take (i := 4) (oi := oKeepTn40) (v := .string Ky) rfl (by kernel_rfl) (by kernel_rfl) (by kernel_rfl) (fun _ _ _ h => h) (Or.inl ⟨by rfl, fun v h => hrunLoadStr _ rfl _ rfl _ v h⟩) hHeld ?_
  simp only [zaP, zsT, zsZ, zsS]
  refine wpAnyH_take (i := 5) (oi := oKeepTn41) (v := .string u) rfl (by kernel_rfl) (by kernel_rfl) (by kernel_rfl) (fun _ _ _ h => h) (Or.inl ⟨by rfl, fun w _ => by first | (go_simp; done) | (go_simp; rw [IntKind.wrap_u32]; omega) | (go_simp; rw [IntKind.wrap_i64]; omega)⟩) hHeld ?_
  simp only [zaP, zsT, zsZ, zsS]
  refine wpAnyH_take (i := 6) (oi := oKeepTn42) (v := .string GG) rfl (by kernel_rfl) (by kernel_rfl) (by kernel_rfl) (fun _ _ _ h => h) (Or.inl ⟨by rfl, fun w _ => by first | (go_simp; done) | (go_simp; rw [IntKind.wrap_u32]; omega) | (go_simp; rw [IntKind.wrap_i64]; omega)⟩) hHeld ?_
  simp only [zaP, zsT, zsZ, zsS]
  refine wpAnyH_take (i := 7) (oi := oKeepTn43) (v := .string u) rfl (by kernel_rfl) (by kernel_rfl) (by kernel_rfl) (fun _ _ _ h => h) (Or.inl ⟨by rfl, fun w _ => by first | (go_simp; done) | (go_simp; rw [IntKind.wrap_u32]; omega) | (go_simp; rw [IntKind.wrap_i64]; omega)⟩) hHeld ?_
  simp only [zaP, zsT, zsZ, zsS]
  refine wpAnyH_take (i := 8) (oi := oKeepTn44) (v := .string SS) rfl (by kernel_rfl) (by kernel_rfl) (by kernel_rfl) (fun _ _ _ h => h) (Or.inl ⟨by rfl, fun w _ => by first | (go_simp; done) | (go_simp; rw [IntKind.wrap_u32]; omega) | (go_simp; rw [IntKind.wrap_i64]; omega)⟩) hHeld ?_
  simp only [zaP, zsT, zsZ, zsS]
  refine wpAnyH_ready (rs := [9]) (by kernel_rfl) (by simp) ?_
  refine AllReadyH.cons (o := ⟨some 109, .call ⟨.value (.func 13), #[.tmp 104, .tmp 106, .tmp 108], #[9, 9, 9]⟩, 22, "keep.go:234", #[zeD 4, zeD 6, zeD 8], none⟩) rfl (fun K hK => ?_) AllReadyH.nil
  have V4 := HV.out.below KV1.out
  refine step_callTo (by rfl) _ _ (hrunLVer _ _ _ rfl (.string Ky) (.string GG) (.string SS) rfl rfl rfl V1) _ _ (verN Ky GG SS lG.out d (by rw [EKy.out, e1.out]) V1 k p s gA V4.gl V4.tab V4.ord V4.sen) (fun V2 HBx => ?_)
  have KV2 := kTr KV1 HBx
  refine hK.out _ _ ((KV2.out.cell hq).trans (by rw [EKy.out]; exact HS.out _ hil)) (fun hHeld => ?_)
  clear hK K HBx
  try simp only [zaP, zsT, zsZ, zsS]
  refine wpAnyH_take (i := 10) (oi := oKeepTn46) (v := .string u) rfl (by kernel_rfl) (by kernel_rfl) (by kernel_rfl) (fun _ _ _ h => h) (Or.inl ⟨by rfl, fun w _ => by first | (go_simp; done) | (go_simp; rw [IntKind.wrap_u32]; omega) | (go_simp; rw [IntKind.wrap_i64]; omega)⟩) hHeld ?_
  simp only [zaP, zsT, zsZ, zsS]
  refine wpAnyH_take (i := 11) (oi := oKeepTn47) (v := .int .i64 d) rfl (by kernel_rfl) (by kernel_rfl) (by kernel_rfl) (fun _ _ _ h => h) (Or.inl ⟨by rfl, fun w _ => by first | (go_simp; done) | (go_simp; rw [IntKind.wrap_u32]; omega) | (go_simp; rw [IntKind.wrap_i64]; omega)⟩) hHeld ?_
  simp only [zaP, zsT, zsZ, zsS]
  refine wpAnyH_done (by kernel_rfl) ?_ _
  go_wp2_with fail
  go_returns
  exact ⟨rfl, KV2.out⟩
 by_cases d2 : n < 17
 ·
  have b2 : (n : Int) < 17 := by omega
  have b3 : (12 : Int) ≤ n := by omega
  have b4 : (16 : Int) ≤ n := by omega
  have b5 : (n : Int) < 64 := by omega
  by_cases c4 : (keys.length : Int) ≤ i
  ·
   have e1 : d = 9 := by rw [Hd.out, if_pos c4]
   go_wp2_with fail
   go_returns
   exact ⟨by first | rfl | (rw [e1] <;> rfl), B2.out⟩
  have c4' : (i : Int) < (keys.length : Int) := by omega
  have Hd := hide (Hd.out.trans (by rw [if_neg c4]))
  clear c4
  by_cases c5 : ve < v
  ·
   have e1 : d = 10 := by rw [Hd.out, if_pos c5]
   go_wp2_with fail
   go_returns
   exact ⟨by first | rfl | (rw [e1] <;> rfl), B2.out⟩
  have c5' : v ≤ ve := by omega
  have Hd := hide (Hd.out.trans (by rw [if_neg c5]))
  clear c5
  have Hd := hide (Hd.out.trans (by rw [if_neg (by omega)]))
  clear c1 c2 c3 d1 d2
  obtain ⟨PP, EPP⟩ : ∃ x, Hid (x = imP u) := ⟨_, hide rfl⟩
  have hxP : u.extract 192 u.size = PP := by rw [EPP.out]; unfold imP; rfl
  obtain ⟨DD, EDD⟩ : ∃ x, Hid (x = u.extract 64 128) := ⟨_, hide rfl⟩
  have hxD : u.extract 64 128 = DD := EDD.out.symm
  obtain ⟨GG, EGG⟩ : ∃ x, Hid (x = imG u) := ⟨_, hide rfl⟩
  have hxG : u.extract 0 128 = GG := by rw [EGG.out]; unfold imG; rfl
  obtain ⟨SS, ESS⟩ : ∃ x, Hid (x = u.extract 128 192) := ⟨_, hide rfl⟩
  have hxS : u.extract 128 192 = SS := ESS.out.symm
  have k128 : (128 : Int) ≤ (u.size : Int) := by omega
  have k64 : (64 : Int) ≤ (u.size : Int) := by omega
  have lP : PP.size ≤ maxLen := by rw [← hxP, sub_size _ _ _ (Nat.le_refl _)]; have := HuM.out; omega
  have lG : Hid (GG.size ≤ maxLen) := by show _ ≤ _; rw [← hxG, sub_size _ _ _ (by omega)]; unfold maxLen; omega
  go_wp2_with fail
  try rw [hxP]
  refine (hashS PP W2 (HV.out.below B2.out).tab lP).mono ?_
  rintro e W3 ⟨rfl, hB⟩
  have B3 := hide (B2.out.trans (hB.mono B2.out.size))
  clear hB B2
  obtain ⟨H, EH⟩ : ∃ x, Hid (x = strOf (hashOf (bytesOf PP))) := ⟨_, hide rfl⟩
  rw [← EH.out]
  by_cases c6 : hashOf (bytesOf PP) = imD u
  case neg =>
   have e1 : d = 11 := by rw [Hd.out, ← EPP.out, if_neg c6]
   have hne : (H.toList == DD.toList) = false := str_nebS (fun h => c6 (by unfold imD; rw [hxD, ← h, EH.out, bytesOf_strOf]))
   go_wp2_with fail
   go_returns
   exact ⟨by first | rfl | (rw [e1] <;> rfl), B3.out⟩
  have heq : (H.toList == DD.toList) = true := str_eqbS (by rw [EH.out, c6]; unfold imD; rw [hxD, strOf_bytesOf])
  have hil : i < keys.length := by omega
  have e1 : Hid (d = lvE keys[i] GG SS) := by show _ = _; rw [Hd.out, ← EPP.out, if_pos c6, ← EGG.out, ← ESS.out, List.getD_eq_getElem?_getD, List.getElem?_eq_getElem hil]; rfl
  clear c6
  obtain ⟨Ky, EKy⟩ : ∃ x, Hid (x = keys[i]) := ⟨_, hide rfl⟩
  have hkix := idxStrs q keys.length i cap hil
  have CK : Hid (W3.cell? ⟨q, i, none⟩ = some (.string Ky)) := by rw [EKy.out]; exact (B3.out.cell hq).trans (HS.out i hil)
  go_upto_region 19 with fail
  refine wp_region_held_drew (S := fun w' => w'.cell? ⟨q, i, none⟩ = some (.string Ky)) (by kernel_rfl) CK.out (fun hHeld => ?_)
  have KV1 : Hid (Below w.heap.size w W3.drew) := B3.out.drew
  obtain ⟨V1, hV1⟩ : ∃ V, V = W3.drew := ⟨_, rfl⟩
  rw [← hV1] at hHeld KV1 ⊢
  clear hV1
  refine wpAnyH_take (i := 0) (oi := oKeepTn36) (v := .string u) rfl (by kernel_rfl) (by kernel_rfl) (by kernel_rfl) (fun _ _ _ h => h) (Or.inl ⟨by rfl, fun w _ => by first | (go_simp; done) | (go_simp; rw [IntKind.wrap_u32]; omega) | (go_simp; rw [IntKind.wrap_i64]; omega)⟩) hHeld ?_
  simp only [zaP, zsT, zsZ, zsS]
  refine wpAnyH_take (i := 1) (oi := oKeepTn37) (v := .slice (some ⟨q, 0, none⟩) keys.length cap) rfl (by kernel_rfl) (by kernel_rfl) (by kernel_rfl) (fun _ _ _ h => h) (Or.inl ⟨by rfl, fun w _ => by first | (go_simp; done) | (go_simp; rw [IntKind.wrap_u32]; omega) | (go_simp; rw [IntKind.wrap_i64]; omega)⟩) hHeld ?_
  simp only [zaP, zsT, zsZ, zsS]
  refine wpAnyH_take (i := 2) (oi := oKeepTn38) (v := .int .i64 i) rfl (by kernel_rfl) (by kernel_rfl) (by kernel_rfl) (fun _ _ _ h => h) (Or.inl ⟨by rfl, fun w _ => by first | (go_simp; done) | (go_simp; rw [IntKind.wrap_u32]; omega) | (go_simp; rw [IntKind.wrap_i64]; omega)⟩) hHeld ?_
  simp only [zaP, zsT, zsZ, zsS]
  refine wpAnyH_take (i := 3) (oi := oKeepTn39) (v := .pointer (some ⟨q, i, none⟩)) rfl (by kernel_rfl) (by kernel_rfl) (by kernel_rfl) (fun _ _ _ h => h) (Or.inl ⟨by rfl, fun w _ => by first | (go_simp; done) | (go_simp; rw [IntKind.wrap_u32]; omega) | (go_simp; rw [IntKind.wrap_i64]; omega)⟩) hHeld ?_
  simp only [zaP, zsT, zsZ, zsS]
  refine wpAnyH_take (i := 4) (oi := oKeepTn40) (v := .string Ky) rfl (by kernel_rfl) (by kernel_rfl) (by kernel_rfl) (fun _ _ _ h => h) (Or.inl ⟨by rfl, fun v h => hrunLoadStr _ rfl _ rfl _ v h⟩) hHeld ?_
  simp only [zaP, zsT, zsZ, zsS]
  refine wpAnyH_take (i := 5) (oi := oKeepTn41) (v := .string u) rfl (by kernel_rfl) (by kernel_rfl) (by kernel_rfl) (fun _ _ _ h => h) (Or.inl ⟨by rfl, fun w _ => by first | (go_simp; done) | (go_simp; rw [IntKind.wrap_u32]; omega) | (go_simp; rw [IntKind.wrap_i64]; omega)⟩) hHeld ?_
  simp only [zaP, zsT, zsZ, zsS]
  refine wpAnyH_take (i := 6) (oi := oKeepTn42) (v := .string GG) rfl (by kernel_rfl) (by kernel_rfl) (by kernel_rfl) (fun _ _ _ h => h) (Or.inl ⟨by rfl, fun w _ => by first | (go_simp; done) | (go_simp; rw [IntKind.wrap_u32]; omega) | (go_simp; rw [IntKind.wrap_i64]; omega)⟩) hHeld ?_
  simp only [zaP, zsT, zsZ, zsS]
  refine wpAnyH_take (i := 7) (oi := oKeepTn43) (v := .string u) rfl (by kernel_rfl) (by kernel_rfl) (by kernel_rfl) (fun _ _ _ h => h) (Or.inl ⟨by rfl, fun w _ => by first | (go_simp; done) | (go_simp; rw [IntKind.wrap_u32]; omega) | (go_simp; rw [IntKind.wrap_i64]; omega)⟩) hHeld ?_
  simp only [zaP, zsT, zsZ, zsS]
  refine wpAnyH_take (i := 8) (oi := oKeepTn44) (v := .string SS) rfl (by kernel_rfl) (by kernel_rfl) (by kernel_rfl) (fun _ _ _ h => h) (Or.inl ⟨by rfl, fun w _ => by first | (go_simp; done) | (go_simp; rw [IntKind.wrap_u32]; omega) | (go_simp; rw [IntKind.wrap_i64]; omega)⟩) hHeld ?_
  simp only [zaP, zsT, zsZ, zsS]
  refine wpAnyH_ready (rs := [9]) (by kernel_rfl) (by simp) ?_
  refine AllReadyH.cons (o := ⟨some 109, .call ⟨.value (.func 13), #[.tmp 104, .tmp 106, .tmp 108], #[9, 9, 9]⟩, 22, "keep.go:234", #[zeD 4, zeD 6, zeD 8], none⟩) rfl (fun K hK => ?_) AllReadyH.nil
  have V4 := HV.out.below KV1.out
  refine step_callTo (by rfl) _ _ (hrunLVer _ _ _ rfl (.string Ky) (.string GG) (.string SS) rfl rfl rfl V1) _ _ (verN Ky GG SS lG.out d (by rw [EKy.out, e1.out]) V1 k p s gA V4.gl V4.tab V4.ord V4.sen) (fun V2 HBx => ?_)
  have KV2 := kTr KV1 HBx
  refine hK.out _ _ ((KV2.out.cell hq).trans (by rw [EKy.out]; exact HS.out _ hil)) (fun hHeld => ?_)
  clear hK K HBx
  try simp only [zaP, zsT, zsZ, zsS]
  refine wpAnyH_take (i := 10) (oi := oKeepTn46) (v := .string u) rfl (by kernel_rfl) (by kernel_rfl) (by kernel_rfl) (fun _ _ _ h => h) (Or.inl ⟨by rfl, fun w _ => by first | (go_simp; done) | (go_simp; rw [IntKind.wrap_u32]; omega) | (go_simp; rw [IntKind.wrap_i64]; omega)⟩) hHeld ?_
  simp only [zaP, zsT, zsZ, zsS]
  refine wpAnyH_take (i := 11) (oi := oKeepTn47) (v := .int .i64 d) rfl (by kernel_rfl) (by kernel_rfl) (by kernel_rfl) (fun _ _ _ h => h) (Or.inl ⟨by rfl, fun w _ => by first | (go_simp; done) | (go_simp; rw [IntKind.wrap_u32]; omega) | (go_simp; rw [IntKind.wrap_i64]; omega)⟩) hHeld ?_
  simp only [zaP, zsT, zsZ, zsS]
  refine wpAnyH_done (by kernel_rfl) ?_ _
  go_wp2_with fail
  go_returns
  exact ⟨rfl, KV2.out⟩
 have b2 : (17 : Int) ≤ n := by omega
 have b3 : (64 : Int) ≤ n := by omega
 have b4 : (12 : Int) ≤ n := by omega
 have b5 : (16 : Int) ≤ n := by omega
 by_cases c4 : (keys.length : Int) ≤ i
 ·
  have e1 : d = 9 := by rw [Hd.out, if_pos c4]
  go_wp2_with fail
  go_returns
  exact ⟨by first | rfl | (rw [e1] <;> rfl), B2.out⟩
 have c4' : (i : Int) < (keys.length : Int) := by omega
 have Hd := hide (Hd.out.trans (by rw [if_neg c4]))
 clear c4
 by_cases c5 : ve < v
 ·
  have e1 : d = 10 := by rw [Hd.out, if_pos c5]
  go_wp2_with fail
  go_returns
  exact ⟨by first | rfl | (rw [e1] <;> rfl), B2.out⟩
 have c5' : v ≤ ve := by omega
 have Hd := hide (Hd.out.trans (by rw [if_neg c5]))
 clear c5
 by_cases c6 : n < 128
 ·
  have b6 : (n : Int) < 128 := by omega
  have e1 : d = 11 := by rw [Hd.out, if_pos ⟨by omega, c6⟩]
  clear c1 c2 c3 d1 d2
  go_wp2_with fail
  go_returns
  exact ⟨by first | rfl | (rw [e1] <;> rfl), B2.out⟩
 have b6 : (128 : Int) ≤ n := by omega
 have Hd := hide (Hd.out.trans (by rw [if_neg (by omega)]))
 clear c1 c2 c3 d1 d2 c6
 obtain ⟨PP, EPP⟩ : ∃ x, Hid (x = imP u) := ⟨_, hide rfl⟩
 have hxP : u.extract 192 u.size = PP := by rw [EPP.out]; unfold imP; rfl
 obtain ⟨DD, EDD⟩ : ∃ x, Hid (x = u.extract 64 128) := ⟨_, hide rfl⟩
 have hxD : u.extract 64 128 = DD := EDD.out.symm
 obtain ⟨GG, EGG⟩ : ∃ x, Hid (x = imG u) := ⟨_, hide rfl⟩
 have hxG : u.extract 0 128 = GG := by rw [EGG.out]; unfold imG; rfl
 obtain ⟨SS, ESS⟩ : ∃ x, Hid (x = u.extract 128 192) := ⟨_, hide rfl⟩
 have hxS : u.extract 128 192 = SS := ESS.out.symm
 have k128 : (128 : Int) ≤ (u.size : Int) := by omega
 have k64 : (64 : Int) ≤ (u.size : Int) := by omega
 have lP : PP.size ≤ maxLen := by rw [← hxP, sub_size _ _ _ (Nat.le_refl _)]; have := HuM.out; omega
 have lG : Hid (GG.size ≤ maxLen) := by show _ ≤ _; rw [← hxG, sub_size _ _ _ (by omega)]; unfold maxLen; omega
 go_wp2_with fail
 try rw [hxP]
 refine (hashS PP W2 (HV.out.below B2.out).tab lP).mono ?_
 rintro e W3 ⟨rfl, hB⟩
 have B3 := hide (B2.out.trans (hB.mono B2.out.size))
 clear hB B2
 obtain ⟨H, EH⟩ : ∃ x, Hid (x = strOf (hashOf (bytesOf PP))) := ⟨_, hide rfl⟩
 rw [← EH.out]
 by_cases c6 : hashOf (bytesOf PP) = imD u
 case neg =>
  have e1 : d = 11 := by rw [Hd.out, ← EPP.out, if_neg c6]
  have hne : (H.toList == DD.toList) = false := str_nebS (fun h => c6 (by unfold imD; rw [hxD, ← h, EH.out, bytesOf_strOf]))
  go_wp2_with fail
  go_returns
  exact ⟨by first | rfl | (rw [e1] <;> rfl), B3.out⟩
 have heq : (H.toList == DD.toList) = true := str_eqbS (by rw [EH.out, c6]; unfold imD; rw [hxD, strOf_bytesOf])
 have hil : i < keys.length := by omega
 have e1 : Hid (d = lvE keys[i] GG SS) := by show _ = _; rw [Hd.out, ← EPP.out, if_pos c6, ← EGG.out, ← ESS.out, List.getD_eq_getElem?_getD, List.getElem?_eq_getElem hil]; rfl
 clear c6
 obtain ⟨Ky, EKy⟩ : ∃ x, Hid (x = keys[i]) := ⟨_, hide rfl⟩
 have hkix := idxStrs q keys.length i cap hil
 have CK : Hid (W3.cell? ⟨q, i, none⟩ = some (.string Ky)) := by rw [EKy.out]; exact (B3.out.cell hq).trans (HS.out i hil)
 go_upto_region 19 with fail
 refine wp_region_held_drew (S := fun w' => w'.cell? ⟨q, i, none⟩ = some (.string Ky)) (by kernel_rfl) CK.out (fun hHeld => ?_)
 have KV1 : Hid (Below w.heap.size w W3.drew) := B3.out.drew
 obtain ⟨V1, hV1⟩ : ∃ V, V = W3.drew := ⟨_, rfl⟩
 rw [← hV1] at hHeld KV1 ⊢
 clear hV1
 refine wpAnyH_take (i := 0) (oi := oKeepTn36) (v := .string u) rfl (by kernel_rfl) (by kernel_rfl) (by kernel_rfl) (fun _ _ _ h => h) (Or.inl ⟨by rfl, fun w _ => by first | (go_simp; done) | (go_simp; rw [IntKind.wrap_u32]; omega) | (go_simp; rw [IntKind.wrap_i64]; omega)⟩) hHeld ?_
 simp only [zaP, zsT, zsZ, zsS]
 refine wpAnyH_take (i := 1) (oi := oKeepTn37) (v := .slice (some ⟨q, 0, none⟩) keys.length cap) rfl (by kernel_rfl) (by kernel_rfl) (by kernel_rfl) (fun _ _ _ h => h) (Or.inl ⟨by rfl, fun w _ => by first | (go_simp; done) | (go_simp; rw [IntKind.wrap_u32]; omega) | (go_simp; rw [IntKind.wrap_i64]; omega)⟩) hHeld ?_
 simp only [zaP, zsT, zsZ, zsS]
 refine wpAnyH_take (i := 2) (oi := oKeepTn38) (v := .int .i64 i) rfl (by kernel_rfl) (by kernel_rfl) (by kernel_rfl) (fun _ _ _ h => h) (Or.inl ⟨by rfl, fun w _ => by first | (go_simp; done) | (go_simp; rw [IntKind.wrap_u32]; omega) | (go_simp; rw [IntKind.wrap_i64]; omega)⟩) hHeld ?_
 simp only [zaP, zsT, zsZ, zsS]
 refine wpAnyH_take (i := 3) (oi := oKeepTn39) (v := .pointer (some ⟨q, i, none⟩)) rfl (by kernel_rfl) (by kernel_rfl) (by kernel_rfl) (fun _ _ _ h => h) (Or.inl ⟨by rfl, fun w _ => by first | (go_simp; done) | (go_simp; rw [IntKind.wrap_u32]; omega) | (go_simp; rw [IntKind.wrap_i64]; omega)⟩) hHeld ?_
 simp only [zaP, zsT, zsZ, zsS]
 refine wpAnyH_take (i := 4) (oi := oKeepTn40) (v := .string Ky) rfl (by kernel_rfl) (by kernel_rfl) (by kernel_rfl) (fun _ _ _ h => h) (Or.inl ⟨by rfl, fun v h => hrunLoadStr _ rfl _ rfl _ v h⟩) hHeld ?_
 simp only [zaP, zsT, zsZ, zsS]
 refine wpAnyH_take (i := 5) (oi := oKeepTn41) (v := .string u) rfl (by kernel_rfl) (by kernel_rfl) (by kernel_rfl) (fun _ _ _ h => h) (Or.inl ⟨by rfl, fun w _ => by first | (go_simp; done) | (go_simp; rw [IntKind.wrap_u32]; omega) | (go_simp; rw [IntKind.wrap_i64]; omega)⟩) hHeld ?_
 simp only [zaP, zsT, zsZ, zsS]
 refine wpAnyH_take (i := 6) (oi := oKeepTn42) (v := .string GG) rfl (by kernel_rfl) (by kernel_rfl) (by kernel_rfl) (fun _ _ _ h => h) (Or.inl ⟨by rfl, fun w _ => by first | (go_simp; done) | (go_simp; rw [IntKind.wrap_u32]; omega) | (go_simp; rw [IntKind.wrap_i64]; omega)⟩) hHeld ?_
 simp only [zaP, zsT, zsZ, zsS]
 refine wpAnyH_take (i := 7) (oi := oKeepTn43) (v := .string u) rfl (by kernel_rfl) (by kernel_rfl) (by kernel_rfl) (fun _ _ _ h => h) (Or.inl ⟨by rfl, fun w _ => by first | (go_simp; done) | (go_simp; rw [IntKind.wrap_u32]; omega) | (go_simp; rw [IntKind.wrap_i64]; omega)⟩) hHeld ?_
 simp only [zaP, zsT, zsZ, zsS]
 refine wpAnyH_take (i := 8) (oi := oKeepTn44) (v := .string SS) rfl (by kernel_rfl) (by kernel_rfl) (by kernel_rfl) (fun _ _ _ h => h) (Or.inl ⟨by rfl, fun w _ => by first | (go_simp; done) | (go_simp; rw [IntKind.wrap_u32]; omega) | (go_simp; rw [IntKind.wrap_i64]; omega)⟩) hHeld ?_
 simp only [zaP, zsT, zsZ, zsS]
 refine wpAnyH_ready (rs := [9]) (by kernel_rfl) (by simp) ?_
 refine AllReadyH.cons (o := ⟨some 109, .call ⟨.value (.func 13), #[.tmp 104, .tmp 106, .tmp 108], #[9, 9, 9]⟩, 22, "keep.go:234", #[zeD 4, zeD 6, zeD 8], none⟩) rfl (fun K hK => ?_) AllReadyH.nil
 have V4 := HV.out.below KV1.out
 refine step_callTo (by rfl) _ _ (hrunLVer _ _ _ rfl (.string Ky) (.string GG) (.string SS) rfl rfl rfl V1) _ _ (verN Ky GG SS lG.out d (by rw [EKy.out, e1.out]) V1 k p s gA V4.gl V4.tab V4.ord V4.sen) (fun V2 HBx => ?_)
 have KV2 := kTr KV1 HBx
 refine hK.out _ _ ((KV2.out.cell hq).trans (by rw [EKy.out]; exact HS.out _ hil)) (fun hHeld => ?_)
 clear hK K HBx
 try simp only [zaP, zsT, zsZ, zsS]
 refine wpAnyH_take (i := 10) (oi := oKeepTn46) (v := .string u) rfl (by kernel_rfl) (by kernel_rfl) (by kernel_rfl) (fun _ _ _ h => h) (Or.inl ⟨by rfl, fun w _ => by first | (go_simp; done) | (go_simp; rw [IntKind.wrap_u32]; omega) | (go_simp; rw [IntKind.wrap_i64]; omega)⟩) hHeld ?_
 simp only [zaP, zsT, zsZ, zsS]
 refine wpAnyH_take (i := 11) (oi := oKeepTn47) (v := .int .i64 d) rfl (by kernel_rfl) (by kernel_rfl) (by kernel_rfl) (fun _ _ _ h => h) (Or.inl ⟨by rfl, fun w _ => by first | (go_simp; done) | (go_simp; rw [IntKind.wrap_u32]; omega) | (go_simp; rw [IntKind.wrap_i64]; omega)⟩) hHeld ?_
 simp only [zaP, zsT, zsZ, zsS]
 refine wpAnyH_done (by kernel_rfl) ?_ _
 go_wp2_with fail
 go_returns
 exact ⟨rfl, KV2.out⟩
end
end Go.Proofs.YtccgfabojbjmjaaGreatDoor
