import Derived.Test.YtccgfabojbjmjaaGreatDoorPx49
namespace Go.Proofs.YtccgfabojbjmjaaGreatDoor
open Go.RowKit
structure Bx3 (g b r : Nat) (w w' : World) : Prop where
 os : w'.os = w.os
 tape : w'.tape = w.tape
 output : w'.output = w.output
 size : w.heap.size ≤ w'.heap.size
 block : ∀ k, k < w.heap.size → k ≠ g → k ≠ b → k ≠ r → w'.heap[k]? = w.heap[k]?
theorem Bx3.of {g b r : Nat} {w w' : World} (h : Bx2 b r w w') : Bx3 g b r w w' := ⟨h.os, h.tape, h.output, h.size, fun k hk _ hb hr => h.block k hk hb hr⟩
theorem Bx3.trans {g b r : Nat} {u v w : World} (h : Bx3 g b r u v) (k : Bx3 g b r v w) : Bx3 g b r u w :=
 ⟨k.os.trans h.os, k.tape.trans h.tape, k.output.trans h.output, Nat.le_trans h.size k.size, fun j hj hg hb hr => (k.block j (Nat.lt_of_lt_of_le hj h.size) hg hb hr).trans (h.block j hj hg hb hr)⟩
theorem Bx3.ofB {g b r : Nat} {w w' : World} (h : Below w.heap.size w w') : Bx3 g b r w w' := Bx3.of (Bx2.ofB h)
theorem Bx3.below {g b r B : Nat} {w w' : World} (h : Bx3 g b r w w') (hg : B ≤ g) (hb : B ≤ b) (hr : B ≤ r) (hs : B ≤ w.heap.size) : Below B w w' := ⟨h.os, h.tape, h.output, h.size, fun k hk => h.block k (by omega) (by omega) (by omega) (by omega)⟩
def LdZ (g : Nat) (T : TypeId) (kv : Value) (ks : List Nat) (v : Int) (b r : Nat) (w w' : World) : Prop := Bx3 g b r w w' ∧ ∃ l c, Ld w' g T kv ks v b r l c
theorem LdZ.of {g : Nat} {T : TypeId} {kv : Value} {ks : List Nat} {v : Int} {b r : Nat} {w w' : World} (h : LdX g T kv ks v b r w w') : LdZ g T kv ks v b r w w' := ⟨Bx3.of h.1, h.2⟩
theorem LdZ.below {g : Nat} {T : TypeId} {kv : Value} {ks : List Nat} {v : Int} {b r : Nat} {u w w' : World} (h : LdZ g T kv ks v b r u w) (hB : Below w.heap.size w w') : LdZ g T kv ks v b r u w' := by
 obtain ⟨h1, l, c, h2⟩ := h
 exact ⟨h1.trans (Bx3.ofB hB), l, c, h2.below hB⟩
noncomputable def ldE (p s g : Addr) (ks : List Nat) (v : Int) (t : ByteArray) : Value := if mkC t = 0 then chE p s g ks v t else mkE t
theorem ld_cases (p s g : Addr) (ks : List Nat) (v : Int) (t : ByteArray) :
  (∃ x c, ldE p s g ks v t = atE x (imI c) ∧ ldC ks v t = c ∧ c ≠ 0) ∨ (∃ x a, ldE p s g ks v t = atE x (esI a) ∧ ((a = p ∧ ldC ks v t = 2) ∨ (a = s ∧ ldC ks v t = 3) ∨ (a = g ∧ ldC ks v t = 4))) ∨ (mkE t = .nilIface ∧ 192 ≤ t.size ∧ chE p s g ks v t = .nilIface ∧ ldC ks v t = 0) := by
 unfold ldE ldC mkC mkE
 by_cases h1 : t.size < 192
 ·
  simp only [if_pos h1]
  exact .inl ⟨_, _, rfl, rfl, by decide⟩
 simp only [if_neg h1]
 by_cases h2 : t.extract 0 8 = mgT
 case neg => simp only [if_neg h2]; exact .inl ⟨_, _, rfl, rfl, by decide⟩
 simp only [if_pos h2]
 by_cases h3 : bytesOf (t.extract 17 64) = z47
 case neg => simp only [if_neg h3]; exact .inl ⟨_, _, rfl, rfl, by decide⟩
 simp only [if_pos h3]
 by_cases h4 : le4 (t.extract 12 16) 4 = t.size - 192
 case neg => simp only [if_neg h4]; exact .inl ⟨_, _, rfl, rfl, by decide⟩
 simp only [if_pos h4, if_true]
 unfold chE chC
 by_cases c1 : (ks.length : Int) ≤ imK t
 · simp only [if_pos c1]; exact .inl ⟨_, _, rfl, rfl, by decide⟩
 simp only [if_neg c1]
 by_cases c2 : (imV t : Int) < v
 · simp only [if_pos c2]; exact .inl ⟨_, _, rfl, rfl, by decide⟩
 simp only [if_neg c2]
 by_cases c3 : hashOf (bytesOf (imP t)) = imD t
 case neg => simp only [if_neg c3]; exact .inl ⟨_, _, rfl, rfl, by decide⟩
 simp only [if_pos c3]
 unfold ckC
 by_cases c4 : dcB (ks.getD (imK t).toNat 0) = true
 case neg => simp only [if_neg c4]; exact .inr (.inl ⟨_, _, rfl, .inl ⟨rfl, trivial⟩⟩)
 simp only [if_pos c4]
 unfold pvE
 by_cases c5 : valLE ((imS t).drop 32) < Lord
 case neg => simp only [if_neg c5]; exact .inr (.inl ⟨_, _, rfl, .inr (.inl ⟨rfl, trivial⟩)⟩)
 simp only [if_pos c5]
 by_cases c6 : pvC (ks.getD (imK t).toNat 0) (imG t) (imS t) = valLE ((imS t).take 32)
 case neg => simp only [if_neg c6]; exact .inr (.inl ⟨_, _, rfl, .inr (.inr ⟨rfl, trivial⟩)⟩)
 simp only [if_pos c6]
 exact .inr (.inr ⟨trivial, by omega, trivial, trivial⟩)
def imT2 : ByteArray := ⟨#[116, 104, 101, 32, 105, 109, 97, 103, 101]⟩
theorem imOfN (t : ByteArray) (hm : t.size ≤ maxLen) (hE : mkE t = .nilIface) (h192 : 192 ≤ t.size) (I : Array Value) (hI : I = imR t) (w : World) :
  Calls Tryz.prog 84 #[.string t] w fun e w' => e = .returned (.tuple #[.agg I, .nilIface]) ∧ Below w.heap.size w w' := by rw [hI]; exact imageOf_yes t hm hE h192 w
section
attribute [local irreducible] num4A nL pA psA psL pL bA bL bpP dcP dcB pubA pubZ pubL baseZ meA ldA imgA imgL imgZ
set_option maxRecDepth 100000 in
set_option maxHeartbeats 4000000 in
theorem ldLoad_no1 (g : Nat) (T : TypeId) (kv : Value) (ks : List Nat) (v : Int) (b r clock : Nat) (l : List (Nat × Nat)) (t : ByteArray) (hm : t.size ≤ maxLen) (E : Value) (hE : mkE t = .iface 173 E) (w : World) (hL : Ld w g T kv ks v b r l clock) :
  Calls Tryz.prog 51 #[.pointer (some ⟨g, 0, none⟩), .string t] w fun e w' => e = .returned (.tuple #[.agg imgZ, atE imT2 (.iface 173 E)]) ∧ LdX g T kv ks v b r w w' := by
 have hz := zeroImg
 have HE := hide hE
 have Hm := hide hm
 have HL := hide hL
 clear hE hm hL
 go_enter Tryz.func51, Tryz.ntmps51
 go_wp2_with fail
 refine (imageOf_no t Hm.out E HE.out _).mono ?_
 rintro e W1 ⟨rfl, hB⟩
 have B1 : Hid (Below w.heap.size w W1) := ((Below.refl _ _).alloc (Nat.le_refl _) _).trans (hB.mono (by simp))
 have R1 : Hid (W1.heap[w.heap.size]? = some (.cells imgZ 114 (0, 0))) := row_keep' (heap_alloc_new _ _) hB
 clear hB
 have hb0 := builtImg0
 go_upto_region 2 with (first
  | (refine wpList_store_row (by rfl) 114 (.tmp 6) (.tmp 11) (by rfl) W1.heap.size imgZ (by rfl) (by rfl) 114 _ (heap_alloc_new _ _) (by rw [sizeImg, imgZ_size]) rfl imgZ_all ?_))
 try rw [put_none']
 generalize hW2 : World.setRow _ _ _ = W2
 have l1 := lt_row R1.out
 have B2 : Hid (Below w.heap.size w W2) := by rw [← hW2]; exact below_setRow (B1.out.alloc B1.out.size _) B1.out.size _
 have R2 : Hid (W2.heap[w.heap.size]? = some (.cells imgZ 114 (0, 0))) := by rw [← hW2]; exact (setRow_other _ _ _ _ (by omega)).trans ((heap_alloc_old _ _ l1).trans R1.out)
 clear hW2 B1 R1
 go_wp2_with (first
  | (refine wpList_build_to (by rfl) 114 _ (by rfl) imgZ (by exact hb0) ?_)
  | (refine wpList_store_row (by rfl) 114 (.tmp 4) (.tmp 20) (by rfl) w.heap.size imgZ (by rfl) (by rfl) 114 _ R2.out (by rw [sizeImg, imgZ_size]) rfl imgZ_all ?_))
 refine bodyPost_ret (v := .tuple #[.agg imgZ, atE imT2 (.iface 173 E)]) (results_cell_tmp_row Tryz.results51 _ _ (w.heap.size) 114 _ (0, 0) _ (by rfl) (setRow_heap _ _ _ _ _ _ R2.out) Tryz.underlying114 rfl (by rw [sizeImg, imgZ_size])) rfl ⟨rfl, LdX.of HL.out (below_setRow B2.out (Nat.le_refl _) _)⟩
set_option maxRecDepth 100000 in
set_option maxHeartbeats 4000000 in
theorem ldLoad_no2 (g : Nat) (T : TypeId) (kv : Value) (ks : List Nat) (v : Int) (b r clock : Nat) (l : List (Nat × Nat)) (t : ByteArray) (hm : t.size ≤ maxLen) (hE0 : mkE t = .nilIface) (h192 : 192 ≤ t.size) (k p s gA : Addr) (w0 w : World) (hL : Ld w g T kv ks v b r l clock)
  (hV : Env w0 k p s gA) (h0 : Below w0.heap.size w0 w) (hb : w0.heap.size ≤ b) (hr : w0.heap.size ≤ r) (E : Value) (hE : chE p s gA ks v t = .iface 173 E) :
  Calls Tryz.prog 51 #[.pointer (some ⟨g, 0, none⟩), .string t] w fun e w' => e = .returned (.tuple #[.agg imgZ, atE imT2 (.iface 173 E)]) ∧ LdX g T kv ks v b r w w' := by
 have hz := zeroImg
 have HE := hide hE
 have HE0 := hide hE0
 have Hm := hide hm
 have HL := hide hL
 have HV := hide hV
 have H0 := hide h0
 have l0 := h0.size
 have H192 := hide h192
 obtain ⟨I, EI⟩ : ∃ I, Hid (I = imR t) := ⟨_, hide rfl⟩
 have HIs : Hid (I.size = 132) := by show _ = _; rw [EI.out]; exact imgA_132 _ _ _ _ _ _ (by unfold imS; rw [bytesOf_length, sub_size _ _ _ (by omega)]) (by unfold imD; rw [bytesOf_length, sub_size _ _ _ (by omega)])
 have HIa : Hid (I.all (·.oneCell') = true) := by show _ = _; rw [EI.out]; exact imgA_all _ _ _ _ _ _
 clear hE hm hL hV h0 h192 hE0
 go_enter Tryz.func51, Tryz.ntmps51
 go_wp2_with fail
 refine (imOfN t Hm.out HE0.out H192.out I EI.out _).mono ?_
 rintro e W1 ⟨rfl, hB⟩
 have B1 : Hid (Below w.heap.size w W1) := ((Below.refl _ _).alloc (Nat.le_refl _) _).trans (hB.mono (by simp))
 have R1 : Hid (W1.heap[w.heap.size]? = some (.cells imgZ 114 (0, 0))) := row_keep' (heap_alloc_new _ _) hB
 clear hB
 have hb0 := builtImg0
 go_upto_region 2 with (first
  | (refine wpList_store_row (by rfl) 114 (.tmp 6) (.tmp 11) (by rfl) W1.heap.size I (by rfl) (by rfl) 114 _ (heap_alloc_new _ _) (by rw [sizeImg, HIs.out]) (by rw [imgZ_size, HIs.out]) HIa.out ?_))
 try rw [put_none']
 generalize hW2 : World.setRow _ _ _ = W2
 have l1 := lt_row R1.out
 have B2 : Hid (Below w.heap.size w W2) := by rw [← hW2]; exact below_setRow (B1.out.alloc B1.out.size _) B1.out.size _
 have R2 : Hid (W2.heap[w.heap.size]? = some (.cells imgZ 114 (0, 0))) := by rw [← hW2]; exact (setRow_other _ _ _ _ (by omega)).trans ((heap_alloc_old _ _ l1).trans R1.out)
 obtain ⟨g6, hg6⟩ : ∃ q, q = W1.heap.size := ⟨_, rfl⟩
 have R6 : Hid (W2.heap[g6]? = some (.cells I 114 (0, 0))) := by rw [← hW2, hg6]; exact setRow_heap _ _ _ _ _ _ (heap_alloc_new _ _)
 rw [← hg6]
 clear hW2 B1 R1 hg6 l1
 go_wp2_with (first
  | (refine wpList_load_row (by rfl) 114 (.tmp 6) (by rfl) g6 (by rfl) _ I (0, 0) _ R6.out Tryz.underlying114 rfl (by rw [sizeImg, HIs.out]) ?_))
 refine (check_any g T kv ks v b r clock l t H192.out Hm.out k p s gA w0 W2 (HL.out.below B2.out) HV.out (H0.out.trans (B2.out.mono l0)) hb hr I EI.out).mono ?_
 rintro e W3 ⟨rfl, hX⟩
 rw [HE.out]
 have lb := HL.out.base.lt
 have lr := lt_row HL.out.map
 have X3 := hide ((LdX.of HL.out B2.out).trans hX)
 have R3 : Hid (W3.heap[w.heap.size]? = some (.cells imgZ 114 (0, 0))) := (hX.1.block _ (lt_row R2.out) (by omega) (by omega)).trans R2.out
 clear hX B2 R2 R6
 go_wp2_with (first
  | (refine wpList_build_to (by rfl) 114 _ (by rfl) imgZ (by exact hb0) ?_)
  | (refine wpList_store_row (by rfl) 114 (.tmp 4) (.tmp 20) (by rfl) w.heap.size imgZ (by rfl) (by rfl) 114 _ R3.out (by rw [sizeImg, imgZ_size]) rfl imgZ_all ?_))
 refine bodyPost_ret (v := .tuple #[.agg imgZ, atE imT2 (.iface 173 E)]) (results_cell_tmp_row Tryz.results51 _ _ (w.heap.size) 114 _ (0, 0) _ (by rfl) (setRow_heap _ _ _ _ _ _ R3.out) Tryz.underlying114 rfl (by rw [sizeImg, imgZ_size])) rfl ⟨rfl, LdX.set HL.out X3.out (Nat.le_refl _) _⟩
theorem ldA_set (kv : Value) (v u : Int) (b r : Nat) : (ldA kv v b r).setIfInBounds 1 (.int .u32 u) = ldA kv u b r := by unfold ldA; rfl
theorem Ld.setV {w : World} {g : Nat} {T : TypeId} {kv : Value} {ks : List Nat} {v : Int} {b r : Nat} {l : List (Nat × Nat)} {c : Nat} (h : Ld w g T kv ks v b r l c) (u : Int) (u0 : 0 ≤ u) (u1 : u < 4294967296) : Ld (w.setCell ⟨g, 1, none⟩ (.int .u32 u)) g T kv ks u b r l c ∧ Bx3 g b r w (w.setCell ⟨g, 1, none⟩ (.int .u32 u)) := by
 rw [setCell_eq_setRow w g 1 _ T _ _ h.row, ldA_set]
 have ob : ∀ k, k ≠ g → (w.setRow g (ldA kv u b r)).heap[k]? = w.heap[k]? := fun k hk => setRow_other _ _ _ _ hk
 have hs : (w.setRow g (ldA kv u b r)).heap.size = w.heap.size := by simp [World.setRow]
 refine ⟨⟨setRow_heap _ _ _ _ _ _ h.row, h.keys.kept (by omega) (fun q hq => ob q (h.kg q hq).1), h.small, h.base.keep (ob b (fun e => h.gb e.symm)), (ob r (fun e => h.gr e.symm)).trans h.map, h.ent, u0, u1, h.gb, h.gr, h.br, h.kg⟩, rfl, rfl, rfl, by omega, fun k _ hk _ _ => ob k hk⟩
set_option maxRecDepth 100000 in
set_option maxHeartbeats 4000000 in
theorem ldLoad_yes (g : Nat) (T : TypeId) (kv : Value) (ks : List Nat) (v : Int) (b r clock : Nat) (l : List (Nat × Nat)) (t : ByteArray) (hm : t.size ≤ maxLen) (hE0 : mkE t = .nilIface) (h192 : 192 ≤ t.size) (k p s gA : Addr) (w0 w : World) (hL : Ld w g T kv ks v b r l clock)
  (hV : Env w0 k p s gA) (h0 : Below w0.heap.size w0 w) (hb : w0.heap.size ≤ b) (hr : w0.heap.size ≤ r) (hE : chE p s gA ks v t = .nilIface) (I : Array Value) (hI : I = imR t) :
  Calls Tryz.prog 51 #[.pointer (some ⟨g, 0, none⟩), .string t] w fun e w' => e = .returned (.tuple #[.agg I, .nilIface]) ∧ LdZ g T kv ks (imV t) b r w w' := by
 have hz := zeroImg
 have HE := hide hE
 have HE0 := hide hE0
 have Hm := hide hm
 have HL := hide hL
 have HV := hide hV
 have H0 := hide h0
 have l0 := h0.size
 have H192 := hide h192
 have EI := hide hI
 obtain ⟨n, En⟩ : ∃ n : Nat, Hid (n = imV t) := ⟨_, hide rfl⟩
 have n1 : n < 4294967296 := by rw [En.out]; unfold imV; exact le4_lt _ 4 (by rw [sub_size _ _ _ (by omega)]; omega)
 have HIs : Hid (I.size = 132) := by show _ = _; rw [EI.out]; exact imgA_132 _ _ _ _ _ _ (by unfold imS; rw [bytesOf_length, sub_size _ _ _ (by omega)]) (by unfold imD; rw [bytesOf_length, sub_size _ _ _ (by omega)])
 have HIa : Hid (I.all (·.oneCell') = true) := by show _ = _; rw [EI.out]; exact imgA_all _ _ _ _ _ _
 have HI0 : Hid (I[0]? = some (.int .u32 n)) := by show _ = _; rw [EI.out, En.out]; unfold imR imgA imgL; rfl
 rw [← En.out]
 clear hE hm hL hV h0 h192 hE0 hI
 go_enter Tryz.func51, Tryz.ntmps51
 go_wp2_with fail
 refine (imOfN t Hm.out HE0.out H192.out I EI.out _).mono ?_
 rintro e W1 ⟨rfl, hB⟩
 have B1 : Hid (Below w.heap.size w W1) := ((Below.refl _ _).alloc (Nat.le_refl _) _).trans (hB.mono (by simp))
 have R1 : Hid (W1.heap[w.heap.size]? = some (.cells imgZ 114 (0, 0))) := row_keep' (heap_alloc_new _ _) hB
 clear hB
 go_upto_region 2 with (first
  | (refine wpList_store_row (by rfl) 114 (.tmp 6) (.tmp 11) (by rfl) W1.heap.size I (by rfl) (by rfl) 114 _ (heap_alloc_new _ _) (by rw [sizeImg, HIs.out]) (by rw [imgZ_size, HIs.out]) HIa.out ?_))
 try rw [put_none']
 generalize hW2 : World.setRow _ _ _ = W2
 have l1 := lt_row R1.out
 have B2 : Hid (Below w.heap.size w W2) := by rw [← hW2]; exact below_setRow (B1.out.alloc B1.out.size _) B1.out.size _
 have R2 : Hid (W2.heap[w.heap.size]? = some (.cells imgZ 114 (0, 0))) := by rw [← hW2]; exact (setRow_other _ _ _ _ (by omega)).trans ((heap_alloc_old _ _ l1).trans R1.out)
 obtain ⟨g6, hg6⟩ : ∃ q, q = W1.heap.size := ⟨_, rfl⟩
 have R6 : Hid (W2.heap[g6]? = some (.cells I 114 (0, 0))) := by rw [← hW2, hg6]; exact setRow_heap _ _ _ _ _ _ (heap_alloc_new _ _)
 have l6 : w.heap.size < g6 := by omega
 rw [← hg6]
 clear hW2 B1 R1 hg6 l1
 go_wp2_with (first
  | (refine wpList_load_row (by rfl) 114 (.tmp 6) (by rfl) g6 (by rfl) _ I (0, 0) _ R6.out Tryz.underlying114 rfl (by rw [sizeImg, HIs.out]) ?_))
 refine (check_any g T kv ks v b r clock l t H192.out Hm.out k p s gA w0 W2 (HL.out.below B2.out) HV.out (H0.out.trans (B2.out.mono l0)) hb hr I EI.out).mono ?_
 rintro e W3 ⟨rfl, hX⟩
 rw [HE.out]
 have lb := HL.out.base.lt
 have lr := lt_row HL.out.map
 have lg := lt_row HL.out.row
 have X3 := hide ((LdX.of HL.out B2.out).trans hX)
 have R3 : Hid (W3.heap[w.heap.size]? = some (.cells imgZ 114 (0, 0))) := (hX.1.block _ (lt_row R2.out) (by omega) (by omega)).trans R2.out
 have R6 : Hid (W3.heap[g6]? = some (.cells I 114 (0, 0))) := (hX.1.block _ (lt_row R6.out) (by omega) (by omega)).trans R6.out
 clear hX B2 R2
 obtain ⟨X30, l3, c3, L3⟩ := X3.out
 have C6 : W3.cell? ⟨g6, 0, none⟩ = some (.int .u32 n) := by rw [cell_of_row W3 _ 0 _ _ _ R6.out]; exact HI0.out
 have C1 : W3.cell? ⟨g, 1, none⟩ = some (.int .u32 v) := by rw [cell_of_row W3 g 1 _ T _ L3.row, ldA]; rfl
 have F1 : W3.frozen? ⟨g, 1, none⟩ = false := by simp [World.frozen?, L3.row]
 have HX30 := hide X30
 have HL3 := hide L3
 clear X30 L3 X3
 go_upto_region 7 with fail
 try rw [put_none']
 obtain ⟨L4, K4⟩ := HL3.out.setV (n : Int) (by omega) (by omega)
 generalize hW4 : World.setCell _ _ _ = W4 at *
 have HL4 := hide L4
 have Z4 : Hid (Bx3 g b r w W4) := (Bx3.of HX30.out).trans K4
 have R4 : Hid (W4.heap[w.heap.size]? = some (.cells imgZ 114 (0, 0))) := (K4.block _ (lt_row R3.out) (by omega) (by omega) (by omega)).trans R3.out
 have R6 : Hid (W4.heap[g6]? = some (.cells I 114 (0, 0))) := (K4.block _ (lt_row R6.out) (by omega) (by omega) (by omega)).trans R6.out
 clear hW4 K4 L4 R3 C6 C1 F1
 go_wp2_with (first
  | (refine wpList_load_row (by rfl) 114 (.tmp 6) (by rfl) g6 (by rfl) _ I (0, 0) _ R6.out Tryz.underlying114 rfl (by rw [sizeImg, HIs.out]) ?_)
  | (refine wpList_store_row (by rfl) 114 (.tmp 4) (.tmp 29) (by rfl) w.heap.size I (by rfl) (by rfl) 114 _ R4.out (by rw [sizeImg, HIs.out]) (by rw [imgZ_size, HIs.out]) HIa.out ?_))
 have ob : ∀ k, k ≠ w.heap.size → (W4.setRow w.heap.size I).heap[k]? = W4.heap[k]? := fun k hk => setRow_other _ _ _ _ hk
 have kgq : ∀ q, kv.ownBlock = some q → q ≠ w.heap.size := by
  intro q hq
  rcases HL.out.keys with ⟨rfl, _⟩ | ⟨q', cap, rfl, _, _, hlt, _⟩
  · cases hq
  ·
   have e : q' = q := by simpa [Value.ownBlock] using hq
   omega
 have hs : (W4.setRow w.heap.size I).heap.size = W4.heap.size := by simp [World.setRow]
 have h4 := HL4.out
 refine bodyPost_ret (v := .tuple #[.agg I, .nilIface]) (results_cell_tmp_row Tryz.results51 _ _ (w.heap.size) 114 _ (0, 0) _ (by rfl) (setRow_heap _ _ _ _ _ _ R4.out) Tryz.underlying114 rfl (by rw [sizeImg, HIs.out])) rfl ⟨rfl, ⟨Z4.out.os, Z4.out.tape, Z4.out.output, by have := Z4.out.size; omega, fun k hk h1 h2 h3 => (ob k (by omega)).trans (Z4.out.block k hk h1 h2 h3)⟩, l3, c3, ⟨(ob g (by omega)).trans h4.row, h4.keys.kept (by omega) (fun q hq => ob q (kgq q hq)), h4.small, h4.base.keep (ob b (by omega)), (ob r (by omega)).trans h4.map, h4.ent, h4.v0, h4.v1, h4.gb, h4.gr, h4.br, h4.kg⟩⟩
end
def vdA (c v k f n : Int) : Array Value := #[.int .i64 c, .int .u32 v, .int .i64 k, .int .i64 f, .int .i64 n]
theorem zeroVd (w : World) : (zeroValue 47).run Tryz.prog w = .ok (.agg #[.int .i64 0, .int .u32 0, .int .i64 0, .int .i64 0, .int .i64 0]) w := by kernel_rfl
theorem sizeVd : (Tryz.prog.info? 47).map (·.size) = some 5 := by kernel_rfl
theorem mk_nil {t : ByteArray} (h : mkC t = 0) : mkE t = .nilIface ∧ 192 ≤ t.size := by
 unfold mkC at h
 unfold mkE
 by_cases h1 : t.size < 192
 · rw [if_pos h1] at h; exact absurd h (by decide)
 rw [if_neg h1] at h ⊢
 by_cases h2 : t.extract 0 8 = mgT
 case neg => rw [if_neg h2] at h; exact absurd h (by decide)
 rw [if_pos h2] at h ⊢
 by_cases h3 : bytesOf (t.extract 17 64) = z47
 case neg => rw [if_neg h3] at h; exact absurd h (by decide)
 rw [if_pos h3] at h ⊢
 by_cases h4 : le4 (t.extract 12 16) 4 = t.size - 192
 case neg => rw [if_neg h4] at h; exact absurd h (by decide)
 rw [if_pos h4]
 exact ⟨rfl, by omega⟩
theorem ldLoad_no (g : Nat) (T : TypeId) (kv : Value) (ks : List Nat) (v : Int) (b r clock : Nat) (l : List (Nat × Nat)) (t : ByteArray) (hm : t.size ≤ maxLen) (k p s gA : Addr) (w0 w : World) (hL : Ld w g T kv ks v b r l clock)
  (hV : Env w0 k p s gA) (h0 : Below w0.heap.size w0 w) (hb : w0.heap.size ≤ b) (hr : w0.heap.size ≤ r) (hc : ldC ks v t ≠ 0) :
  ∃ Q, (Calls Tryz.prog 51 #[.pointer (some ⟨g, 0, none⟩), .string t] w fun e w' => e = .returned (.tuple #[.agg imgZ, .iface 173 Q]) ∧ LdX g T kv ks v b r w w') ∧
   ∀ W, Env W k p s gA → Calls Tryz.prog 30 #[.iface 173 Q] W fun e w' => e = .returned (.int .i64 (ldC ks v t)) ∧ Below W.heap.size W w' := by
 have two : ∀ E, ldE p s gA ks v t = .iface 173 E → Calls Tryz.prog 51 #[.pointer (some ⟨g, 0, none⟩), .string t] w fun e w' => e = .returned (.tuple #[.agg imgZ, atE imT2 (.iface 173 E)]) ∧ LdX g T kv ks v b r w w' := by
  intro E hE
  unfold ldE at hE
  by_cases h : mkC t = 0
  ·
   rw [if_pos h] at hE
   obtain ⟨h1, h2⟩ := mk_nil h
   exact ldLoad_no2 g T kv ks v b r clock l t hm h1 h2 k p s gA w0 w hL hV h0 hb hr E hE
  ·
   rw [if_neg h] at hE
   exact ldLoad_no1 g T kv ks v b r clock l t hm E hE w hL
 rcases ld_cases p s gA ks v t with ⟨x, c, h1, h2, h3⟩ | ⟨x, a, h1, h2⟩ | ⟨_, _, _, h⟩
 ·
  refine ⟨_, two _ h1, fun W hW => ?_⟩
  rw [h2]
  exact codeOf_im2 imT2 x c h3 W hW.sen.hE
 ·
  refine ⟨_, two _ h1, fun W hW => ?_⟩
  have hS := hW.sen
  rcases h2 with ⟨rfl, h2⟩ | ⟨rfl, h2⟩ | ⟨rfl, h2⟩
  ·
   have e := codeOf_es2 imT2 x a W k a s gA hS hS.fp.b
   rw [show esC k a s a = 2 by unfold esC; rw [if_neg hS.kp, if_pos rfl]] at e
   rw [h2]; exact e
  ·
   have e := codeOf_es2 imT2 x a W k p a gA hS hS.fs.b
   rw [show esC k p a a = 3 by unfold esC; rw [if_neg hS.ks, if_neg hS.ps, if_pos rfl]] at e
   rw [h2]; exact e
  ·
   have e := codeOf_es2 imT2 x a W k p s a hS hS.fg.b
   rw [show esC k p s a = 4 by unfold esC; rw [if_neg hS.gk, if_neg hS.gp, if_neg hS.gs]] at e
   rw [h2]; exact e
 · exact absurd h hc
section
attribute [local irreducible] num4A nL pA psA psL pL bA bL bpP dcP dcB pubA pubZ pubL baseZ meA ldA imgA imgL imgZ
set_option maxRecDepth 100000 in
set_option maxHeartbeats 4000000 in
theorem load_no (g : Nat) (T : TypeId) (kv : Value) (ks : List Nat) (v : Int) (b r clock : Nat) (l : List (Nat × Nat)) (t : ByteArray) (hm : t.size ≤ maxLen) (k p s gA : Addr) (w0 w : World) (hL : Ld w g T kv ks v b r l clock)
  (hV : Env w0 k p s gA) (h0 : Below w0.heap.size w0 w) (hb : w0.heap.size ≤ b) (hr : w0.heap.size ≤ r) (c : Int) (hc : ldC ks v t = c) (hc0 : c ≠ 0) :
  Calls Tryz.prog 22 #[.pointer (some ⟨g, 0, none⟩), .string t] w fun e w' => e = .returned (.agg (vdA c 0 0 0 0)) ∧ LdX g T kv ks v b r w w' := by
 have hz := zeroVd
 have hzi := zeroImg
 have l0 := h0.size
 obtain ⟨W0, hW0⟩ : ∃ W, W = w.alloc (.cells #[.int .i64 0, .int .u32 0, .int .i64 0, .int .i64 0, .int .i64 0] 47) := ⟨_, rfl⟩
 have B0 : Below w.heap.size w W0 := by rw [hW0]; exact (Below.refl _ _).alloc (Nat.le_refl _) _
 have R0 : Hid (W0.heap[w.heap.size]? = some (.cells #[.int .i64 0, .int .u32 0, .int .i64 0, .int .i64 0, .int .i64 0] 47 (0, 0))) := by rw [hW0]; exact heap_alloc_new _ _
 obtain ⟨Q, h1, h2⟩ := ldLoad_no g T kv ks v b r clock l t hm k p s gA w0 W0 (hL.below B0) hV (h0.trans (B0.mono l0)) hb hr (by rw [hc]; exact hc0)
 rw [hc] at h2
 rw [hW0] at h1
 have H1 := hide h1
 have H2 := hide h2
 have HL := hide hL
 have HV := hide hV
 have H0 := hide h0
 have HB0 := hide B0
 have lb := hL.base.lt
 have lr := lt_row hL.map
 clear hm hL hV h0 hc h1 h2 B0
 go_enter Tryz.func22, Tryz.ntmps22
 go_wp2_with fail
 refine H1.out.mono ?_
 rintro e W1 ⟨rfl, hX⟩
 rw [← hW0] at hX
 have X1 := hide ((LdX.of HL.out HB0.out).trans hX)
 have R1 : Hid (W1.heap[w.heap.size]? = some (.cells #[.int .i64 0, .int .u32 0, .int .i64 0, .int .i64 0, .int .i64 0] 47 (0, 0))) := (hX.1.block _ (lt_row R0.out) (by omega) (by omega)).trans R0.out
 clear hX H1 R0 HB0
 go_upto_region 2 with (first
  | (refine wpList_store_row (by rfl) 114 (.tmp 5) (.tmp 13) (by rfl) W1.heap.size imgZ (by rfl) (by rfl) 114 _ (heap_alloc_new _ _) (by rw [sizeImg, imgZ_size]) rfl imgZ_all ?_))
 try rw [put_none']
 have l1 := lt_row R1.out
 have ls := X1.out.1.size
 generalize hW2 : World.setRow _ _ _ = W2
 have K2 : Below W1.heap.size W1 W2 := by rw [← hW2]; exact below_setRow ((Below.refl _ _).alloc (Nat.le_refl _) _) (Nat.le_refl _) _
 have X2 := hide (X1.out.below K2)
 have R2 : Hid (W2.heap[w.heap.size]? = some (.cells #[.int .i64 0, .int .u32 0, .int .i64 0, .int .i64 0, .int .i64 0] 47 (0, 0))) := (K2.block _ l1).trans R1.out
 clear hW2 K2 X1 R1 hW0 l1
 have E2 := hide (HV.out.below (H0.out.trans (X2.out.1.below hb hr l0)))
 go_wp2_with fail
 refine (H2.out W2 E2.out).mono ?_
 rintro e W3 ⟨rfl, hB⟩
 have X3 := hide (X2.out.below hB)
 have R3 : Hid (W3.heap[w.heap.size]? = some (.cells #[.int .i64 0, .int .u32 0, .int .i64 0, .int .i64 0, .int .i64 0] 47 (0, 0))) := row_keep' R2.out hB
 clear hB X2 R2 H2 E2
 go_wp2_with (first
  | (refine wpList_store_row (by rfl) 47 (.tmp 4) (.tmp 19) (by rfl) w.heap.size #[.int .i64 c, .int .u32 0, .int .i64 0, .int .i64 0, .int .i64 0] (by rfl) (by rfl) 47 _ R3.out (by rw [sizeVd]; rfl) rfl (by simp [Value.oneCell']) ?_))
 refine bodyPost_ret (v := .agg #[.int .i64 c, .int .u32 0, .int .i64 0, .int .i64 0, .int .i64 0]) (results_cell_row Tryz.results22 _ _ (w.heap.size) 47 _ (0, 0) _ (by rfl) (setRow_heap _ _ _ _ _ _ R3.out) Tryz.underlying47 rfl (by rw [sizeVd]; rfl)) rfl ⟨rfl, LdX.set HL.out X3.out (Nat.le_refl _) _⟩
theorem LdZ.set {g : Nat} {T : TypeId} {kv : Value} {ks : List Nat} {v u : Int} {b r : Nat} {w w' : World} {l : List (Nat × Nat)} {c : Nat} (h0 : Ld w g T kv ks v b r l c) (h : LdZ g T kv ks u b r w w') {q : Nat} (hq : w.heap.size ≤ q) (cs : Array Value) : LdZ g T kv ks u b r w (w'.setRow q cs) := by
 obtain ⟨h1, l', c', h2⟩ := h
 have lb := h0.base.lt
 have lr := lt_row h0.map
 have lg := lt_row h0.row
 have ob : ∀ k, k < w.heap.size → (w'.setRow q cs).heap[k]? = w'.heap[k]? := fun k hk => setRow_other _ _ _ _ (by omega)
 have hs : (w'.setRow q cs).heap.size = w'.heap.size := by simp [World.setRow]
 have kgq : ∀ x, kv.ownBlock = some x → x < w.heap.size := by
  intro x hx
  rcases h0.keys with ⟨rfl, _⟩ | ⟨q', cap, rfl, _, _, hlt, _⟩
  · cases hx
  ·
   have e : q' = x := by simpa [Value.ownBlock] using hx
   omega
 exact ⟨⟨h1.os, h1.tape, h1.output, by have := h1.size; omega, fun k hk a1 a2 a3 => (ob k hk).trans (h1.block k hk a1 a2 a3)⟩, l', c', ⟨(ob g lg).trans h2.row, h2.keys.kept (by omega) (fun x hx => ob x (kgq x hx)), h2.small, h2.base.keep (ob b lb), (ob r lr).trans h2.map, h2.ent, h2.v0, h2.v1, h2.gb, h2.gr, h2.br, h2.kg⟩⟩
set_option maxRecDepth 100000 in
set_option maxHeartbeats 4000000 in
theorem load_yes (g : Nat) (T : TypeId) (kv : Value) (ks : List Nat) (v : Int) (b r clock : Nat) (l : List (Nat × Nat)) (t : ByteArray) (hm : t.size ≤ maxLen) (k p s gA : Addr) (w0 w : World) (hL : Ld w g T kv ks v b r l clock)
  (hV : Env w0 k p s gA) (h0 : Below w0.heap.size w0 w) (hb : w0.heap.size ≤ b) (hr : w0.heap.size ≤ r) (hc : ldC ks v t = 0) (n : Nat) (i : Int) (z : Nat) (en : imV t = n) (ei : imK t = i) (ez : (imP t).size = z) :
  Calls Tryz.prog 22 #[.pointer (some ⟨g, 0, none⟩), .string t] w fun e w' => e = .returned (.agg (vdA 0 n i 192 z)) ∧ LdZ g T kv ks n b r w w' := by
 have hz := zeroVd
 have hzi := zeroImg
 have l0 := h0.size
 obtain ⟨W0, hW0⟩ : ∃ W, W = w.alloc (.cells #[.int .i64 0, .int .u32 0, .int .i64 0, .int .i64 0, .int .i64 0] 47) := ⟨_, rfl⟩
 have B0 : Below w.heap.size w W0 := by rw [hW0]; exact (Below.refl _ _).alloc (Nat.le_refl _) _
 have R0 : Hid (W0.heap[w.heap.size]? = some (.cells #[.int .i64 0, .int .u32 0, .int .i64 0, .int .i64 0, .int .i64 0] 47 (0, 0))) := by rw [hW0]; exact heap_alloc_new _ _
 obtain ⟨e1, e2, e3⟩ : mkE t = .nilIface ∧ 192 ≤ t.size ∧ chE p s gA ks v t = .nilIface := by
  rcases ld_cases p s gA ks v t with ⟨x, c, _, h2, h3⟩ | ⟨x, a, _, h2⟩ | ⟨h1, h2, h3, _⟩
  · exact absurd (h2.symm.trans hc) h3
  · rcases h2 with ⟨_, h2⟩ | ⟨_, h2⟩ | ⟨_, h2⟩ <;> exact absurd (h2.symm.trans hc) (by decide)
  · exact ⟨h1, h2, h3⟩
 obtain ⟨I, EI⟩ : ∃ I, Hid (I = imR t) := ⟨_, hide rfl⟩
 have h1 := ldLoad_yes g T kv ks v b r clock l t hm e1 e2 k p s gA w0 W0 (hL.below B0) hV (h0.trans (B0.mono l0)) hb hr e3 I EI.out
 rw [en] at h1
 have HIs : Hid (I.size = 132) := by show _ = _; rw [EI.out]; exact imgA_132 _ _ _ _ _ _ (by unfold imS; rw [bytesOf_length, sub_size _ _ _ (by omega)]) (by unfold imD; rw [bytesOf_length, sub_size _ _ _ (by omega)])
 have HIa : Hid (I.all (·.oneCell') = true) := by show _ = _; rw [EI.out]; exact imgA_all _ _ _ _ _ _
 have HI0 : Hid (I[0]? = some (.int .u32 n)) := by show _ = _; rw [EI.out, ← en]; unfold imR imgA imgL; rfl
 have HI1 : Hid (I[1]? = some (.int .i64 i)) := by show _ = _; rw [EI.out, ← ei]; unfold imR imgA imgL; rfl
 obtain ⟨P, EP⟩ : ∃ P, Hid (P = imP t) := ⟨_, hide rfl⟩
 have HI2 : Hid (I[2]? = some (.string P)) := by show _ = _; rw [EI.out, EP.out]; unfold imR imgA imgL; rfl
 have hPz : P.size = z := by rw [EP.out]; exact ez
 rw [hW0] at h1
 have H1 := hide h1
 have HL := hide hL
 have HB0 := hide B0
 have lb := hL.base.lt
 have lr := lt_row hL.map
 have lg := lt_row hL.row
 clear hm hL hV h0 hc h1 B0 e1 e2 e3 en ei ez
 go_enter Tryz.func22, Tryz.ntmps22
 go_wp2_with fail
 refine H1.out.mono ?_
 rintro e W1 ⟨rfl, hX⟩
 rw [← hW0] at hX
 have X1 : Hid (LdZ g T kv ks n b r w W1) := ⟨(Bx3.ofB HB0.out).trans hX.1, hX.2⟩
 have R1 : Hid (W1.heap[w.heap.size]? = some (.cells #[.int .i64 0, .int .u32 0, .int .i64 0, .int .i64 0, .int .i64 0] 47 (0, 0))) := (hX.1.block _ (lt_row R0.out) (by omega) (by omega) (by omega)).trans R0.out
 clear hX H1 R0 HB0
 go_upto_region 2 with (first
  | (refine wpList_store_row (by rfl) 114 (.tmp 5) (.tmp 13) (by rfl) W1.heap.size I (by rfl) (by rfl) 114 _ (heap_alloc_new _ _) (by rw [sizeImg, HIs.out]) (by rw [imgZ_size, HIs.out]) HIa.out ?_))
 try rw [put_none']
 have l1 := lt_row R1.out
 have ls := X1.out.1.size
 generalize hW2 : World.setRow _ _ _ = W2
 have K2 : Below W1.heap.size W1 W2 := by rw [← hW2]; exact below_setRow ((Below.refl _ _).alloc (Nat.le_refl _) _) (Nat.le_refl _) _
 obtain ⟨g5, hg5⟩ : ∃ q, q = W1.heap.size := ⟨_, rfl⟩
 have R5 : Hid (W2.heap[g5]? = some (.cells I 114 (0, 0))) := by rw [← hW2, hg5]; exact setRow_heap _ _ _ _ _ _ (heap_alloc_new _ _)
 have X2 := hide (X1.out.below K2)
 have R2 : Hid (W2.heap[w.heap.size]? = some (.cells #[.int .i64 0, .int .u32 0, .int .i64 0, .int .i64 0, .int .i64 0] 47 (0, 0))) := (K2.block _ l1).trans R1.out
 rw [← hg5]
 clear hW2 K2 X1 R1 hW0 l1 hg5
 have C0 : W2.cell? ⟨g5, 0, none⟩ = some (.int .u32 n) := by rw [cell_of_row W2 _ 0 _ _ _ R5.out]; exact HI0.out
 have C1 : W2.cell? ⟨g5, 1, none⟩ = some (.int .i64 i) := by rw [cell_of_row W2 _ 1 _ _ _ R5.out]; exact HI1.out
 have C2 : W2.cell? ⟨g5, 2, none⟩ = some (.string P) := by rw [cell_of_row W2 _ 2 _ _ _ R5.out]; exact HI2.out
 subst hPz
 go_wp2_with (first
  | (refine wpList_store_row (by rfl) 47 (.tmp 4) (.tmp 27) (by rfl) w.heap.size #[.int .i64 0, .int .u32 n, .int .i64 i, .int .i64 192, .int .i64 P.size] (by rfl) (by rfl) 47 _ R2.out (by rw [sizeVd]; rfl) rfl (by simp [Value.oneCell']) ?_))
 refine bodyPost_ret (v := .agg #[.int .i64 0, .int .u32 n, .int .i64 i, .int .i64 192, .int .i64 P.size]) (results_cell_row Tryz.results22 _ _ (w.heap.size) 47 _ (0, 0) _ (by rfl) (setRow_heap _ _ _ _ _ _ R2.out) Tryz.underlying47 rfl (by rw [sizeVd]; rfl)) rfl ⟨rfl, LdZ.set HL.out X2.out (Nat.le_refl _) _⟩
end
theorem KeysAt.lt {w : World} {kv : Value} {ks : List Nat} (h : KeysAt w kv ks) : ∀ x, kv.ownBlock = some x → x < w.heap.size := by
 intro x hx
 rcases h with ⟨rfl, _⟩ | ⟨q', cap, rfl, _, _, hlt, _⟩
 · cases hx
 ·
  have e : q' = x := by simpa [Value.ownBlock] using hx
  omega
theorem strsAt_own {w : World} {B g n cap : Nat} {e : TypeId} {M : List ByteArray} (h : Own w B e (.slice (some ⟨g, 0, none⟩) n cap) (M.map Value.string)) : StrsAt w g M := by
 intro i hi
 have := (h.set1 i (by rw [List.length_map]; exact hi) .nilIface).2.2.1
 rw [List.getElem?_map, List.getElem?_eq_getElem hi] at this
 exact this
theorem own_lt {w : World} {B g n cap : Nat} {e : TypeId} {xs : List Value} (h : Own w B e (.slice (some ⟨g, 0, none⟩) n cap) xs) : g < w.heap.size := by
 rcases h with ⟨h, _⟩ | ⟨g', cap', cur, fr, h0, h1, h2, _⟩
 · cases h
 ·
  simp only [Value.slice.injEq, Option.some.injEq, Addr.mk.injEq, and_true] at h0
  obtain ⟨rfl, _⟩ := h0
  exact lt_row h2
theorem Ld.bx3 {w w' : World} {g : Nat} {T : TypeId} {kv : Value} {ks : List Nat} {v : Int} {b r : Nat} {l : List (Nat × Nat)} {c : Nat} (h : Ld w g T kv ks v b r l c) {g2 b2 r2 N : Nat} (hx : Bx3 g2 b2 r2 w w') (hg : g < N) (hb : b < N) (hr : r < N) (hk : ∀ x, kv.ownBlock = some x → x < N) (h1 : N ≤ g2) (h2 : N ≤ b2) (h3 : N ≤ r2) : Ld w' g T kv ks v b r l c where
 row := (hx.block g (lt_row h.row) (by omega) (by omega) (by omega)).trans h.row
 keys := h.keys.kept hx.size (fun q hq => hx.block q (h.keys.lt q hq) (by have := hk q hq; omega) (by have := hk q hq; omega) (by have := hk q hq; omega))
 small := h.small
 base := h.base.keep (hx.block b h.base.lt (by omega) (by omega) (by omega))
 map := (hx.block r (lt_row h.map) (by omega) (by omega) (by omega)).trans h.map
 ent := h.ent
 v0 := h.v0
 v1 := h.v1
 gb := h.gb
 gr := h.gr
 br := h.br
 kg := h.kg
theorem u8_xor_ne (x c : UInt8) (h : c ≠ 0) : x ^^^ c ≠ x := by
 intro e
 apply h
 have : x ^^^ (x ^^^ c) = x ^^^ x := by rw [e]
 rw [← UInt8.xor_assoc, UInt8.xor_self, UInt8.zero_xor] at this
 exact this
theorem load_code (g : Nat) (T : TypeId) (kv : Value) (ks : List Nat) (v : Int) (b r clock : Nat) (l : List (Nat × Nat)) (t : ByteArray) (hm : t.size ≤ maxLen) (k p s gA : Addr) (w0 w : World) (hL : Ld w g T kv ks v b r l clock)
  (hV : Env w0 k p s gA) (h0 : Below w0.heap.size w0 w) (hb : w0.heap.size ≤ b) (hr : w0.heap.size ≤ r) (c : Int) (hc : ldC ks v t = c) :
  Calls Tryz.prog 22 #[.pointer (some ⟨g, 0, none⟩), .string t] w fun e w' => ∃ (n i f z u : Int), e = .returned (.agg #[.int .i64 c, .int .u32 n, .int .i64 i, .int .i64 f, .int .i64 z]) ∧ LdZ g T kv ks u b r w w' ∧ (c ≠ 0 → n = 0 ∧ i = 0 ∧ f = 0 ∧ z = 0 ∧ u = v) := by
 by_cases h : c = 0
 ·
  refine (load_yes g T kv ks v b r clock l t hm k p s gA w0 w hL hV h0 hb hr (hc.trans h) _ _ _ rfl rfl rfl).mono ?_
  rintro e w' ⟨rfl, hZ⟩
  exact ⟨_, _, _, _, _, by rw [h]; rfl, hZ, fun h' => absurd h h'⟩
 ·
  refine (load_no g T kv ks v b r clock l t hm k p s gA w0 w hL hV h0 hb hr c hc h).mono ?_
  rintro e w' ⟨rfl, hX⟩
  exact ⟨0, 0, 0, 0, v, rfl, LdZ.of hX, fun _ => ⟨rfl, rfl, rfl, rfl, rfl⟩⟩
theorem headN (v k : Nat) (p : ByteArray) (hv : v < 4294967296) (hk : k < 256) (hp : p.size ≤ 1000000) (H : ByteArray) (hH : H = strOf (hdB v k p)) (w : World) (hK : Tab w) :
  Calls Tryz.prog 26 #[.int .u32 v, .int .u8 k, .string p] w fun e w' => e = .returned (.string H) ∧ Below w.heap.size w w' := by
 rw [hH]; exact headK v k p hv hk hp w hK
theorem signedN (S m K U : ByteArray) (hS : S.size = 32) (hm : m.size ≤ maxLen) (hK : K = lkS S) (hU : U = lsS S m) (k p s g : Addr) (w0 w : World) (hV : Env w0 k p s g) (hB : Below w0.heap.size w0 w) :
  Calls Tryz.prog 17 #[.string S, .string m] w fun e w' => e = .returned (.tuple #[.string K, .string U, .bool true]) ∧ Below w.heap.size w w' := by
 rw [hK, hU]
 have h := hV.below hB
 exact signedK S m hS hm w h.gl h.tab h.ord h.sen.hE
theorem Ld.c1 {w : World} {g : Nat} {T : TypeId} {kv : Value} {ks : List Nat} {v : Int} {b r : Nat} {l : List (Nat × Nat)} {c : Nat} (h : Ld w g T kv ks v b r l c) : w.cell? ⟨g, 1, none⟩ = some (.int .u32 v) := by
 rw [cell_of_row w g 1 _ T _ h.row, ldA]; rfl
theorem load_yesL (g : Nat) (T : TypeId) (kv : Value) (ks : List Nat) (v : Int) (b r clock : Nat) (l : List (Nat × Nat)) (t : ByteArray) (hm : t.size ≤ maxLen) (k p s gA : Addr) (w0 w : World) (hL : Ld w g T kv ks v b r l clock)
  (hV : Env w0 k p s gA) (h0 : Below w0.heap.size w0 w) (hb : w0.heap.size ≤ b) (hr : w0.heap.size ≤ r) (hc : ldC ks v t = 0) (n : Nat) (i z : Nat) (en : imV t = n) (ei : imK t = (i : Int)) (ez : (imP t).size = z) :
  Calls Tryz.prog 22 #[.pointer (some ⟨g, 0, none⟩), .string t] w fun e w' => e = .returned (.agg #[.int .i64 0, .int .u32 (n : Int), .int .i64 (i : Int), .int .i64 192, .int .i64 (z : Int)]) ∧ LdZ g T kv ks (n : Int) b r w w' :=
 load_yes g T kv ks v b r clock l t hm k p s gA w0 w hL hV h0 hb hr hc n i z en ei ez
theorem load_noL (g : Nat) (T : TypeId) (kv : Value) (ks : List Nat) (v : Int) (b r clock : Nat) (l : List (Nat × Nat)) (t : ByteArray) (hm : t.size ≤ maxLen) (k p s gA : Addr) (w0 w : World) (hL : Ld w g T kv ks v b r l clock)
  (hV : Env w0 k p s gA) (h0 : Below w0.heap.size w0 w) (hb : w0.heap.size ≤ b) (hr : w0.heap.size ≤ r) (c : Int) (hc : ldC ks v t = c) (hc0 : c ≠ 0) :
  Calls Tryz.prog 22 #[.pointer (some ⟨g, 0, none⟩), .string t] w fun e w' => e = .returned (.agg #[.int .i64 c, .int .u32 0, .int .i64 0, .int .i64 0, .int .i64 0]) ∧ LdX g T kv ks v b r w w' :=
 load_no g T kv ks v b r clock l t hm k p s gA w0 w hL hV h0 hb hr c hc hc0
theorem vd_cells {w : World} {q : Nat} {a b c d e : Value} {T : TypeId} {fr : Nat × Nat} (h : w.heap[q]? = some (.cells #[a, b, c, d, e] T fr)) : w.cell? ⟨q, 0, none⟩ = some a ∧ w.cell? ⟨q, 1, none⟩ = some b ∧ w.cell? ⟨q, 2, none⟩ = some c ∧ w.cell? ⟨q, 3, none⟩ = some d ∧ w.cell? ⟨q, 4, none⟩ = some e :=
 ⟨by rw [cell_of_row w q 0 _ T _ h]; rfl, by rw [cell_of_row w q 1 _ T _ h]; rfl, by rw [cell_of_row w q 2 _ T _ h]; rfl, by rw [cell_of_row w q 3 _ T _ h]; rfl, by rw [cell_of_row w q 4 _ T _ h]; rfl⟩
end Go.Proofs.YtccgfabojbjmjaaGreatDoor
