import Derived.Test.YtccgfabojbjmjaaGreatDoorPx46
namespace Go.Proofs.YtccgfabojbjmjaaGreatDoor
open Go.RowKit
abbrev oLdPub18 : Oper := ⟨some 21, .move (.tmp 27), 154, "loader.go:93", #[zeD 5], none⟩
abbrev oLdPub19 : Oper := ⟨some 28, .extract (.tmp 21) 0, 153, "loader.go:93", #[zeD 6], none⟩
abbrev oLdPub20 : Oper := ⟨some 29, .extract (.tmp 21) 1, 66, "loader.go:93", #[zeD 6, ⟨10, .gcOnly .lateStores⟩], none⟩
abbrev oLdPub21 : Oper := ⟨some 8, .alloc 153, 0, "loader.go:93", #[], none⟩
abbrev oLdPub22 : Oper := ⟨none, .store 153 (.tmp 8) (.tmp 28), 0, "loader.go:93", #[zeD 9, zeD 7, zeC 5, zeP 0, zeP 1, zeP 2, zeP 3, zeP 4, zeP 5, zeP 6, zeP 7, ⟨8, .textOnly .lateStores⟩, zeP 9], none⟩
abbrev oLdPub23 : Oper := ⟨some 9, .assign (.tmp 29), 66, "loader.go:93", #[zeD 8, zeC 10, zeP 0, zeP 1, zeP 2, zeP 3, zeP 4, zeP 5, zeP 6, zeP 7, zeP 8, zeP 9, zeP 10], none⟩
structure Bx2 (b r : Nat) (w w' : World) : Prop where
 os : w'.os = w.os
 tape : w'.tape = w.tape
 output : w'.output = w.output
 size : w.heap.size ≤ w'.heap.size
 block : ∀ k, k < w.heap.size → k ≠ b → k ≠ r → w'.heap[k]? = w.heap[k]?
theorem Bx2.of {b r : Nat} {w w' : World} (h : Bex b w w') : Bx2 b r w w' := ⟨h.os, h.tape, h.output, h.size, fun k hk hb _ => h.block k hk hb⟩
theorem Bx2.ofB {b r : Nat} {w w' : World} (h : Below w.heap.size w w') : Bx2 b r w w' := Bx2.of (Bex.of h)
theorem Bx2.trans {b r : Nat} {u v w : World} (h : Bx2 b r u v) (k : Bx2 b r v w) : Bx2 b r u w :=
 ⟨k.os.trans h.os, k.tape.trans h.tape, k.output.trans h.output, Nat.le_trans h.size k.size, fun j hj hb hr => (k.block j (Nat.lt_of_lt_of_le hj h.size) hb hr).trans (h.block j hj hb hr)⟩
theorem Bx2.setObj {b r : Nat} {w v : World} (h : Bx2 b r w v) (o : Obj) : Bx2 b r w { v with heap := v.heap.setIfInBounds r o } :=
 ⟨h.os, h.tape, h.output, by simpa using h.size, fun k hk hb hr => by show (v.heap.setIfInBounds r o)[k]? = _; rw [Array.getElem?_setIfInBounds_ne (fun e => hr e.symm)]; exact h.block k hk hb hr⟩
theorem Bx2.setRow {b r : Nat} {w v : World} (h : Bx2 b r w v) {g : Nat} (hg : w.heap.size ≤ g) (cs : Array Value) : Bx2 b r w (v.setRow g cs) := by
 have k : Below w.heap.size v (v.setRow g cs) := below_setRow (Below.refl _ _) hg _
 exact ⟨k.os.trans h.os, k.tape.trans h.tape, k.output.trans h.output, Nat.le_trans h.size k.size, fun j hj hb hr => (k.block j hj).trans (h.block j hj hb hr)⟩
theorem Ld.step {w w' : World} {g : Nat} {T : TypeId} {kv : Value} {ks : List Nat} {v : Int} {b r : Nat} {l l' : List (Nat × Nat)} {clock clock' : Nat} (h : Ld w g T kv ks v b r l clock) (hx : Bx2 b r w w') (hb : BaseAny w' b)
  (hm : w'.heap[r]? = some (.map (meA b l') clock')) (he : ∀ x ∈ l', x.1 < big ∧ dcB x.1 = true) : Ld w' g T kv ks v b r l' clock' where
 row := (hx.block g (lt_row h.row) h.gb h.gr).trans h.row
 keys := h.keys.kept hx.size (fun q hq => hx.block q (by
  rcases h.keys with ⟨rfl, _⟩ | ⟨q', cap, rfl, _, _, hlt, _⟩
  · cases hq
  ·
   have e : q' = q := by simpa [Value.ownBlock] using hq
   omega) (h.kg q hq).2.1 (h.kg q hq).2.2)
 small := h.small
 base := hb
 map := hm
 ent := he
 v0 := h.v0
 v1 := h.v1
 gb := h.gb
 gr := h.gr
 br := h.br
 kg := h.kg
theorem hrunAllocPub {a : Act} {o : Oper} (ho : o.op = .alloc 153) (w : World) :
  (execOp a.eval o).run Tryz.prog w = .ok (.value (.pointer (some ⟨w.heap.size, 0, none⟩))) (w.alloc (.cells pubZ 153)) := by
 have hz := zeroPub
 unfold execOp
 simp only [ho]
 go_simp
theorem hrunLoadMap {a : Act} {o : Oper} (x : Operand) (ho : o.op = .load 117 x) (ad : Addr) (hx : a.eval x = .pointer (some ad)) (v : Value) (w : World) (h : w.cell? ad = some v) :
  (execOp a.eval o).run Tryz.prog w = .ok (.value v) w := by
 unfold execOp
 simp only [ho, hx]
 go_simp
theorem hrunLook {a : Act} {o : Oper} (x y : Operand) (ho : o.op = .lookup 117 x y true) (r : Nat) (K : Array Value) (hx : a.eval x = .map (some r)) (hy : a.eval y = .agg K) (v : Value) (w : World)
  (h : (Instr.lookup 117 (.map (some r)) (.agg K) true).run Tryz.prog w = .ok v w) : (execOp a.eval o).run Tryz.prog w = .ok (.value v) w := by
 unfold execOp
 simp only [ho, hx, hy]
 go_simp
theorem hrunPubOf {a : Act} {o : Oper} (x y : Operand) (ho : o.op = .call { callee := .value (.func 74), args := #[x, y], argTypes := #[58, 62] }) (v1 v2 : Value) (hx : a.eval x = v1) (hy : a.eval y = v2) (w : World) :
  (execOp a.eval o).run Tryz.prog w = .ok (.enter 74 #[v1, v2]) w := by
 unfold execOp
 simp only [ho]
 subst hx hy
 go_simp
theorem hrunPut {a : Act} {o : Oper} (x y z : Operand) (ho : o.op = .mapUpdate 117 x y z) (v1 v2 v3 : Value) (hx : a.eval x = v1) (hy : a.eval y = v2) (hz : a.eval z = v3) (w w' : World)
  (h : (Instr.mapUpdate 117 v1 v2 v3).run Tryz.prog w = .ok () w') : (execOp a.eval o).run Tryz.prog w = .ok .skip w' := by
 unfold execOp
 simp only [ho, hx, hy, hz]
 go_simp
theorem range_blk {g o : Nat} {w w' : World} {l : List Value} (h : w.rangeAt g o l) (hb : w'.heap[g]? = w.heap[g]?) : w'.rangeAt g o l := fun j v hv => (World.cell?_of_block hb).trans (h j v hv)
theorem step_skip {P : Program} {ops : Array Oper} {o : Oper} {a : Act} {w w' : World} {K : Act → World → Prop} {Q : Exit → Act → World → Prop} {E : Prop} (hgd : o.guard = none)
  (hrun : (execOp a.eval o).run P w = .ok .skip w') (h : K (a.put o.dst undef) w') : if Region.wanted o (yielded ops a.tmps) = true then Oper.wp P o a w K Q else E := by
 rw [if_pos (by simp [Region.wanted, hgd])]
 unfold Oper.wp
 rw [hrun]
 exact h
theorem pubOfN (b m : Nat) (hm : m < big) (p : Addr) (Y : Array Value) (E : Value) (hY : Y = pubV b m) (hE : E = pubE p m) (w : World) (hG : GlB w) (h7 : 13 ≤ b) (hN : BaseAny w b) (hP : SentP w 1 p) (hpb : p.block ≠ b) :
  Calls Tryz.prog 74 #[.pointer (some ⟨b, 0, none⟩), .agg (bA m)] w fun e w' => e = .returned (.tuple #[.agg Y, E]) ∧ Bex b w w' ∧ BaseAny w' b := by
 rw [hY, hE]; exact publicOfA b m hm p w hG h7 hN hP hpb
section
attribute [local irreducible] num4A nL pA psA psL pL bA bL bpP dcP dcB pubA pubZ pubL baseZ meA ldA
set_option maxRecDepth 100000 in
set_option maxHeartbeats 4000000 in
theorem public_any (g : Nat) (T : TypeId) (kv : Value) (ks : List Nat) (v : Int) (b r m clock : Nat) (l : List (Nat × Nat)) (hm : m < big) (p : Addr) (w : World) (hL : Ld w g T kv ks v b r l clock) (hG : GlB w) (h7 : 13 ≤ b) (_h7r : 13 ≤ r)
  (hP : SentP w 1 p) (hpb : p.block ≠ b) :
  Calls Tryz.prog 134 #[.pointer (some ⟨g, 0, none⟩), .agg (bA m)] w fun e w' => e = .returned (.tuple #[.agg (pubV b m), pubE p m]) ∧ Bx2 b r w w' ∧ ∃ l' clock', Ld w' g T kv ks v b r l' clock' := by
 have hz := zeroPub
 have HL := hide hL
 have HG := hide hG
 have HP := hide hP
 have Hm := hide hm
 have lg := lt_row hL.row
 have lr := lt_row hL.map
 have lb := hL.base.lt
 clear hL hG hP hm
 obtain ⟨X, B, HX⟩ : ∃ X B, Hid ((B = true ∧ X = pubA b m (pofF m) ∧ dcB m = true ∧ ∀ u : World, u.heap[r]? = some (.map (meA b l) clock) → (Instr.lookup 117 (.map (some r)) (.agg (bA m)) true).run Tryz.prog u = .ok (.tuple #[.agg X, .bool B]) u) ∨ (B = false ∧ X = pubZ ∧ (∀ x ∈ l, x.1 ≠ m) ∧ ∀ u : World, u.heap[r]? = some (.map (meA b l) clock) → (Instr.lookup 117 (.map (some r)) (.agg (bA m)) true).run Tryz.prog u = .ok (.tuple #[.agg X, .bool B]) u)) := by
  by_cases c : ∃ x ∈ l, x.1 = m
  ·
   refine ⟨_, _, Or.inl ⟨rfl, rfl, ?_, fun u hu => run_look_yes b m r clock Hm.out l (fun x hx => (HL.out.ent x hx).1) c u hu⟩⟩
   obtain ⟨x, hx, rfl⟩ := c
   exact (HL.out.ent x hx).2
  · refine ⟨_, _, Or.inr ⟨rfl, rfl, fun x hx e => c ⟨x, hx, e⟩, fun u hu => run_look_no b m r clock Hm.out l (fun x hx => (HL.out.ent x hx).1) (fun x hx e => c ⟨x, hx, e⟩) u hu⟩⟩
 have LK : Hid (∀ u : World, u.heap[r]? = some (.map (meA b l) clock) → (Instr.lookup 117 (.map (some r)) (.agg (bA m)) true).run Tryz.prog u = .ok (.tuple #[.agg X, .bool B]) u) := HX.out.elim (fun h => h.2.2.2) (fun h => h.2.2.2)
 have HXs : Hid ((Tryz.prog.info? 153).map (·.size) = some X.size) := by
  show _ = _
  rcases HX.out with ⟨_, rfl, _⟩ | ⟨_, rfl, _⟩
  · exact pubA_size _ _ _
  · exact pubZ_size
 have HXo : Hid (pubZ.size = X.size) := by
  show _ = _
  rcases HX.out with ⟨_, rfl, _⟩ | ⟨_, rfl, _⟩
  · exact pubA_old _ _ _
  · rfl
 have HXa : Hid (X.all (·.oneCell') = true) := by
  show _ = _
  rcases HX.out with ⟨_, rfl, _⟩ | ⟨_, rfl, _⟩
  · exact pubA_all _ _ _
  · exact pubZ_all
 go_enter Tryz.func134, Tryz.ntmps134
 go_upto_region 1 with fail
 obtain ⟨W0, hW0⟩ : ∃ W, W = (w.alloc (.cells (bA m) 62)).alloc (.cells pubZ 153) := ⟨_, rfl⟩
 have RK : Hid (W0.heap[w.heap.size]? = some (.cells (bA m) 62 (0, 0))) := by rw [hW0]; exact (heap_alloc_old _ _ (by simp)).trans (heap_alloc_new _ _)
 have RZ : Hid (W0.heap[w.heap.size + 1]? = some (.cells pubZ 153 (0, 0))) := by rw [hW0]; exact heap_alloc2_new _ _ _
 have B0 : Hid (Below w.heap.size w W0) := by rw [hW0]; show Below _ _ _; go_grown
 rw [← hW0]
 clear hW0
 have L0 := hide (HL.out.step (Bx2.ofB B0.out) (HL.out.base.keep (B0.out.block b lb)) ((B0.out.block r lr).trans HL.out.map) HL.out.ent)
 have lK := lt_row RK.out
 have lZ := lt_row RZ.out
 have C3 : Hid (W0.cell? ⟨g, 3, none⟩ = some (.map (some r))) := by show _ = _; rw [cell_of_row W0 g 3 _ T _ L0.out.row, ldA]; rfl
 have C2 : Hid (W0.cell? ⟨g, 2, none⟩ = some (.pointer (some ⟨b, 0, none⟩))) := by show _ = _; rw [cell_of_row W0 g 2 _ T _ L0.out.row, ldA]; rfl
 have lg0 := lt_row L0.out.row
 have SAT : Hid (∀ V : World, Below W0.heap.size W0 V → V.cell? ⟨g, 3, none⟩ = some (.map (some r)) ∧ V.rangeAt w.heap.size 0 (bL m) ∧ V.heap[r]? = some (.map (meA b l) clock)) := fun _ hB => ⟨(hB.cell lg0).trans C3.out, range_below (rangeB RK.out) hB lK, (hB.block r (lt_row L0.out.map)).trans L0.out.map⟩
 refine wp_region_held_drew (S := fun w' => w'.cell? ⟨g, 3, none⟩ = some (.map (some r)) ∧ w'.rangeAt w.heap.size 0 (bL m) ∧ w'.heap[r]? = some (.map (meA b l) clock)) (by kernel_rfl) (SAT.out _ (Below.refl _ _).drew) (fun hHeld => ?_)
 have KV1 : Hid (Below W0.heap.size W0 W0.drew) := (Below.refl _ _).drew
 obtain ⟨V1, hV1⟩ : ∃ V, V = W0.drew := ⟨_, rfl⟩
 rw [← hV1] at hHeld KV1 ⊢
 clear hV1
 refine wpAnyH_take (i := 0) (oi := ⟨some 11, .move (.tmp 0), 170, "loader.go:90", #[], none⟩) (v := .pointer (some ⟨g, 0, none⟩)) rfl (by kernel_rfl) (by kernel_rfl) (by kernel_rfl) (fun _ _ _ h => h) (Or.inl ⟨by rfl, fun w _ => by go_simp⟩) hHeld ?_
 simp only [zaP, zsT, zsZ, zsS]
 refine wpAnyH_take (i := 1) (oi := ⟨some 12, .nilCheck (.tmp 11), 0, "loader.go:90", #[zeD 0], none⟩) (v := .pointer (some ⟨g, 0, none⟩)) rfl (by kernel_rfl) (by kernel_rfl) (by kernel_rfl) (fun _ _ _ h => h) (Or.inl ⟨by rfl, fun w _ => by go_simp⟩) hHeld ?_
 simp only [zaP, zsT, zsZ, zsS]
 refine wpAnyH_take (i := 2) (oi := ⟨some 13, .fieldAddr 119 (.tmp 12) 3, 0, "loader.go:90", #[zeD 1], none⟩) (v := .pointer (some ⟨g, 3, none⟩)) rfl (by kernel_rfl) (by kernel_rfl) (by kernel_rfl) (fun _ _ _ h => h) (Or.inl ⟨by rfl, fun w _ => by go_simp⟩) hHeld ?_
 simp only [zaP, zsT, zsZ, zsS]
 refine wpAnyH_take (i := 3) (oi := ⟨some 14, .load 117 (.tmp 13), 117, "loader.go:90", #[zeD 2], none⟩) (v := .map (some r)) rfl (by kernel_rfl) (by kernel_rfl) (by kernel_rfl) (fun _ _ _ h => h) (Or.inl ⟨by rfl, fun v h => hrunLoadMap _ rfl _ rfl _ v h.1⟩) hHeld ?_
 simp only [zaP, zsT, zsZ, zsS]
 refine wpAnyH_take (i := 4) (oi := ⟨some 15, .load 62 (.tmp 3), 62, "loader.go:90", #[], none⟩) (v := .agg (bA m)) rfl (by kernel_rfl) (by kernel_rfl) (by kernel_rfl) (fun _ _ _ h => h) (yldCode (by rfl) _ rfl (w.heap.size) 0 m rfl (fun w h => h.2.1)) hHeld ?_
 simp only [zaP, zsT, zsZ, zsS]
 refine wpAnyH_take (i := 5) (oi := ⟨some 16, .lookup 117 (.tmp 14) (.tmp 15) true, 263, "loader.go:90", #[zeD 3, zeD 4], none⟩) (v := .tuple #[.agg X, .bool B]) rfl (by kernel_rfl) (by kernel_rfl) (by kernel_rfl) (fun _ _ _ h => h) (Or.inl ⟨by rfl, fun v h => hrunLook _ _ rfl r (bA m) rfl rfl _ v (LK.out v h.2.2)⟩) hHeld ?_
 simp only [zaP, zsT, zsZ, zsS]
 refine wpAnyH_take (i := 6) (oi := ⟨some 10, .move (.tmp 16), 263, "loader.go:90", #[zeD 5], none⟩) (v := .tuple #[.agg X, .bool B]) rfl (by kernel_rfl) (by kernel_rfl) (by kernel_rfl) (fun _ _ _ h => h) (Or.inl ⟨by rfl, fun w _ => by go_simp⟩) hHeld ?_
 simp only [zaP, zsT, zsZ, zsS]
 refine wpAnyH_take (i := 7) (oi := ⟨some 17, .extract (.tmp 10) 0, 153, "loader.go:90", #[zeD 6], none⟩) (v := .agg X) rfl (by kernel_rfl) (by kernel_rfl) (by kernel_rfl) (fun _ _ _ h => h) (Or.inl ⟨by rfl, fun w _ => by go_simp⟩) hHeld ?_
 simp only [zaP, zsT, zsZ, zsS]
 refine wpAnyH_take (i := 8) (oi := ⟨some 18, .extract (.tmp 10) 1, 4, "loader.go:90", #[zeD 6, ⟨10, .gcOnly .lateStores⟩], none⟩) (v := .bool B) rfl (by kernel_rfl) (by kernel_rfl) (by kernel_rfl) (fun _ _ _ h => h) (Or.inl ⟨by rfl, fun w _ => by go_simp⟩) hHeld ?_
 simp only [zaP, zsT, zsZ, zsS]
 refine wpAnyH_ready (rs := [9]) (by kernel_rfl) (by simp) ?_
 refine AllReadyH.cons (o := ⟨some 6, .alloc 153, 0, "loader.go:90", #[], none⟩) rfl (fun K hK => ?_) AllReadyH.nil
 refine step_runTo (w' := V1.alloc (.cells pubZ 153)) (by rfl) (.pointer (some ⟨V1.heap.size, 0, none⟩)) (hrunAllocPub rfl V1) ?_
 obtain ⟨gg2, hgg2⟩ : ∃ g, g = V1.heap.size := ⟨_, rfl⟩
 have ZN : Hid ((V1.alloc (.cells pubZ 153)).heap[gg2]? = some (.cells pubZ 153 (0, 0))) := by rw [hgg2]; exact heap_alloc_new _ _
 have KV2 : Hid (Below W0.heap.size W0 (V1.alloc (.cells pubZ 153))) := KV1.out.alloc KV1.out.size _
 have GG : Hid (W0.heap.size ≤ gg2) := by rw [hgg2]; exact KV1.out.size
 rw [← hgg2]
 obtain ⟨V2, hV2⟩ : ∃ V, V = V1.alloc (.cells pubZ 153) := ⟨_, rfl⟩
 rw [← hV2] at ZN KV2 ⊢
 clear hV2 hgg2
 refine hK.out _ _ ?_ (fun hHeld => ?_)
 · exact SAT.out _ KV2.out
 clear hK K
 try simp only [zaP, zsT, zsZ, zsS]
 refine wpAnyH_ready (rs := [10]) (by kernel_rfl) (by simp) ?_
 refine AllReadyH.cons (o := ⟨none, .store 153 (.tmp 6) (.tmp 17), 0, "loader.go:90", #[zeD 9, zeD 7, zeP 0, zeP 1, zeP 2, zeP 3, zeP 4, zeP 5, zeP 6, zeP 7, ⟨8, .textOnly .lateStores⟩, zeP 9], none⟩) rfl (fun K hK => ?_) AllReadyH.nil
 refine step_store_row _ (by rfl) 153 (.tmp 6) (.tmp 17) (by rfl) (gg2) (X) (by rfl) (by rfl) 153 _ ZN.out HXs.out HXo.out HXa.out ?_
 rw [put_none']
 refine hK.out _ _ ?_ (fun hHeld => ?_)
 · exact SAT.out _ (below_setRow KV2.out GG.out _)
 clear hK K
 try simp only [zaP, zsT, zsZ, zsS]
 refine wpAnyH_take (i := 11) (oi := ⟨some 7, .assign (.tmp 18), 4, "loader.go:90", #[zeD 8, zeC 10, zeP 0, zeP 1, zeP 2, zeP 3, zeP 4, zeP 5, zeP 6, zeP 7, zeP 8, zeP 9, zeP 10], none⟩) (v := .bool B) rfl (by kernel_rfl) (by kernel_rfl) (by kernel_rfl) (fun _ _ _ h => h) (Or.inl ⟨by rfl, fun w _ => by go_simp⟩) hHeld ?_
 simp only [zaP, zsT, zsZ, zsS]
 refine wpAnyH_done (by kernel_rfl) ?_ _
 have KF : Hid (Below W0.heap.size W0 (V2.setRow gg2 X)) := below_setRow KV2.out GG.out _
 have RX : Hid ((V2.setRow gg2 X).heap[gg2]? = some (.cells X 153 (0, 0))) := setRow_heap _ _ _ _ _ _ ZN.out
 obtain ⟨W1, hW1⟩ : ∃ W, W = V2.setRow gg2 X := ⟨_, rfl⟩
 rw [← hW1] at KF RX ⊢
 clear hW1 ZN
 obtain ⟨g6, hg6⟩ : ∃ q, q = gg2 := ⟨_, rfl⟩
 rw [← hg6] at RX GG ⊢
 clear hg6
 have lg6 := lt_row RX.out
 have RZ1 := hide (row_below RZ.out KF.out lZ)
 have RK1 := hide (row_below RK.out KF.out lK)
 have L1 := hide (L0.out.step (Bx2.ofB KF.out) (L0.out.base.keep (KF.out.block b L0.out.base.lt)) ((KF.out.block r (lt_row L0.out.map)).trans L0.out.map) L0.out.ent)
 have B1 := hide (B0.out.trans (KF.out.mono B0.out.size))
 clear SAT C3 C2 RZ RK L0 B0 LK
 rcases HX.out with ⟨rfl, hX, hd, _⟩ | ⟨rfl, hX, hno, _⟩
 ·
  have EV : Hid (pubV b m = X) := by show _ = _; rw [hX]; unfold pubV; rw [if_pos hd]
  have EE : Hid (pubE p m = .nilIface) := by show _ = _; unfold pubE; rw [if_pos hd]
  clear hX hd
  go_wp2_with (first
   | (refine wpList_load_row (by rfl) 153 (.tmp 6) (by rfl) g6 (by rfl) _ X (0, 0) _ RX.out Tryz.underlying153 rfl HXs.out ?_)
   | (refine wpList_store_row (by rfl) 153 (.tmp 4) (.tmp 20) (by rfl) (w.heap.size + 1) X (by rfl) (by rfl) 153 _ RZ1.out HXs.out HXo.out HXa.out ?_))
  refine bodyPost_ret (v := .tuple #[.agg X, .nilIface]) (results_cell_tmp_row Tryz.results134 _ _ (w.heap.size + 1) 153 _ (0, 0) _ (by rfl) (setRow_heap _ _ _ _ _ _ RZ1.out) Tryz.underlying153 rfl HXs.out) rfl ⟨by rw [EV.out, EE.out], (Bx2.ofB (below_setRow B1.out (by omega) _)), _, _, HL.out.step (Bx2.ofB (below_setRow B1.out (by omega) _)) (HL.out.base.keep ((setRow_other _ _ _ _ (by omega)).trans (B1.out.block b lb))) ((setRow_other _ _ _ _ (by omega)).trans ((B1.out.block r lr).trans HL.out.map)) HL.out.ent⟩
 ·
  clear hX
  have LG := hide (HG.out.keep B1.out)
  have LP := hide (HP.out.below B1.out)
  obtain ⟨Y, EY⟩ : ∃ Y, Hid (Y = pubV b m) := ⟨_, hide rfl⟩
  obtain ⟨E, EE⟩ : ∃ E, Hid (E = pubE p m) := ⟨_, hide rfl⟩
  have HYs : Hid ((Tryz.prog.info? 153).map (·.size) = some Y.size) := by
   show _ = _
   rw [EY.out]; unfold pubV; split
   · exact pubA_size _ _ _
   · exact pubZ_size
  have HYo : Hid (pubZ.size = Y.size) := by
   show _ = _
   rw [EY.out]; unfold pubV; split
   · exact pubA_old _ _ _
   · rfl
  have HYa : Hid (Y.all (·.oneCell') = true) := by
   show _ = _
   rw [EY.out]; unfold pubV; split
   · exact pubA_all _ _ _
   · exact pubZ_all
  have C2 : Hid (W1.cell? ⟨g, 2, none⟩ = some (.pointer (some ⟨b, 0, none⟩))) := by show _ = _; rw [cell_of_row W1 g 2 _ T _ L1.out.row, ldA]; rfl
  have lg1 := lt_row L1.out.row
  have lK1 := lt_row RK1.out
  have gb := HL.out.gb
  have SAT : Hid (∀ V : World, Bex b W1 V → V.cell? ⟨g, 2, none⟩ = some (.pointer (some ⟨b, 0, none⟩)) ∧ V.rangeAt w.heap.size 0 (bL m)) := fun _ hB => ⟨(World.cell?_of_block (hB.block g lg1 gb)).trans C2.out, range_bex (rangeB RK1.out) hB lK1 (by omega)⟩
  go_upto_region 4 with fail
  go_cut [8, 9] from 21 to 29 (fun s8 s9 wx => ∃ g8, s8 = .pointer (some ⟨g8, 0, none⟩) ∧ s9 = E ∧ Hid (W1.heap.size ≤ g8) ∧ Hid (wx.heap[g8]? = some (.cells Y 153 (0, 0))) ∧ Hid (Bex b W1 wx ∧ BaseAny wx b))
  case first =>
   refine wp_region_held_drew (S := fun w' => w'.cell? ⟨g, 2, none⟩ = some (.pointer (some ⟨b, 0, none⟩)) ∧ w'.rangeAt w.heap.size 0 (bL m)) (by kernel_rfl) (SAT.out _ (Bex.of (Below.refl _ _)).drew) (fun hHeld => ?_)
   have KV1 : Hid (Bex b W1 W1.drew ∧ BaseAny W1.drew b) := ⟨(Bex.of (Below.refl _ _)).drew, L1.out.base.keep rfl⟩
   obtain ⟨V1, hV1⟩ : ∃ V, V = W1.drew := ⟨_, rfl⟩
   rw [← hV1] at hHeld KV1 ⊢
   clear hV1
   refine wpAnyH_take (i := 0) (oi := ⟨some 22, .move (.tmp 0), 170, "loader.go:93", #[], none⟩) (v := .pointer (some ⟨g, 0, none⟩)) rfl (by kernel_rfl) (by kernel_rfl) (by kernel_rfl) (fun _ _ _ h => h) (Or.inl ⟨by rfl, fun w _ => by go_simp⟩) hHeld ?_
   simp only [zaP, zsT, zsZ, zsS]
   refine wpAnyH_take (i := 1) (oi := ⟨some 23, .nilCheck (.tmp 22), 0, "loader.go:93", #[zeD 0], none⟩) (v := .pointer (some ⟨g, 0, none⟩)) rfl (by kernel_rfl) (by kernel_rfl) (by kernel_rfl) (fun _ _ _ h => h) (Or.inl ⟨by rfl, fun w _ => by go_simp⟩) hHeld ?_
   simp only [zaP, zsT, zsZ, zsS]
   refine wpAnyH_take (i := 2) (oi := ⟨some 24, .fieldAddr 119 (.tmp 23) 2, 0, "loader.go:93", #[zeD 1], none⟩) (v := .pointer (some ⟨g, 2, none⟩)) rfl (by kernel_rfl) (by kernel_rfl) (by kernel_rfl) (fun _ _ _ h => h) (Or.inl ⟨by rfl, fun w _ => by go_simp⟩) hHeld ?_
   simp only [zaP, zsT, zsZ, zsS]
   refine wpAnyH_take (i := 3) (oi := ⟨some 25, .load 58 (.tmp 24), 58, "loader.go:93", #[zeD 2], none⟩) (v := .pointer (some ⟨b, 0, none⟩)) rfl (by kernel_rfl) (by kernel_rfl) (by kernel_rfl) (fun _ _ _ h => h) (Or.inl ⟨by rfl, fun v h => hrunLoad1 _ rfl _ rfl _ v h.1⟩) hHeld ?_
   simp only [zaP, zsT, zsZ, zsS]
   refine wpAnyH_take (i := 4) (oi := ⟨some 26, .load 62 (.tmp 3), 62, "loader.go:93", #[], none⟩) (v := .agg (bA m)) rfl (by kernel_rfl) (by kernel_rfl) (by kernel_rfl) (fun _ _ _ h => h) (yldCode (by rfl) _ rfl (w.heap.size) 0 m rfl (fun w h => h.2)) hHeld ?_
   simp only [zaP, zsT, zsZ, zsS]
   refine wpAnyH_ready (rs := [5, 9]) (by kernel_rfl) (by simp) ?_
   refine AllReadyH.cons (o := ⟨some 27, .call ⟨.value (.func 74), #[.tmp 25, .tmp 26], #[58, 62]⟩, 154, "loader.go:93", #[zeD 3, zeD 4], none⟩) rfl (fun K hK => ?_) ?_
   ·
    refine step_callTo (by rfl) _ _ (hrunPubOf _ _ rfl (.pointer (some ⟨b, 0, none⟩)) (.agg (bA m)) rfl rfl V1) _ (fun V => Bex b V1 V ∧ BaseAny V b) (pubOfN b m Hm.out p Y E EY.out EE.out V1 (LG.out.keepX KV1.out.1 h7) h7 KV1.out.2 (LP.out.bex KV1.out.1 (by omega) hpb) hpb) (fun V2 HBx => ?_)
    have KV2 : Hid (Bex b W1 V2 ∧ BaseAny V2 b) := ⟨KV1.out.1.trans HBx.1, HBx.2⟩
    clear HBx
    refine hK.out _ _ ?_ (fun hHeld => ?_)
    · exact SAT.out _ KV2.out.1
    clear hK K
    try simp only [zaP, zsT, zsZ, zsS]
    refine wpAnyH_take (i := 6) (oi := oLdPub18) (v := .tuple #[.agg Y, E]) rfl (by kernel_rfl) (by kernel_rfl) (by kernel_rfl) (fun _ _ _ h => h) (Or.inl ⟨by rfl, fun w _ => by go_simp⟩) hHeld ?_
    simp only [zaP, zsT, zsZ, zsS]
    refine wpAnyH_take (i := 7) (oi := oLdPub19) (v := .agg Y) rfl (by kernel_rfl) (by kernel_rfl) (by kernel_rfl) (fun _ _ _ h => h) (Or.inl ⟨by rfl, fun w _ => by go_simp⟩) hHeld ?_
    simp only [zaP, zsT, zsZ, zsS]
    refine wpAnyH_take (i := 8) (oi := oLdPub20) (v := E) rfl (by kernel_rfl) (by kernel_rfl) (by kernel_rfl) (fun _ _ _ h => h) (Or.inl ⟨by rfl, fun w _ => by go_simp⟩) hHeld ?_
    simp only [zaP, zsT, zsZ, zsS]
    refine wpAnyH_ready (rs := [9]) (by kernel_rfl) (by simp) ?_
    refine AllReadyH.cons (o := oLdPub21) rfl (fun K hK => ?_) AllReadyH.nil
    refine step_runTo (w' := V2.alloc (.cells pubZ 153)) (by rfl) (.pointer (some ⟨V2.heap.size, 0, none⟩)) (hrunAllocPub rfl V2) ?_
    obtain ⟨gg3, hgg3⟩ : ∃ g, g = V2.heap.size := ⟨_, rfl⟩
    have ZN : Hid ((V2.alloc (.cells pubZ 153)).heap[gg3]? = some (.cells pubZ 153 (0, 0))) := by rw [hgg3]; exact heap_alloc_new _ _
    have KV3 : Hid (Bex b W1 (V2.alloc (.cells pubZ 153)) ∧ BaseAny (V2.alloc (.cells pubZ 153)) b) := ⟨KV2.out.1.trans (Bex.of ((Below.refl _ _).alloc (Nat.le_refl _) _)), KV2.out.2.keep (heap_alloc_old _ _ KV2.out.2.lt)⟩
    have GG : Hid (W1.heap.size ≤ gg3) := by rw [hgg3]; exact KV2.out.1.size
    rw [← hgg3]
    obtain ⟨V3, hV3⟩ : ∃ V, V = V2.alloc (.cells pubZ 153) := ⟨_, rfl⟩
    rw [← hV3] at ZN KV3 ⊢
    clear hV3 hgg3
    refine hK.out _ _ ?_ (fun hHeld => ?_)
    · exact SAT.out _ KV3.out.1
    clear hK K
    try simp only [zaP, zsT, zsZ, zsS]
    refine wpAnyH_ready (rs := [10]) (by kernel_rfl) (by simp) ?_
    refine AllReadyH.cons (o := oLdPub22) rfl (fun K hK => ?_) AllReadyH.nil
    refine step_store_row _ (by rfl) 153 (.tmp 8) (.tmp 28) (by rfl) (gg3) (Y) (by rfl) (by rfl) 153 _ ZN.out HYs.out HYo.out HYa.out ?_
    rw [put_none']
    refine hK.out _ _ ?_ (fun hHeld => ?_)
    · exact SAT.out _ (KV3.out.1.setRow GG.out _)
    clear hK K
    try simp only [zaP, zsT, zsZ, zsS]
    refine wpAnyH_take (i := 11) (oi := oLdPub23) (v := E) rfl (by kernel_rfl) (by kernel_rfl) (by kernel_rfl) (fun _ _ _ h => h) (Or.inl ⟨by rfl, fun w _ => by go_simp⟩) hHeld ?_
    simp only [zaP, zsT, zsZ, zsS]
    refine wpAnyH_done (by kernel_rfl) ?_ _
    go_wp2_with fail
    go_meet
    case rel => exact ⟨gg3, rfl, rfl, GG, hide (setRow_heap _ _ _ _ _ _ ZN.out), hide ⟨KV3.out.1.setRow GG.out _, KV3.out.2.keep (setRow_other _ _ _ _ (by have := GG.out; omega))⟩⟩
   refine AllReadyH.cons (o := oLdPub21) rfl (fun K hK => ?_) ?_
   ·
    refine step_runTo (w' := V1.alloc (.cells pubZ 153)) (by rfl) (.pointer (some ⟨V1.heap.size, 0, none⟩)) (hrunAllocPub rfl V1) ?_
    obtain ⟨gg5, hgg5⟩ : ∃ g, g = V1.heap.size := ⟨_, rfl⟩
    have ZN : Hid ((V1.alloc (.cells pubZ 153)).heap[gg5]? = some (.cells pubZ 153 (0, 0))) := by rw [hgg5]; exact heap_alloc_new _ _
    have KV5 : Hid (Bex b W1 (V1.alloc (.cells pubZ 153)) ∧ BaseAny (V1.alloc (.cells pubZ 153)) b) := ⟨KV1.out.1.trans (Bex.of ((Below.refl _ _).alloc (Nat.le_refl _) _)), KV1.out.2.keep (heap_alloc_old _ _ KV1.out.2.lt)⟩
    have GG : Hid (W1.heap.size ≤ gg5) := by rw [hgg5]; exact KV1.out.1.size
    rw [← hgg5]
    obtain ⟨V5, hV5⟩ : ∃ V, V = V1.alloc (.cells pubZ 153) := ⟨_, rfl⟩
    rw [← hV5] at ZN KV5 ⊢
    clear hV5 hgg5
    refine hK.out _ _ ?_ (fun hHeld => ?_)
    · exact SAT.out _ KV5.out.1
    clear hK K
    try simp only [zaP, zsT, zsZ, zsS]
    refine wpAnyH_ready (rs := [5]) (by kernel_rfl) (by simp) ?_
    refine AllReadyH.cons (o := ⟨some 27, .call ⟨.value (.func 74), #[.tmp 25, .tmp 26], #[58, 62]⟩, 154, "loader.go:93", #[zeD 3, zeD 4], none⟩) rfl (fun K hK => ?_) AllReadyH.nil
    refine step_callTo (by rfl) _ _ (hrunPubOf _ _ rfl (.pointer (some ⟨b, 0, none⟩)) (.agg (bA m)) rfl rfl V5) _ (fun V => Bex b V5 V ∧ BaseAny V b) (pubOfN b m Hm.out p Y E EY.out EE.out V5 (LG.out.keepX KV5.out.1 h7) h7 KV5.out.2 (LP.out.bex KV5.out.1 (by omega) hpb) hpb) (fun V6 HBx => ?_)
    have KV6 : Hid (Bex b W1 V6 ∧ BaseAny V6 b) := ⟨KV5.out.1.trans HBx.1, HBx.2⟩
    have ZN : Hid (V6.heap[gg5]? = _) := (HBx.1.block _ (lt_row ZN.out) (by have := GG.out; omega)).trans ZN.out
    clear HBx
    refine hK.out _ _ ?_ (fun hHeld => ?_)
    · exact SAT.out _ KV6.out.1
    clear hK K
    try simp only [zaP, zsT, zsZ, zsS]
    refine wpAnyH_take (i := 6) (oi := oLdPub18) (v := .tuple #[.agg Y, E]) rfl (by kernel_rfl) (by kernel_rfl) (by kernel_rfl) (fun _ _ _ h => h) (Or.inl ⟨by rfl, fun w _ => by go_simp⟩) hHeld ?_
    simp only [zaP, zsT, zsZ, zsS]
    refine wpAnyH_take (i := 7) (oi := oLdPub19) (v := .agg Y) rfl (by kernel_rfl) (by kernel_rfl) (by kernel_rfl) (fun _ _ _ h => h) (Or.inl ⟨by rfl, fun w _ => by go_simp⟩) hHeld ?_
    simp only [zaP, zsT, zsZ, zsS]
    refine wpAnyH_take (i := 8) (oi := oLdPub20) (v := E) rfl (by kernel_rfl) (by kernel_rfl) (by kernel_rfl) (fun _ _ _ h => h) (Or.inl ⟨by rfl, fun w _ => by go_simp⟩) hHeld ?_
    simp only [zaP, zsT, zsZ, zsS]
    refine wpAnyH_ready (rs := [10]) (by kernel_rfl) (by simp) ?_
    refine AllReadyH.cons (o := oLdPub22) rfl (fun K hK => ?_) AllReadyH.nil
    refine step_store_row _ (by rfl) 153 (.tmp 8) (.tmp 28) (by rfl) (gg5) (Y) (by rfl) (by rfl) 153 _ ZN.out HYs.out HYo.out HYa.out ?_
    rw [put_none']
    refine hK.out _ _ ?_ (fun hHeld => ?_)
    · exact SAT.out _ (KV6.out.1.setRow GG.out _)
    clear hK K
    try simp only [zaP, zsT, zsZ, zsS]
    refine wpAnyH_take (i := 11) (oi := oLdPub23) (v := E) rfl (by kernel_rfl) (by kernel_rfl) (by kernel_rfl) (fun _ _ _ h => h) (Or.inl ⟨by rfl, fun w _ => by go_simp⟩) hHeld ?_
    simp only [zaP, zsT, zsZ, zsS]
    refine wpAnyH_done (by kernel_rfl) ?_ _
    go_wp2_with fail
    go_meet
    case rel => exact ⟨gg5, rfl, rfl, GG, hide (setRow_heap _ _ _ _ _ _ ZN.out), hide ⟨KV6.out.1.setRow GG.out _, KV6.out.2.keep (setRow_other _ _ _ _ (by have := GG.out; omega))⟩⟩
   exact AllReadyH.nil
  case rest =>
   obtain ⟨g8, rfl, hE9, GE, RY, X2⟩ := hcut
   have hE9' := hE9.symm
   subst hE9'
   obtain ⟨W2, hW2⟩ : ∃ W, W = wc := ⟨_, rfl⟩
   rw [← hW2] at RY X2 ⊢
   clear hW2 SAT C2
   have X02 : Hid (Bex b w W2) := (Bex.of B1.out).trans X2.out.1
   have RZ2 := hide ((X2.out.1.block _ (lt_row RZ1.out) (by omega)).trans RZ1.out)
   have RK2 := hide ((X2.out.1.block _ (lt_row RK1.out) (by omega)).trans RK1.out)
   have br := HL.out.br
   have L2 := hide (HL.out.step (Bx2.of X02.out) X2.out.2 ((X02.out.block r lr (fun e => br e.symm)).trans HL.out.map) HL.out.ent)
   have lz2 := lt_row RZ2.out
   have ly := lt_row RY.out
   by_cases hd : dcB m = true
   case neg =>
    have hY : Y = pubZ := by rw [EY.out]; unfold pubV; rw [if_neg hd]
    obtain ⟨Q, HQ⟩ : ∃ Q, Hid (Q = Value.agg #[.string keyTxt, esI p]) := ⟨_, hide rfl⟩
    have hE : E = .iface 173 Q := by rw [EE.out, HQ.out]; unfold pubE; rw [if_neg hd]; rfl
    rw [hE] at EE ⊢
    clear hE
    have hb0 := builtPub0
    go_wp2_with (first
     | (refine wpList_build_to (by rfl) 153 _ (by rfl) pubZ (by exact hb0) ?_)
     | (refine wpList_store_row (by rfl) 153 (.tmp 4) (.tmp 32) (by rfl) (w.heap.size + 1) pubZ (by rfl) (by rfl) 153 _ RZ2.out pubZ_size rfl pubZ_all ?_))
    refine bodyPost_ret (v := .tuple #[.agg pubZ, .iface 173 Q]) (results_cell_tmp_row Tryz.results134 _ _ (w.heap.size + 1) 153 _ (0, 0) _ (by rfl) (setRow_heap _ _ _ _ _ _ RZ2.out) Tryz.underlying153 rfl pubZ_size) rfl ⟨by rw [← EE.out, ← EY.out, hY], (Bx2.of X02.out).setRow (by omega) _, _, _, HL.out.step ((Bx2.of X02.out).setRow (by omega) _) (X2.out.2.keep (setRow_other _ _ _ _ (by omega))) ((setRow_other _ _ _ _ (by omega)).trans L2.out.map) HL.out.ent⟩
   case pos =>
    have hY : Y = pubA b m (pofF m) := by rw [EY.out]; unfold pubV; rw [if_pos hd]
    have hE : E = .nilIface := by rw [EE.out]; unfold pubE; rw [if_pos hd]
    rw [hE] at EE ⊢
    clear hE
    obtain ⟨F, EF⟩ : ∃ F, Hid (F = pofF m) := ⟨_, hide rfl⟩
    rw [← EF.out] at hY
    rw [hY] at RY HYs HYo HYa
    have C3 : Hid (W2.cell? ⟨g, 3, none⟩ = some (.map (some r))) := by show _ = _; rw [cell_of_row W2 g 3 _ T _ L2.out.row, ldA]; rfl
    have gr := HL.out.gr
    have lr2 := lt_row L2.out.map
    go_upto_region 7 with fail
    refine wp_region_held_drew (S := fun w' => w'.cell? ⟨g, 3, none⟩ = some (.map (some r)) ∧ w'.rangeAt w.heap.size 0 (bL m) ∧ w'.rangeAt g8 0 (pubL b m F)) (by kernel_rfl) ⟨C3.out, rangeB RK2.out, rangePub RY.out⟩ (fun hHeld => ?_)
    obtain ⟨V1, hV1⟩ : ∃ V, V = W2.drew := ⟨_, rfl⟩
    have M1 : Hid (V1.heap[r]? = some (.map (meA b l) clock)) := by rw [hV1]; exact L2.out.map
    have D1 : Hid (Below W2.heap.size W2 V1) := by rw [hV1]; exact (Below.refl _ _).drew
    rw [← hV1] at hHeld ⊢
    clear hV1
    refine wpAnyH_take (i := 0) (oi := ⟨some 34, .move (.tmp 0), 170, "loader.go:97", #[], none⟩) (v := .pointer (some ⟨g, 0, none⟩)) rfl (by kernel_rfl) (by kernel_rfl) (by kernel_rfl) (fun _ _ _ h => h) (Or.inl ⟨by rfl, fun w _ => by go_simp⟩) hHeld ?_
    simp only [zaP, zsT, zsZ, zsS]
    refine wpAnyH_take (i := 1) (oi := ⟨some 35, .nilCheck (.tmp 34), 0, "loader.go:97", #[zeD 0], none⟩) (v := .pointer (some ⟨g, 0, none⟩)) rfl (by kernel_rfl) (by kernel_rfl) (by kernel_rfl) (fun _ _ _ h => h) (Or.inl ⟨by rfl, fun w _ => by go_simp⟩) hHeld ?_
    simp only [zaP, zsT, zsZ, zsS]
    refine wpAnyH_take (i := 2) (oi := ⟨some 36, .fieldAddr 119 (.tmp 35) 3, 0, "loader.go:97", #[zeD 1], none⟩) (v := .pointer (some ⟨g, 3, none⟩)) rfl (by kernel_rfl) (by kernel_rfl) (by kernel_rfl) (fun _ _ _ h => h) (Or.inl ⟨by rfl, fun w _ => by go_simp⟩) hHeld ?_
    simp only [zaP, zsT, zsZ, zsS]
    refine wpAnyH_take (i := 3) (oi := ⟨some 37, .load 117 (.tmp 36), 117, "loader.go:97", #[zeD 2], none⟩) (v := .map (some r)) rfl (by kernel_rfl) (by kernel_rfl) (by kernel_rfl) (fun _ _ _ h => h) (Or.inl ⟨by rfl, fun v h => hrunLoadMap _ rfl _ rfl _ v h.1⟩) hHeld ?_
    simp only [zaP, zsT, zsZ, zsS]
    refine wpAnyH_take (i := 4) (oi := ⟨some 38, .load 62 (.tmp 3), 62, "loader.go:97", #[], none⟩) (v := .agg (bA m)) rfl (by kernel_rfl) (by kernel_rfl) (by kernel_rfl) (fun _ _ _ h => h) (yldCode (by rfl) _ rfl (w.heap.size) 0 m rfl (fun w h => h.2.1)) hHeld ?_
    simp only [zaP, zsT, zsZ, zsS]
    refine wpAnyH_take (i := 5) (oi := ⟨some 39, .load 153 (.tmp 8), 153, "loader.go:97", #[], none⟩) (v := .agg (pubA b m F)) rfl (by kernel_rfl) (by kernel_rfl) (by kernel_rfl) (fun _ _ _ h => h) (yldPub (by rfl) _ rfl g8 0 b m F rfl (fun w h => h.2.2)) hHeld ?_
    simp only [zaP, zsT, zsZ, zsS]
    have HPut := run_put_new b m r clock Hm.out l (fun x hx => (HL.out.ent x hx).1) hno V1 M1.out
    rw [← EF.out] at HPut
    obtain ⟨V2, hV2⟩ : ∃ V : World, V = { V1 with heap := V1.heap.setIfInBounds r (.map (meA b (l ++ [(m, clock)])) (clock + 1)) } := ⟨_, rfl⟩
    rw [← hV2] at HPut
    have X12 : Hid (Bx2 b r W2 V2) := by rw [hV2]; exact (Bx2.ofB D1.out).setObj _
    have M2 : Hid (V2.heap[r]? = some (.map (meA b (l ++ [(m, clock)])) (clock + 1))) := by rw [hV2]; exact Array.getElem?_setIfInBounds_self_of_lt (Nat.lt_of_lt_of_le lr2 D1.out.size)
    have A2 : Hid (BaseAny V2 b) := X2.out.2.keep (by rw [hV2]; show (V1.heap.setIfInBounds r _)[b]? = _; rw [Array.getElem?_setIfInBounds_ne (fun e => br e.symm)]; exact D1.out.block b X2.out.2.lt)
    clear hV2
    refine wpAnyH_ready (rs := [6]) (by kernel_rfl) (by simp) ?_
    refine AllReadyH.cons (o := ⟨none, .mapUpdate 117 (.tmp 37) (.tmp 38) (.tmp 39), 0, "loader.go:97", #[zeD 3, zeD 4, zeD 5, zeP 0, zeP 1, zeP 2, zeP 3, zeP 4, zeP 5], none⟩) rfl (fun K hK => ?_) AllReadyH.nil
    refine step_skip (by rfl) (hrunPut _ _ _ rfl (.map (some r)) (.agg (bA m)) (.agg (pubA b m F)) rfl rfl rfl V1 V2 HPut) ?_
    rw [put_none']
    refine hK.out _ _ ⟨(World.cell?_of_block (X12.out.block g (lt_row L2.out.row) gb gr)).trans C3.out, range_blk (rangeB RK2.out) (X12.out.block _ (lt_row RK2.out) (by omega) (by omega)), range_blk (rangePub RY.out) (X12.out.block _ ly (by have := GE.out; omega) (by have := GE.out; omega))⟩ (fun hHeld => ?_)
    clear hK K HPut
    try simp only [zaP, zsT, zsZ, zsS]
    refine wpAnyH_done (by kernel_rfl) ?_ _
    have RY2 := hide ((X12.out.block _ ly (by have := GE.out; omega) (by have := GE.out; omega)).trans RY.out)
    have RZ3 := hide ((X12.out.block _ lz2 (by omega) (by omega)).trans RZ2.out)
    go_wp2_with (first
     | (refine wpList_load_row (by rfl) 153 (.tmp 8) (by rfl) g8 (by rfl) _ (pubA b m F) (0, 0) _ RY2.out Tryz.underlying153 rfl HYs.out ?_)
     | (refine wpList_store_row (by rfl) 153 (.tmp 4) (.tmp 40) (by rfl) (w.heap.size + 1) (pubA b m F) (by rfl) (by rfl) 153 _ RZ3.out HYs.out HYo.out HYa.out ?_))
    refine bodyPost_ret (v := .tuple #[.agg (pubA b m F), .nilIface]) (results_cell_tmp_row Tryz.results134 _ _ (w.heap.size + 1) 153 _ (0, 0) _ (by rfl) (setRow_heap _ _ _ _ _ _ RZ3.out) Tryz.underlying153 rfl HYs.out) rfl ⟨by rw [← EE.out, ← EY.out, hY], ((Bx2.of X02.out).trans X12.out).setRow (by omega) _, _, _, HL.out.step (((Bx2.of X02.out).trans X12.out).setRow (by omega) _) (A2.out.keep (setRow_other _ _ _ _ (by omega))) ((setRow_other _ _ _ _ (by omega)).trans M2.out) ?_⟩
    intro x hx
    rcases List.mem_append.1 hx with h | h
    · exact HL.out.ent x h
    · rw [List.mem_singleton.1 h]; exact ⟨Hm.out, hd⟩
end
end Go.Proofs.YtccgfabojbjmjaaGreatDoor
