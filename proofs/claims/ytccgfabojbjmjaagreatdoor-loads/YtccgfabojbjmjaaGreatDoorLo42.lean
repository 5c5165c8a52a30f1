import Derived.Test.YtccgfabojbjmjaaGreatDoorLo41
set_option maxRecDepth 100000
set_option maxHeartbeats 8000000
namespace Go.Proofs.YtccgfabojbjmjaaGreatDoor
open Go.RowKit
open Go.RowKit
abbrev yaG : Oper := ⟨some 27, .call ⟨.value (.func 74), #[.tmp 25, .tmp 26], #[58, 62]⟩, 154, "loader.go:93", #[ql 3, ql 4], none⟩
abbrev qhT : Oper := ⟨some 21, .move (.tmp 27), 154, "loader.go:93", #[ql 5], none⟩
abbrev qhP : Oper := ⟨some 28, .extract (.tmp 21) 0, 153, "loader.go:93", #[ql 6], none⟩
abbrev qh9 : Oper := ⟨some 29, .extract (.tmp 21) 1, 66, "loader.go:93", #[ql 6, ⟨10, .gcOnly .lateStores⟩], none⟩
abbrev qig : Oper := ⟨some 8, .alloc 153, 0, "loader.go:93", #[], none⟩
abbrev qif : Oper := ⟨none, .store 153 (.tmp 8) (.tmp 28), 0, "loader.go:93", #[ql 9, ql 7, qT 5, qj 0, qj 1, qj 2, qj 3, qj 4, qj 5, qj 6, qj 7, ⟨8, .textOnly .lateStores⟩, qj 9], none⟩
abbrev qiw : Oper := ⟨some 9, .assign (.tmp 29), 66, "loader.go:93", #[ql 8, qT 10, qj 0, qj 1, qj 2, qj 3, qj 4, qj 5, qj 6, qj 7, qj 8, qj 9, qj 10], none⟩
structure jG (b r : Nat) (w w' : World) : Prop where
 os : w'.os = w.os
 tape : w'.tape = w.tape
 output : w'.output = w.output
 size : w.heap.size ≤ w'.heap.size
 block : ∀ k, k < w.heap.size → k ≠ b → k ≠ r → w'.heap[k]? = w.heap[k]?
theorem jG.of {b r : Nat} {w w' : World} (h : qG b w w') : jG b r w w' := ⟨h.os, h.tape, h.output, h.size, fun k hk hb _ => h.block k hk hb⟩
theorem jG.ofB {b r : Nat} {w w' : World} (h : zB w w') : jG b r w w' := jG.of (qG.of h)
theorem jG.trans {b r : Nat} {u v w : World} (h : jG b r u v) (k : jG b r v w) : jG b r u w :=
 ⟨k.os.trans h.os, k.tape.trans h.tape, k.output.trans h.output, Zg h.size k.size, fun j hj hb hr => (k.block j (zl hj h.size) hb hr).trans (h.block j hj hb hr)⟩
theorem jG.setObj {b r : Nat} {w v : World} (h : jG b r w v) (o : Obj) : jG b r w { v with heap := v.heap.setIfInBounds r o } :=
 ⟨h.os, h.tape, h.output, by simpa using h.size, fun k hk hb hr => by show (v.heap.setIfInBounds r o)[k]? = _; rw [Array.getElem?_setIfInBounds_ne (fun e => hr e.symm)]; exact h.block k hk hb hr⟩
theorem jG.setRow {b r : Nat} {w v : World} (h : jG b r w v) {g : Nat} (hg : w.heap.size ≤ g) (cs : Array Value) : jG b r w (v.setRow g cs) := by
 have k : Below w.heap.size v (v.setRow g cs) := ze (zJ _ _) hg _
 exact ⟨k.os.trans h.os, k.tape.trans h.tape, k.output.trans h.output, Zg h.size k.size, fun j hj hb hr => (k.block j hj).trans (h.block j hj hb hr)⟩
theorem Ld.step {w w' : World} {g : Nat} {T : TypeId} {kv : Value} {ks : List Nat} {v : Int} {b r : Nat} {l l' : List (Nat × Nat)} {clock clock' : Nat} (h : Ld w g T kv ks v b r l clock) (hx : jG b r w w') (hb : jp w' b)
  (hm : w'.heap[r]? = some (.map (QG b l') clock')) (he : ∀ x ∈ l', x.1 < ZL ∧ jg x.1 = true) : Ld w' g T kv ks v b r l' clock' where
 row := (hx.block g (qh h.row) h.gb h.gr).trans h.row
 keys := h.keys.kept hx.size (fun q hq => hx.block q (by
  rcases h.keys with ⟨rfl, _⟩ | ⟨q', cap, rfl, _, _, hlt, _⟩
  · cases hq
  ·
   have e : q' = q := by simpa [Value.ownBlock] using hq
   omega) (h.kg q hq).2.1 (h.kg q hq).2.2)
 small := h.small
 base := hb
 map := hm
 ent := he
 v0 := h.v0
 v1 := h.v1
 gb := h.gb
 gr := h.gr
 br := h.br
 kg := h.kg
theorem qaz {a : Act} {o : Oper} (ho : o.op = .alloc 153) (w : World) :
  (execOp a.eval o).run Tryz.prog w = .ok (.value (zp w.heap.size 0)) (w.alloc (.cells jh 153)) := by
 have hz := qdq
 unfold execOp
 simp only [ho]
 go_simp
theorem qdG {a : Act} {o : Oper} (x : Operand) (ho : o.op = .load 117 x) (ad : Addr) (hx : a.eval x = .pointer (some ad)) (v : Value) (w : World) (h : w.cell? ad = some v) :
  (execOp a.eval o).run Tryz.prog w = .ok (.value v) w := by
 unfold execOp
 simp only [ho, hx]
 go_simp
theorem qot {a : Act} {o : Oper} (x y : Operand) (ho : o.op = .lookup 117 x y true) (r : Nat) (K : Array Value) (hx : a.eval x = .map (some r)) (hy : a.eval y = .agg K) (v : Value) (w : World)
  (h : (Instr.lookup 117 (.map (some r)) (.agg K) true).run Tryz.prog w = .ok v w) : (execOp a.eval o).run Tryz.prog w = .ok (.value v) w := by
 unfold execOp
 simp only [ho, hx, hy]
 go_simp
theorem qfJ {a : Act} {o : Oper} (x y : Operand) (ho : o.op = .call { callee := .value (.func 74), args := #[x, y], argTypes := #[58, 62] }) (v1 v2 : Value) (hx : a.eval x = v1) (hy : a.eval y = v2) (w : World) :
  (execOp a.eval o).run Tryz.prog w = .ok (.enter 74 #[v1, v2]) w := by
 unfold execOp
 simp only [ho]
 subst hx hy
 go_simp
theorem qrc {a : Act} {o : Oper} (x y z : Operand) (ho : o.op = .mapUpdate 117 x y z) (v1 v2 v3 : Value) (hx : a.eval x = v1) (hy : a.eval y = v2) (hz : a.eval z = v3) (w w' : World)
  (h : (Instr.mapUpdate 117 v1 v2 v3).run Tryz.prog w = .ok () w') : (execOp a.eval o).run Tryz.prog w = .ok .skip w' := by
 unfold execOp
 simp only [ho, hx, hy, hz]
 go_simp
theorem qdb {g o : Nat} {w w' : World} {l : List Value} (h : w.rangeAt g o l) (hb : w'.heap[g]? = w.heap[g]?) : w'.rangeAt g o l := fun j v hv => (zo hb).trans (h j v hv)
theorem qlD {P : Program} {ops : Array Oper} {o : Oper} {a : Act} {w w' : World} {K : Act → World → Prop} {Q : Exit → Act → World → Prop} {E : Prop} (hgd : o.guard = none)
  (hrun : (execOp a.eval o).run P w = .ok .skip w') (h : K (a.put o.dst undef) w') : if Region.wanted o (yielded ops a.tmps) = true then Oper.wp P o a w K Q else E := by
 rw [if_pos (by simp [Region.wanted, hgd])]
 unfold Oper.wp
 rw [hrun]
 exact h
theorem qpm (b m : Nat) (hm : m < ZL) (p : Addr) (Y : Array Value) (E : Value) (hY : Y = ZV b m) (hE : E = ye p m) (w : World) (hG : Qq w) (h7 : 13 ≤ b) (hN : jp w b) (hP : ZO w 1 p) (hpb : p.block ≠ b) :
  Calls Tryz.prog 74 #[zp b 0, .agg (bA m)] w fun e w' => e = .returned (.tuple #[.agg Y, E]) ∧ qG b w w' ∧ jp w' b := by
 rw [hY, hE]; exact qmf b m hm p w hG h7 hN hP hpb
section
attribute [local irreducible] qb nL pA qP jb pL bA bL qX Qh jg jx jh Jq JC QG ZM
theorem qjq (g : Nat) (T : TypeId) (kv : Value) (ks : List Nat) (v : Int) (b r m clock : Nat) (l : List (Nat × Nat)) (hm : m < ZL) (p : Addr) (w : World) (hL : Ld w g T kv ks v b r l clock) (hG : Qq w) (h7 : 13 ≤ b) (_h7r : 13 ≤ r)
  (hP : ZO w 1 p) (hpb : p.block ≠ b) :
  Calls Tryz.prog 134 #[zp g 0, .agg (bA m)] w fun e w' => e = .returned (.tuple #[.agg (ZV b m), ye p m]) ∧ jG b r w w' ∧ ∃ l' clock', Ld w' g T kv ks v b r l' clock' := by
 have hz := qdq
 have HL := qa hL
 have HG := qa hG
 have HP := qa hP
 have Hm := qa hm
 have lg := qh hL.row
 have lr := qh hL.map
 have lb := hL.base.lt
 clear hL hG hP hm
 obtain ⟨X, B, HX⟩ : ∃ X B, Hid ((B = true ∧ X = jx b m (Qj m) ∧ jg m = true ∧ ∀ u : World, u.heap[r]? = some (.map (QG b l) clock) → (Instr.lookup 117 (.map (some r)) (.agg (bA m)) true).run Tryz.prog u = .ok (.tuple #[.agg X, .bool B]) u) ∨ (B = false ∧ X = jh ∧ (∀ x ∈ l, x.1 ≠ m) ∧ ∀ u : World, u.heap[r]? = some (.map (QG b l) clock) → (Instr.lookup 117 (.map (some r)) (.agg (bA m)) true).run Tryz.prog u = .ok (.tuple #[.agg X, .bool B]) u)) := by
  by_cases c : ∃ x ∈ l, x.1 = m
  ·
   refine ⟨_, _, Or.inl ⟨rfl, rfl, ?_, fun u hu => qgo b m r clock Hm.o l (fun x hx => (HL.o.ent x hx).1) c u hu⟩⟩
   obtain ⟨x, hx, rfl⟩ := c
   exact (HL.o.ent x hx).2
  · refine ⟨_, _, Or.inr ⟨rfl, rfl, fun x hx e => c ⟨x, hx, e⟩, fun u hu => qgV b m r clock Hm.o l (fun x hx => (HL.o.ent x hx).1) (fun x hx e => c ⟨x, hx, e⟩) u hu⟩⟩
 have LK : Hid (∀ u : World, u.heap[r]? = some (.map (QG b l) clock) → (Instr.lookup 117 (.map (some r)) (.agg (bA m)) true).run Tryz.prog u = .ok (.tuple #[.agg X, .bool B]) u) := HX.o.elim (fun h => h.2.2.2) (fun h => h.2.2.2)
 have HXs : Hid ((Tryz.prog.info? 153).map (·.size) = some X.size) := by
  show _ = _
  rcases HX.o with ⟨_, rfl, _⟩ | ⟨_, rfl, _⟩
  · exact qbe _ _ _
  · exact qaF
 have HXo : Hid (jh.size = X.size) := by
  show _ = _
  rcases HX.o with ⟨_, rfl, _⟩ | ⟨_, rfl, _⟩
  · exact qc4 _ _ _
  · rfl
 have HXa : Hid (X.all (·.oneCell') = true) := by
  show _ = _
  rcases HX.o with ⟨_, rfl, _⟩ | ⟨_, rfl, _⟩
  · exact qcW _ _ _
  · exact qbR
 go_enter Tryz.func134, Tryz.ntmps134
 go_upto_region 1 with fail
 obtain ⟨W0, hW0⟩ := zy ((w.alloc (.cells (bA m) 62)).alloc (.cells jh 153))
 have RK : Hid (qi W0 w.heap.size (bA m) 62) := by rw [hW0]; exact (zb _ _ (by simp)).trans (za _ _)
 have RZ : Hid (qi W0 (w.heap.size + 1) jh 153) := by rw [hW0]; exact Zd _ _ _
 have B0 : Hid (zB w W0) := by rw [hW0]; show Below _ _ _; go_grown
 rw [← hW0]
 clear hW0
 have L0 := qa (HL.o.step (jG.ofB B0.o) (HL.o.base.keep (B0.o.block b lb)) ((B0.o.block r lr).trans HL.o.map) HL.o.ent)
 have lK := qh RK.o
 have lZ := qh RZ.o
 have C3 : Hid (W0.cell? ⟨g, 3, none⟩ = some (.map (some r))) := by show _ = _; rw [zj W0 g 3 _ T _ L0.o.row, ZM]; rfl
 have C2 : Hid (W0.cell? ⟨g, 2, none⟩ = some (zp b 0)) := by show _ = _; rw [zj W0 g 2 _ T _ L0.o.row, ZM]; rfl
 have lg0 := qh L0.o.row
 have SAT : Hid (∀ V : World, zB W0 V → V.cell? ⟨g, 3, none⟩ = some (.map (some r)) ∧ V.rangeAt w.heap.size 0 (bL m) ∧ V.heap[r]? = some (.map (QG b l) clock)) := fun _ hB => ⟨(hB.cell lg0).trans C3.o, q8 (yv RK.o) hB lK, (hB.block r (qh L0.o.map)).trans L0.o.map⟩
 refine zM (S := fun w' => w'.cell? ⟨g, 3, none⟩ = some (.map (some r)) ∧ w'.rangeAt w.heap.size 0 (bL m) ∧ w'.heap[r]? = some (.map (QG b l) clock)) (by kernel_rfl) (SAT.o _ (zJ _ _).drew) (fun hHeld => ?_)
 have KV1 : Hid (zB W0 W0.drew) := (zJ _ _).drew
 obtain ⟨V1, hV1⟩ := zy W0.drew
 rw [← hV1] at hHeld KV1 ⊢
 clear hV1
 refine zU 0 ⟨some 11, .move (.tmp 0), 170, "loader.go:90", #[], none⟩ (zp g 0) ?_
 simp only [qd]
 refine zU 1 ⟨some 12, .nilCheck (.tmp 11), 0, "loader.go:90", #[ql 0], none⟩ (zp g 0) ?_
 simp only [qd]
 refine zU 2 ⟨some 13, .fieldAddr 119 (.tmp 12) 3, 0, "loader.go:90", #[ql 1], none⟩ (zp g 3) ?_
 simp only [qd]
 refine zT 3 ⟨some 14, .load 117 (.tmp 13), 117, "loader.go:90", #[ql 2], none⟩ (.map (some r)) (Or.inl ⟨by rfl, fun v h => qdG _ rfl _ rfl _ v h.1⟩) ?_
 simp only [qd]
 refine zT 4 ⟨some 15, .load 62 (.tmp 3), 62, "loader.go:90", #[], none⟩ (.agg (bA m)) (qdY (by rfl) _ rfl (w.heap.size) 0 m rfl (fun w h => h.2.1)) ?_
 simp only [qd]
 refine zT 5 ⟨some 16, .lookup 117 (.tmp 14) (.tmp 15) true, 263, "loader.go:90", #[ql 3, ql 4], none⟩ (.tuple #[.agg X, .bool B]) (Or.inl ⟨by rfl, fun v h => qot _ _ rfl r (bA m) rfl rfl _ v (LK.o v h.2.2)⟩) ?_
 simp only [qd]
 refine zU 6 ⟨some 10, .move (.tmp 16), 263, "loader.go:90", #[ql 5], none⟩ (.tuple #[.agg X, .bool B]) ?_
 simp only [qd]
 refine zU 7 ⟨some 17, .extract (.tmp 10) 0, 153, "loader.go:90", #[ql 6], none⟩ (.agg X) ?_
 simp only [qd]
 refine zU 8 ⟨some 18, .extract (.tmp 10) 1, 4, "loader.go:90", #[ql 6, ⟨10, .gcOnly .lateStores⟩], none⟩ (.bool B) ?_
 simp only [qd]
 refine zR 9 ⟨some 6, .alloc 153, 0, "loader.go:90", #[], none⟩ fun K hK => ?_
 refine zA (qaz rfl V1) ?_
 obtain ⟨gg2, hgg2⟩ := zy V1.heap.size
 have ZN : Hid ((V1.alloc (.cells jh 153)).heap[gg2]? = some (.cells jh 153)) := by rw [hgg2]; exact za _ _
 have KV2 : Hid (zB W0 (V1.alloc (.cells jh 153))) := KV1.o.alloc KV1.o.size _
 have GG : Hid (W0.heap.size ≤ gg2) := by rw [hgg2]; exact KV1.o.size
 rw [← hgg2]
 obtain ⟨V2, hV2⟩ := zy (V1.alloc (.cells jh 153))
 rw [← hV2] at ZN KV2 ⊢
 clear hV2 hgg2
 refine hK.o _ _ (SAT.o _ KV2.o) fun hHeld => ?_
 try simp only [qd]
 refine zR 10 ⟨none, .store 153 (.tmp 6) (.tmp 17), 0, "loader.go:90", #[ql 9, ql 7, qj 0, qj 1, qj 2, qj 3, qj 4, qj 5, qj 6, qj 7, ⟨8, .textOnly .lateStores⟩, qj 9], none⟩ fun K hK => ?_
 refine zQ 153 (.tmp 6) (.tmp 17) (gg2) (X) ZN.o HXs.o HXo.o HXa.o ?_
 rw [qH]
 refine hK.o _ _ (SAT.o _ (ze KV2.o GG.o _)) fun hHeld => ?_
 try simp only [qd]
 refine zU 11 ⟨some 7, .assign (.tmp 18), 4, "loader.go:90", #[ql 8, qT 10, qj 0, qj 1, qj 2, qj 3, qj 4, qj 5, qj 6, qj 7, qj 8, qj 9, qj 10], none⟩ (.bool B) ?_
 simp only [qd]
 refine zi (by kernel_rfl) ?_ _
 have KF : Hid (zB W0 (V2.setRow gg2 X)) := ze KV2.o GG.o _
 have RX : Hid ((V2.setRow gg2 X).heap[gg2]? = some (.cells X 153)) := zd _ _ _ _ _ _ ZN.o
 obtain ⟨W1, hW1⟩ := zy (V2.setRow gg2 X)
 rw [← hW1] at KF RX ⊢
 clear hW1 ZN
 obtain ⟨g6, hg6⟩ := zy gg2
 rw [← hg6] at RX GG ⊢
 clear hg6
 have lg6 := qh RX.o
 have RZ1 := qa (qs RZ.o KF.o lZ)
 have RK1 := qa (qs RK.o KF.o lK)
 have L1 := qa (L0.o.step (jG.ofB KF.o) (L0.o.base.keep (KF.o.block b L0.o.base.lt)) ((KF.o.block r (qh L0.o.map)).trans L0.o.map) L0.o.ent)
 have B1 := qa (B0.o.trans (KF.o.mono B0.o.size))
 clear SAT C3 C2 RZ RK L0 B0 LK
 rcases HX.o with ⟨rfl, hX, hd, _⟩ | ⟨rfl, hX, hno, _⟩
 ·
  have EV : Hid (ZV b m = X) := by show _ = _; rw [hX]; unfold ZV; rw [if_pos hd]
  have EE : Hid (ye p m = .nilIface) := by show _ = _; unfold ye; rw [if_pos hd]
  clear hX hd
  go_wp2_with (first
   | (refine zL 153 (.tmp 6) g6 X RX.o Tryz.underlying153 HXs.o ?_)
   | (refine qB 153 (.tmp 4) (.tmp 20) (w.heap.size + 1) X RZ1.o HXs.o HXo.o HXa.o ?_))
  refine zh (v := .tuple #[.agg X, .nilIface]) (jJ Tryz.results134 _ _ (w.heap.size + 1) 153 _ (0, 0) _ (by rfl) (zd _ _ _ _ _ _ RZ1.o) Tryz.underlying153 rfl HXs.o) rfl ⟨by rw [EV.o, EE.o], (jG.ofB (ze B1.o (by omega) _)), _, _, HL.o.step (jG.ofB (ze B1.o (by omega) _)) (HL.o.base.keep ((zc _ _ _ _ (by omega)).trans (B1.o.block b lb))) ((zc _ _ _ _ (by omega)).trans ((B1.o.block r lr).trans HL.o.map)) HL.o.ent⟩
 ·
  clear hX
  have LG := qa (HG.o.keep B1.o)
  have LP := qa (HP.o.below B1.o)
  obtain ⟨Y, EY⟩ := zx (ZV b m)
  obtain ⟨E, EE⟩ := zx (ye p m)
  have HYs : Hid ((Tryz.prog.info? 153).map (·.size) = some Y.size) := by
   show _ = _
   rw [EY.o]; unfold ZV; split
   · exact qbe _ _ _
   · exact qaF
  have HYo : Hid (jh.size = Y.size) := by
   show _ = _
   rw [EY.o]; unfold ZV; split
   · exact qc4 _ _ _
   · rfl
  have HYa : Hid (Y.all (·.oneCell') = true) := by
   show _ = _
   rw [EY.o]; unfold ZV; split
   · exact qcW _ _ _
   · exact qbR
  have C2 : Hid (W1.cell? ⟨g, 2, none⟩ = some (zp b 0)) := by show _ = _; rw [zj W1 g 2 _ T _ L1.o.row, ZM]; rfl
  have lg1 := qh L1.o.row
  have lK1 := qh RK1.o
  have gb := HL.o.gb
  have SAT : Hid (∀ V : World, qG b W1 V → V.cell? ⟨g, 2, none⟩ = some (zp b 0) ∧ V.rangeAt w.heap.size 0 (bL m)) := fun _ hB => ⟨(zo (hB.block g lg1 gb)).trans C2.o, qcb (yv RK1.o) hB lK1 (by omega)⟩
  go_upto_region 4 with fail
  go_cut [8, 9] from 21 to 29 (fun s8 s9 wx => ∃ g8, s8 = zp g8 0 ∧ s9 = E ∧ Hid (W1.heap.size ≤ g8) ∧ Hid (qi wx g8 Y 153) ∧ Hid (qG b W1 wx ∧ jp wx b))
  case first =>
   refine zM (S := fun w' => w'.cell? ⟨g, 2, none⟩ = some (zp b 0) ∧ w'.rangeAt w.heap.size 0 (bL m)) (by kernel_rfl) (SAT.o _ (qG.of (zJ _ _)).drew) (fun hHeld => ?_)
   have KV1 : Hid (qG b W1 W1.drew ∧ jp W1.drew b) := ⟨(qG.of (zJ _ _)).drew, L1.o.base.keep rfl⟩
   obtain ⟨V1, hV1⟩ := zy W1.drew
   rw [← hV1] at hHeld KV1 ⊢
   clear hV1
   refine zU 0 ⟨some 22, .move (.tmp 0), 170, "loader.go:93", #[], none⟩ (zp g 0) ?_
   simp only [qd]
   refine zU 1 ⟨some 23, .nilCheck (.tmp 22), 0, "loader.go:93", #[ql 0], none⟩ (zp g 0) ?_
   simp only [qd]
   refine zU 2 ⟨some 24, .fieldAddr 119 (.tmp 23) 2, 0, "loader.go:93", #[ql 1], none⟩ (zp g 2) ?_
   simp only [qd]
   refine zT 3 ⟨some 25, .load 58 (.tmp 24), 58, "loader.go:93", #[ql 2], none⟩ (zp b 0) (Or.inl ⟨by rfl, fun v h => qfW _ rfl _ rfl _ v h.1⟩) ?_
   simp only [qd]
   refine zT 4 ⟨some 26, .load 62 (.tmp 3), 62, "loader.go:93", #[], none⟩ (.agg (bA m)) (qdY (by rfl) _ rfl (w.heap.size) 0 m rfl (fun w h => h.2)) ?_
   simp only [qd]
   refine zW [5, 9] ?_
   refine zK yaG (fun K hK => ?_) ?_
   ·
    refine YS (by rfl) _ _ (qfJ _ _ rfl (zp b 0) (.agg (bA m)) rfl rfl V1) _ (fun V => qG b V1 V ∧ jp V b) (qpm b m Hm.o p Y E EY.o EE.o V1 (LG.o.keepX KV1.o.1 h7) h7 KV1.o.2 (LP.o.bex KV1.o.1 (by omega) hpb) hpb) (fun V2 HBx => ?_)
    have KV2 : Hid (qG b W1 V2 ∧ jp V2 b) := ⟨KV1.o.1.trans HBx.1, HBx.2⟩
    clear HBx
    refine hK.o _ _ (SAT.o _ KV2.o.1) fun hHeld => ?_
    try simp only [qd]
    refine zU 6 qhT (.tuple #[.agg Y, E]) ?_
    simp only [qd]
    refine zU 7 qhP (.agg Y) ?_
    simp only [qd]
    refine zU 8 qh9 (E) ?_
    simp only [qd]
    refine zR 9 qig fun K hK => ?_
    refine zA (qaz rfl V2) ?_
    obtain ⟨gg3, hgg3⟩ := zy V2.heap.size
    have ZN : Hid ((V2.alloc (.cells jh 153)).heap[gg3]? = some (.cells jh 153)) := by rw [hgg3]; exact za _ _
    have KV3 : Hid (qG b W1 (V2.alloc (.cells jh 153)) ∧ jp (V2.alloc (.cells jh 153)) b) := ⟨KV2.o.1.trans (qG.of ((zJ _ _).alloc (zm _) _)), KV2.o.2.keep (zb _ _ KV2.o.2.lt)⟩
    have GG : Hid (W1.heap.size ≤ gg3) := by rw [hgg3]; exact KV2.o.1.size
    rw [← hgg3]
    obtain ⟨V3, hV3⟩ := zy (V2.alloc (.cells jh 153))
    rw [← hV3] at ZN KV3 ⊢
    clear hV3 hgg3
    refine hK.o _ _ (SAT.o _ KV3.o.1) fun hHeld => ?_
    try simp only [qd]
    refine zR 10 qif fun K hK => ?_
    refine zQ 153 (.tmp 8) (.tmp 28) (gg3) (Y) ZN.o HYs.o HYo.o HYa.o ?_
    rw [qH]
    refine hK.o _ _ (SAT.o _ (KV3.o.1.setRow GG.o _)) fun hHeld => ?_
    try simp only [qd]
    refine zU 11 qiw (E) ?_
    simp only [qd]
    refine zi (by kernel_rfl) ?_ _
    go_wp2_with fail
    go_meet
    case rel => exact ⟨gg3, rfl, rfl, GG, qa (zd _ _ _ _ _ _ ZN.o), qa ⟨KV3.o.1.setRow GG.o _, KV3.o.2.keep (zc _ _ _ _ (by have := GG.o; omega))⟩⟩
   refine zK qig (fun K hK => ?_) ?_
   ·
    refine zA (qaz rfl V1) ?_
    obtain ⟨gg5, hgg5⟩ := zy V1.heap.size
    have ZN : Hid ((V1.alloc (.cells jh 153)).heap[gg5]? = some (.cells jh 153)) := by rw [hgg5]; exact za _ _
    have KV5 : Hid (qG b W1 (V1.alloc (.cells jh 153)) ∧ jp (V1.alloc (.cells jh 153)) b) := ⟨KV1.o.1.trans (qG.of ((zJ _ _).alloc (zm _) _)), KV1.o.2.keep (zb _ _ KV1.o.2.lt)⟩
    have GG : Hid (W1.heap.size ≤ gg5) := by rw [hgg5]; exact KV1.o.1.size
    rw [← hgg5]
    obtain ⟨V5, hV5⟩ := zy (V1.alloc (.cells jh 153))
    rw [← hV5] at ZN KV5 ⊢
    clear hV5 hgg5
    refine hK.o _ _ (SAT.o _ KV5.o.1) fun hHeld => ?_
    try simp only [qd]
    refine zR 5 yaG fun K hK => ?_
    refine YS (by rfl) _ _ (qfJ _ _ rfl (zp b 0) (.agg (bA m)) rfl rfl V5) _ (fun V => qG b V5 V ∧ jp V b) (qpm b m Hm.o p Y E EY.o EE.o V5 (LG.o.keepX KV5.o.1 h7) h7 KV5.o.2 (LP.o.bex KV5.o.1 (by omega) hpb) hpb) (fun V6 HBx => ?_)
    have KV6 : Hid (qG b W1 V6 ∧ jp V6 b) := ⟨KV5.o.1.trans HBx.1, HBx.2⟩
    have ZN : Hid (V6.heap[gg5]? = _) := (HBx.1.block _ (qh ZN.o) (by have := GG.o; omega)).trans ZN.o
    clear HBx
    refine hK.o _ _ (SAT.o _ KV6.o.1) fun hHeld => ?_
    try simp only [qd]
    refine zU 6 qhT (.tuple #[.agg Y, E]) ?_
    simp only [qd]
    refine zU 7 qhP (.agg Y) ?_
    simp only [qd]
    refine zU 8 qh9 (E) ?_
    simp only [qd]
    refine zR 10 qif fun K hK => ?_
    refine zQ 153 (.tmp 8) (.tmp 28) (gg5) (Y) ZN.o HYs.o HYo.o HYa.o ?_
    rw [qH]
    refine hK.o _ _ (SAT.o _ (KV6.o.1.setRow GG.o _)) fun hHeld => ?_
    try simp only [qd]
    refine zU 11 qiw (E) ?_
    simp only [qd]
    refine zi (by kernel_rfl) ?_ _
    go_wp2_with fail
    go_meet
    case rel => exact ⟨gg5, rfl, rfl, GG, qa (zd _ _ _ _ _ _ ZN.o), qa ⟨KV6.o.1.setRow GG.o _, KV6.o.2.keep (zc _ _ _ _ (by have := GG.o; omega))⟩⟩
   exact zu
  case rest =>
   obtain ⟨g8, rfl, hE9, GE, RY, X2⟩ := hcut
   have hE9' := hE9.symm
   subst hE9'
   obtain ⟨W2, hW2⟩ := zy wc
   rw [← hW2] at RY X2 ⊢
   clear hW2 SAT C2
   have X02 : Hid (qG b w W2) := (qG.of B1.o).trans X2.o.1
   have RZ2 := qa ((X2.o.1.block _ (qh RZ1.o) (by omega)).trans RZ1.o)
   have RK2 := qa ((X2.o.1.block _ (qh RK1.o) (by omega)).trans RK1.o)
   have br := HL.o.br
   have L2 := qa (HL.o.step (jG.of X02.o) X2.o.2 ((X02.o.block r lr (fun e => br e.symm)).trans HL.o.map) HL.o.ent)
   have lz2 := qh RZ2.o
   have ly := qh RY.o
   by_cases hd : jg m = true
   case neg =>
    have hY : Y = jh := by rw [EY.o]; unfold ZV; rw [if_neg hd]
    obtain ⟨Q, HQ⟩ := zx (Value.agg #[.string Ym, qU p])
    have hE : E = .iface 173 Q := by rw [EE.o, HQ.o]; unfold ye; rw [if_neg hd]; rfl
    rw [hE] at EE ⊢
    clear hE
    have hb0 := qgb
    go_wp2_with (first
     | (refine qac (by rfl) 153 _ (by rfl) jh (by exact hb0) ?_)
     | (refine qB 153 (.tmp 4) (.tmp 32) (w.heap.size + 1) jh RZ2.o qaF rfl qbR ?_))
    refine zh (v := .tuple #[.agg jh, .iface 173 Q]) (jJ Tryz.results134 _ _ (w.heap.size + 1) 153 _ (0, 0) _ (by rfl) (zd _ _ _ _ _ _ RZ2.o) Tryz.underlying153 rfl qaF) rfl ⟨by rw [← EE.o, ← EY.o, hY], (jG.of X02.o).setRow (by omega) _, _, _, HL.o.step ((jG.of X02.o).setRow (by omega) _) (X2.o.2.keep (zc _ _ _ _ (by omega))) ((zc _ _ _ _ (by omega)).trans L2.o.map) HL.o.ent⟩
   case pos =>
    have hY : Y = jx b m (Qj m) := by rw [EY.o]; unfold ZV; rw [if_pos hd]
    have hE : E = .nilIface := by rw [EE.o]; unfold ye; rw [if_pos hd]
    rw [hE] at EE ⊢
    clear hE
    obtain ⟨F, EF⟩ := zx (Qj m)
    rw [← EF.o] at hY
    rw [hY] at RY HYs HYo HYa
    have C3 : Hid (W2.cell? ⟨g, 3, none⟩ = some (.map (some r))) := by show _ = _; rw [zj W2 g 3 _ T _ L2.o.row, ZM]; rfl
    have gr := HL.o.gr
    have lr2 := qh L2.o.map
    go_upto_region 7 with fail
    refine zM (S := fun w' => w'.cell? ⟨g, 3, none⟩ = some (.map (some r)) ∧ w'.rangeAt w.heap.size 0 (bL m) ∧ w'.rangeAt g8 0 (Jq b m F)) (by kernel_rfl) ⟨C3.o, yv RK2.o, qhL RY.o⟩ (fun hHeld => ?_)
    obtain ⟨V1, hV1⟩ := zy W2.drew
    have M1 : Hid (V1.heap[r]? = some (.map (QG b l) clock)) := by rw [hV1]; exact L2.o.map
    have D1 : Hid (zB W2 V1) := by rw [hV1]; exact (zJ _ _).drew
    rw [← hV1] at hHeld ⊢
    clear hV1
    refine zU 0 ⟨some 34, .move (.tmp 0), 170, "loader.go:97", #[], none⟩ (zp g 0) ?_
    simp only [qd]
    refine zU 1 ⟨some 35, .nilCheck (.tmp 34), 0, "loader.go:97", #[ql 0], none⟩ (zp g 0) ?_
    simp only [qd]
    refine zU 2 ⟨some 36, .fieldAddr 119 (.tmp 35) 3, 0, "loader.go:97", #[ql 1], none⟩ (zp g 3) ?_
    simp only [qd]
    refine zT 3 ⟨some 37, .load 117 (.tmp 36), 117, "loader.go:97", #[ql 2], none⟩ (.map (some r)) (Or.inl ⟨by rfl, fun v h => qdG _ rfl _ rfl _ v h.1⟩) ?_
    simp only [qd]
    refine zT 4 ⟨some 38, .load 62 (.tmp 3), 62, "loader.go:97", #[], none⟩ (.agg (bA m)) (qdY (by rfl) _ rfl (w.heap.size) 0 m rfl (fun w h => h.2.1)) ?_
    simp only [qd]
    refine zT 5 ⟨some 39, .load 153 (.tmp 8), 153, "loader.go:97", #[], none⟩ (.agg (jx b m F)) (qsd (by rfl) _ rfl g8 0 b m F rfl (fun w h => h.2.2)) ?_
    simp only [qd]
    have HPut := qgw b m r clock Hm.o l (fun x hx => (HL.o.ent x hx).1) hno V1 M1.o
    rw [← EF.o] at HPut
    obtain ⟨V2, hV2⟩ := zy (α := World) ({ V1 with heap := V1.heap.setIfInBounds r (.map (QG b (l ++ [(m, clock)])) (clock + 1)) })
    rw [← hV2] at HPut
    have X12 : Hid (jG b r W2 V2) := by rw [hV2]; exact (jG.ofB D1.o).setObj _
    have M2 : Hid (V2.heap[r]? = some (.map (QG b (l ++ [(m, clock)])) (clock + 1))) := by rw [hV2]; exact Array.getElem?_setIfInBounds_self_of_lt (zl lr2 D1.o.size)
    have A2 : Hid (jp V2 b) := X2.o.2.keep (by rw [hV2]; show (V1.heap.setIfInBounds r _)[b]? = _; rw [Array.getElem?_setIfInBounds_ne (fun e => br e.symm)]; exact D1.o.block b X2.o.2.lt)
    clear hV2
    refine zR 6 ⟨none, .mapUpdate 117 (.tmp 37) (.tmp 38) (.tmp 39), 0, "loader.go:97", #[ql 3, ql 4, ql 5, qj 0, qj 1, qj 2, qj 3, qj 4, qj 5], none⟩ fun K hK => ?_
    refine qlD (by rfl) (qrc _ _ _ rfl (.map (some r)) (.agg (bA m)) (.agg (jx b m F)) rfl rfl rfl V1 V2 HPut) ?_
    rw [qH]
    refine hK.o _ _ ⟨(zo (X12.o.block g (qh L2.o.row) gb gr)).trans C3.o, qdb (yv RK2.o) (X12.o.block _ (qh RK2.o) (by omega) (by omega)), qdb (qhL RY.o) (X12.o.block _ ly (by have := GE.o; omega) (by have := GE.o; omega))⟩ (fun hHeld => ?_)
    clear HPut
    try simp only [qd]
    refine zi (by kernel_rfl) ?_ _
    have RY2 := qa ((X12.o.block _ ly (by have := GE.o; omega) (by have := GE.o; omega)).trans RY.o)
    have RZ3 := qa ((X12.o.block _ lz2 (by omega) (by omega)).trans RZ2.o)
    go_wp2_with (first
     | (refine zL 153 (.tmp 8) g8 (jx b m F) RY2.o Tryz.underlying153 HYs.o ?_)
     | (refine qB 153 (.tmp 4) (.tmp 40) (w.heap.size + 1) (jx b m F) RZ3.o HYs.o HYo.o HYa.o ?_))
    refine zh (v := .tuple #[.agg (jx b m F), .nilIface]) (jJ Tryz.results134 _ _ (w.heap.size + 1) 153 _ (0, 0) _ (by rfl) (zd _ _ _ _ _ _ RZ3.o) Tryz.underlying153 rfl HYs.o) rfl ⟨by rw [← EE.o, ← EY.o, hY], ((jG.of X02.o).trans X12.o).setRow (by omega) _, _, _, HL.o.step (((jG.of X02.o).trans X12.o).setRow (by omega) _) (A2.o.keep (zc _ _ _ _ (by omega))) ((zc _ _ _ _ (by omega)).trans M2.o) ?_⟩
    intro x hx
    rcases List.mem_append.1 hx with h | h
    · exact HL.o.ent x h
    · rw [List.mem_singleton.1 h]; exact ⟨Hm.o, hd⟩
end
noncomputable def ckC (k : Nat) (m : ByteArray) (L : List UInt8) : Int := if jg k = true then (if qC (L.drop 32) < jf then (if Yi k m L = qC (L.take 32) then 0 else 4) else 3) else 2
noncomputable def chC (ks : List Nat) (v : Int) (t : ByteArray) : Int :=
 if (ks.length : Int) ≤ j8 t then 9 else if (QV t : Int) < v then 10 else if jD (bytesOf (ZE t)) = Jc t then ckC (ks.getD (j8 t).toNat 0) (yc t) (Jz t) else 11
noncomputable def Yb (s : ByteArray) : Int :=
 if s.size < 192 then 5 else if s.extract 0 8 = yq then (if bytesOf (s.extract 17 64) = QX then (if QK (s.extract 12 16) 4 = s.size - 192 then 0 else 8) else 7) else 6
noncomputable def Qs (ks : List Nat) (v : Int) (t : ByteArray) : Int := if Yb t = 0 then chC ks v t else Yb t
theorem qbN {a b : ByteArray} (h : bytesOf a = bytesOf b) : a = b := by rw [← Yl a, h, Yl]
structure qqC (t : ByteArray) : Prop where
 size : 192 ≤ t.size
 magic : t.extract 0 8 = yq
 rest : bytesOf (t.extract 17 64) = QX
 len : QK (t.extract 12 16) 4 = t.size - 192
 dig : jD (bytesOf (ZE t)) = Jc t
theorem qqC.mk0 {t : ByteArray} (R : qqC t) : Yb t = 0 := by
 unfold Yb
 rw [if_neg (by have := R.size; omega), if_pos R.magic, if_pos R.rest, if_pos R.len]
theorem qqT (k m g : ByteArray) (hk : k.size = 32) (hg : g.size = 64) : ckC (qC (bytesOf k)) m (bytesOf g) = yp k m g := by
 unfold yp ckC
 rw [if_pos (show k.size = 32 ∧ g.size = 64 from ⟨hk, hg⟩)]
theorem qh0 (s : ByteArray) : 0 ≤ j8 s := J5 _
theorem qtc (keys : List ByteArray) (i : Nat) (h : i < keys.length) : (keys.map fun k => qC (bytesOf k)).getD i 0 = qC (bytesOf (keys.getD i ByteArray.empty)) := by
 simp [zO h]
theorem qmg (keys : List ByteArray) (hk : ∀ k ∈ keys, k.size = 32) (v : Int) (s : ByteArray) (hs : 192 ≤ s.size) :
  chC (keys.map fun k => qC (bytesOf k)) v s = if (keys.length : Int) ≤ j8 s then 9 else if (QV s : Int) < v then 10 else if jD (bytesOf (ZE s)) = Jc s then yp (keys.getD (j8 s).toNat ByteArray.empty) (yc s) (s.extract 128 192) else 11 := by
 unfold chC
 rw [zv]
 by_cases c : (keys.length : Int) ≤ j8 s
 · rw [if_pos c, if_pos c]
 ·
  rw [if_neg c, if_neg c]
  have hi : (j8 s).toNat < keys.length := by have := qh0 s; omega
  rw [qtc keys _ hi]
  have h32 : (keys.getD (j8 s).toNat ByteArray.empty).size = 32 := by
   rw [Za, zO hi]
   exact hk _ (List.getElem_mem hi)
  unfold Jz
  rw [qqT _ _ _ h32 (QS _ _ _ (by omega))]
noncomputable def hdB (v k : Nat) (p : ByteArray) : List UInt8 := bytesOf yq ++ qI v 4 ++ qI p.size 4 ++ [UInt8.ofNat k] ++ QX ++ jD (bytesOf p)
theorem qqt (v k : Nat) (p : ByteArray) : (hdB v k p).length = 128 := by
 unfold hdB
 simp only [Ze, jM, qao, List.length_singleton]
 rfl
theorem jI (A B C : List UInt8) (a k : Nat) (ha : A.length = a) (hk : B.length = k) : ((A ++ (B ++ C)).drop a).take k = B := by
 rw [List.drop_left' ha, List.take_left' hk]
theorem qeo (n : Nat) (h : n < 4294967296) : qC (qI n 4) = n := by
 have : qI n 4 = [Qe n 0, Qe n 1, Qe n 2, Qe n 3] := by simp [qI, List.range_succ]
 rw [this]
 simp only [qC, Ja]
 omega
structure qrd (t : ByteArray) (v k : Nat) (h g p : ByteArray) : Prop where
 r : qqC t
 ev : QV t = v
 ek : j8 t = (k : Int)
 eg : yc t = h
 es : Jz t = bytesOf g
 ex : t.extract 128 192 = g
 ep : ZE t = p
 sz : t.size = 192 + p.size
theorem qrN (t : ByteArray) (v k : Nat) (h g p : ByteArray) (hv : v < 4294967296) (hk : k < 256) (hp : p.size < 4294967296) (eh : bytesOf h = hdB v k p) (hg : g.size = 64) (et : bytesOf t = bytesOf h ++ (bytesOf g ++ bytesOf p)) : qrd t v k h g p := by
 have lg : (bytesOf g).length = 64 := by rw [jY, hg]
 have lh : (bytesOf h).length = 128 := by rw [eh, qqt]
 have sz : t.size = 192 + p.size := by rw [← jY, et, Ze, Ze, lg, lh, jY]; omega
 have lm : (bytesOf yq).length = 8 := rfl
 have l47 : QX.length = 47 := rfl
 have full : bytesOf t = bytesOf yq ++ (qI v 4 ++ (qI p.size 4 ++ ([UInt8.ofNat k] ++ (QX ++ (jD (bytesOf p) ++ (bytesOf g ++ bytesOf p)))))) := by
  rw [et, eh]; unfold hdB; simp only [z9]
 have e0 : bytesOf (t.extract 0 8) = bytesOf yq := by
  rw [Ys, full, List.drop_zero, List.take_left' lm]
 have e1 : bytesOf (t.extract 8 12) = qI v 4 := by
  rw [Ys, full, jI _ _ _ 8 4 lm (jM _ _)]
 have e2 : bytesOf (t.extract 12 16) = qI p.size 4 := by
  rw [Ys, full, ← z9, jI _ _ _ 12 4 (by rw [Ze, lm, jM]) (jM _ _)]
 have e3 : (bytesOf t).getD 16 0 = UInt8.ofNat k := by
  rw [full, ← z9, ← z9, Za, zY (by simp only [Ze, lm, jM]; omega)]
  simp only [Ze, lm, jM]
  rfl
 have e4 : bytesOf (t.extract 17 64) = QX := by
  rw [Ys, full, ← z9, ← z9, ← z9, jI _ _ _ 17 47 (by simp only [Ze, lm, jM, List.length_singleton]) l47]
 have e5 : bytesOf (t.extract 64 128) = jD (bytesOf p) := by
  rw [Ys, full, ← z9, ← z9, ← z9, ← z9, jI _ _ _ 64 64 (by simp only [Ze, lm, jM, List.length_singleton, l47]) (qao _)]
 have e6 : t.extract 0 128 = h := by
  apply qbN
  rw [Ys, et, List.drop_zero, List.take_left' lh]
 have e7 : t.extract 128 192 = g := by
  apply qbN
  rw [Ys, et, jI _ _ _ 128 64 lh lg]
 have e8 : t.extract 192 t.size = p := by
  apply qbN
  rw [Ys, et, ← z9, List.drop_left' (by rw [Ze, lh, lg]), zP]
  rw [jY, sz]; omega
 refine ⟨⟨by omega, qbN e0, e4, ?_, ?_⟩, ?_, ?_, e6, ?_, e7, e8, sz⟩
 ·
  unfold QK
  rw [e2, zP (by rw [jM]; exact zm _), qeo _ hp, sz]
  omega
 ·
  unfold Jc ZE
  rw [e8, e5]
 ·
  unfold QV QK
  rw [e1, zP (by rw [jM]; exact zm _), qeo _ hv]
 ·
  unfold j8
  rw [e3]
  unfold C8
  rw [UInt8.toNat_ofNat', z6 (by omega)]
 ·
  unfold Jz
  rw [e7]
theorem quC {t : ByteArray} {v k : Nat} {h g p : ByteArray} (I : qrd t v k h g p) (keys : List ByteArray) (hk : ∀ x ∈ keys, x.size = 32) (hi : k < keys.length) (m : Int) (hm : m ≤ v) (hl : yp (keys.getD k ByteArray.empty) h g = 0) :
  Qs (keys.map fun k => qC (bytesOf k)) m t = 0 := by
 unfold Qs
 rw [if_pos I.r.mk0, qmg keys hk m t I.r.size, I.ek, if_neg (by omega), I.ev, if_neg (by omega), if_pos I.r.dig, I.eg, I.ex]
 exact hl
end Go.Proofs.YtccgfabojbjmjaaGreatDoor
