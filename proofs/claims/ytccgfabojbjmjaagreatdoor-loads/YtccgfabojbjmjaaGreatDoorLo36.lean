import Derived.Test.YtccgfabojbjmjaaGreatDoorLo33
import Derived.Test.YtccgfabojbjmjaaGreatDoorLo35
set_option maxRecDepth 100000
set_option maxHeartbeats 8000000
namespace Go.Proofs.YtccgfabojbjmjaaGreatDoor
open Go.RowKit
open Go.RowKit
def jp (w : World) (b : Nat) : Prop := YG w b ∨ ZU w b
theorem jp.keep {w v : World} {b : Nat} (h : jp w b) (hb : v.heap[b]? = w.heap[b]?) : jp v b := h.elim (fun h => Or.inl (h.keep hb)) (fun h => Or.inr (h.keep hb))
theorem jp.lt {w : World} {b : Nat} (h : jp w b) : b < w.heap.size := h.elim (fun h => h.lt) (fun h => h.lt)
theorem qjJ (b : Nat) (w : World) (hG : Qq w) (h7 : 13 ≤ b) (hN : jp w b) :
  Calls Tryz.prog 90 #[zp b 0] w fun e w' => e = .returned (.agg (qP (qR qX) 4)) ∧ qG b w w' ∧ ZU w' b := by
 rcases hN with h | h
 · exact qeh b w hG h7 h
 · exact qdL b w h
theorem qcE (b n : Nat) (w : World) (hG : Qq w) (h7 : 13 ≤ b) (hN : jp w b) :
  Calls Tryz.prog 57 #[zp b 0, .agg (qb n)] w fun e w' => e = .returned (.agg (pA (qV (qR qX) n 64))) ∧ qG b w w' ∧ ZU w' b := by
 rcases hN with h | h
 · exact qf7 b n w hG h7 h
 · exact qfg b n w hG h7 h
section
attribute [local irreducible] qb nL pA qP jb pL bA qX Qh jg
theorem qhk (b m : Nat) (hm : m < 115792089237316195423570985008687907853269984665640564039457584007913129639936) (w : World) (hG : Qq w) (h7 : 13 ≤ b) (hN : jp w b) :
  Calls Tryz.prog 114 #[zp b 0, .agg (bA m)] w fun e w' => e = .returned (.tuple #[.agg (qP (Qj m) 4), .bool (jg m)]) ∧ qG b w w' ∧ jp w' b := by
 have hz := qfT
 have hzp := yK
 have HG := qa hG
 have HN := qa hN
 have lb := hN.lt
 have HM := qa hm
 have heq := qkz m ZJ hm qpa
 clear hG hN hm
 go_enter Tryz.func114, Tryz.ntmps114
 go_upto_region 1 with fail
 generalize hW0 : World.alloc _ _ = W0
 have B0 : Hid (zB w W0) := by rw [← hW0]; show Below _ _ _; go_grown
 have R3 : Hid (qi W0 w.heap.size (bA m) 62) := by rw [← hW0]; exact (zb _ _ (by simp)).trans (za _ _)
 have RZ : Hid (qi W0 (w.heap.size + 1) (qP jH 4) 84) := by rw [← hW0]; exact Zd _ _ _
 clear hW0
 have N0 := qa (HN.o.keep (B0.o.block b lb))
 have G0 := qa (HG.o.keep B0.o)
 obtain ⟨TT, frr, hgc⟩ := G0.o.gc
 have HC := qa hgc
 clear hgc
 by_cases hB : m = ZJ
 ·
  have hd : decide (m = ZJ) = true := zN hB
  rw [hd] at heq
  have HE := qa hB
  clear hd hB
  go_wp2_with (first
   | (refine zL 62 (.tmp 3) w.heap.size (bA m) R3.o ZH (Jp _) ?_)
   | (refine zg (by rfl) 62 (.global 7) (by rfl) 7 (by rfl) TT (bA ZJ) frr _ HC.o ZH rfl (Jp _) ?_))
  refine (qjJ b _ G0.o h7 N0.o).mono ?_
  rintro e W1 ⟨rfl, hX, hD⟩
  have RZ1 : Hid (qi W1 (w.heap.size + 1) (qP jH 4) 84) := (hX.block _ (qh RZ.o) (by omega)).trans RZ.o
  have X1 := qa ((qG.of (b := b) B0.o).trans hX)
  have D1 := qa hD
  clear hX hD
  go_wp2_with (first
   | (refine qB 84 (.tmp 4) (.tmp 12) (w.heap.size + 1) (qP (qR qX) 4) RZ1.o (yO _) (kR _ _ _) (YV _ _) ?_))
  refine zh (v := .tuple #[.agg (qP (qR qX) 4), .bool true]) (jJ Tryz.results114 _ _ (w.heap.size + 1) 84 _ (0, 0) _ (by rfl) (zd _ _ _ _ _ _ RZ1.o) JS rfl (yO _)) rfl ⟨by rw [HE.o, qsJ, qrr], X1.o.setRow (by omega) _, Or.inr (D1.o.keep (zc _ _ _ _ (by omega)))⟩
 ·
  have hd : decide (m = ZJ) = false := zD hB
  rw [hd] at heq
  clear hd hB
  go_wp2_with (first
   | (refine zL 62 (.tmp 3) w.heap.size (bA m) R3.o ZH (Jp _) ?_)
   | (refine zg (by rfl) 62 (.global 7) (by rfl) 7 (by rfl) TT (bA ZJ) frr _ HC.o ZH rfl (Jp _) ?_))
  refine (qkR m HM.o _ G0.o.gl).mono ?_
  rintro e W1 ⟨rfl, hB1⟩
  have RZ1 : Hid (qi W1 (w.heap.size + 1) (qP jH 4) 84) := qk RZ.o hB1
  have B1 := qq B0 hB1
  clear hB1
  obtain ⟨p, Ep⟩ := zx (Qh m)
  obtain ⟨ok, Eok⟩ := zx (jg m)
  rw [← Ep.o, ← Eok.o]
  have Hpo : Hid p.Ok := by rw [Ep.o]; exact ql6 m
  go_upto_region 4 with (first
   | (refine qB 82 (.tmp 6) (.tmp 16) W1.heap.size (pA p) (za _ _) (jO _) (ZK _ _) (QJ _) ?_))
  try rw [qH]
  obtain ⟨g, hg⟩ := zy W1.heap.size
  generalize hW2 : World.setRow _ _ _ = W2
  have lz := qh RZ1.o
  have R6 : Hid (qi W2 g (pA p) 82) := by rw [← hW2, hg]; exact zd _ _ _ _ _ _ (za _ _)
  have RZ2 : Hid (qi W2 (w.heap.size + 1) (qP jH 4) 84) := by rw [← hW2]; exact (zc _ _ _ _ (by omega)).trans ((zb _ _ lz).trans RZ1.o)
  have B2 : Hid (zB w W2) := by rw [← hW2]; exact ze (B1.o.alloc B1.o.size _) B1.o.size _
  rw [← hg]
  clear hW2 hg
  cases ok
  case false =>
   go_wp2_with (first
    | (refine qab (by rfl) 84 _ (by rfl) (qP jH 4) [] (by kernel_rfl) qoM ?_)
    | (refine qB 84 (.tmp 4) (.tmp 20) (w.heap.size + 1) (qP jH 4) RZ2.o (yO _) (kR _ _ _) (YV _ _) ?_))
   refine zh (v := .tuple #[.agg (qP jH 4), .bool false]) (jJ Tryz.results114 _ _ (w.heap.size + 1) 84 _ (0, 0) _ (by rfl) (zd _ _ _ _ _ _ RZ2.o) JS rfl (yO _)) rfl ⟨?_, (qG.of (b := b) B2.o).setRow (by omega) _, HN.o.keep ((zc _ _ _ _ (by omega)).trans (B2.o.block b lb))⟩
   rw [← Eok.o, qqg Eok.o.symm]
  case true =>
   go_wp2_with (first
    | (refine zL 82 (.tmp 6) g (pA p) R6.o Tryz.underlying82 (jO _) ?_))
   refine (qpi p Hpo.o _).mono ?_
   rintro e W3 ⟨rfl, hB3⟩
   have RZ3 : Hid (qi W3 (w.heap.size + 1) (qP jH 4) 84) := qk RZ2.o hB3
   have B3 := qq B2 hB3
   clear hB3
   go_wp2_with (first
    | (refine qB 84 (.tmp 4) (.tmp 22) (w.heap.size + 1) (qP (qR p) 4) RZ3.o (yO _) (kR _ _ _) (YV _ _) ?_))
   refine zh (v := .tuple #[.agg (qP (qR p) 4), .bool true]) (jJ Tryz.results114 _ _ (w.heap.size + 1) 84 _ (0, 0) _ (by rfl) (zd _ _ _ _ _ _ RZ3.o) JS rfl (yO _)) rfl ⟨?_, (qG.of (b := b) B3.o).setRow (by omega) _, HN.o.keep ((zc _ _ _ _ (by omega)).trans (B3.o.block b lb))⟩
   rw [← Eok.o, qeQ Eok.o.symm, ← Ep.o]
end
def Jq (b m : Nat) (f : Nat → Pt) : List Value := zp b 0 :: ((qI m 32).map cv ++ jb f 4)
def jx (b m : Nat) (f : Nat → Pt) : Array Value := (Jq b m f).toArray
def jh : Array Value := (Value.pointer none :: ((qI 0 32).map cv ++ jb jH 4)).toArray
theorem qiz (b m : Nat) (f : Nat → Pt) : (Jq b m f).length = 97 := by simp [Jq, jM, J8]
theorem qiE (b m : Nat) (f : Nat → Pt) : (jx b m f).size = 97 := by simp [jx, qiz]
theorem qhR : jh.size = 97 := by simp [jh, jM, J8]
theorem qgA : (Tryz.prog.info? 153).map (·.size) = some 97 := by kernel_rfl
theorem qbe (b m : Nat) (f : Nat → Pt) : (Tryz.prog.info? 153).map (·.size) = some (jx b m f).size := by rw [qiE]; exact qgA
theorem qaF : (Tryz.prog.info? 153).map (·.size) = some jh.size := by rw [qhR]; exact qgA
theorem qc4 (b m : Nat) (f : Nat → Pt) : jh.size = (jx b m f).size := by rw [qiE, qhR]
theorem qlG (f : Nat → Pt) (n : Nat) : ∀ v ∈ jb f n, v.oneCell' = true := by
 have h := YV f n
 rw [Array.all_eq_true_iff_forall_mem] at h
 intro v hv
 exact h v (by rw [← qtm] at hv; exact Array.mem_toList_iff.1 hv)
theorem qcW (b m : Nat) (f : Nat → Pt) : (jx b m f).all (·.oneCell') = true := by
 refine all_oneCell_toArray ?_
 intro v hv
 unfold Jq at hv
 rcases List.mem_cons.1 hv with rfl | hv
 · rfl
 rcases List.mem_append.1 hv with hv | hv
 · exact qaB _ v hv
 · exact qlG f 4 v hv
theorem qbR : jh.all (·.oneCell') = true := by
 refine all_oneCell_toArray ?_
 intro v hv
 rcases List.mem_cons.1 hv with rfl | hv
 · rfl
 rcases List.mem_append.1 hv with hv | hv
 · exact qaB _ v hv
 · exact qlG jH 4 v hv
theorem qdq (w : World) : (zeroValue 153).run Tryz.prog w = .ok (.agg jh) w := by kernel_rfl
theorem qgb : Tryz.prog.built 153 [] = some jh := by kernel_rfl
theorem qnW (b m : Nat) (f : Nat → Pt) : Tryz.prog.built 153 [(0, zp b 0), (1, .agg (bA m)), (2, .agg (qP f 4))] = some (jx b m f) := by kernel_rfl
theorem qgy (s : ByteArray) (a : Addr) : Tryz.prog.built 173 [(0, .string s), (1, qU a)] = some #[.string s, qU a] := by kernel_rfl
def Ym : ByteArray := ⟨#[116, 104, 101, 32, 107, 101, 121]⟩
theorem qfU {a : Act} {o : Oper} (g : Nat) (ho : o.op = .load 66 (.global g)) (v : Value) (w : World) (h : w.cell? ⟨g, 0, none⟩ = some v) :
  (execOp a.eval o).run Tryz.prog w = .ok (.value v) w := by
 unfold execOp
 simp only [ho]
 go_simp
def ZV (b m : Nat) : Array Value := if jg m = true then jx b m (Qj m) else jh
def ye (p : Addr) (m : Nat) : Value := if jg m = true then .nilIface else qQ Ym (qU p)
section
attribute [local irreducible] qb nL pA qP jb pL bA qX Qh jg jx jh Jq
theorem qmf (b m : Nat) (hm : m < 115792089237316195423570985008687907853269984665640564039457584007913129639936) (p : Addr) (w : World) (hG : Qq w) (h7 : 13 ≤ b) (hN : jp w b) (hP : ZO w 1 p) (hpb : p.block ≠ b) :
  Calls Tryz.prog 74 #[zp b 0, .agg (bA m)] w fun e w' => e = .returned (.tuple #[.agg (ZV b m), ye p m]) ∧ qG b w w' ∧ jp w' b := by
 have hz := qdq
 have hzp := qfT
 have HG := qa hG
 have HN := qa hN
 have lb := hN.lt
 have HM := qa hm
 have HP := qa hP
 clear hG hN hm hP
 go_enter Tryz.func74, Tryz.ntmps74
 go_upto_region 1 with fail
 generalize hW0 : World.alloc _ _ = W0
 have B0 : Hid (zB w W0) := by rw [← hW0]; show Below _ _ _; go_grown
 have R3 : Hid (qi W0 w.heap.size (bA m) 62) := by rw [← hW0]; exact (zb _ _ (by simp)).trans (za _ _)
 have Z4 : Hid (qi W0 (w.heap.size + 1) jh 153) := by rw [← hW0]; exact Zd _ _ _
 clear hW0
 have N0 := qa (HN.o.keep (B0.o.block b lb))
 have G0 := qa (HG.o.keep B0.o)
 have P0 := qa (HP.o.below B0.o)
 clear HN HG
 go_wp2_with (first
  | (refine zL 62 (.tmp 3) w.heap.size (bA m) R3.o ZH (Jp _) ?_))
 refine (qhk b m HM.o W0 G0.o h7 N0.o).mono ?_
 rintro e W1 ⟨rfl, hX, hA⟩
 have X1 := qa ((qG.of (b := b) B0.o).trans hX)
 have A1 := qa hA
 have R3 : Hid (qi W1 w.heap.size (bA m) 62) := (hX.block _ (qh R3.o) (by omega)).trans R3.o
 have Z4 : Hid (qi W1 (w.heap.size + 1) jh 153) := (hX.block _ (qh Z4.o) (by omega)).trans Z4.o
 have P1 := qa (P0.o.bex hX (by omega) hpb)
 clear hX hA N0 G0 P0 B0
 obtain ⟨ok, Eok⟩ := zx (jg m)
 obtain ⟨F, EF⟩ := zx (Qj m)
 rw [← Eok.o, ← EF.o]
 go_upto_region 2 with (first
  | (refine qB 84 (.tmp 6) (.tmp 12) W1.heap.size (qP F 4) (za _ _) (yO _) (kR _ _ _) (YV _ _) ?_))
 try rw [qH]
 obtain ⟨g6, hg6⟩ := zy W1.heap.size
 generalize hW2 : World.setRow _ _ _ = W2
 have lz := qh Z4.o
 have hg46 : w.heap.size + 1 < g6 := by rw [hg6]; exact lz
 have K2 : Hid (zB W1 W2) := by rw [← hW2]; exact ze ((zJ _ _).alloc (zm _) _) (zm _) _
 have R6 : Hid (qi W2 g6 (qP F 4) 84) := by rw [← hW2, hg6]; exact zd _ _ _ _ _ _ (za _ _)
 have R3 := qa (qk R3.o K2.o)
 have Z4 := qa (qk Z4.o K2.o)
 have P2 := qa (P1.o.below K2.o)
 have X2 := qa (X1.o.trans (qG.of K2.o))
 have A2 := qa (A1.o.keep (K2.o.block b A1.o.lt))
 have gp : Hid (1 < w.heap.size) := zX w _ HP.o.c
 rw [← hg6]
 clear hW2 hg6 K2 X1 A1 P1 HP lz
 cases ok
 case false =>
  have hgp := gp.o
  go_upto_region 3 with fail
  refine zM (S := fun w' => w'.cell? ⟨1, 0, none⟩ = some (qU p)) (by kernel_rfl) P2.o.c (fun hHeld => ?_)
  have KV1 : Hid (zB W2 W2.drew) := (zJ _ _).drew
  obtain ⟨V1, hV1⟩ := zy W2.drew
  rw [← hV1] at hHeld KV1 ⊢
  clear hV1
  refine zT 0 ⟨some 16, .build 153 #[], 153, "public.go:23", #[], none⟩ (.agg jh) (Yq (by rfl) _ _ rfl _ _ (by kernel_rfl) qgb) ?_
  simp only [qd]
  refine zT 1 ⟨some 17, .load 66 (.global 1), 66, "public.go:23", #[], none⟩ (qU p) (Or.inl ⟨by rfl, fun v h => qfU _ rfl _ v h⟩) ?_
  simp only [qd]
  refine zT 2 ⟨some 18, .build 173 #[(0, .const (.string { data := #[116, 104, 101, 32, 107, 101, 121] })), (1, .tmp 17)], 173, "public.go:23", #[ql 1], none⟩ (.agg #[.string Ym, qU p]) (Yq (by rfl) _ _ rfl _ _ (by kernel_rfl) (qgy Ym p)) ?_
  simp only [qd]
  refine zT 3 ⟨some 19, .makeInterface 173 (.tmp 18), 66, "public.go:23", #[ql 2, ⟨4, .gcOnly .lateStores⟩], none⟩ (qQ Ym (qU p)) (Or.inl ⟨by rfl, fun w _ => by unfold qQ; go_simp⟩) ?_
  simp only [qd]
  refine zW [4] ?_
  refine zK ⟨none, .store 153 (.tmp 4) (.tmp 16), 0, "public.go:23", #[ql 0, qj 0, ⟨1, .textOnly .lateStores⟩, ⟨2, .textOnly .lateStores⟩, ⟨3, .textOnly .lateStores⟩], none⟩ (fun K hK => ?_) ?_
  ·
   have Z4 := qa (qs Z4.o KV1.o (qh Z4.o))
   refine zQ 153 (.tmp 4) (.tmp 16) ((w.heap.size + 1)) (jh) Z4.o qaF rfl qbR ?_
   rw [qH]
   obtain ⟨V2, hV2⟩ := zy (World.setRow V1 (w.heap.size + 1) (jh))
   have Z4 : Hid (qi V2 (w.heap.size + 1) (jh) 153) := by rw [hV2]; exact zd _ _ _ _ _ _ Z4.o
   have KV2 : Hid (qG b w V2 ∧ jp V2 b) := by rw [hV2]; exact ⟨(X2.o.trans (qG.of KV1.o)).setRow (by omega) _, (A2.o.keep (KV1.o.block b A2.o.lt)).keep (zc _ _ _ _ (by omega))⟩
   have SS : Hid _ := qa ((show (World.setRow _ (w.heap.size + 1) jh).cell? ⟨1, 0, none⟩ = some (qU p) from (zo (zc _ _ _ _ (by show 1 ≠ _; omega))).trans (P2.o.below KV1.o).c))
   rw [← hV2] at SS
   rw [← hV2]
   clear hV2
   refine hK.o _ _ (SS.o) fun hHeld => ?_
   try simp only [qd]
   refine zU 5 ⟨some 5, .assign (.tmp 19), 66, "public.go:23", #[ql 3, qT 4, qj 0, qj 1, qj 2, qj 3, qj 4], none⟩ (qQ Ym (qU p)) ?_
   simp only [qd]
   refine zi (by kernel_rfl) ?_ _
   go_wp2_with fail
   refine zh (v := .tuple #[.agg jh, qQ Ym (qU p)]) (jJ Tryz.results74 _ _ (w.heap.size + 1) 153 _ (0, 0) _ (by rfl) Z4.o Tryz.underlying153 rfl qaF) rfl ⟨?_, KV2.o⟩
   unfold ZV ye
   rw [← Eok.o, if_neg (by decide), if_neg (by decide)]
  exact zu
 case true =>
  go_wp2_with (first
   | (refine zL 62 (.tmp 3) w.heap.size (bA m) R3.o ZH (Jp _) ?_)
   | (refine zL 84 (.tmp 6) g6 (qP F 4) R6.o JS (yO _) ?_)
   | (refine qab (by rfl) 153 _ (by rfl) (jx b m F) [(0, zp b 0), (1, .agg (bA m)), (2, .agg (qP F 4))] (by kernel_rfl) (qnW b m F) ?_)
   | (refine qB 153 (.tmp 4) (.tmp 23) (w.heap.size + 1) (jx b m F) Z4.o (qbe _ _ _) (qc4 _ _ _) (qcW _ _ _) ?_))
  refine zh (v := .tuple #[.agg (jx b m F), .nilIface]) (jJ Tryz.results74 _ _ (w.heap.size + 1) 153 _ (0, 0) _ (by rfl) (zd _ _ _ _ _ _ Z4.o) Tryz.underlying153 rfl (qbe _ _ _)) rfl ⟨?_, X2.o.setRow (by omega) _, A2.o.keep (zc _ _ _ _ (by omega))⟩
  unfold ZV ye
  rw [← Eok.o, if_pos rfl, if_pos rfl, EF.o]
end
end Go.Proofs.YtccgfabojbjmjaaGreatDoor
