import Derived.Test.YtccgfabojbjmjaaGreatDoorPx24
import Derived.Test.YtccgfabojbjmjaaGreatDoorPx25
import Derived.Stop.BytesEq
import Derived.Test.YtccgfabojbjmjaaGreatDoorPx28
namespace Go.Proofs.YtccgfabojbjmjaaGreatDoor
open Go.RowKit
def bcN : Nat := 46316835694926478169428394003475163141307993866256225615783033603165251855960
structure GlB (w : World) : Prop where
 gl : Gl w
 gc : ∃ T fr, w.heap[7]? = some (.cells (bA bcN) T fr)
theorem bcN_lt : bcN < 115792089237316195423570985008687907853269984665640564039457584007913129639936 := by decide
theorem GlB.keep {w w' : World} (h : GlB w) (hb : Below w.heap.size w w') : GlB w' := by
 obtain ⟨t, f, e⟩ := h.gc
 exact ⟨h.gl.keep hb, t, f, row_keep' e hb⟩
theorem GlB.keepB {w w' : World} {B : Nat} (h : GlB w) (hb : Below B w w') (h7 : 13 ≤ B) : GlB w' := by
 obtain ⟨t0, f0, e0⟩ := h.gl.g0
 obtain ⟨t1, f1, e1⟩ := h.gl.g1
 obtain ⟨t3, f3, e3⟩ := h.gl.g3
 obtain ⟨t4, f4, e4⟩ := h.gl.g4
 obtain ⟨t5, f5, e5⟩ := h.gl.g5
 obtain ⟨t, f, e⟩ := h.gc
 exact ⟨⟨⟨t0, f0, row_below e0 hb (by omega)⟩, ⟨t1, f1, row_below e1 hb (by omega)⟩, ⟨t3, f3, row_below e3 hb (by omega)⟩, ⟨t4, f4, row_below e4 hb (by omega)⟩, ⟨t5, f5, row_below e5 hb (by omega)⟩⟩, t, f, row_below e hb (by omega)⟩
def bpP : Pt := dcP bcN
theorem bpP_eq : dcP bcN = bpP := rfl
theorem psA_L (f : Nat → Pt) (n : Nat) : (psA f n).toList = psL f n := rfl
theorem hrunPtPow {a : Act} {o : Oper} (x : Operand) (ho : o.op = .call { callee := .value (.func 137), args := #[x], argTypes := #[82] }) (v1 : Value) (hx : a.eval x = v1) (w : World) :
  (execOp a.eval o).run Tryz.prog w = .ok (.enter 137 #[v1]) w := by
 unfold execOp
 simp only [ho]
 subst hx
 go_simp
theorem there_lt {w : World} {b o n : Nat} (h : w.there b o n) (hn : 0 < n) : b < w.heap.size := by
 obtain ⟨v, hv⟩ := Option.isSome_iff_exists.1 (h 0 hn).1
 exact World.block_lt_of_cell? w _ hv
theorem bpP_ok : bpP.Ok := dcP_ok _
section
attribute [local irreducible] num4A nL pA psA psL pL bA bpP dcP dcB
set_option maxRecDepth 100000 in
set_option maxHeartbeats 4000000 in
theorem onceA (b : Nat) (pl : Addr) (w : World) (hG : GlB w) (hp : w.cell? pl = some (.pointer (some ⟨b, 0, none⟩))) (hb : w.there b 3 64) (hpb : pl.block ≠ b) :
  Calls Tryz.prog 136 #[.pointer (some pl)] w fun e w' => e = .returned (.tuple #[]) ∧ ∃ V, Below w.heap.size w V ∧ w' = V.setCells b 3 (psL (pwN bpP) 4) := by
 have hzp := zeroP
 have HG := hide hG
 have HP := hide hp
 have HT := hide hb
 obtain ⟨TT, frr, hgc⟩ := hG.gc
 have HC := hide hgc
 clear hG hp hb hgc
 go_enter Tryz.func136, Tryz.ntmps136
 go_wp2_with (first
  | (refine wpList_load_row (by rfl) 62 (.global 7) (by rfl) 7 (by rfl) TT (bA bcN) frr _ HC.out underCode rfl (bA_size _) ?_))
 refine (decodeA bcN bcN_lt _ HG.out.gl).mono ?_
 rintro e W1 ⟨rfl, hB⟩
 rw [bpP_eq]
 obtain ⟨ok, Eok⟩ : ∃ o, Hid (o = dcB bcN) := ⟨_, hide rfl⟩
 rw [← Eok.out]
 have lP0 := World.block_lt_of_cell? w _ HP.out
 have lB0 := there_lt HT.out (by decide)
 have FP := hide ((hB.cell lP0).trans HP.out)
 have FT := hide (there_block HT.out (hB.block _ lB0))
 have BL := hide hB
 have hB1 := hB.size
 go_upto_region 1 with (first
  | (refine wpList_store_row (by rfl) 82 (.tmp 1) (.tmp 6) (by rfl) W1.heap.size (pA bpP) (by rfl) (by rfl) 82 _ (heap_alloc_new _ _) (pA_size _) (pA_old _ _) (pA_all _) ?_))
 try rw [put_none']
 obtain ⟨g, hg⟩ : ∃ s, s = W1.heap.size := ⟨_, rfl⟩
 generalize hW2 : World.setRow _ _ _ = W2
 have K2 : Hid (Below W1.heap.size W1 W2) := by rw [← hW2]; exact below_setRow ((Below.refl _ _).alloc (Nat.le_refl _) _) (Nat.le_refl _) _
 have R2 : Hid (W2.heap[g]? = some (.cells (pA bpP) 82 (0, 0))) := by rw [← hW2, hg]; exact setRow_heap _ _ _ _ _ _ (heap_alloc_new _ _)
 have RG := hide (rangePt R2.out)
 have FP := hide ((K2.out.cell (by omega)).trans FP.out)
 have FT := hide (there_block FT.out (K2.out.block _ (by omega)))
 have BL := hide (BL.out.trans (K2.out.mono hB1))
 have lG := lt_row R2.out
 have lP := World.block_lt_of_cell? W2 _ FP.out
 have lB := there_lt FT.out (by decide)
 have lg : b < g := by omega
 rw [← hg]
 clear hW2 hg hB hB1 lP0 lB0 K2 HP HT HC
 refine wp_region_held_drew (S := fun w' => w'.cell? pl = some (.pointer (some ⟨b, 0, none⟩)) ∧ w'.rangeAt g 0 (pL bpP)) (by kernel_rfl) ⟨FP.out, RG.out⟩ (fun hHeld => ?_)
 have KV : Hid (Below W2.heap.size W2 W2.drew) := (Below.refl _ _).drew
 obtain ⟨V1, hV1⟩ : ∃ V, V = W2.drew := ⟨_, rfl⟩
 rw [← hV1] at hHeld KV ⊢
 clear hV1
 refine wpAnyH_take (i := 0) (oi := ⟨some 8, .load 58 (.tmp 0), 58, "base.go:22", #[], none⟩) (v := .pointer (some ⟨b, 0, none⟩)) rfl (by kernel_rfl) (by kernel_rfl) (by kernel_rfl) (fun _ _ _ h => h) (Or.inl ⟨by rfl, fun w h => by have h1 := h.1; go_simp⟩) hHeld ?_
 simp only [zaP, zsT, zsZ, zsS]
 refine wpAnyH_take (i := 1) (oi := ⟨some 9, .load 82 (.tmp 1), 82, "base.go:22", #[], none⟩) (v := .agg (pA bpP)) rfl (by kernel_rfl) (by kernel_rfl) (by kernel_rfl) (fun _ _ _ h => h) (yldP (by rfl) _ rfl g 0 bpP rfl (fun w h => h.2)) hHeld ?_
 simp only [zaP, zsT, zsZ, zsS]
 refine wpAnyH_ready (rs := [2]) (by kernel_rfl) (by simp) ?_
 refine AllReadyH.cons (o := ⟨some 10, .call ⟨.value (.func 137), #[.tmp 9], #[82]⟩, 84, "base.go:22", #[zeD 1], none⟩) rfl (fun K hK => ?_) AllReadyH.nil
 refine step_callTo (by rfl) _ _ (hrunPtPow _ rfl (.agg (pA bpP)) rfl V1) _ _ (ptPowA bpP bpP_ok V1) (fun V2 HBx => ?_)
 have KV2 := kTr KV HBx
 clear HBx KV
 have FP2 : V2.cell? pl = some (.pointer (some ⟨b, 0, none⟩)) := (KV2.out.cell lP).trans FP.out
 refine hK.out _ _ ⟨FP2, range_below RG.out KV2.out lG⟩ (fun hHeld => ?_)
 clear hK K
 try simp only [zaP, zsT, zsZ, zsS]
 refine wpAnyH_take (i := 3) (oi := ⟨some 11, .nilCheck (.tmp 8), 0, "base.go:22", #[zeD 0, zeP 0, zeP 1, zeP 2], none⟩) (v := .pointer (some ⟨b, 0, none⟩)) rfl (by kernel_rfl) (by kernel_rfl) (by kernel_rfl) (fun _ _ _ h => h) (Or.inl ⟨by rfl, fun w _ => by go_simp⟩) hHeld ?_
 simp only [zaP, zsT, zsZ, zsS]
 refine wpAnyH_take (i := 4) (oi := ⟨some 12, .fieldAddr 86 (.tmp 11) 1, 0, "base.go:22", #[zeD 3, zeP 0, zeP 1, zeP 2], none⟩) (v := .pointer (some ⟨b, 3, none⟩)) rfl (by kernel_rfl) (by kernel_rfl) (by kernel_rfl) (fun _ _ _ h => h) (Or.inl ⟨by rfl, fun w _ => by go_simp⟩) hHeld ?_
 simp only [zaP, zsT, zsZ, zsS]
 refine wpAnyH_ready (rs := [5]) (by kernel_rfl) (by simp) ?_
 refine AllReadyH.cons (o := ⟨none, .store 84 (.tmp 12) (.tmp 10), 0, "base.go:22", #[zeD 4, zeD 2, zeC 2, zeP 0, zeP 1, zeP 2], none⟩) rfl (fun K hK => ?_) AllReadyH.nil
 have TH : V2.there b 3 (psA (pwN bpP) 4).size := by rw [psA_len]; exact there_block FT.out (KV2.out.block _ lB)
 refine step_store_mid (by rfl) 84 (.tmp 12) (.tmp 10) (by rfl) b 3 (psA (pwN bpP) 4) (by rfl) (by rfl) TH (sizePw _) (psA_all _ _) ?_
 rw [put_none', psA_L]
 refine hK.out _ _ ⟨?_, World.rangeAt_setCells_apart (range_below RG.out KV2.out lG) _ _ _ (Or.inl (by omega))⟩ (fun _ => ?_)
 · rw [World.cell?_of_block (heap_setCells b _ _ _ _ hpb)]; exact FP2
 clear hK K
 try simp only [zaP, zsT, zsZ, zsS]
 refine wpAnyH_done (by kernel_rfl) ?_ _
 go_wp2_with fail
 go_end0
 exact ⟨rfl, V2, BL.out.trans (KV2.out.mono BL.out.size), rfl⟩
end
structure Bex (b : Nat) (w w' : World) : Prop where
 os : w'.os = w.os
 tape : w'.tape = w.tape
 output : w'.output = w.output
 size : w.heap.size ≤ w'.heap.size
 block : ∀ k, k < w.heap.size → k ≠ b → w'.heap[k]? = w.heap[k]?
theorem Bex.of {b : Nat} {w w' : World} (h : Below w.heap.size w w') : Bex b w w' := ⟨h.os, h.tape, h.output, h.size, fun k hk _ => h.block k hk⟩
theorem Bex.trans {b : Nat} {u v w : World} (h : Bex b u v) (k : Bex b v w) : Bex b u w :=
 ⟨k.os.trans h.os, k.tape.trans h.tape, k.output.trans h.output, Nat.le_trans h.size k.size, fun i hi hn => (k.block i (Nat.lt_of_lt_of_le hi h.size) hn).trans (h.block i hi hn)⟩
theorem Bex.setCell {b : Nat} {w v : World} (h : Bex b w v) (i : Nat) (u : Value) : Bex b w (v.setCell ⟨b, i, none⟩ u) := by
 have k := (Below.refl 0 v).setCell (p := ⟨b, i, none⟩) (Nat.zero_le _) u
 exact h.trans ⟨k.os, k.tape, k.output, k.size, fun j _ hn => Below.heap_setCell v _ u j hn⟩
theorem Bex.setCells {b : Nat} {w v : World} (h : Bex b w v) (o : Nat) (vs : List Value) : Bex b w (v.setCells b o vs) := by
 have k := below_setCells (Nat.zero_le b) vs o v (Below.refl 0 v)
 exact h.trans ⟨k.os, k.tape, k.output, k.size, fun j _ hn => heap_setCells b vs o v j hn⟩
theorem Bex.drew {b : Nat} {w v : World} (h : Bex b w v) : Bex b w v.drew := ⟨h.os, h.tape, h.output, h.size, h.block⟩
theorem Bex.below {b : Nat} {w v : World} (h : Bex b w v) (hb : b ≤ w.heap.size) : Below b w v := ⟨h.os, h.tape, h.output, h.size, fun k hk => h.block k (by omega) (by omega)⟩
structure BaseNew (w : World) (b : Nat) : Prop where
 c0 : w.cell? ⟨b, 0, none⟩ = some (.int .u32 0)
 c1 : w.cell? ⟨b, 1, none⟩ = some (.int .i32 0)
 f0 : w.frozen? ⟨b, 0, none⟩ = false
 f1 : w.frozen? ⟨b, 1, none⟩ = false
 th : w.there b 3 64
structure BaseDone (w : World) (b : Nat) : Prop where
 c0 : w.cell? ⟨b, 0, none⟩ = some (.int .u32 1)
 rd : w.rangeAt b 3 (psL (pwN bpP) 4)
theorem BaseNew.keep {w v : World} {b : Nat} (h : BaseNew w b) (hb : v.heap[b]? = w.heap[b]?) : BaseNew v b :=
 ⟨(World.cell?_of_block hb).trans h.c0, (World.cell?_of_block hb).trans h.c1, (World.frozen?_of_block hb).trans h.f0, (World.frozen?_of_block hb).trans h.f1, there_block h.th hb⟩
theorem BaseDone.keep {w v : World} {b : Nat} (h : BaseDone w b) (hb : v.heap[b]? = w.heap[b]?) : BaseDone v b :=
 ⟨(World.cell?_of_block hb).trans h.c0, fun j x hx => (World.cell?_of_block hb).trans (h.rd j x hx)⟩
theorem BaseNew.lt {w : World} {b : Nat} (h : BaseNew w b) : b < w.heap.size := World.block_lt_of_cell? w _ h.c0
theorem BaseDone.lt {w : World} {b : Nat} (h : BaseDone w b) : b < w.heap.size := World.block_lt_of_cell? w _ h.c0
theorem do_new (b : Nat) (pl : Addr) (w : World) (hG : GlB w) (h7 : 13 ≤ b) (hN : BaseNew w b) (hp : w.cell? pl = some (.pointer (some ⟨b, 0, none⟩))) (hpb : pl.block ≠ b) :
  Calls Tryz.prog 135 #[.pointer (some ⟨b, 0, none⟩), .func (.func 136) #[] #[.pointer (some pl)]] w fun e w' => e = .returned (.tuple #[]) ∧ Bex b w w' ∧ BaseDone w' b := by
 have hlb := hN.lt
 have B1 : Below b w (w.setCell ⟨b, 1, none⟩ (.int .i32 1)) := (Below.refl b w).setCell (p := ⟨b, 1, none⟩) (Nat.le_refl _) _
 have th1 : (w.setCell ⟨b, 1, none⟩ (.int .i32 1)).there b 3 64 := World.there_setCells (n := 64) hN.th b 1 [.int .i32 1]
 have z1 : (w.setCell ⟨b, 1, none⟩ (.int .i32 1)).frozen? ⟨b, 0, none⟩ = false := by
  rw [World.frozen?_setCell]; exact hN.f0
 have z2 : (w.setCell ⟨b, 1, none⟩ (.int .i32 1)).frozen? ⟨b, 1, none⟩ = false := by
  rw [World.frozen?_setCell]; exact hN.f1
 have sz : (w.setCell ⟨b, 1, none⟩ (.int .i32 1)).heap.size = w.heap.size := by simp
 have hcl := onceA b pl (w.setCell ⟨b, 1, none⟩ (.int .i32 1)) (hG.keepB B1 h7) ((World.cell?_setCell_other _ _ _ _ (fun h => hpb (by rw [← h]))).trans hp) th1 hpb
 refine (do_first b pl w _ hN.c0 hN.c1 hN.f1 hcl ?_).mono ?_
 ·
  rintro v ⟨V, hV, rfl⟩
  have hb : V.heap[b]? = (w.setCell ⟨b, 1, none⟩ (.int .i32 1)).heap[b]? := hV.block b (by rw [sz]; exact hlb)
  refine ⟨?_, ?_, ?_, ?_⟩
  · rw [World.cell?_setCells_out b _ 3 V ⟨b, 0, none⟩ (fun _ _ => Or.inl (show 0 < 3 by decide)), World.cell?_of_block hb, World.cell?_setCell_other _ _ _ _ (by simp)]; exact hN.c0
  · rw [World.cell?_setCells_out b _ 3 V ⟨b, 1, none⟩ (fun _ _ => Or.inl (show 1 < 3 by decide)), World.cell?_of_block hb]; exact World.cell?_setCell_same _ _ _ hN.c1
  · rw [World.frozen?_setCells, World.frozen?_of_block hb]; exact z1
  · rw [World.frozen?_setCells, World.frozen?_of_block hb]; exact z2
 ·
  rintro e w' ⟨rfl, v, ⟨V, hV, rfl⟩, rfl⟩
  have hb : V.heap[b]? = (w.setCell ⟨b, 1, none⟩ (.int .i32 1)).heap[b]? := hV.block b (by rw [sz]; exact hlb)
  have thV : V.there b 3 64 := there_block th1 hb
  have c0 : (V.setCells b 3 (psL (pwN bpP) 4)).drew.cell? ⟨b, 0, none⟩ = some (.int .u32 0) := by
   rw [World.cell?_drew, World.cell?_setCells_out b _ 3 V ⟨b, 0, none⟩ (fun _ _ => Or.inl (show 0 < 3 by decide)), World.cell?_of_block hb, World.cell?_setCell_other _ _ _ _ (by simp)]; exact hN.c0
  refine ⟨rfl, ?_, ?_, ?_⟩
  · exact ((((((Bex.of (Below.refl _ w)).setCell 1 (.int .i32 1)).trans (Bex.of hV)).setCells 3 _).drew).setCell 0 _).setCell 1 _
  ·
   rw [World.cell?_setCell_other _ _ _ _ (by simp)]
   exact World.cell?_setCell_same _ _ _ c0
  ·
   intro j x hx
   rw [World.cell?_setCell_other _ _ _ _ (by simp), World.cell?_setCell_other _ _ _ _ (by simp), World.cell?_drew]
   · exact World.rangeAt_setCells_same V b 3 _ (by rw [psL_len]; exact thV) j x hx
   all_goals omega
theorem eqCode (m n : Nat) (hm : m < 115792089237316195423570985008687907853269984665640564039457584007913129639936) (hn : n < 115792089237316195423570985008687907853269984665640564039457584007913129639936) (w : World) :
  (Op.equalIn 10000 62 (.agg (bA m)) (.agg (bA n))).run Tryz.prog w = .ok (decide (m = n)) w := by
 have hsz : ∀ w, (sizeOf 5).run Tryz.prog w = .ok 1 w := by
  intro w
  cases hq : Tryz.prog.info? 5 with
  | none => have := sizeOf8; rw [hq] at this; cases this
  | some inf =>
   have hi : inf.size = 1 := by have := sizeOf8; rw [hq] at this; simpa using this
   simp [sizeOf, typeInfo, hq, hi]
 have e := run_equalIn_bytes (P := Tryz.prog) w 9998 62 5 32 (by kernel_rfl) under8' hsz (leB m 32) (leB n 32) (leB_length _ _) (leB_length _ _)
 have k : (leB m 32 == leB n 32) = decide (m = n) := by
  by_cases h : m = n
  · subst h; simp
  ·
   rw [decide_eq_false h, beq_eq_false_iff_ne]
   intro h2
   apply h
   have h3 : valLE (leB m 32) = valLE (leB n 32) := by rw [h2]
   rw [valLE_leB m hm, valLE_leB n hn] at h3
   exact h3
 rw [← k]
 exact e
section
attribute [local irreducible] num4A nL pA psA psL pL bA bpP dcP dcB
set_option maxRecDepth 100000 in
set_option maxHeartbeats 4000000 in
theorem basePowNew (b : Nat) (w : World) (hG : GlB w) (h7 : 13 ≤ b) (hN : BaseNew w b) :
  Calls Tryz.prog 90 #[.pointer (some ⟨b, 0, none⟩)] w fun e w' => e = .returned (.agg (psA (pwN bpP) 4)) ∧ Bex b w w' ∧ BaseDone w' b := by
 have hz := zeroPw
 have hmf : ∀ (fn : Fn) (first cap : Array Value) (w : World), (Instr.makeFunc fn first cap).run Tryz.prog w = .ok (.func fn first cap) w := fun _ _ _ _ => rfl
 have HG := hide hG
 have HN := hide hN
 have lb := hN.lt
 clear hG hN
 go_enter Tryz.func90, Tryz.ntmps90
 go_upto_region 1 with fail
 generalize hW0 : World.alloc _ _ = W0
 have B0 : Hid (Below w.heap.size w W0) := by rw [← hW0]; show Below _ _ _; go_grown
 have RZ : Hid (W0.heap[w.heap.size + 1]? = some (.cells (psA noPt 4) 84 (0, 0))) := by rw [← hW0]; exact heap_alloc2_new _ _ _
 have CP : W0.cell? ⟨w.heap.size, 0, none⟩ = some (.pointer (some ⟨b, 0, none⟩)) := by rw [← hW0]; simp
 clear hW0
 have N0 := hide (HN.out.keep (B0.out.block b lb))
 have G0 := hide (HG.out.keep B0.out)
 go_wp2_with fail
 refine (do_new b ⟨w.heap.size, 0, none⟩ W0 G0.out h7 N0.out CP (by show w.heap.size ≠ b; omega)).mono ?_
 rintro e W1 ⟨rfl, hX, hD⟩
 have HX := hide hX
 have HD := hide hD
 have lz := lt_row RZ.out
 have CP1 : W1.cell? ⟨w.heap.size, 0, none⟩ = some (.pointer (some ⟨b, 0, none⟩)) := (World.cell?_of_block (hX.block _ (by show w.heap.size < _; omega) (by show w.heap.size ≠ b; omega))).trans CP
 have RZ1 : Hid (W1.heap[w.heap.size + 1]? = some (.cells (psA noPt 4) 84 (0, 0))) := (hX.block _ lz (by omega)).trans RZ.out
 clear hX hD CP
 go_wp2_with (first
  | (refine wpList_load_mid (by rfl) 84 (.tmp 10) (by rfl) b 3 (by rfl) (psL (pwN bpP) 4) _ HD.out.rd underPw4 rfl (sizePwL _) ?_)
  | (refine wpList_store_row (by rfl) 84 (.tmp 2) (.tmp 11) (by rfl) (w.heap.size + 1) (psL (pwN bpP) 4).toArray (by rfl) (by rfl) 84 _ RZ1.out (psLa_size _) (psLa_old _ _) (psLa_all _ _) ?_))
 have L2 : Below w.heap.size W1 (W1.setRow (w.heap.size + 1) (psL (pwN bpP) 4).toArray) := below_setRow (Below.refl _ _) (by omega) _
 have X2 : Bex b w (W1.setRow (w.heap.size + 1) (psL (pwN bpP) 4).toArray) := by
  have x := (Bex.of (b := b) B0.out).trans HX.out
  exact ⟨L2.os.trans x.os, L2.tape.trans x.tape, L2.output.trans x.output, Nat.le_trans x.size L2.size, fun k hk hn => (L2.block k hk).trans (x.block k hk hn)⟩
 refine bodyPost_ret (v := .agg (psL (pwN bpP) 4).toArray) (results_cell_row Tryz.results90 _ _ (w.heap.size + 1) 84 _ (0, 0) _ (by rfl) (setRow_heap _ _ _ _ _ _ RZ1.out) underPw4 rfl (psLa_size _)) rfl ⟨by rw [psA_eq], X2, HD.out.keep (L2.block b lb)⟩
end
theorem dcB_B : dcB bcN = true := by decide +kernel
def pofF (m : Nat) : Nat → Pt := if dcB m = true then pwN (dcP m) else noPt
theorem pofF_B : pofF bcN = pwN bpP := by unfold pofF; rw [if_pos dcB_B]; rfl
theorem pofF_ok (m : Nat) (h : dcB m = true) (i : Nat) (_ : i < 4) : (pofF m i).Ok := by
 unfold pofF; rw [if_pos h]; exact dblN_ok (dcP_ok m) _
theorem pofF_no {m : Nat} (h : dcB m = false) : pofF m = noPt := by unfold pofF; rw [if_neg (by rw [h]; decide)]
theorem pofF_yes {m : Nat} (h : dcB m = true) : pofF m = pwN (dcP m) := by unfold pofF; rw [if_pos h]
theorem builtPw0 : Tryz.prog.built 84 [] = some (psA noPt 4) := by kernel_rfl
theorem Bex.setRow {b : Nat} {w v : World} (h : Bex b w v) {g : Nat} (hg : w.heap.size ≤ g) (cs : Array Value) : Bex b w (v.setRow g cs) := by
 have l : Below w.heap.size v (v.setRow g cs) := below_setRow (Below.refl _ _) hg _
 exact ⟨l.os.trans h.os, l.tape.trans h.tape, l.output.trans h.output, Nat.le_trans h.size l.size, fun k hk hn => (l.block k hk).trans (h.block k hk hn)⟩
def bL (n : Nat) : List Value := (leB n 32).map cv
theorem bA_def (n : Nat) : bA n = ((leB n 32).map cv).toArray := rfl
theorem bL_A (n : Nat) : (bL n).toArray = bA n := rfl
theorem rangeB {w : World} {b n : Nat} {T : TypeId} {fr : Nat × Nat} (h : w.heap[b]? = some (.cells (bA n) T fr)) : w.rangeAt b 0 (bL n) := by
 intro j v hv
 rw [Nat.zero_add, cell_of_row w b j _ T _ h, ← bL_A, List.getElem?_toArray]
 exact hv
theorem yldPw {ops : Array Oper} {S : World → Prop} {op : Oper} {a : Act} (hw : Region.wanted op (yielded ops a.tmps) = true) (x : Operand) (ho : op.op = .load 84 x)
  (b o : Nat) (f : Nat → Pt) (hx : a.eval x = .pointer (some ⟨b, o, none⟩)) (hS : ∀ w, S w → w.rangeAt b o (psL f 4)) : YieldsIf Tryz.prog ops S op (.agg (psA f 4)) a :=
 yld_load hw _ x ho b o hx (psL f 4) (psA f 4) rfl _ hS underPw4 rfl (sizePwL f)
theorem hrunPtTimes {a : Act} {o : Oper} (x y : Operand) (ho : o.op = .call { callee := .value (.func 91), args := #[x, y], argTypes := #[84, 60] }) (v1 v2 : Value) (hx : a.eval x = v1) (hy : a.eval y = v2) (w : World) :
  (execOp a.eval o).run Tryz.prog w = .ok (.enter 91 #[v1, v2]) w := by
 unfold execOp
 simp only [ho]
 subst hx hy
 go_simp
theorem hrunPtCode {a : Act} {o : Oper} (x : Operand) (ho : o.op = .call { callee := .value (.func 58), args := #[x], argTypes := #[82] }) (v1 : Value) (hx : a.eval x = v1) (w : World) :
  (execOp a.eval o).run Tryz.prog w = .ok (.enter 58 #[v1]) w := by
 unfold execOp
 simp only [ho]
 subst hx
 go_simp
theorem ofBytesN (n : Nat) (hn : n < 115792089237316195423570985008687907853269984665640564039457584007913129639936) (w : World) :
  Calls Tryz.prog 89 #[.agg (bA n)] w fun e w' => e = .returned (.agg (num4A n)) ∧ Below w.heap.size w w' := by
 have := ofBytes_list (leB n 32) (leB_length _ _) (bA n) rfl w
 rw [valLE_leB n hn] at this
 exact this
def baseZ : Array Value := (Value.int .u32 0 :: Value.int .i32 0 :: Value.int .u32 0 :: psL noPt 4).toArray
theorem zeroBase (w : World) : (zeroValue 86).run Tryz.prog w = .ok (.agg baseZ) w := by kernel_rfl
theorem baseZ_new {w : World} {b : Nat} {T : TypeId} (h : w.heap[b]? = some (.cells baseZ T (0, 0))) : BaseNew w b := by
 refine ⟨?_, ?_, frozen_of_row w b 0 _ _ h, frozen_of_row w b 1 _ _ h, fun j hj => ⟨?_, frozen_of_row w b (3 + j) _ _ h⟩⟩
 · rw [cell_of_row w b 0 _ T _ h]; rfl
 · rw [cell_of_row w b 1 _ T _ h]; rfl
 ·
  rw [cell_of_row w b (3 + j) _ T _ h]
  unfold baseZ
  rw [List.getElem?_toArray, List.getElem?_eq_getElem (by simp only [List.length_cons, psL_len]; omega)]; rfl
theorem GlB.seven {w : World} (h : GlB w) : 13 ≤ w.heap.size := by
 obtain ⟨t, f, e⟩ := h.gl.g5
 have := lt_row e
 omega
end Go.Proofs.YtccgfabojbjmjaaGreatDoor
namespace Go.Proofs.YtccgfabojbjmjaaGreatDoor
open Go.RowKit
theorem on_of (d x y : Fin P) (h : x * x * (y * y * d + 1) = y * y - 1) : y * y = 1 + x * x + d * (x * x) * (y * y) := by grind
theorem sq_two (t r v u m : Fin P) (e : r * r + 1 = 0) (h : t * t * v = m) (hm : m + u = 0) : t * r * (t * r) * v = u := by grind
theorem root_sq {y : Nat} (hb : rootB (uN y) (vN y) = true) : tau (rootV (uN y) (vN y)) * tau (rootV (uN y) (vN y)) * tau (vN y) = tau (uN y) := by
 unfold rootB at hb
 have hb := of_decide_eq_true hb
 unfold rootV
 by_cases h1 : sqrN (uN y) (vN y) = uN y
 ·
  rw [if_pos h1]
  have e : tau (sqrN (uN y) (vN y)) = tau (uN y) := by rw [h1]
  unfold sqrN at e
  rw [tau_mP, tau_mP] at e
  exact e
 ·
  rw [if_neg h1]
  have h2 := hb.resolve_left h1
  rw [if_pos h2]
  have e : tau (sqrN (uN y) (vN y)) = tau (sP 0 (uN y)) := by rw [h2]
  unfold sqrN at e
  rw [tau_mP, tau_mP] at e
  rw [tau_mP]
  exact sq_two _ _ _ _ _ rm_e e (opp_e (uN_lt y))
theorem tau_uN (y : Nat) : tau (uN y) = tau y * tau y - 1 := by
 unfold uN; rw [tau_sP _ _ one_lt, tau_mP, tau_one]
theorem tau_vN (y : Nat) : tau (vN y) = tau y * tau y * dK + 1 := by
 unfold vN dK; rw [tau_aP, tau_mP, tau_mP, tau_one]
theorem neg_mul_self (a b : Fin P) (h : a + b = 0) : a * a = b * b := by grind
theorem root_on {y : Nat} (odd : Bool) (hb : rootB (uN y) (vN y) = true) : OnC (tau (xsN y odd)) (tau y) := by
 have h := root_sq hb
 have hx : tau (xsN y odd) * tau (xsN y odd) = tau (rootV (uN y) (vN y)) * tau (rootV (uN y) (vN y)) := by
  unfold xsN
  split
  · exact neg_mul_self _ _ (opp_e (rootV_lt _ _))
  · rfl
 rw [tau_uN, tau_vN, ← hx] at h
 exact on_of _ _ _ h
theorem dcP_on {m : Nat} (h : dcB m = true) : ∃ x y, x < P ∧ y < P ∧ OnC (tau x) (tau y) ∧ dcP m = ptOf x y := by
 unfold dcP
 rw [if_pos h]
 unfold dcB at h
 rw [Bool.and_eq_true] at h
 have hx := h.2
 unfold xofB at hx
 have hb : rootB (uN (ofbV (dcY m))) (vN (ofbV (dcY m))) = true := by
  by_cases hb : rootB (uN (ofbV (dcY m))) (vN (ofbV (dcY m))) = true
  · exact hb
  · rw [if_neg hb] at hx; cases hx
 refine ⟨_, _, xofV_lt _ _, ofbV_lt _, ?_, rfl⟩
 unfold xofV
 rw [if_pos hb]
 exact root_on _ hb
theorem RP_of {x y : Nat} (hx : x < P) (hy : y < P) (ho : OnC (tau x) (tau y)) : RP (ptOf x y) ⟨tau x, tau y, ho⟩ := by
 refine ⟨⟨hx, hy, one_lt, mP_lt _ _⟩, ?_, ?_, ?_, ?_⟩
 ·
  show tau 1 ≠ 0
  rw [tau_one]; exact one_ne
 ·
  show tau x = tau x * tau 1
  rw [tau_one, Fin.mul_one]
 ·
  show tau y = tau y * tau 1
  rw [tau_one, Fin.mul_one]
 ·
  show tau (mP x y) = tau x * tau y * tau 1
  rw [tau_one, Fin.mul_one, tau_mP]
theorem RP_zero : RP zeroPt g0 := by
 refine ⟨zeroPt_ok, ?_, ?_, ?_, ?_⟩
 ·
  show tau 1 ≠ 0
  rw [tau_one]; exact one_ne
 ·
  show tau 0 = 0 * tau 1
  rw [tau_zero, Fin.zero_mul]
 ·
  show tau 1 = 1 * tau 1
  rw [Fin.one_mul]
 ·
  show tau 0 = 0 * 1 * tau 1
  rw [tau_zero, Fin.zero_mul, Fin.zero_mul]
theorem RP_dblN {p : Pt} {a : G} (h : RP p a) : ∀ k, RP (dblN k p) (gMul (2 ^ k) a)
 | 0 => by rw [Nat.pow_zero, gMul_one]; exact h
 | k + 1 => by rw [Nat.pow_succ, Nat.mul_comm, gMul_dbl]; exact RP_dbl (RP_dblN h k)
noncomputable def gB (A : Nat → G) : Nat → Nat → G
 | 0, _ => g0
 | i + 1, c => if c < 2 ^ i then gB A i c else gAdd (gB A i (c - 2 ^ i)) (A i)
theorem RP_smB {f : Nat → Pt} {A : Nat → G} : ∀ i, (∀ j, j < i → RP (f j) (A j)) → ∀ c, RP (smB f i c) (gB A i c)
 | 0, _, _ => RP_zero
 | i + 1, h, c => by
  rw [smB, gB]
  split
  · exact RP_smB i (fun j hj => h j (by omega)) c
  · exact RP_add (RP_smB i (fun j hj => h j (by omega)) _) (h i (by omega))
def sbN (n a : Nat) : Nat → Nat
 | 0 => 0
 | i + 1 => sbN n a i + wd n i / 2 ^ a % 2 * 2 ^ (64 * i)
def hiN (n m : Nat) : Nat → Nat
 | 0 => 0
 | i + 1 => hiN n m i + wd n i / 2 ^ m * 2 ^ (64 * i)
theorem gB_ch (n k : Nat) (a : G) : ∀ i, gB (fun i => gMul (2 ^ (64 * i)) a) i (chN n k i) = gMul (sbN n k i) a
 | 0 => rfl
 | i + 1 => by
  rw [gB, chN, sbN]
  have hc := chN_lt n k i
  have hy : wd n i / 2 ^ k % 2 = 0 ∨ wd n i / 2 ^ k % 2 = 1 := by omega
  rcases hy with e | e
  ·
   rw [e, Nat.zero_mul, Nat.zero_mul, Nat.add_zero, Nat.add_zero, if_pos hc]
   exact gB_ch n k a i
  · rw [e, Nat.one_mul, Nat.one_mul, if_neg (by omega), Nat.add_sub_cancel, gB_ch n k a i, gMul_add]
theorem div_bit (w m : Nat) : w / 2 ^ m = 2 * (w / 2 ^ (m + 1)) + w / 2 ^ m % 2 := by
 rw [Nat.pow_succ, ← Nat.div_div_eq_div_mul]; omega
theorem hiN_step (n m : Nat) : ∀ i, hiN n m i = 2 * hiN n (m + 1) i + sbN n m i
 | 0 => rfl
 | i + 1 => by
  rw [hiN, hiN, sbN, hiN_step n m i]
  have e := div_bit (wd n i) m
  generalize wd n i / 2 ^ (m + 1) = x at *
  generalize wd n i / 2 ^ m % 2 = y at *
  rw [e, Nat.add_mul]
  generalize 2 ^ (64 * i) = z
  have : 2 * x * z = 2 * (x * z) := Nat.mul_assoc _ _ _
  omega
def upN (n : Nat) : Nat → Nat
 | 0 => 0
 | k + 1 => 2 * upN n k + sbN n (63 - k) 4
theorem wd_hi (n i : Nat) : wd n i / 2 ^ 64 = 0 := Nat.div_eq_of_lt (wd_lt n i)
theorem upN_hi (n : Nat) : ∀ k, k ≤ 64 → upN n k = hiN n (64 - k) 4
 | 0, _ => by
  simp only [upN, hiN, Nat.sub_zero, wd_hi, Nat.zero_mul, Nat.add_zero]
 | k + 1, h => by
  rw [upN, upN_hi n k (by omega), hiN_step n (64 - (k + 1)), show 64 - (k + 1) = 63 - k by omega, show 63 - k + 1 = 64 - k by omega]
theorem upN_all (n : Nat) (h : n < 115792089237316195423570985008687907853269984665640564039457584007913129639936) : upN n 64 = n := by
 rw [upN_hi n 64 (Nat.le_refl _)]
 simp only [hiN, Nat.sub_self, Nat.pow_zero, Nat.div_one, wd]
 simp only [Nat.mul_zero, Nat.reduceMul, Nat.reducePow, Nat.mul_one, Nat.zero_add]
 omega
theorem RP_mlP {p : Pt} {a : G} (h : RP p a) (n : Nat) : ∀ k, RP (mlP (pwN p) n k) (gMul (upN n k) a)
 | 0 => RP_zero
 | k + 1 => by
  rw [mlP, upN, gMul_add, gMul_dbl, ← gB_ch]
  exact RP_add (RP_dbl (RP_mlP h n k)) (RP_smB 4 (fun j _ => RP_dblN h (64 * j)) _)
theorem RP_times {p : Pt} {a : G} (h : RP p a) {n : Nat} (hn : n < 115792089237316195423570985008687907853269984665640564039457584007913129639936) : RP (mlP (pwN p) n 64) (gMul n a) := by
 have := RP_mlP h n 64
 rw [upN_all n hn] at this
 exact this
theorem code_RP {p : Pt} {a : G} (h : RP p a) : cdN p = codeN a.y.val (decide (a.x.val % 2 = 1)) := by
 unfold cdN
 rw [show mP p.y (invN p.z) = a.y.val from code_val h.z h.y h.ok.z, show mP p.x (invN p.z) = a.x.val from code_val h.z h.x h.ok.z]
end Go.Proofs.YtccgfabojbjmjaaGreatDoor
