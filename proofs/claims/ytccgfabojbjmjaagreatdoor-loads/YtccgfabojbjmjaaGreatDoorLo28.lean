import Derived.Test.YtccgfabojbjmjaaGreatDoorLo23
import Derived.Test.YtccgfabojbjmjaaGreatDoorLo27
import Derived.Stop.BytesEq
import Derived.Test.YtccgfabojbjmjaaGreatDoorLo25
set_option maxRecDepth 100000
set_option maxHeartbeats 8000000
namespace Go.Proofs.YtccgfabojbjmjaaGreatDoor
open Go.RowKit
open Go.RowKit
def ZJ : Nat := 46316835694926478169428394003475163141307993866256225615783033603165251855960
structure Qq (w : World) : Prop where
 gl : Gl w
 gc : ∃ T fr, w.heap[7]? = some (.cells (bA ZJ) T fr)
theorem qpa : ZJ < 115792089237316195423570985008687907853269984665640564039457584007913129639936 := by decide
theorem Qq.keep {w w' : World} (h : Qq w) (hb : zB w w') : Qq w' := by
 obtain ⟨t, f, e⟩ := h.gc
 exact ⟨h.gl.keep hb, t, f, qk e hb⟩
theorem Qq.keepB {w w' : World} {B : Nat} (h : Qq w) (hb : Below B w w') (h7 : 13 ≤ B) : Qq w' := by
 obtain ⟨t0, f0, e0⟩ := h.gl.g0
 obtain ⟨t1, f1, e1⟩ := h.gl.g1
 obtain ⟨t3, f3, e3⟩ := h.gl.g3
 obtain ⟨t4, f4, e4⟩ := h.gl.g4
 obtain ⟨t5, f5, e5⟩ := h.gl.g5
 obtain ⟨t, f, e⟩ := h.gc
 exact ⟨⟨⟨t0, f0, qs e0 hb (by omega)⟩, ⟨t1, f1, qs e1 hb (by omega)⟩, ⟨t3, f3, qs e3 hb (by omega)⟩, ⟨t4, f4, qs e4 hb (by omega)⟩, ⟨t5, f5, qs e5 hb (by omega)⟩⟩, t, f, qs e hb (by omega)⟩
def qX : Pt := Qh ZJ
theorem qlf : Qh ZJ = qX := rfl
theorem qtm (f : Nat → Pt) (n : Nat) : (qP f n).toList = jb f n := rfl
theorem qmk {a : Act} {o : Oper} (x : Operand) (ho : o.op = .call { callee := .value (.func 137), args := #[x], argTypes := #[82] }) (v1 : Value) (hx : a.eval x = v1) (w : World) :
  (execOp a.eval o).run Tryz.prog w = .ok (.enter 137 #[v1]) w := by
 unfold execOp
 simp only [ho]
 subst hx
 go_simp
theorem qhx {w : World} {b o n : Nat} (h : w.there b o n) (hn : 0 < n) : b < w.heap.size := by
 obtain ⟨v, hv⟩ := Option.isSome_iff_exists.1 (h 0 hn).1
 exact zX w _ hv
theorem qkQ : qX.Ok := ql6 _
section
attribute [local irreducible] qb nL pA qP jb pL bA qX Qh jg
theorem quA (b : Nat) (pl : Addr) (w : World) (hG : Qq w) (hp : w.cell? pl = some (zp b 0)) (hb : w.there b 3 64) (hpb : pl.block ≠ b) :
  Calls Tryz.prog 136 #[.pointer (some pl)] w fun e w' => e = .returned (.tuple #[]) ∧ ∃ V, zB w V ∧ w' = V.setCells b 3 (jb (qR qX) 4) := by
 have hzp := yK
 have HG := qa hG
 have HP := qa hp
 have HT := qa hb
 obtain ⟨TT, frr, hgc⟩ := hG.gc
 have HC := qa hgc
 clear hG hp hb hgc
 go_enter Tryz.func136, Tryz.ntmps136
 go_wp2_with (first
  | (refine zg (by rfl) 62 (.global 7) (by rfl) 7 (by rfl) TT (bA ZJ) frr _ HC.o ZH rfl (Jp _) ?_))
 refine (qkR ZJ qpa _ HG.o.gl).mono ?_
 rintro e W1 ⟨rfl, hB⟩
 rw [qlf]
 obtain ⟨ok, Eok⟩ := zx (jg ZJ)
 rw [← Eok.o]
 have lP0 := zX w _ HP.o
 have lB0 := qhx HT.o (by decide)
 have FP := qa ((hB.cell lP0).trans HP.o)
 have FT := qa (qaq HT.o (hB.block _ lB0))
 have BL := qa hB
 have hB1 := hB.size
 go_upto_region 1 with (first
  | (refine qB 82 (.tmp 1) (.tmp 6) W1.heap.size (pA qX) (za _ _) (jO _) (ZK _ _) (QJ _) ?_))
 try rw [qH]
 obtain ⟨g, hg⟩ := zy W1.heap.size
 generalize hW2 : World.setRow _ _ _ = W2
 have K2 : Hid (zB W1 W2) := by rw [← hW2]; exact ze ((zJ _ _).alloc (zm _) _) (zm _) _
 have R2 : Hid (qi W2 g (pA qX) 82) := by rw [← hW2, hg]; exact zd _ _ _ _ _ _ (za _ _)
 have RG := qa (qdw R2.o)
 have FP := qa ((K2.o.cell (by omega)).trans FP.o)
 have FT := qa (qaq FT.o (K2.o.block _ (by omega)))
 have BL := qa (BL.o.trans (K2.o.mono hB1))
 have lG := qh R2.o
 have lP := zX W2 _ FP.o
 have lB := qhx FT.o (by decide)
 have lg : b < g := by omega
 rw [← hg]
 clear hW2 hg hB hB1 lP0 lB0 K2 HP HT HC
 refine zM (S := fun w' => w'.cell? pl = some (zp b 0) ∧ w'.rangeAt g 0 (pL qX)) (by kernel_rfl) ⟨FP.o, RG.o⟩ (fun hHeld => ?_)
 have KV : Hid (zB W2 W2.drew) := (zJ _ _).drew
 obtain ⟨V1, hV1⟩ := zy W2.drew
 rw [← hV1] at hHeld KV ⊢
 clear hV1
 refine zT 0 ⟨some 8, .load 58 (.tmp 0), 58, "base.go:22", #[], none⟩ (zp b 0) (Or.inl ⟨by rfl, fun w h => by have h1 := h.1; go_simp⟩) ?_
 simp only [qd]
 refine zT 1 ⟨some 9, .load 82 (.tmp 1), 82, "base.go:22", #[], none⟩ (.agg (pA qX)) (qt5 (by rfl) _ rfl g 0 qX rfl (fun w h => h.2)) ?_
 simp only [qd]
 refine zR 2 ⟨some 10, .call ⟨.value (.func 137), #[.tmp 9], #[82]⟩, 84, "base.go:22", #[ql 1], none⟩ fun K hK => ?_
 refine zE (qmk _ rfl (.agg (pA qX)) rfl V1) (qpi qX qkQ V1) fun V2 HBx => ?_
 have KV2 := qq KV HBx
 clear HBx KV
 have FP2 : V2.cell? pl = some (zp b 0) := (KV2.o.cell lP).trans FP.o
 refine hK.o _ _ ⟨FP2, q8 RG.o KV2.o lG⟩ (fun hHeld => ?_)
 try simp only [qd]
 refine zU 3 ⟨some 11, .nilCheck (.tmp 8), 0, "base.go:22", #[ql 0, qj 0, qj 1, qj 2], none⟩ (zp b 0) ?_
 simp only [qd]
 refine zU 4 ⟨some 12, .fieldAddr 86 (.tmp 11) 1, 0, "base.go:22", #[ql 3, qj 0, qj 1, qj 2], none⟩ (zp b 3) ?_
 simp only [qd]
 refine zR 5 ⟨none, .store 84 (.tmp 12) (.tmp 10), 0, "base.go:22", #[ql 4, ql 2, qT 2, qj 0, qj 1, qj 2], none⟩ fun K hK => ?_
 have TH : V2.there b 3 (qP (qR qX) 4).size := by rw [qdM]; exact qaq FT.o (KV2.o.block _ lB)
 refine qbB (by rfl) 84 (.tmp 12) (.tmp 10) (by rfl) b 3 (qP (qR qX) 4) (by rfl) (by rfl) TH (yO _) (YV _ _) ?_
 rw [qH, qtm]
 refine hK.o _ _ ⟨?_, World.rangeAt_setCells_apart (q8 RG.o KV2.o lG) _ _ _ (Or.inl (by omega))⟩ (fun _ => ?_)
 · rw [zo (Y8 b _ _ _ _ hpb)]; exact FP2
 try simp only [qd]
 refine zi (by kernel_rfl) ?_ _
 go_wp2_with fail
 go_end0
 exact ⟨rfl, V2, BL.o.trans (KV2.o.mono BL.o.size), rfl⟩
end
structure qG (b : Nat) (w w' : World) : Prop where
 os : w'.os = w.os
 tape : w'.tape = w.tape
 output : w'.output = w.output
 size : w.heap.size ≤ w'.heap.size
 block : ∀ k, k < w.heap.size → k ≠ b → w'.heap[k]? = w.heap[k]?
theorem qG.of {b : Nat} {w w' : World} (h : zB w w') : qG b w w' := ⟨h.os, h.tape, h.output, h.size, fun k hk _ => h.block k hk⟩
theorem qG.trans {b : Nat} {u v w : World} (h : qG b u v) (k : qG b v w) : qG b u w :=
 ⟨k.os.trans h.os, k.tape.trans h.tape, k.output.trans h.output, Zg h.size k.size, fun i hi hn => (k.block i (zl hi h.size) hn).trans (h.block i hi hn)⟩
theorem qG.setCell {b : Nat} {w v : World} (h : qG b w v) (i : Nat) (u : Value) : qG b w (v.setCell ⟨b, i, none⟩ u) := by
 have k := (zJ 0 v).setCell (p := ⟨b, i, none⟩) (Zc _) u
 exact h.trans ⟨k.os, k.tape, k.output, k.size, fun j _ hn => Below.heap_setCell v _ u j hn⟩
theorem qG.setCells {b : Nat} {w v : World} (h : qG b w v) (o : Nat) (vs : List Value) : qG b w (v.setCells b o vs) := by
 have k := qaf (Zc b) vs o v (zJ 0 v)
 exact h.trans ⟨k.os, k.tape, k.output, k.size, fun j _ hn => Y8 b vs o v j hn⟩
theorem qG.drew {b : Nat} {w v : World} (h : qG b w v) : qG b w v.drew := ⟨h.os, h.tape, h.output, h.size, h.block⟩
theorem qG.below {b : Nat} {w v : World} (h : qG b w v) (hb : b ≤ w.heap.size) : Below b w v := ⟨h.os, h.tape, h.output, h.size, fun k hk => h.block k (by omega) (by omega)⟩
structure YG (w : World) (b : Nat) : Prop where
 c0 : w.cell? ⟨b, 0, none⟩ = some (.int .u32 0)
 c1 : w.cell? ⟨b, 1, none⟩ = some (.int .i32 0)
 f0 : w.frozen? ⟨b, 0, none⟩ = false
 f1 : w.frozen? ⟨b, 1, none⟩ = false
 th : w.there b 3 64
structure ZU (w : World) (b : Nat) : Prop where
 c0 : w.cell? ⟨b, 0, none⟩ = some (.int .u32 1)
 rd : w.rangeAt b 3 (jb (qR qX) 4)
theorem YG.keep {w v : World} {b : Nat} (h : YG w b) (hb : v.heap[b]? = w.heap[b]?) : YG v b :=
 ⟨(zo hb).trans h.c0, (zo hb).trans h.c1, (World.frozen?_of_block hb).trans h.f0, (World.frozen?_of_block hb).trans h.f1, qaq h.th hb⟩
theorem ZU.keep {w v : World} {b : Nat} (h : ZU w b) (hb : v.heap[b]? = w.heap[b]?) : ZU v b :=
 ⟨(zo hb).trans h.c0, fun j x hx => (zo hb).trans (h.rd j x hx)⟩
theorem YG.lt {w : World} {b : Nat} (h : YG w b) : b < w.heap.size := zX w _ h.c0
theorem ZU.lt {w : World} {b : Nat} (h : ZU w b) : b < w.heap.size := zX w _ h.c0
theorem qtM (b : Nat) (pl : Addr) (w : World) (hG : Qq w) (h7 : 13 ≤ b) (hN : YG w b) (hp : w.cell? pl = some (zp b 0)) (hpb : pl.block ≠ b) :
  Calls Tryz.prog 135 #[zp b 0, .func (.func 136) #[] #[.pointer (some pl)]] w fun e w' => e = .returned (.tuple #[]) ∧ qG b w w' ∧ ZU w' b := by
 have hlb := hN.lt
 have B1 : Below b w (w.setCell ⟨b, 1, none⟩ (.int .i32 1)) := (zJ b w).setCell (p := ⟨b, 1, none⟩) (zm _) _
 have th1 : (w.setCell ⟨b, 1, none⟩ (.int .i32 1)).there b 3 64 := World.there_setCells (n := 64) hN.th b 1 [.int .i32 1]
 have z1 : (w.setCell ⟨b, 1, none⟩ (.int .i32 1)).frozen? ⟨b, 0, none⟩ = false := by
  rw [World.frozen?_setCell]; exact hN.f0
 have z2 : (w.setCell ⟨b, 1, none⟩ (.int .i32 1)).frozen? ⟨b, 1, none⟩ = false := by
  rw [World.frozen?_setCell]; exact hN.f1
 have sz : (w.setCell ⟨b, 1, none⟩ (.int .i32 1)).heap.size = w.heap.size := by simp
 have hcl := quA b pl (w.setCell ⟨b, 1, none⟩ (.int .i32 1)) (hG.keepB B1 h7) ((World.cell?_setCell_other _ _ _ _ (fun h => hpb (by rw [← h]))).trans hp) th1 hpb
 refine (qno b pl w _ hN.c0 hN.c1 hN.f1 hcl ?_).mono ?_
 ·
  rintro v ⟨V, hV, rfl⟩
  have hb : V.heap[b]? = (w.setCell ⟨b, 1, none⟩ (.int .i32 1)).heap[b]? := hV.block b (by rw [sz]; exact hlb)
  refine ⟨?_, ?_, ?_, ?_⟩
  · rw [World.cell?_setCells_out b _ 3 V ⟨b, 0, none⟩ (fun _ _ => Or.inl (show 0 < 3 by decide)), zo hb, World.cell?_setCell_other _ _ _ _ (by simp)]; exact hN.c0
  · rw [World.cell?_setCells_out b _ 3 V ⟨b, 1, none⟩ (fun _ _ => Or.inl (show 1 < 3 by decide)), zo hb]; exact World.cell?_setCell_same _ _ _ hN.c1
  · rw [World.frozen?_setCells, World.frozen?_of_block hb]; exact z1
  · rw [World.frozen?_setCells, World.frozen?_of_block hb]; exact z2
 ·
  rintro e w' ⟨rfl, v, ⟨V, hV, rfl⟩, rfl⟩
  have hb : V.heap[b]? = (w.setCell ⟨b, 1, none⟩ (.int .i32 1)).heap[b]? := hV.block b (by rw [sz]; exact hlb)
  have thV : V.there b 3 64 := qaq th1 hb
  have c0 : (V.setCells b 3 (jb (qR qX) 4)).drew.cell? ⟨b, 0, none⟩ = some (.int .u32 0) := by
   rw [World.cell?_drew, World.cell?_setCells_out b _ 3 V ⟨b, 0, none⟩ (fun _ _ => Or.inl (show 0 < 3 by decide)), zo hb, World.cell?_setCell_other _ _ _ _ (by simp)]; exact hN.c0
  refine ⟨rfl, ?_, ?_, ?_⟩
  · exact ((((((qG.of (zJ _ w)).setCell 1 (.int .i32 1)).trans (qG.of hV)).setCells 3 _).drew).setCell 0 _).setCell 1 _
  ·
   rw [World.cell?_setCell_other _ _ _ _ (by simp)]
   exact World.cell?_setCell_same _ _ _ c0
  ·
   intro j x hx
   rw [World.cell?_setCell_other _ _ _ _ (by simp), World.cell?_setCell_other _ _ _ _ (by simp), World.cell?_drew]
   · exact World.rangeAt_setCells_same V b 3 _ (by rw [J8]; exact thV) j x hx
   all_goals omega
theorem qkz (m n : Nat) (hm : m < 115792089237316195423570985008687907853269984665640564039457584007913129639936) (hn : n < 115792089237316195423570985008687907853269984665640564039457584007913129639936) (w : World) :
  (Op.equalIn 10000 62 (.agg (bA m)) (.agg (bA n))).run Tryz.prog w = .ok (decide (m = n)) w := by
 have hsz : ∀ w, (sizeOf 5).run Tryz.prog w = .ok 1 w := by
  intro w
  cases hq : Tryz.prog.info? 5 with
  | none => have := kP; rw [hq] at this; cases this
  | some inf =>
   have hi : inf.size = 1 := by have := kP; rw [hq] at this; simpa using this
   simp [sizeOf, typeInfo, hq, hi]
 have e := run_equalIn_bytes (P := Tryz.prog) w 9998 62 5 32 (by kernel_rfl) qe5 hsz (qI m 32) (qI n 32) (jM _ _) (jM _ _)
 have k : (qI m 32 == qI n 32) = decide (m = n) := by
  by_cases h : m = n
  · subst h; simp
  ·
   rw [zD h, beq_eq_false_iff_ne]
   intro h2
   apply h
   have h3 : qC (qI m 32) = qC (qI n 32) := by rw [h2]
   rw [kz m hm, kz n hn] at h3
   exact h3
 rw [← k]
 exact e
section
attribute [local irreducible] qb nL pA qP jb pL bA qX Qh jg
theorem qeh (b : Nat) (w : World) (hG : Qq w) (h7 : 13 ≤ b) (hN : YG w b) :
  Calls Tryz.prog 90 #[zp b 0] w fun e w' => e = .returned (.agg (qP (qR qX) 4)) ∧ qG b w w' ∧ ZU w' b := by
 have hz := qfT
 have hmf : ∀ (fn : Fn) (first cap : Array Value) (w : World), (Instr.makeFunc fn first cap).run Tryz.prog w = .ok (.func fn first cap) w := fun _ _ _ _ => rfl
 have HG := qa hG
 have HN := qa hN
 have lb := hN.lt
 clear hG hN
 go_enter Tryz.func90, Tryz.ntmps90
 go_upto_region 1 with fail
 generalize hW0 : World.alloc _ _ = W0
 have B0 : Hid (zB w W0) := by rw [← hW0]; show Below _ _ _; go_grown
 have RZ : Hid (qi W0 (w.heap.size + 1) (qP jH 4) 84) := by rw [← hW0]; exact Zd _ _ _
 have CP : W0.cell? ⟨w.heap.size, 0, none⟩ = some (zp b 0) := by rw [← hW0]; simp
 clear hW0
 have N0 := qa (HN.o.keep (B0.o.block b lb))
 have G0 := qa (HG.o.keep B0.o)
 go_wp2_with fail
 refine (qtM b ⟨w.heap.size, 0, none⟩ W0 G0.o h7 N0.o CP (by show w.heap.size ≠ b; omega)).mono ?_
 rintro e W1 ⟨rfl, hX, hD⟩
 have HX := qa hX
 have HD := qa hD
 have lz := qh RZ.o
 have CP1 : W1.cell? ⟨w.heap.size, 0, none⟩ = some (zp b 0) := (zo (hX.block _ (by show w.heap.size < _; omega) (by show w.heap.size ≠ b; omega))).trans CP
 have RZ1 : Hid (qi W1 (w.heap.size + 1) (qP jH 4) 84) := (hX.block _ lz (by omega)).trans RZ.o
 clear hX hD CP
 go_wp2_with (first
  | (refine zG (by rfl) 84 (.tmp 10) (by rfl) b 3 (by rfl) (jb (qR qX) 4) _ HD.o.rd JS rfl (qff _) ?_)
  | (refine qB 84 (.tmp 2) (.tmp 11) (w.heap.size + 1) (jb (qR qX) 4).toArray RZ1.o (qaS _) (qeN _ _) (qcO _ _) ?_))
 have L2 : Below w.heap.size W1 (W1.setRow (w.heap.size + 1) (jb (qR qX) 4).toArray) := ze (zJ _ _) (by omega) _
 have X2 : qG b w (W1.setRow (w.heap.size + 1) (jb (qR qX) 4).toArray) := by
  have x := (qG.of (b := b) B0.o).trans HX.o
  exact ⟨L2.os.trans x.os, L2.tape.trans x.tape, L2.output.trans x.output, Zg x.size L2.size, fun k hk hn => (L2.block k hk).trans (x.block k hk hn)⟩
 refine zh (v := .agg (jb (qR qX) 4).toArray) (results_cell_row Tryz.results90 _ _ (w.heap.size + 1) 84 _ (0, 0) _ (by rfl) (zd _ _ _ _ _ _ RZ1.o) JS rfl (qaS _)) rfl ⟨by rw [qhC], X2, HD.o.keep (L2.block b lb)⟩
end
theorem qrr : jg ZJ = true := by decide +kernel
def Qj (m : Nat) : Nat → Pt := if jg m = true then qR (Qh m) else jH
theorem qsJ : Qj ZJ = qR qX := by unfold Qj; rw [if_pos qrr]; rfl
theorem qqX (m : Nat) (h : jg m = true) (i : Nat) (_ : i < 4) : (Qj m i).Ok := by
 unfold Qj; rw [if_pos h]; exact qdr (ql6 m) _
theorem qqg {m : Nat} (h : jg m = false) : Qj m = jH := by unfold Qj; rw [if_neg (by rw [h]; decide)]
theorem qeQ {m : Nat} (h : jg m = true) : Qj m = qR (Qh m) := by unfold Qj; rw [if_pos h]
theorem qoM : Tryz.prog.built 84 [] = some (qP jH 4) := by kernel_rfl
theorem qG.setRow {b : Nat} {w v : World} (h : qG b w v) {g : Nat} (hg : w.heap.size ≤ g) (cs : Array Value) : qG b w (v.setRow g cs) := by
 have l : Below w.heap.size v (v.setRow g cs) := ze (zJ _ _) hg _
 exact ⟨l.os.trans h.os, l.tape.trans h.tape, l.output.trans h.output, Zg h.size l.size, fun k hk hn => (l.block k hk).trans (h.block k hk hn)⟩
theorem qG.ofB {b : Nat} {w v : World} {B : Nat} (h : Below B w v) (hB : w.heap.size ≤ B) : qG b w v := qG.of (h.mono hB)
def bL (n : Nat) : List Value := (qI n 32).map cv
theorem qst (n : Nat) : bA n = ((qI n 32).map cv).toArray := rfl
theorem qt9 (n : Nat) : (bL n).toArray = bA n := rfl
theorem yv {w : World} {b n : Nat} {T : TypeId} {fr : Nat × Nat} (h : w.heap[b]? = some (.cells (bA n) T fr)) : w.rangeAt b 0 (bL n) := by
 intro j v hv
 rw [Zb, zj w b j _ T _ h, ← qt9, zV]
 exact hv
theorem quR {ops : Array Oper} {S : World → Prop} {op : Oper} {a : Act} (hw : Region.wanted op (yielded ops a.tmps) = true) (x : Operand) (ho : op.op = .load 84 x)
  (b o : Nat) (f : Nat → Pt) (hx : a.eval x = .pointer (some ⟨b, o, none⟩)) (hS : ∀ w, S w → w.rangeAt b o (jb f 4)) : YieldsIf Tryz.prog ops S op (.agg (qP f 4)) a :=
 YE hw _ x ho b o hx (jb f 4) (qP f 4) rfl _ hS JS rfl (qff f)
theorem qaJ {a : Act} {o : Oper} (x y : Operand) (ho : o.op = .call { callee := .value (.func 91), args := #[x, y], argTypes := #[84, 60] }) (v1 v2 : Value) (hx : a.eval x = v1) (hy : a.eval y = v2) (w : World) :
  (execOp a.eval o).run Tryz.prog w = .ok (.enter 91 #[v1, v2]) w := by
 unfold execOp
 simp only [ho]
 subst hx hy
 go_simp
theorem qjv {a : Act} {o : Oper} (x : Operand) (ho : o.op = .call { callee := .value (.func 58), args := #[x], argTypes := #[82] }) (v1 : Value) (hx : a.eval x = v1) (w : World) :
  (execOp a.eval o).run Tryz.prog w = .ok (.enter 58 #[v1]) w := by
 unfold execOp
 simp only [ho]
 subst hx
 go_simp
theorem qmS (n : Nat) (hn : n < 115792089237316195423570985008687907853269984665640564039457584007913129639936) (w : World) :
  zC 89 #[.agg (bA n)] w (.agg (qb n)) := by
 have := qcL (qI n 32) (jM _ _) (bA n) rfl w
 rw [kz n hn] at this
 exact this
def JC : Array Value := (Value.int .u32 0 :: Value.int .i32 0 :: Value.int .u32 0 :: jb jH 4).toArray
theorem qoB (w : World) : (zeroValue 86).run Tryz.prog w = .ok (.agg JC) w := by kernel_rfl
theorem qmz {w : World} {b : Nat} {T : TypeId} (h : w.heap[b]? = some (.cells JC T (0, 0))) : YG w b := by
 refine ⟨?_, ?_, frozen_of_row w b 0 _ _ h, frozen_of_row w b 1 _ _ h, fun j hj => ⟨?_, frozen_of_row w b (3 + j) _ _ h⟩⟩
 · rw [zj w b 0 _ T _ h]; rfl
 · rw [zj w b 1 _ T _ h]; rfl
 ·
  rw [zj w b (3 + j) _ T _ h]
  unfold JC
  rw [zV, zO (by simp only [List.length_cons, J8]; omega)]; rfl
theorem Qq.seven {w : World} (h : Qq w) : 13 ≤ w.heap.size := by
 obtain ⟨t, f, e⟩ := h.gl.g5
 have := qh e
 omega
theorem quG (d x y : Fin P) (h : x * x * (y * y * d + 1) = y * y - 1) : y * y = 1 + x * x + d * (x * x) * (y * y) := by grind
theorem qsQ (t r v u m : Fin P) (e : r * r + 1 = 0) (h : t * t * v = m) (hm : m + u = 0) : t * r * (t * r) * v = u := by grind
theorem qp6 {y : Nat} (hb : QZ (uN y) (vN y) = true) : qp (QB (uN y) (vN y)) * qp (QB (uN y) (vN y)) * qp (vN y) = qp (uN y) := by
 unfold QZ at hb
 have hb := of_decide_eq_true hb
 unfold QB
 by_cases h1 : QM (uN y) (vN y) = uN y
 ·
  rw [if_pos h1]
  have e : qp (QM (uN y) (vN y)) = qp (uN y) := by rw [h1]
  unfold QM at e
  rw [ji, ji] at e
  exact e
 ·
  rw [if_neg h1]
  have h2 := hb.resolve_left h1
  rw [if_pos h2]
  have e : qp (QM (uN y) (vN y)) = qp (sP 0 (uN y)) := by rw [h2]
  unfold QM at e
  rw [ji, ji] at e
  rw [ji]
  exact qsQ _ _ _ _ _ qrL e (YU (qoi y))
theorem qr6 (y : Nat) : qp (uN y) = qp y * qp y - 1 := by
 unfold uN; rw [J6 _ _ Yu, ji, ZY]
theorem qtV (y : Nat) : qp (vN y) = qp y * qp y * dK + 1 := by
 unfold vN dK; rw [Jf, ji, ji, ZY]
theorem qfI (a b : Fin P) (h : a + b = 0) : a * a = b * b := by grind
theorem qqd {y : Nat} (odd : Bool) (hb : QZ (uN y) (vN y) = true) : yx (qp (JH y odd)) (qp y) := by
 have h := qp6 hb
 have hx : qp (JH y odd) * qp (JH y odd) = qp (QB (uN y) (vN y)) * qp (QB (uN y) (vN y)) := by
  unfold JH
  split
  · exact qfI _ _ (YU (qca _ _))
  · rfl
 rw [qr6, qtV, ← hx] at h
 exact quG _ _ _ h
theorem qoU {m : Nat} (h : jg m = true) : ∃ x y, x < P ∧ y < P ∧ yx (qp x) (qp y) ∧ Qh m = Yg x y := by
 unfold Qh
 rw [if_pos h]
 unfold jg at h
 rw [Bool.and_eq_true] at h
 have hx := h.2
 unfold y5 at hx
 have hb : QZ (uN (Zu (ZS m))) (vN (Zu (ZS m))) = true := by
  by_cases hb : QZ (uN (Zu (ZS m))) (vN (Zu (ZS m))) = true
  · exact hb
  · rw [if_neg hb] at hx; cases hx
 refine ⟨_, _, qgx _ _, qhs _, ?_, rfl⟩
 unfold yG
 rw [if_pos hb]
 exact qqd _ hb
theorem qsn {x y : Nat} (hx : x < P) (hy : y < P) (ho : yx (qp x) (qp y)) : RP (Yg x y) ⟨qp x, qp y, ho⟩ := by
 refine ⟨⟨hx, hy, Yu, qK _ _⟩, ?_, ?_, ?_, ?_⟩
 ·
  show qp 1 ≠ 0
  rw [ZY]; exact qdj
 ·
  show qp x = qp x * qp 1
  rw [ZY, Fin.mul_one]
 ·
  show qp y = qp y * qp 1
  rw [ZY, Fin.mul_one]
 ·
  show qp (mP x y) = qp x * qp y * qp 1
  rw [ZY, Fin.mul_one, ji]
theorem qu6 {x y : Nat} (hx : x < P) (hy : y < P) (ho : yx (qp x) (qp y)) : RQ (qvB x y) ⟨qp x, qp y, ho⟩ := by
 refine ⟨⟨hx, hy, Yu⟩, ?_, ?_, ?_⟩
 ·
  show qp 1 ≠ 0
  rw [ZY]; exact qdj
 ·
  show qp x = qp x * qp 1
  rw [ZY, Fin.mul_one]
 ·
  show qp y = qp y * qp 1
  rw [ZY, Fin.mul_one]
theorem qmp : RP yr g0 := by
 refine ⟨qdJ, ?_, ?_, ?_, ?_⟩
 ·
  show qp 1 ≠ 0
  rw [ZY]; exact qdj
 ·
  show qp 0 = 0 * qp 1
  rw [kC, Fin.zero_mul]
 ·
  show qp 1 = 1 * qp 1
  rw [Fin.one_mul]
 ·
  show qp 0 = 0 * 1 * qp 1
  rw [kC, Fin.zero_mul, Fin.zero_mul]
theorem qmJ {p : Pt} {a : G} (h : RP p a) : ∀ k, RP (ZR k p) (Zx (2 ^ k) a)
 | 0 => by rw [Nat.pow_zero, qnS]; exact h
 | k + 1 => by rw [Zk, Zl, qc6]; exact qpb (qmJ h k)
noncomputable def gB (A : Nat → G) : Nat → Nat → G
 | 0, _ => g0
 | i + 1, c => if c < 2 ^ i then gB A i c else jr (gB A i (c - 2 ^ i)) (A i)
theorem qkB {f : Nat → Pt} {A : Nat → G} : ∀ i, (∀ j, j < i → RP (f j) (A j)) → ∀ c, RP (jW f i c) (gB A i c)
 | 0, _, _ => qmp
 | i + 1, h, c => by
  rw [jW, gB]
  split
  · exact qkB i (fun j hj => h j (by omega)) c
  · exact qkK (qkB i (fun j hj => h j (by omega)) _) (h i (by omega))
def sbN (n a : Nat) : Nat → Nat
 | 0 => 0
 | i + 1 => sbN n a i + wd n i / 2 ^ a % 2 * 2 ^ (64 * i)
def kK (n m : Nat) : Nat → Nat
 | 0 => 0
 | i + 1 => kK n m i + wd n i / 2 ^ m * 2 ^ (64 * i)
theorem qpD (n k : Nat) (a : G) : ∀ i, gB (fun i => Zx (2 ^ (64 * i)) a) i (yH n k i) = Zx (sbN n k i) a
 | 0 => rfl
 | i + 1 => by
  rw [gB, yH, sbN]
  have hc := qiF n k i
  have hy : wd n i / 2 ^ k % 2 = 0 ∨ wd n i / 2 ^ k % 2 = 1 := by omega
  rcases hy with e | e
  ·
   rw [e, Nat.zero_mul, Nat.zero_mul, Nat.add_zero, Nat.add_zero, if_pos hc]
   exact qpD n k a i
  · rw [e, Nat.one_mul, Nat.one_mul, if_neg (by omega), Nat.add_sub_cancel, qpD n k a i, qfj]
theorem ql8 (w m : Nat) : w / 2 ^ m = 2 * (w / 2 ^ (m + 1)) + w / 2 ^ m % 2 := by
 rw [Zk, ← Nat.div_div_eq_div_mul]; omega
theorem qiS (n m : Nat) : ∀ i, kK n m i = 2 * kK n (m + 1) i + sbN n m i
 | 0 => rfl
 | i + 1 => by
  rw [kK, kK, sbN, qiS n m i]
  have e := ql8 (wd n i) m
  generalize wd n i / 2 ^ (m + 1) = x at *
  generalize wd n i / 2 ^ m % 2 = y at *
  rw [e, Nat.add_mul]
  generalize 2 ^ (64 * i) = z
  have : 2 * x * z = 2 * (x * z) := Zm _ _ _
  omega
def upN (n : Nat) : Nat → Nat
 | 0 => 0
 | k + 1 => 2 * upN n k + sbN n (63 - k) 4
theorem qvi (n i : Nat) : wd n i / 2 ^ 64 = 0 := Nat.div_eq_of_lt (qpY n i)
theorem qoZ (n : Nat) : ∀ k, k ≤ 64 → upN n k = kK n (64 - k) 4
 | 0, _ => by
  simp only [upN, kK, Nat.sub_zero, qvi, Nat.zero_mul, Nat.add_zero]
 | k + 1, h => by
  rw [upN, qoZ n k (by omega), qiS n (64 - (k + 1)), show 64 - (k + 1) = 63 - k by omega, show 63 - k + 1 = 64 - k by omega]
theorem qqm (n : Nat) (h : n < 115792089237316195423570985008687907853269984665640564039457584007913129639936) : upN n 64 = n := by
 rw [qoZ n 64 (zm _)]
 simp only [kK, Nat.sub_self, Nat.pow_zero, Nat.div_one, wd]
 simp only [Nat.mul_zero, Nat.reduceMul, Nat.reducePow, Nat.mul_one, Zb]
 omega
theorem qoQ {p : Pt} {a : G} (h : RP p a) (n : Nat) : ∀ k, RP (qV (qR p) n k) (Zx (upN n k) a)
 | 0 => qmp
 | k + 1 => by
  rw [qV, upN, qfj, qc6, ← qpD]
  exact qkK (qpb (qoQ h n k)) (qkB 4 (fun j _ => qmJ h (64 * j)) _)
theorem qhF {p : Pt} {a : G} (h : RP p a) {n : Nat} (hn : n < 115792089237316195423570985008687907853269984665640564039457584007913129639936) : RP (qV (qR p) n 64) (Zx n a) := by
 have := qoQ h n 64
 rw [qqm n hn] at this
 exact this
theorem qgO {p : Pt} {a : G} (h : RP p a) : y8 p = Qp a.y.val (decide (a.x.val % 2 = 1)) := by
 unfold y8
 rw [show mP p.y (Qa p.z) = a.y.val from qcP h.z h.y h.ok.z, show mP p.x (Qa p.z) = a.x.val from qcP h.z h.x h.ok.z]
theorem qqr {p : Q3} {a : G} (h : RQ p a) : YP p = jk (qI (Qp a.y.val (decide (a.x.val % 2 = 1))) 32) := by
 unfold YP
 rw [qcl, show mP p.y (Qa p.z) = a.y.val from qcP h.z h.y h.ok.z, show mP p.x (Qa p.z) = a.x.val from qcP h.z h.x h.ok.z]
end Go.Proofs.YtccgfabojbjmjaaGreatDoor
