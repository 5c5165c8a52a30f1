import Derived.Test.YtemdlpcljjdfjaaDoorPtMul
import Derived.Test.YtemdlpcljjdfjaaDoorOnce
import Derived.Test.YtemdlpcljjdfjaaDoorAddsW
import Derived.Stop.BytesEq
import Derived.Test.YtemdlpcljjdfjaaDoorAddsP
/- curve: what is worked out of B. -/
namespace Go.Proofs.YtemdlpcljjdfjaaDoor
open Go.RowKit
/-- The number whose bytes B's code are. -/
def bcN : Nat := 46316835694926478169428394003475163141307993866256225615783033603165251855960
/-- What the package variables hold, B's code among them. -/
structure GlB (w : World) : Prop where
  gl : Gl w
  gc : ∃ T fr, w.heap[1]? = some (.cells (bA bcN) T fr)
theorem bcN_lt : bcN < 115792089237316195423570985008687907853269984665640564039457584007913129639936 := by decide
theorem GlB.keep {w w' : World} (h : GlB w) (hb : Below w.heap.size w w') : GlB w' := by
  obtain ⟨t, f, e⟩ := h.gc
  exact ⟨h.gl.keep hb, t, f, row_keep' e hb⟩
/-- The package variables' blocks come first. -/
theorem GlB.keepB {w w' : World} {B : Nat} (h : GlB w) (hb : Below B w w') (h7 : 7 ≤ B) : GlB w' := by
  obtain ⟨t0, f0, e0⟩ := h.gl.g0
  obtain ⟨t1, f1, e1⟩ := h.gl.g1
  obtain ⟨t3, f3, e3⟩ := h.gl.g3
  obtain ⟨t4, f4, e4⟩ := h.gl.g4
  obtain ⟨t5, f5, e5⟩ := h.gl.g5
  obtain ⟨t, f, e⟩ := h.gc
  exact ⟨⟨⟨t0, f0, row_below e0 hb (by omega)⟩, ⟨t1, f1, row_below e1 hb (by omega)⟩, ⟨t3, f3, row_below e3 hb (by omega)⟩, ⟨t4, f4, row_below e4 hb (by omega)⟩, ⟨t5, f5, row_below e5 hb (by omega)⟩⟩, t, f, row_below e hb (by omega)⟩
/-- B, decoded; its powers' cells. -/
def bpP : Pt := dcP bcN
theorem bpP_eq : dcP bcN = bpP := rfl
theorem psA_L (f : Nat → Pt) (n : Nat) : (psA f n).toList = psL f n := rfl
theorem hrunPtPow {a : Act} {o : Oper} (x : Operand) (ho : o.op = .call { callee := .value (.func 52), args := #[x], argTypes := #[44] }) (v1 : Value) (hx : a.eval x = v1) (w : World) :
    (execOp a.eval o).run Tryd.prog w = .ok (.enter 52 #[v1]) w := by
  unfold execOp
  simp only [ho]
  subst hx
  go_simp
theorem there_lt {w : World} {b o n : Nat} (h : w.there b o n) (hn : 0 < n) : b < w.heap.size := by
  obtain ⟨v, hv⟩ := Option.isSome_iff_exists.1 (h 0 hn).1
  exact World.block_lt_of_cell? w _ hv
theorem bpP_ok : bpP.Ok := dcP_ok _
section
attribute [local irreducible] num4A nL pA psA psL pL bA bpP dcP dcB
set_option maxRecDepth 100000 in
set_option maxHeartbeats 4000000 in
/-- The function that Once calls: B's powers go into their place. -/
theorem onceA (b : Nat) (pl : Addr) (w : World) (hG : GlB w) (hp : w.cell? pl = some (.pointer (some ⟨b, 0, none⟩))) (hb : w.there b 3 64) (hpb : pl.block ≠ b) :
    Calls Tryd.prog 78 #[.pointer (some pl)] w fun e w' => e = .returned (.tuple #[]) ∧ ∃ V, Below w.heap.size w V ∧ w' = V.setCells b 3 (psL (pwN bpP) 4) := by
  have hzp := zeroP
  have HG := hide hG
  have HP := hide hp
  have HT := hide hb
  obtain ⟨TT, frr, hgc⟩ := hG.gc
  have HC := hide hgc
  clear hG hp hb hgc
  go_enter Tryd.func78, Tryd.ntmps78
  go_wp2_with (first
    | (refine wpList_load_row (by rfl) 48 (.global 1) (by rfl) 1 (by rfl) TT (bA bcN) frr _ HC.out underCode rfl (bA_size _) ?_))
  refine (decodeA bcN bcN_lt _ HG.out.gl).mono ?_
  rintro e W1 ⟨rfl, hB⟩
  rw [bpP_eq]
  obtain ⟨ok, Eok⟩ : ∃ o, Hid (o = dcB bcN) := ⟨_, hide rfl⟩
  rw [← Eok.out]
  have lP0 := World.block_lt_of_cell? w _ HP.out
  have lB0 := there_lt HT.out (by decide)
  have FP := hide ((hB.cell lP0).trans HP.out)
  have FT := hide (there_block HT.out (hB.block _ lB0))
  have BL := hide hB
  have hB1 := hB.size
  go_upto_region 1 with (first
    | (refine wpList_store_row (by rfl) 44 (.tmp 1) (.tmp 6) (by rfl) W1.heap.size (pA bpP) (by rfl) (by rfl) 44 _ (heap_alloc_new _ _) (pA_size _) (pA_old _ _) (pA_all _) ?_))
  try rw [put_none']
  obtain ⟨g, hg⟩ : ∃ s, s = W1.heap.size := ⟨_, rfl⟩
  generalize hW2 : World.setRow _ _ _ = W2
  have K2 : Hid (Below W1.heap.size W1 W2) := by rw [← hW2]; exact below_setRow ((Below.refl _ _).alloc (Nat.le_refl _) _) (Nat.le_refl _) _
  have R2 : Hid (W2.heap[g]? = some (.cells (pA bpP) 44 (0, 0))) := by rw [← hW2, hg]; exact setRow_heap _ _ _ _ _ _ (heap_alloc_new _ _)
  have RG := hide (rangePt R2.out)
  have FP := hide ((K2.out.cell (by omega)).trans FP.out)
  have FT := hide (there_block FT.out (K2.out.block _ (by omega)))
  have BL := hide (BL.out.trans (K2.out.mono hB1))
  have lG := lt_row R2.out
  have lP := World.block_lt_of_cell? W2 _ FP.out
  have lB := there_lt FT.out (by decide)
  have lg : b < g := by omega
  rw [← hg]
  clear hW2 hg hB hB1 lP0 lB0 K2 HP HT HC
  refine wp_region_held_drew (S := fun w' => w'.cell? pl = some (.pointer (some ⟨b, 0, none⟩)) ∧ w'.rangeAt g 0 (pL bpP)) (by kernel_rfl) ⟨FP.out, RG.out⟩ (fun hHeld => ?_)
  have KV : Hid (Below W2.heap.size W2 W2.drew) := (Below.refl _ _).drew
  obtain ⟨V1, hV1⟩ : ∃ V, V = W2.drew := ⟨_, rfl⟩
  rw [← hV1] at hHeld KV ⊢
  clear hV1
  refine wpAnyH_take (i := 0) (oi := { dst := some 8, op := Go.Op.load 57 (Go.Operand.tmp 0), type := 57, pos := "base.go:22", after := #[], guard := none }) (v := .pointer (some ⟨b, 0, none⟩)) rfl (by kernel_rfl) (by kernel_rfl) (by kernel_rfl) (fun _ _ _ h => h) (Or.inl ⟨by rfl, fun w h => by have h1 := h.1; go_simp⟩) hHeld ?_
  simp only [Act.put, List.setIfInBounds_toArray, List.set_cons_zero, List.set_cons_succ]
  refine wpAnyH_take (i := 1) (oi := { dst := some 9, op := Go.Op.load 44 (Go.Operand.tmp 1), type := 44, pos := "base.go:22", after := #[], guard := none }) (v := .agg (pA bpP)) rfl (by kernel_rfl) (by kernel_rfl) (by kernel_rfl) (fun _ _ _ h => h) (yldP (by rfl) _ rfl g 0 bpP rfl (fun w h => h.2)) hHeld ?_
  simp only [Act.put, List.setIfInBounds_toArray, List.set_cons_zero, List.set_cons_succ]
  refine wpAnyH_ready (rs := [2]) (by kernel_rfl) (by simp) ?_
  refine AllReadyH.cons (o := { dst := some 10, op := Go.Op.call { callee := Go.Callee.value (Go.Operand.func 52), args := #[Go.Operand.tmp 9], argTypes := #[44] }, type := 55, pos := "base.go:22", after := #[{ on := 1, ground := Go.Ground.data }], guard := none }) rfl (fun K hK => ?_) AllReadyH.nil
  refine step_callTo (by rfl) _ _ (hrunPtPow _ rfl (.agg (pA bpP)) rfl V1) _ _ (ptPowA bpP bpP_ok V1) (fun V2 HBx => ?_)
  have KV2 : Hid (Below W2.heap.size W2 V2) := KV.out.trans (HBx.mono KV.out.size)
  clear HBx KV
  have FP2 : V2.cell? pl = some (.pointer (some ⟨b, 0, none⟩)) := (KV2.out.cell lP).trans FP.out
  refine hK.out _ _ ⟨FP2, range_below RG.out KV2.out lG⟩ (fun hHeld => ?_)
  clear hK K
  try simp only [Act.put, List.setIfInBounds_toArray, List.set_cons_zero, List.set_cons_succ]
  refine wpAnyH_take (i := 3) (oi := { dst := some 11, op := Go.Op.nilCheck (Go.Operand.tmp 8), type := 0, pos := "base.go:22", after := #[{ on := 0, ground := Go.Ground.data }, { on := 0, ground := Go.Ground.phase }, { on := 1, ground := Go.Ground.phase }, { on := 2, ground := Go.Ground.phase }], guard := none }) (v := .pointer (some ⟨b, 0, none⟩)) rfl (by kernel_rfl) (by kernel_rfl) (by kernel_rfl) (fun _ _ _ h => h) (Or.inl ⟨by rfl, fun w _ => by go_simp⟩) hHeld ?_
  simp only [Act.put, List.setIfInBounds_toArray, List.set_cons_zero, List.set_cons_succ]
  refine wpAnyH_take (i := 4) (oi := { dst := some 12, op := Go.Op.fieldAddr 71 (Go.Operand.tmp 11) 1, type := 0, pos := "base.go:22", after := #[{ on := 3, ground := Go.Ground.data }, { on := 0, ground := Go.Ground.phase }, { on := 1, ground := Go.Ground.phase }, { on := 2, ground := Go.Ground.phase }], guard := none }) (v := .pointer (some ⟨b, 3, none⟩)) rfl (by kernel_rfl) (by kernel_rfl) (by kernel_rfl) (fun _ _ _ h => h) (Or.inl ⟨by rfl, fun w _ => by go_simp⟩) hHeld ?_
  simp only [Act.put, List.setIfInBounds_toArray, List.set_cons_zero, List.set_cons_succ]
  refine wpAnyH_ready (rs := [5]) (by kernel_rfl) (by simp) ?_
  refine AllReadyH.cons (o := { dst := none, op := Go.Op.store 55 (Go.Operand.tmp 12) (Go.Operand.tmp 10), type := 0, pos := "base.go:22", after := #[{ on := 4, ground := Go.Ground.data }, { on := 2, ground := Go.Ground.data }, { on := 2, ground := Go.Ground.chain }, { on := 0, ground := Go.Ground.phase }, { on := 1, ground := Go.Ground.phase }, { on := 2, ground := Go.Ground.phase }], guard := none }) rfl (fun K hK => ?_) AllReadyH.nil
  have TH : V2.there b 3 (psA (pwN bpP) 4).size := by rw [psA_len]; exact there_block FT.out (KV2.out.block _ lB)
  refine step_store_mid (by rfl) 55 (.tmp 12) (.tmp 10) (by rfl) b 3 (psA (pwN bpP) 4) (by rfl) (by rfl) TH (sizePw _) (psA_all _ _) ?_
  rw [put_none', psA_L]
  refine hK.out _ _ ⟨?_, World.rangeAt_setCells_apart (range_below RG.out KV2.out lG) _ _ _ (Or.inl (by omega))⟩ (fun _ => ?_)
  · rw [World.cell?_of_block (heap_setCells b _ _ _ _ hpb)]; exact FP2
  clear hK K
  try simp only [Act.put, List.setIfInBounds_toArray, List.set_cons_zero, List.set_cons_succ]
  refine wpAnyH_done (by kernel_rfl) ?_ _
  go_wp2_with fail
  go_end0
  exact ⟨rfl, V2, BL.out.trans (KV2.out.mono BL.out.size), rfl⟩
end
end Go.Proofs.YtemdlpcljjdfjaaDoor
/- curve: Base.Powers, Base.PowersOf. -/
namespace Go.Proofs.YtemdlpcljjdfjaaDoor
open Go.RowKit
/-- All blocks but one are as they were. -/
structure Bex (b : Nat) (w w' : World) : Prop where
  os : w'.os = w.os
  tape : w'.tape = w.tape
  output : w'.output = w.output
  size : w.heap.size ≤ w'.heap.size
  block : ∀ k, k < w.heap.size → k ≠ b → w'.heap[k]? = w.heap[k]?
theorem Bex.of {b : Nat} {w w' : World} (h : Below w.heap.size w w') : Bex b w w' := ⟨h.os, h.tape, h.output, h.size, fun k hk _ => h.block k hk⟩
theorem Bex.trans {b : Nat} {u v w : World} (h : Bex b u v) (k : Bex b v w) : Bex b u w :=
  ⟨k.os.trans h.os, k.tape.trans h.tape, k.output.trans h.output, Nat.le_trans h.size k.size, fun i hi hn => (k.block i (Nat.lt_of_lt_of_le hi h.size) hn).trans (h.block i hi hn)⟩
theorem Bex.setCell {b : Nat} {w v : World} (h : Bex b w v) (i : Nat) (u : Value) : Bex b w (v.setCell ⟨b, i, none⟩ u) := by
  have k := (Below.refl 0 v).setCell (p := ⟨b, i, none⟩) (Nat.zero_le _) u
  exact h.trans ⟨k.os, k.tape, k.output, k.size, fun j _ hn => Below.heap_setCell v _ u j hn⟩
theorem Bex.setCells {b : Nat} {w v : World} (h : Bex b w v) (o : Nat) (vs : List Value) : Bex b w (v.setCells b o vs) := by
  have k := below_setCells (Nat.zero_le b) vs o v (Below.refl 0 v)
  exact h.trans ⟨k.os, k.tape, k.output, k.size, fun j _ hn => heap_setCells b vs o v j hn⟩
theorem Bex.drew {b : Nat} {w v : World} (h : Bex b w v) : Bex b w v.drew := ⟨h.os, h.tape, h.output, h.size, h.block⟩
theorem Bex.below {b : Nat} {w v : World} (h : Bex b w v) (hb : b ≤ w.heap.size) : Below b w v := ⟨h.os, h.tape, h.output, h.size, fun k hk => h.block k (by omega) (by omega)⟩
/-- Nothing is worked out of B yet. -/
structure BaseNew (w : World) (b : Nat) : Prop where
  c0 : w.cell? ⟨b, 0, none⟩ = some (.int .u32 0)
  c1 : w.cell? ⟨b, 1, none⟩ = some (.int .i32 0)
  f0 : w.frozen? ⟨b, 0, none⟩ = false
  f1 : w.frozen? ⟨b, 1, none⟩ = false
  th : w.there b 3 64
/-- B's powers lie there. -/
structure BaseDone (w : World) (b : Nat) : Prop where
  c0 : w.cell? ⟨b, 0, none⟩ = some (.int .u32 1)
  rd : w.rangeAt b 3 (psL (pwN bpP) 4)
theorem BaseNew.keep {w v : World} {b : Nat} (h : BaseNew w b) (hb : v.heap[b]? = w.heap[b]?) : BaseNew v b :=
  ⟨(World.cell?_of_block hb).trans h.c0, (World.cell?_of_block hb).trans h.c1, (World.frozen?_of_block hb).trans h.f0, (World.frozen?_of_block hb).trans h.f1, there_block h.th hb⟩
theorem BaseDone.keep {w v : World} {b : Nat} (h : BaseDone w b) (hb : v.heap[b]? = w.heap[b]?) : BaseDone v b :=
  ⟨(World.cell?_of_block hb).trans h.c0, fun j x hx => (World.cell?_of_block hb).trans (h.rd j x hx)⟩
theorem BaseNew.lt {w : World} {b : Nat} (h : BaseNew w b) : b < w.heap.size := World.block_lt_of_cell? w _ h.c0
theorem BaseDone.lt {w : World} {b : Nat} (h : BaseDone w b) : b < w.heap.size := World.block_lt_of_cell? w _ h.c0
/-- Do, not yet done: B's powers lie there behind it. -/
theorem do_new (b : Nat) (pl : Addr) (w : World) (hG : GlB w) (h7 : 7 ≤ b) (hN : BaseNew w b) (hp : w.cell? pl = some (.pointer (some ⟨b, 0, none⟩))) (hpb : pl.block ≠ b) :
    Calls Tryd.prog 77 #[.pointer (some ⟨b, 0, none⟩), .func (.func 78) #[] #[.pointer (some pl)]] w fun e w' => e = .returned (.tuple #[]) ∧ Bex b w w' ∧ BaseDone w' b := by
  have hlb := hN.lt
  have B1 : Below b w (w.setCell ⟨b, 1, none⟩ (.int .i32 1)) := (Below.refl b w).setCell (p := ⟨b, 1, none⟩) (Nat.le_refl _) _
  have th1 : (w.setCell ⟨b, 1, none⟩ (.int .i32 1)).there b 3 64 := World.there_setCells (n := 64) hN.th b 1 [.int .i32 1]
  have z1 : (w.setCell ⟨b, 1, none⟩ (.int .i32 1)).frozen? ⟨b, 0, none⟩ = false := by
    rw [World.frozen?_setCell]; exact hN.f0
  have z2 : (w.setCell ⟨b, 1, none⟩ (.int .i32 1)).frozen? ⟨b, 1, none⟩ = false := by
    rw [World.frozen?_setCell]; exact hN.f1
  have sz : (w.setCell ⟨b, 1, none⟩ (.int .i32 1)).heap.size = w.heap.size := by simp
  have hcl := onceA b pl (w.setCell ⟨b, 1, none⟩ (.int .i32 1)) (hG.keepB B1 h7) ((World.cell?_setCell_other _ _ _ _ (fun h => hpb (by rw [← h]))).trans hp) th1 hpb
  refine (do_first b pl w _ hN.c0 hN.c1 hN.f1 hcl ?_).mono ?_
  · rintro v ⟨V, hV, rfl⟩
    have hb : V.heap[b]? = (w.setCell ⟨b, 1, none⟩ (.int .i32 1)).heap[b]? := hV.block b (by rw [sz]; exact hlb)
    refine ⟨?_, ?_, ?_, ?_⟩
    · rw [World.cell?_setCells_out b _ 3 V ⟨b, 0, none⟩ (fun _ _ => Or.inl (show 0 < 3 by decide)), World.cell?_of_block hb, World.cell?_setCell_other _ _ _ _ (by simp)]; exact hN.c0
    · rw [World.cell?_setCells_out b _ 3 V ⟨b, 1, none⟩ (fun _ _ => Or.inl (show 1 < 3 by decide)), World.cell?_of_block hb]; exact World.cell?_setCell_same _ _ _ hN.c1
    · rw [World.frozen?_setCells, World.frozen?_of_block hb]; exact z1
    · rw [World.frozen?_setCells, World.frozen?_of_block hb]; exact z2
  · rintro e w' ⟨rfl, v, ⟨V, hV, rfl⟩, rfl⟩
    have hb : V.heap[b]? = (w.setCell ⟨b, 1, none⟩ (.int .i32 1)).heap[b]? := hV.block b (by rw [sz]; exact hlb)
    have thV : V.there b 3 64 := there_block th1 hb
    have c0 : (V.setCells b 3 (psL (pwN bpP) 4)).drew.cell? ⟨b, 0, none⟩ = some (.int .u32 0) := by
      rw [World.cell?_drew, World.cell?_setCells_out b _ 3 V ⟨b, 0, none⟩ (fun _ _ => Or.inl (show 0 < 3 by decide)), World.cell?_of_block hb, World.cell?_setCell_other _ _ _ _ (by simp)]; exact hN.c0
    refine ⟨rfl, ?_, ?_, ?_⟩
    · exact ((((((Bex.of (Below.refl _ w)).setCell 1 (.int .i32 1)).trans (Bex.of hV)).setCells 3 _).drew).setCell 0 _).setCell 1 _
    · rw [World.cell?_setCell_other _ _ _ _ (by simp)]
      exact World.cell?_setCell_same _ _ _ c0
    · intro j x hx
      rw [World.cell?_setCell_other _ _ _ _ (by simp), World.cell?_setCell_other _ _ _ _ (by simp), World.cell?_drew]
      · exact World.rangeAt_setCells_same V b 3 _ (by rw [psL_len]; exact thV) j x hx
      all_goals omega
theorem eqCode (m n : Nat) (hm : m < 115792089237316195423570985008687907853269984665640564039457584007913129639936) (hn : n < 115792089237316195423570985008687907853269984665640564039457584007913129639936) (w : World) :
    (Op.equalIn 10000 48 (.agg (bA m)) (.agg (bA n))).run Tryd.prog w = .ok (decide (m = n)) w := by
  have hsz : ∀ w, (sizeOf 5).run Tryd.prog w = .ok 1 w := by
    intro w
    cases hq : Tryd.prog.info? 5 with
    | none => have := sizeOf8; rw [hq] at this; cases this
    | some inf =>
      have hi : inf.size = 1 := by have := sizeOf8; rw [hq] at this; simpa using this
      simp [sizeOf, typeInfo, hq, hi]
  have e := run_equalIn_bytes (P := Tryd.prog) w 9998 48 5 32 (by kernel_rfl) under8' hsz (leB m 32) (leB n 32) (leB_length _ _) (leB_length _ _)
  have k : (leB m 32 == leB n 32) = decide (m = n) := by
    by_cases h : m = n
    · subst h; simp
    · rw [decide_eq_false h, beq_eq_false_iff_ne]
      intro h2
      apply h
      have h3 : valLE (leB m 32) = valLE (leB n 32) := by rw [h2]
      rw [valLE_leB m hm, valLE_leB n hn] at h3
      exact h3
  rw [← k]
  exact e
section
attribute [local irreducible] num4A nL pA psA psL pL bA bpP dcP dcB
set_option maxRecDepth 100000 in
set_option maxHeartbeats 4000000 in
/-- Base.Powers, the first time. -/
theorem basePowNew (b : Nat) (w : World) (hG : GlB w) (h7 : 7 ≤ b) (hN : BaseNew w b) :
    Calls Tryd.prog 51 #[.pointer (some ⟨b, 0, none⟩)] w fun e w' => e = .returned (.agg (psA (pwN bpP) 4)) ∧ Bex b w w' ∧ BaseDone w' b := by
  have hz := zeroPw
  have hmf : ∀ (fn : Fn) (first cap : Array Value) (w : World), (Instr.makeFunc fn first cap).run Tryd.prog w = .ok (.func fn first cap) w := fun _ _ _ _ => rfl
  have HG := hide hG
  have HN := hide hN
  have lb := hN.lt
  clear hG hN
  go_enter Tryd.func51, Tryd.ntmps51
  go_upto_region 1 with fail
  generalize hW0 : World.alloc _ _ = W0
  have B0 : Hid (Below w.heap.size w W0) := by rw [← hW0]; show Below _ _ _; go_grown
  have RZ : Hid (W0.heap[w.heap.size + 1]? = some (.cells (psA noPt 4) 55 (0, 0))) := by rw [← hW0]; exact heap_alloc2_new _ _ _
  have CP : W0.cell? ⟨w.heap.size, 0, none⟩ = some (.pointer (some ⟨b, 0, none⟩)) := by rw [← hW0]; simp
  clear hW0
  have N0 := hide (HN.out.keep (B0.out.block b lb))
  have G0 := hide (HG.out.keep B0.out)
  go_wp2_with fail
  refine (do_new b ⟨w.heap.size, 0, none⟩ W0 G0.out h7 N0.out CP (by show w.heap.size ≠ b; omega)).mono ?_
  rintro e W1 ⟨rfl, hX, hD⟩
  have HX := hide hX
  have HD := hide hD
  have lz := lt_row RZ.out
  have CP1 : W1.cell? ⟨w.heap.size, 0, none⟩ = some (.pointer (some ⟨b, 0, none⟩)) := (World.cell?_of_block (hX.block _ (by show w.heap.size < _; omega) (by show w.heap.size ≠ b; omega))).trans CP
  have RZ1 : Hid (W1.heap[w.heap.size + 1]? = some (.cells (psA noPt 4) 55 (0, 0))) := (hX.block _ lz (by omega)).trans RZ.out
  clear hX hD CP
  go_wp2_with (first
    | (refine wpList_load_mid (by rfl) 55 (.tmp 10) (by rfl) b 3 (by rfl) (psL (pwN bpP) 4) _ HD.out.rd underPw4 rfl (sizePwL _) ?_)
    | (refine wpList_store_row (by rfl) 55 (.tmp 2) (.tmp 11) (by rfl) (w.heap.size + 1) (psL (pwN bpP) 4).toArray (by rfl) (by rfl) 55 _ RZ1.out (psLa_size _) (psLa_old _ _) (psLa_all _ _) ?_))
  have L2 : Below w.heap.size W1 (W1.setRow (w.heap.size + 1) (psL (pwN bpP) 4).toArray) := below_setRow (Below.refl _ _) (by omega) _
  have X2 : Bex b w (W1.setRow (w.heap.size + 1) (psL (pwN bpP) 4).toArray) := by
    have x := (Bex.of (b := b) B0.out).trans HX.out
    exact ⟨L2.os.trans x.os, L2.tape.trans x.tape, L2.output.trans x.output, Nat.le_trans x.size L2.size, fun k hk hn => (L2.block k hk).trans (x.block k hk hn)⟩
  refine bodyPost_ret (v := .agg (psL (pwN bpP) 4).toArray) (results_cell_row Tryd.results51 _ _ (w.heap.size + 1) 55 _ (0, 0) _ (by rfl) (setRow_heap _ _ _ _ _ _ RZ1.out) underPw4 rfl (psLa_size _)) rfl ⟨by rw [psA_eq], X2, HD.out.keep (L2.block b lb)⟩
end
end Go.Proofs.YtemdlpcljjdfjaaDoor
/- curve: Base.PowersOf. -/
namespace Go.Proofs.YtemdlpcljjdfjaaDoor
open Go.RowKit
theorem dcB_B : dcB bcN = true := by decide +kernel
/-- A code's point's powers. -/
def pofF (m : Nat) : Nat → Pt := if dcB m = true then pwN (dcP m) else noPt
theorem pofF_B : pofF bcN = pwN bpP := by unfold pofF; rw [if_pos dcB_B]; rfl
theorem pofF_ok (m : Nat) (h : dcB m = true) (i : Nat) (_ : i < 4) : (pofF m i).Ok := by
  unfold pofF; rw [if_pos h]; exact dblN_ok (dcP_ok m) _
theorem pofF_no {m : Nat} (h : dcB m = false) : pofF m = noPt := by unfold pofF; rw [if_neg (by rw [h]; decide)]
theorem pofF_yes {m : Nat} (h : dcB m = true) : pofF m = pwN (dcP m) := by unfold pofF; rw [if_pos h]
theorem builtPw0 : Tryd.prog.built 55 [] = some (psA noPt 4) := by kernel_rfl
theorem Bex.setRow {b : Nat} {w v : World} (h : Bex b w v) {g : Nat} (hg : w.heap.size ≤ g) (cs : Array Value) : Bex b w (v.setRow g cs) := by
  have l : Below w.heap.size v (v.setRow g cs) := below_setRow (Below.refl _ _) hg _
  exact ⟨l.os.trans h.os, l.tape.trans h.tape, l.output.trans h.output, Nat.le_trans h.size l.size, fun k hk hn => (l.block k hk).trans (h.block k hk hn)⟩
theorem Bex.ofB {b : Nat} {w v : World} {B : Nat} (h : Below B w v) (hB : w.heap.size ≤ B) : Bex b w v := Bex.of (h.mono hB)
section
attribute [local irreducible] num4A nL pA psA psL pL bA bpP dcP dcB pofF bcN
set_option maxRecDepth 100000 in
set_option maxHeartbeats 4000000 in
theorem powersOfNew (b m : Nat) (hm : m < 115792089237316195423570985008687907853269984665640564039457584007913129639936) (w : World) (hG : GlB w) (h7 : 7 ≤ b) (hN : BaseNew w b) :
    Calls Tryd.prog 28 #[.pointer (some ⟨b, 0, none⟩), .agg (bA m)] w fun e w' => e = .returned (.tuple #[.agg (psA (pofF m) 4), .bool (dcB m)]) ∧ Bex b w w' := by
  have hz := zeroPw
  have hzp := zeroP
  have HG := hide hG
  have HN := hide hN
  have lb := hN.lt
  have HM := hide hm
  have heq := eqCode m bcN hm bcN_lt
  clear hG hN hm
  go_enter Tryd.func28, Tryd.ntmps28
  go_upto_region 1 with fail
  generalize hW0 : World.alloc _ _ = W0
  have B0 : Hid (Below w.heap.size w W0) := by rw [← hW0]; show Below _ _ _; go_grown
  have R3 : Hid (W0.heap[w.heap.size]? = some (.cells (bA m) 48 (0, 0))) := by rw [← hW0]; exact (heap_alloc_old _ _ (by simp)).trans (heap_alloc_new _ _)
  have RZ : Hid (W0.heap[w.heap.size + 1]? = some (.cells (psA noPt 4) 55 (0, 0))) := by rw [← hW0]; exact heap_alloc2_new _ _ _
  clear hW0
  have N0 := hide (HN.out.keep (B0.out.block b lb))
  have G0 := hide (HG.out.keep B0.out)
  obtain ⟨TT, frr, hgc⟩ := G0.out.gc
  have HC := hide hgc
  clear hgc
  by_cases hB : m = bcN
  · have hd : decide (m = bcN) = true := decide_eq_true hB
    rw [hd] at heq
    have HE := hide hB
    clear hd hB
    go_wp2_with (first
      | (refine wpList_load_row (by rfl) 48 (.tmp 3) (by rfl) w.heap.size (by rfl) 48 (bA m) (0, 0) _ R3.out underCode rfl (bA_size _) ?_)
      | (refine wpList_load_row (by rfl) 48 (.global 1) (by rfl) 1 (by rfl) TT (bA bcN) frr _ HC.out underCode rfl (bA_size _) ?_))
    refine (basePowNew b _ G0.out h7 N0.out).mono ?_
    rintro e W1 ⟨rfl, hX, hD⟩
    have RZ1 : Hid (W1.heap[w.heap.size + 1]? = some (.cells (psA noPt 4) 55 (0, 0))) := (hX.block _ (lt_row RZ.out) (by omega)).trans RZ.out
    have X1 := hide ((Bex.of (b := b) B0.out).trans hX)
    clear hX hD
    go_wp2_with (first
      | (refine wpList_store_row (by rfl) 55 (.tmp 4) (.tmp 12) (by rfl) (w.heap.size + 1) (psA (pwN bpP) 4) (by rfl) (by rfl) 55 _ RZ1.out (sizePw _) (psA_old _ _ _) (psA_all _ _) ?_))
    refine bodyPost_ret (v := .tuple #[.agg (psA (pwN bpP) 4), .bool true]) (results_cell_tmp_row Tryd.results28 _ _ (w.heap.size + 1) 55 _ (0, 0) _ (by rfl) (setRow_heap _ _ _ _ _ _ RZ1.out) underPw4 rfl (sizePw _)) rfl ⟨by rw [HE.out, pofF_B, dcB_B], X1.out.setRow (by omega) _⟩
  · have hd : decide (m = bcN) = false := decide_eq_false hB
    rw [hd] at heq
    clear hd hB
    go_wp2_with (first
      | (refine wpList_load_row (by rfl) 48 (.tmp 3) (by rfl) w.heap.size (by rfl) 48 (bA m) (0, 0) _ R3.out underCode rfl (bA_size _) ?_)
      | (refine wpList_load_row (by rfl) 48 (.global 1) (by rfl) 1 (by rfl) TT (bA bcN) frr _ HC.out underCode rfl (bA_size _) ?_))
    refine (decodeA m HM.out _ G0.out.gl).mono ?_
    rintro e W1 ⟨rfl, hB1⟩
    have RZ1 : Hid (W1.heap[w.heap.size + 1]? = some (.cells (psA noPt 4) 55 (0, 0))) := row_keep' RZ.out hB1
    have B1 : Hid (Below w.heap.size w W1) := B0.out.trans (hB1.mono B0.out.size)
    clear hB1
    obtain ⟨p, Ep⟩ : ∃ p, Hid (p = dcP m) := ⟨_, hide rfl⟩
    obtain ⟨ok, Eok⟩ : ∃ p, Hid (p = dcB m) := ⟨_, hide rfl⟩
    rw [← Ep.out, ← Eok.out]
    have Hpo : Hid p.Ok := by rw [Ep.out]; exact dcP_ok m
    go_upto_region 4 with (first
      | (refine wpList_store_row (by rfl) 44 (.tmp 6) (.tmp 16) (by rfl) W1.heap.size (pA p) (by rfl) (by rfl) 44 _ (heap_alloc_new _ _) (pA_size _) (pA_old _ _) (pA_all _) ?_))
    try rw [put_none']
    obtain ⟨g, hg⟩ : ∃ s, s = W1.heap.size := ⟨_, rfl⟩
    generalize hW2 : World.setRow _ _ _ = W2
    have lz := lt_row RZ1.out
    have R6 : Hid (W2.heap[g]? = some (.cells (pA p) 44 (0, 0))) := by rw [← hW2, hg]; exact setRow_heap _ _ _ _ _ _ (heap_alloc_new _ _)
    have RZ2 : Hid (W2.heap[w.heap.size + 1]? = some (.cells (psA noPt 4) 55 (0, 0))) := by rw [← hW2]; exact (setRow_other _ _ _ _ (by omega)).trans ((heap_alloc_old _ _ lz).trans RZ1.out)
    have B2 : Hid (Below w.heap.size w W2) := by rw [← hW2]; exact below_setRow (B1.out.alloc B1.out.size _) B1.out.size _
    rw [← hg]
    clear hW2 hg
    cases ok
    case false =>
      go_wp2_with (first
        | (refine wpList_build_to' (by rfl) 55 _ (by rfl) (psA noPt 4) [] (by kernel_rfl) builtPw0 ?_)
        | (refine wpList_store_row (by rfl) 55 (.tmp 4) (.tmp 20) (by rfl) (w.heap.size + 1) (psA noPt 4) (by rfl) (by rfl) 55 _ RZ2.out (sizePw _) (psA_old _ _ _) (psA_all _ _) ?_))
      refine bodyPost_ret (v := .tuple #[.agg (psA noPt 4), .bool false]) (results_cell_tmp_row Tryd.results28 _ _ (w.heap.size + 1) 55 _ (0, 0) _ (by rfl) (setRow_heap _ _ _ _ _ _ RZ2.out) underPw4 rfl (sizePw _)) rfl ⟨?_, (Bex.of (b := b) B2.out).setRow (by omega) _⟩
      rw [← Eok.out, pofF_no Eok.out.symm]
    case true =>
      go_wp2_with (first
        | (refine wpList_load_row (by rfl) 44 (.tmp 6) (by rfl) g (by rfl) 44 (pA p) (0, 0) _ R6.out Tryd.underlying44 rfl (pA_size _) ?_))
      refine (ptPowA p Hpo.out _).mono ?_
      rintro e W3 ⟨rfl, hB3⟩
      have RZ3 : Hid (W3.heap[w.heap.size + 1]? = some (.cells (psA noPt 4) 55 (0, 0))) := row_keep' RZ2.out hB3
      have B3 : Hid (Below w.heap.size w W3) := B2.out.trans (hB3.mono B2.out.size)
      clear hB3
      go_wp2_with (first
        | (refine wpList_store_row (by rfl) 55 (.tmp 4) (.tmp 22) (by rfl) (w.heap.size + 1) (psA (pwN p) 4) (by rfl) (by rfl) 55 _ RZ3.out (sizePw _) (psA_old _ _ _) (psA_all _ _) ?_))
      refine bodyPost_ret (v := .tuple #[.agg (psA (pwN p) 4), .bool true]) (results_cell_tmp_row Tryd.results28 _ _ (w.heap.size + 1) 55 _ (0, 0) _ (by rfl) (setRow_heap _ _ _ _ _ _ RZ3.out) underPw4 rfl (sizePw _)) rfl ⟨?_, (Bex.of (b := b) B3.out).setRow (by omega) _⟩
      rw [← Eok.out, pofF_yes Eok.out.symm, ← Ep.out]
end
end Go.Proofs.YtemdlpcljjdfjaaDoor
/- latch: Times. -/
namespace Go.Proofs.YtemdlpcljjdfjaaDoor
open Go.RowKit
def bL (n : Nat) : List Value := (leB n 32).map cv
theorem bA_def (n : Nat) : bA n = ((leB n 32).map cv).toArray := rfl
theorem bL_A (n : Nat) : (bL n).toArray = bA n := rfl
theorem bL_size (n : Nat) : (Tryd.prog.info? 47).map (·.size) = some (bL n).length := by unfold bL; rw [List.length_map, leB_length]; exact size32
theorem rangeB {w : World} {b n : Nat} {T : TypeId} {fr : Nat × Nat} (h : w.heap[b]? = some (.cells (bA n) T fr)) : w.rangeAt b 0 (bL n) := by
  intro j v hv
  rw [Nat.zero_add, cell_of_row w b j _ T _ h, ← bL_A, List.getElem?_toArray]
  exact hv
theorem rangePw {w : World} {b m : Nat} {f : Nat → Pt} {T : TypeId} {fr : Nat × Nat} (h : w.heap[b]? = some (.cells (psA f m) T fr)) : w.rangeAt b 0 (psL f m) := by
  intro j v hv
  rw [Nat.zero_add, cell_of_row w b j _ T _ h, psA_eq, List.getElem?_toArray]
  exact hv
theorem yldPw {ops : Array Oper} {S : World → Prop} {op : Oper} {a : Act} (hw : Region.wanted op (yielded ops a.tmps) = true) (x : Operand) (ho : op.op = .load 55 x)
    (b o : Nat) (f : Nat → Pt) (hx : a.eval x = .pointer (some ⟨b, o, none⟩)) (hS : ∀ w, S w → w.rangeAt b o (psL f 4)) : YieldsIf Tryd.prog ops S op (.agg (psA f 4)) a :=
  yld_load hw _ x ho b o hx (psL f 4) (psA f 4) rfl _ hS underPw4 rfl (sizePwL f)
theorem yldB {ops : Array Oper} {S : World → Prop} {op : Oper} {a : Act} (hw : Region.wanted op (yielded ops a.tmps) = true) (x : Operand) (ho : op.op = .load 47 x)
    (b o n : Nat) (hx : a.eval x = .pointer (some ⟨b, o, none⟩)) (hS : ∀ w, S w → w.rangeAt b o (bL n)) : YieldsIf Tryd.prog ops S op (.agg (bA n)) a :=
  yld_load hw _ x ho b o hx (bL n) (bA n) rfl _ hS under32 rfl (bL_size n)
theorem hrunOfBytes {a : Act} {o : Oper} (x : Operand) (ho : o.op = .call { callee := .value (.func 30), args := #[x], argTypes := #[47] }) (v1 : Value) (hx : a.eval x = v1) (w : World) :
    (execOp a.eval o).run Tryd.prog w = .ok (.enter 30 #[v1]) w := by
  unfold execOp
  simp only [ho]
  subst hx
  go_simp
theorem hrunPtTimes {a : Act} {o : Oper} (x y : Operand) (ho : o.op = .call { callee := .value (.func 29), args := #[x, y], argTypes := #[55, 41] }) (v1 v2 : Value) (hx : a.eval x = v1) (hy : a.eval y = v2) (w : World) :
    (execOp a.eval o).run Tryd.prog w = .ok (.enter 29 #[v1, v2]) w := by
  unfold execOp
  simp only [ho]
  subst hx hy
  go_simp
theorem hrunPtCode {a : Act} {o : Oper} (x : Operand) (ho : o.op = .call { callee := .value (.func 25), args := #[x], argTypes := #[44] }) (v1 : Value) (hx : a.eval x = v1) (w : World) :
    (execOp a.eval o).run Tryd.prog w = .ok (.enter 25 #[v1]) w := by
  unfold execOp
  simp only [ho]
  subst hx
  go_simp
theorem hrunAllocCode {a : Act} {o : Oper} (ho : o.op = .alloc 48) (w : World) :
    (execOp a.eval o).run Tryd.prog w = .ok (.value (.pointer (some ⟨w.heap.size, 0, none⟩))) (w.alloc (.cells (bA 0) 48)) := by
  have hz := zeroCode
  unfold execOp
  simp only [ho]
  go_simp
theorem ofBytesN (n : Nat) (hn : n < 115792089237316195423570985008687907853269984665640564039457584007913129639936) (w : World) :
    Calls Tryd.prog 30 #[.agg (bA n)] w fun e w' => e = .returned (.agg (num4A n)) ∧ Below w.heap.size w w' := by
  have := ofBytes_list (leB n 32) (leB_length _ _) (bA n) rfl w
  rw [valLE_leB n hn] at this
  exact this
/-- A new Base. -/
def baseZ : Array Value := (Value.int .u32 0 :: Value.int .i32 0 :: Value.int .u32 0 :: psL noPt 4).toArray
theorem zeroBase (w : World) : (zeroValue 71).run Tryd.prog w = .ok (.agg baseZ) w := by kernel_rfl
theorem baseZ_new {w : World} {b : Nat} {T : TypeId} (h : w.heap[b]? = some (.cells baseZ T (0, 0))) : BaseNew w b := by
  refine ⟨?_, ?_, frozen_of_row w b 0 _ _ h, frozen_of_row w b 1 _ _ h, fun j hj => ⟨?_, frozen_of_row w b (3 + j) _ _ h⟩⟩
  · rw [cell_of_row w b 0 _ T _ h]; rfl
  · rw [cell_of_row w b 1 _ T _ h]; rfl
  · rw [cell_of_row w b (3 + j) _ T _ h]
    unfold baseZ
    rw [List.getElem?_toArray, List.getElem?_eq_getElem (by simp only [List.length_cons, psL_len]; omega)]; rfl
/-- What latch.Times answers. -/
def lTmB (s p : ByteArray) : Bool := ksO s && (ksO p && dcB (ksN p))
def lTmS (s p : ByteArray) : ByteArray := if lTmB s p = true then strOf (leB (cdN (mlP (pofF (ksN p)) (ksN s) 64)) 32) else ⟨#[]⟩
def lTmE (s p : ByteArray) : Int := if ksO s = false then 1 else if lTmB s p = true then 0 else 2
theorem GlB.seven {w : World} (h : GlB w) : 7 ≤ w.heap.size := by
  obtain ⟨t, f, e⟩ := h.gl.g5
  have := lt_row e
  omega
section
attribute [local irreducible] num4A nL pA psA psL pL bA bpP dcP dcB pofF bcN baseZ
set_option maxRecDepth 100000 in
set_option maxHeartbeats 4000000 in
theorem latchTimesA (s t : ByteArray) (w : World) (hG : GlB w) :
    Calls Tryd.prog 11 #[.string s, .string t] w fun e w' => e = .returned (.tuple #[.string (lTmS s t), .int .i64 (lTmE s t)]) ∧ Below w.heap.size w w' := by
  have hz := zeroPw
  have hzb := zeroBase
  have hzc := zeroCode
  have hz32 := zero32A
  have HG := hide hG
  clear hG
  go_enter Tryd.func11, Tryd.ntmps11
  go_wp2_with fail
  refine (keySizedA s _).mono ?_
  rintro e W1 ⟨rfl, hB1⟩
  have BL := hide hB1
  clear hB1
  obtain ⟨n, En⟩ : ∃ n, Hid (n = ksN s) := ⟨_, hide rfl⟩
  obtain ⟨b1, Eb1⟩ : ∃ n, Hid (n = ksO s) := ⟨_, hide rfl⟩
  have Hn : Hid (n < 115792089237316195423570985008687907853269984665640564039457584007913129639936) := by rw [En.out]; exact ksN_lt s
  rw [← En.out, ← Eb1.out]
  go_upto_region 2 with (first | (refine wpList_store_row (by rfl) 47 (.tmp 6) (.tmp 14) (by rfl) W1.heap.size (bA n) (by rfl) (by rfl) 47 _ (heap_alloc_new _ _) (bA_size' _) (bA_old _ _) (bA_all _) ?_))
  try rw [put_none']
  obtain ⟨g6, hg6⟩ : ∃ s, s = W1.heap.size := ⟨_, rfl⟩
  generalize hW2 : World.setRow _ _ _ = W2
  have R6 : Hid (W2.heap[g6]? = some (.cells (bA n) 47 (0, 0))) := by rw [← hW2, hg6]; exact setRow_heap _ _ _ _ _ _ (heap_alloc_new _ _)
  have BL2 : Hid (Below w.heap.size w W2) := by rw [← hW2]; exact below_setRow (BL.out.alloc BL.out.size _) BL.out.size _
  rw [← hg6]
  clear hW2 hg6 BL
  cases b1
  case false =>
    go_wp2_with fail
    go_returns
    refine ⟨?_, BL2.out⟩
    unfold lTmS lTmE lTmB
    rw [← Eb1.out, Bool.false_and, if_neg (by decide), if_pos rfl]; rfl
  case true =>
  go_wp2_with fail
  refine (keySizedA t _).mono ?_
  rintro e W3 ⟨rfl, hB3⟩
  have R6 := hide (row_keep' R6.out hB3)
  have BL : Hid (Below w.heap.size w W3) := BL2.out.trans (hB3.mono BL2.out.size)
  clear hB3 BL2
  obtain ⟨m, Em⟩ : ∃ n, Hid (n = ksN t) := ⟨_, hide rfl⟩
  obtain ⟨b2, Eb2⟩ : ∃ n, Hid (n = ksO t) := ⟨_, hide rfl⟩
  have Hm : Hid (m < 115792089237316195423570985008687907853269984665640564039457584007913129639936) := by rw [Em.out]; exact ksN_lt t
  rw [← Em.out, ← Eb2.out]
  go_upto_region 5 with (first | (refine wpList_store_row (by rfl) 47 (.tmp 8) (.tmp 21) (by rfl) W3.heap.size (bA m) (by rfl) (by rfl) 47 _ (heap_alloc_new _ _) (bA_size' _) (bA_old _ _) (bA_all _) ?_))
  try rw [put_none']
  obtain ⟨g8, hg8⟩ : ∃ s, s = W3.heap.size := ⟨_, rfl⟩
  generalize hW4 : World.setRow _ _ _ = W4
  have l6 := lt_row R6.out
  have R8 : Hid (W4.heap[g8]? = some (.cells (bA m) 47 (0, 0))) := by rw [← hW4, hg8]; exact setRow_heap _ _ _ _ _ _ (heap_alloc_new _ _)
  have R6 : Hid (W4.heap[g6]? = some (.cells (bA n) 47 (0, 0))) := by rw [← hW4]; exact (setRow_other _ _ _ _ (by omega)).trans ((heap_alloc_old _ _ l6).trans R6.out)
  have BL4 : Hid (Below w.heap.size w W4) := by rw [← hW4]; exact below_setRow (BL.out.alloc BL.out.size _) BL.out.size _
  rw [← hg8]
  clear hW4 hg8 BL l6
  cases b2
  case false =>
    go_wp2_with fail
    go_returns
    refine ⟨?_, BL4.out⟩
    unfold lTmS lTmE lTmB
    rw [← Eb1.out, ← Eb2.out, Bool.false_and, Bool.and_false, if_neg (by decide), if_neg (by decide), if_neg (by decide)]; rfl
  case true =>
  go_upto_region 7 with fail
  have G4 := hide (HG.out.keep BL4.out)
  have R8a : Hid ((W4.alloc (.cells baseZ 71)).heap[g8]? = some (.cells (bA m) 47 (0, 0))) := (heap_alloc_old _ _ (lt_row R8.out)).trans R8.out
  have A4 : Hid (Below W4.heap.size W4 (W4.alloc (.cells baseZ 71))) := (Below.refl _ _).alloc (Nat.le_refl _) _
  go_wp2_with (first | (refine wpList_load_row (by rfl) 47 (.tmp 8) (by rfl) g8 (by rfl) 47 (bA m) (0, 0) _ R8a.out under32 rfl (bA_size' _) ?_))
  refine (powersOfNew W4.heap.size m Hm.out _ (G4.out.keep A4.out) G4.out.seven (baseZ_new (heap_alloc_new _ _))).mono ?_
  rintro e W6 ⟨rfl, hX⟩
  have K6 : Hid (Below W4.heap.size W4 W6) := A4.out.trans (hX.below (by simp))
  clear hX A4 R8a
  have R6 := hide (row_keep' R6.out K6.out)
  have G6 := hide (G4.out.keep K6.out)
  have BL : Hid (Below w.heap.size w W6) := BL4.out.trans (K6.out.mono BL4.out.size)
  clear K6 BL4 G4 R8
  obtain ⟨F, EF⟩ : ∃ F, Hid (F = pofF m) := ⟨_, hide rfl⟩
  obtain ⟨ok, Eok⟩ : ∃ o, Hid (o = dcB m) := ⟨_, hide rfl⟩
  rw [← EF.out, ← Eok.out]
  go_upto_region 8 with (first | (refine wpList_store_row (by rfl) 55 (.tmp 9) (.tmp 29) (by rfl) W6.heap.size (psA F 4) (by rfl) (by rfl) 55 _ (heap_alloc_new _ _) (sizePw _) (psA_old _ _ _) (psA_all _ _) ?_))
  try rw [put_none']
  obtain ⟨g9, hg9⟩ : ∃ s, s = W6.heap.size := ⟨_, rfl⟩
  generalize hW7 : World.setRow _ _ _ = W7
  have K7 : Hid (Below W6.heap.size W6 W7) := by rw [← hW7]; exact below_setRow ((Below.refl _ _).alloc (Nat.le_refl _) _) (Nat.le_refl _) _
  have R9 : Hid (W7.heap[g9]? = some (.cells (psA F 4) 55 (0, 0))) := by rw [← hW7, hg9]; exact setRow_heap _ _ _ _ _ _ (heap_alloc_new _ _)
  have R6 := hide (row_keep' R6.out K7.out)
  have G7 := hide (G6.out.gl.keep K7.out)
  have BL7 : Hid (Below w.heap.size w W7) := BL.out.trans (K7.out.mono BL.out.size)
  rw [← hg9]
  clear hW7 hg9 BL K7 G6
  cases ok
  case false =>
    go_wp2_with fail
    go_returns
    refine ⟨?_, BL7.out⟩
    unfold lTmS lTmE lTmB
    rw [← Eb1.out, ← Eb2.out, ← Em.out, ← Eok.out, Bool.and_false, Bool.and_false, if_neg (by decide), if_neg (by decide), if_neg (by decide)]; rfl
  case true =>
  have HF : Hid (∀ i, i < 4 → (F i).Ok) := by
    show ∀ i, i < 4 → (F i).Ok
    rw [EF.out]; exact pofF_ok m Eok.out.symm
  have l6 := lt_row R6.out
  have l9 := lt_row R9.out
  have R6r := hide (rangeB R6.out)
  have R9r := hide (rangePw R9.out)
  go_upto_region 10 with fail
  go_cut [10] from 33 to 37 (fun s wx => ∃ g, s = .pointer (some ⟨g, 0, none⟩) ∧ Hid (wx.heap[g]? = some (.cells (bA (cdN (mlP F n 64))) 48 (0, 0))) ∧ Hid (Below W7.heap.size W7 wx))
  case first =>
    refine wp_region_held_drew (S := fun w' => w'.rangeAt g9 0 (psL F 4) ∧ w'.rangeAt g6 0 (bL n)) (by kernel_rfl) ⟨R9r.out, R6r.out⟩ (fun hHeld => ?_)
    have KV1 : Hid (Below W7.heap.size W7 W7.drew) := (Below.refl _ _).drew
    obtain ⟨V1, hV1⟩ : ∃ V, V = W7.drew := ⟨_, rfl⟩
    rw [← hV1] at hHeld KV1 ⊢
    clear hV1
    refine wpAnyH_take (i := 0) (oi := { dst := some 33, op := Go.Op.load 55 (Go.Operand.tmp 9), type := 55, pos := "latch.go:90", after := #[], guard := none }) (v := .agg (psA F 4)) rfl (by kernel_rfl) (by kernel_rfl) (by kernel_rfl) (fun _ _ _ h => h) (yldPw (by rfl) _ rfl g9 0 F rfl (fun w h => h.1)) hHeld ?_
    simp only [Act.put, List.setIfInBounds_toArray, List.set_cons_zero, List.set_cons_succ]
    refine wpAnyH_take (i := 1) (oi := { dst := some 34, op := Go.Op.load 47 (Go.Operand.tmp 6), type := 47, pos := "latch.go:90", after := #[], guard := none }) (v := .agg (bA n)) rfl (by kernel_rfl) (by kernel_rfl) (by kernel_rfl) (fun _ _ _ h => h) (yldB (by rfl) _ rfl g6 0 n rfl (fun w h => h.2)) hHeld ?_
    simp only [Act.put, List.setIfInBounds_toArray, List.set_cons_zero, List.set_cons_succ]
    refine wpAnyH_ready (rs := [2, 5]) (by kernel_rfl) (by simp) ?_
    refine AllReadyH.cons (o := { dst := some 35, op := Go.Op.call { callee := Go.Callee.value (Go.Operand.func 30), args := #[Go.Operand.tmp 34], argTypes := #[47] }, type := 41, pos := "latch.go:90", after := #[{ on := 1, ground := Go.Ground.data }], guard := none }) rfl (fun K hK => ?_) ?_
    · skip
      refine step_callTo (by rfl) _ _ (hrunOfBytes _ rfl (.agg (bA n)) rfl V1) _ _ (ofBytesN n Hn.out V1) (fun V2 HBx => ?_)
      have KV2 : Hid (Below W7.heap.size W7 V2) := KV1.out.trans (HBx.mono KV1.out.size)
      clear HBx
      refine hK.out _ _ ?_ (fun hHeld => ?_)
      · exact ⟨range_below R9r.out KV2.out l9, range_below R6r.out KV2.out l6⟩
      clear hK K
      try simp only [Act.put, List.setIfInBounds_toArray, List.set_cons_zero, List.set_cons_succ]
      refine wpAnyH_ready (rs := [3, 5]) (by kernel_rfl) (by simp) ?_
      refine AllReadyH.cons (o := { dst := some 36, op := Go.Op.call { callee := Go.Callee.value (Go.Operand.func 29), args := #[Go.Operand.tmp 33, Go.Operand.tmp 35], argTypes := #[55, 41] }, type := 44, pos := "latch.go:90", after := #[{ on := 0, ground := Go.Ground.data }, { on := 2, ground := Go.Ground.data }, { on := 2, ground := Go.Ground.chain }], guard := none }) rfl (fun K hK => ?_) ?_
      · skip
        refine step_callTo (by rfl) _ _ (hrunPtTimes _ _ rfl (.agg (psA F 4)) (.agg (num4A n)) rfl rfl V2) _ _ (ptTimesA F HF.out n V2 (G7.out.keep KV2.out)) (fun V3 HBx => ?_)
        have KV3 : Hid (Below W7.heap.size W7 V3) := KV2.out.trans (HBx.mono KV2.out.size)
        clear HBx
        refine hK.out _ _ ?_ (fun hHeld => ?_)
        · exact ⟨range_below R9r.out KV3.out l9, range_below R6r.out KV3.out l6⟩
        clear hK K
        try simp only [Act.put, List.setIfInBounds_toArray, List.set_cons_zero, List.set_cons_succ]
        refine wpAnyH_ready (rs := [4, 5]) (by kernel_rfl) (by simp) ?_
        refine AllReadyH.cons (o := { dst := some 37, op := Go.Op.call { callee := Go.Callee.value (Go.Operand.func 25), args := #[Go.Operand.tmp 36], argTypes := #[44] }, type := 48, pos := "latch.go:90", after := #[{ on := 3, ground := Go.Ground.data }, { on := 3, ground := Go.Ground.chain }], guard := none }) rfl (fun K hK => ?_) ?_
        · skip
          refine step_callTo (by rfl) _ _ (hrunPtCode _ rfl (.agg (pA (mlP F n 64))) rfl V3) _ _ (ptCodeA (mlP F n 64) (mlP_ok F n 64) V3) (fun V4 HBx => ?_)
          have KV4 : Hid (Below W7.heap.size W7 V4) := KV3.out.trans (HBx.mono KV3.out.size)
          clear HBx
          refine hK.out _ _ ?_ (fun hHeld => ?_)
          · exact ⟨range_below R9r.out KV4.out l9, range_below R6r.out KV4.out l6⟩
          clear hK K
          try simp only [Act.put, List.setIfInBounds_toArray, List.set_cons_zero, List.set_cons_succ]
          refine wpAnyH_ready (rs := [5]) (by kernel_rfl) (by simp) ?_
          refine AllReadyH.cons (o := { dst := some 10, op := Go.Op.alloc 48, type := 0, pos := "latch.go:90", after := #[], guard := none }) rfl (fun K hK => ?_) ?_
          · skip
            refine step_runTo (w' := V4.alloc (.cells (bA 0) 48)) (by rfl) (.pointer (some ⟨V4.heap.size, 0, none⟩)) (hrunAllocCode rfl V4) ?_
            obtain ⟨gg5, hgg5⟩ : ∃ g, g = V4.heap.size := ⟨_, rfl⟩
            have ZN : Hid ((V4.alloc (.cells (bA 0) 48)).heap[gg5]? = some (.cells (bA 0) 48 (0, 0))) := by rw [hgg5]; exact heap_alloc_new _ _
            have KV5 : Hid (Below W7.heap.size W7 (V4.alloc (.cells (bA 0) 48))) := KV4.out.alloc KV4.out.size _
            have GG : Hid (W7.heap.size ≤ gg5) := by rw [hgg5]; exact KV4.out.size
            rw [← hgg5]
            obtain ⟨V5, hV5⟩ : ∃ V, V = V4.alloc (.cells (bA 0) 48) := ⟨_, rfl⟩
            rw [← hV5] at ZN KV5 ⊢
            clear hV5 hgg5
            refine hK.out _ _ ?_ (fun hHeld => ?_)
            · exact ⟨range_below R9r.out KV5.out l9, range_below R6r.out KV5.out l6⟩
            clear hK K
            try simp only [Act.put, List.setIfInBounds_toArray, List.set_cons_zero, List.set_cons_succ]
            refine wpAnyH_ready (rs := [6]) (by kernel_rfl) (by simp) ?_
            refine AllReadyH.cons (o := { dst := none, op := Go.Op.store 48 (Go.Operand.tmp 10) (Go.Operand.tmp 37), type := 0, pos := "latch.go:90", after := #[{ on := 5, ground := Go.Ground.data }, { on := 4, ground := Go.Ground.data }, { on := 4, ground := Go.Ground.chain }, { on := 0, ground := Go.Ground.phase }, { on := 1, ground := Go.Ground.phase }, { on := 2, ground := Go.Ground.phase }, { on := 3, ground := Go.Ground.phase }, { on := 4, ground := Go.Ground.phase }, { on := 5, ground := Go.Ground.phase }], guard := none }) rfl (fun K hK => ?_) ?_
            · skip
              refine step_store_row _ (by rfl) 48 (.tmp 10) (.tmp 37) (by rfl) gg5 (bA (cdN (mlP F n 64))) (by rfl) (by rfl) 48 _ ZN.out (bA_size _) (bA_old _ _) (bA_all _) ?_
              rw [put_none']
              refine hK.out _ _ ?_ (fun hHeld => ?_)
              · exact ⟨range_set (range_below R9r.out KV5.out l9) (Nat.ne_of_lt (Nat.lt_of_lt_of_le l9 GG.out)), range_set (range_below R6r.out KV5.out l6) (Nat.ne_of_lt (Nat.lt_of_lt_of_le l6 GG.out))⟩
              clear hK K
              try simp only [Act.put, List.setIfInBounds_toArray, List.set_cons_zero, List.set_cons_succ]
              refine wpAnyH_done (by kernel_rfl) ?_ _
              go_wp2_with fail
              go_meet
              case rel => exact ⟨gg5, rfl, hide (setRow_heap _ _ _ _ _ _ ZN.out), hide (below_setRow KV5.out GG.out _)⟩
            exact AllReadyH.nil
          exact AllReadyH.nil
        refine AllReadyH.cons (o := { dst := some 10, op := Go.Op.alloc 48, type := 0, pos := "latch.go:90", after := #[], guard := none }) rfl (fun K hK => ?_) ?_
        · skip
          refine step_runTo (w' := V3.alloc (.cells (bA 0) 48)) (by rfl) (.pointer (some ⟨V3.heap.size, 0, none⟩)) (hrunAllocCode rfl V3) ?_
          obtain ⟨gg7, hgg7⟩ : ∃ g, g = V3.heap.size := ⟨_, rfl⟩
          have ZN : Hid ((V3.alloc (.cells (bA 0) 48)).heap[gg7]? = some (.cells (bA 0) 48 (0, 0))) := by rw [hgg7]; exact heap_alloc_new _ _
          have KV7 : Hid (Below W7.heap.size W7 (V3.alloc (.cells (bA 0) 48))) := KV3.out.alloc KV3.out.size _
          have GG : Hid (W7.heap.size ≤ gg7) := by rw [hgg7]; exact KV3.out.size
          rw [← hgg7]
          obtain ⟨V7, hV7⟩ : ∃ V, V = V3.alloc (.cells (bA 0) 48) := ⟨_, rfl⟩
          rw [← hV7] at ZN KV7 ⊢
          clear hV7 hgg7
          refine hK.out _ _ ?_ (fun hHeld => ?_)
          · exact ⟨range_below R9r.out KV7.out l9, range_below R6r.out KV7.out l6⟩
          clear hK K
          try simp only [Act.put, List.setIfInBounds_toArray, List.set_cons_zero, List.set_cons_succ]
          refine wpAnyH_ready (rs := [4]) (by kernel_rfl) (by simp) ?_
          refine AllReadyH.cons (o := { dst := some 37, op := Go.Op.call { callee := Go.Callee.value (Go.Operand.func 25), args := #[Go.Operand.tmp 36], argTypes := #[44] }, type := 48, pos := "latch.go:90", after := #[{ on := 3, ground := Go.Ground.data }, { on := 3, ground := Go.Ground.chain }], guard := none }) rfl (fun K hK => ?_) ?_
          · skip
            refine step_callTo (by rfl) _ _ (hrunPtCode _ rfl (.agg (pA (mlP F n 64))) rfl V7) _ _ (ptCodeA (mlP F n 64) (mlP_ok F n 64) V7) (fun V8 HBx => ?_)
            have KV8 : Hid (Below W7.heap.size W7 V8) := KV7.out.trans (HBx.mono KV7.out.size)
            have ZN := hide (row_keep' ZN.out HBx)
            clear HBx
            refine hK.out _ _ ?_ (fun hHeld => ?_)
            · exact ⟨range_below R9r.out KV8.out l9, range_below R6r.out KV8.out l6⟩
            clear hK K
            try simp only [Act.put, List.setIfInBounds_toArray, List.set_cons_zero, List.set_cons_succ]
            refine wpAnyH_ready (rs := [6]) (by kernel_rfl) (by simp) ?_
            refine AllReadyH.cons (o := { dst := none, op := Go.Op.store 48 (Go.Operand.tmp 10) (Go.Operand.tmp 37), type := 0, pos := "latch.go:90", after := #[{ on := 5, ground := Go.Ground.data }, { on := 4, ground := Go.Ground.data }, { on := 4, ground := Go.Ground.chain }, { on := 0, ground := Go.Ground.phase }, { on := 1, ground := Go.Ground.phase }, { on := 2, ground := Go.Ground.phase }, { on := 3, ground := Go.Ground.phase }, { on := 4, ground := Go.Ground.phase }, { on := 5, ground := Go.Ground.phase }], guard := none }) rfl (fun K hK => ?_) ?_
            · skip
              refine step_store_row _ (by rfl) 48 (.tmp 10) (.tmp 37) (by rfl) gg7 (bA (cdN (mlP F n 64))) (by rfl) (by rfl) 48 _ ZN.out (bA_size _) (bA_old _ _) (bA_all _) ?_
              rw [put_none']
              refine hK.out _ _ ?_ (fun hHeld => ?_)
              · exact ⟨range_set (range_below R9r.out KV8.out l9) (Nat.ne_of_lt (Nat.lt_of_lt_of_le l9 GG.out)), range_set (range_below R6r.out KV8.out l6) (Nat.ne_of_lt (Nat.lt_of_lt_of_le l6 GG.out))⟩
              clear hK K
              try simp only [Act.put, List.setIfInBounds_toArray, List.set_cons_zero, List.set_cons_succ]
              refine wpAnyH_done (by kernel_rfl) ?_ _
              go_wp2_with fail
              go_meet
              case rel => exact ⟨gg7, rfl, hide (setRow_heap _ _ _ _ _ _ ZN.out), hide (below_setRow KV8.out GG.out _)⟩
            exact AllReadyH.nil
          exact AllReadyH.nil
        exact AllReadyH.nil
      refine AllReadyH.cons (o := { dst := some 10, op := Go.Op.alloc 48, type := 0, pos := "latch.go:90", after := #[], guard := none }) rfl (fun K hK => ?_) ?_
      · skip
        refine step_runTo (w' := V2.alloc (.cells (bA 0) 48)) (by rfl) (.pointer (some ⟨V2.heap.size, 0, none⟩)) (hrunAllocCode rfl V2) ?_
        obtain ⟨gg10, hgg10⟩ : ∃ g, g = V2.heap.size := ⟨_, rfl⟩
        have ZN : Hid ((V2.alloc (.cells (bA 0) 48)).heap[gg10]? = some (.cells (bA 0) 48 (0, 0))) := by rw [hgg10]; exact heap_alloc_new _ _
        have KV10 : Hid (Below W7.heap.size W7 (V2.alloc (.cells (bA 0) 48))) := KV2.out.alloc KV2.out.size _
        have GG : Hid (W7.heap.size ≤ gg10) := by rw [hgg10]; exact KV2.out.size
        rw [← hgg10]
        obtain ⟨V10, hV10⟩ : ∃ V, V = V2.alloc (.cells (bA 0) 48) := ⟨_, rfl⟩
        rw [← hV10] at ZN KV10 ⊢
        clear hV10 hgg10
        refine hK.out _ _ ?_ (fun hHeld => ?_)
        · exact ⟨range_below R9r.out KV10.out l9, range_below R6r.out KV10.out l6⟩
        clear hK K
        try simp only [Act.put, List.setIfInBounds_toArray, List.set_cons_zero, List.set_cons_succ]
        refine wpAnyH_ready (rs := [3]) (by kernel_rfl) (by simp) ?_
        refine AllReadyH.cons (o := { dst := some 36, op := Go.Op.call { callee := Go.Callee.value (Go.Operand.func 29), args := #[Go.Operand.tmp 33, Go.Operand.tmp 35], argTypes := #[55, 41] }, type := 44, pos := "latch.go:90", after := #[{ on := 0, ground := Go.Ground.data }, { on := 2, ground := Go.Ground.data }, { on := 2, ground := Go.Ground.chain }], guard := none }) rfl (fun K hK => ?_) ?_
        · skip
          refine step_callTo (by rfl) _ _ (hrunPtTimes _ _ rfl (.agg (psA F 4)) (.agg (num4A n)) rfl rfl V10) _ _ (ptTimesA F HF.out n V10 (G7.out.keep KV10.out)) (fun V11 HBx => ?_)
          have KV11 : Hid (Below W7.heap.size W7 V11) := KV10.out.trans (HBx.mono KV10.out.size)
          have ZN := hide (row_keep' ZN.out HBx)
          clear HBx
          refine hK.out _ _ ?_ (fun hHeld => ?_)
          · exact ⟨range_below R9r.out KV11.out l9, range_below R6r.out KV11.out l6⟩
          clear hK K
          try simp only [Act.put, List.setIfInBounds_toArray, List.set_cons_zero, List.set_cons_succ]
          refine wpAnyH_ready (rs := [4]) (by kernel_rfl) (by simp) ?_
          refine AllReadyH.cons (o := { dst := some 37, op := Go.Op.call { callee := Go.Callee.value (Go.Operand.func 25), args := #[Go.Operand.tmp 36], argTypes := #[44] }, type := 48, pos := "latch.go:90", after := #[{ on := 3, ground := Go.Ground.data }, { on := 3, ground := Go.Ground.chain }], guard := none }) rfl (fun K hK => ?_) ?_
          · skip
            refine step_callTo (by rfl) _ _ (hrunPtCode _ rfl (.agg (pA (mlP F n 64))) rfl V11) _ _ (ptCodeA (mlP F n 64) (mlP_ok F n 64) V11) (fun V12 HBx => ?_)
            have KV12 : Hid (Below W7.heap.size W7 V12) := KV11.out.trans (HBx.mono KV11.out.size)
            have ZN := hide (row_keep' ZN.out HBx)
            clear HBx
            refine hK.out _ _ ?_ (fun hHeld => ?_)
            · exact ⟨range_below R9r.out KV12.out l9, range_below R6r.out KV12.out l6⟩
            clear hK K
            try simp only [Act.put, List.setIfInBounds_toArray, List.set_cons_zero, List.set_cons_succ]
            refine wpAnyH_ready (rs := [6]) (by kernel_rfl) (by simp) ?_
            refine AllReadyH.cons (o := { dst := none, op := Go.Op.store 48 (Go.Operand.tmp 10) (Go.Operand.tmp 37), type := 0, pos := "latch.go:90", after := #[{ on := 5, ground := Go.Ground.data }, { on := 4, ground := Go.Ground.data }, { on := 4, ground := Go.Ground.chain }, { on := 0, ground := Go.Ground.phase }, { on := 1, ground := Go.Ground.phase }, { on := 2, ground := Go.Ground.phase }, { on := 3, ground := Go.Ground.phase }, { on := 4, ground := Go.Ground.phase }, { on := 5, ground := Go.Ground.phase }], guard := none }) rfl (fun K hK => ?_) ?_
            · skip
              refine step_store_row _ (by rfl) 48 (.tmp 10) (.tmp 37) (by rfl) gg10 (bA (cdN (mlP F n 64))) (by rfl) (by rfl) 48 _ ZN.out (bA_size _) (bA_old _ _) (bA_all _) ?_
              rw [put_none']
              refine hK.out _ _ ?_ (fun hHeld => ?_)
              · exact ⟨range_set (range_below R9r.out KV12.out l9) (Nat.ne_of_lt (Nat.lt_of_lt_of_le l9 GG.out)), range_set (range_below R6r.out KV12.out l6) (Nat.ne_of_lt (Nat.lt_of_lt_of_le l6 GG.out))⟩
              clear hK K
              try simp only [Act.put, List.setIfInBounds_toArray, List.set_cons_zero, List.set_cons_succ]
              refine wpAnyH_done (by kernel_rfl) ?_ _
              go_wp2_with fail
              go_meet
              case rel => exact ⟨gg10, rfl, hide (setRow_heap _ _ _ _ _ _ ZN.out), hide (below_setRow KV12.out GG.out _)⟩
            exact AllReadyH.nil
          exact AllReadyH.nil
        exact AllReadyH.nil
      exact AllReadyH.nil
    refine AllReadyH.cons (o := { dst := some 10, op := Go.Op.alloc 48, type := 0, pos := "latch.go:90", after := #[], guard := none }) rfl (fun K hK => ?_) ?_
    · skip
      refine step_runTo (w' := V1.alloc (.cells (bA 0) 48)) (by rfl) (.pointer (some ⟨V1.heap.size, 0, none⟩)) (hrunAllocCode rfl V1) ?_
      obtain ⟨gg14, hgg14⟩ : ∃ g, g = V1.heap.size := ⟨_, rfl⟩
      have ZN : Hid ((V1.alloc (.cells (bA 0) 48)).heap[gg14]? = some (.cells (bA 0) 48 (0, 0))) := by rw [hgg14]; exact heap_alloc_new _ _
      have KV14 : Hid (Below W7.heap.size W7 (V1.alloc (.cells (bA 0) 48))) := KV1.out.alloc KV1.out.size _
      have GG : Hid (W7.heap.size ≤ gg14) := by rw [hgg14]; exact KV1.out.size
      rw [← hgg14]
      obtain ⟨V14, hV14⟩ : ∃ V, V = V1.alloc (.cells (bA 0) 48) := ⟨_, rfl⟩
      rw [← hV14] at ZN KV14 ⊢
      clear hV14 hgg14
      refine hK.out _ _ ?_ (fun hHeld => ?_)
      · exact ⟨range_below R9r.out KV14.out l9, range_below R6r.out KV14.out l6⟩
      clear hK K
      try simp only [Act.put, List.setIfInBounds_toArray, List.set_cons_zero, List.set_cons_succ]
      refine wpAnyH_ready (rs := [2]) (by kernel_rfl) (by simp) ?_
      refine AllReadyH.cons (o := { dst := some 35, op := Go.Op.call { callee := Go.Callee.value (Go.Operand.func 30), args := #[Go.Operand.tmp 34], argTypes := #[47] }, type := 41, pos := "latch.go:90", after := #[{ on := 1, ground := Go.Ground.data }], guard := none }) rfl (fun K hK => ?_) ?_
      · skip
        refine step_callTo (by rfl) _ _ (hrunOfBytes _ rfl (.agg (bA n)) rfl V14) _ _ (ofBytesN n Hn.out V14) (fun V15 HBx => ?_)
        have KV15 : Hid (Below W7.heap.size W7 V15) := KV14.out.trans (HBx.mono KV14.out.size)
        have ZN := hide (row_keep' ZN.out HBx)
        clear HBx
        refine hK.out _ _ ?_ (fun hHeld => ?_)
        · exact ⟨range_below R9r.out KV15.out l9, range_below R6r.out KV15.out l6⟩
        clear hK K
        try simp only [Act.put, List.setIfInBounds_toArray, List.set_cons_zero, List.set_cons_succ]
        refine wpAnyH_ready (rs := [3]) (by kernel_rfl) (by simp) ?_
        refine AllReadyH.cons (o := { dst := some 36, op := Go.Op.call { callee := Go.Callee.value (Go.Operand.func 29), args := #[Go.Operand.tmp 33, Go.Operand.tmp 35], argTypes := #[55, 41] }, type := 44, pos := "latch.go:90", after := #[{ on := 0, ground := Go.Ground.data }, { on := 2, ground := Go.Ground.data }, { on := 2, ground := Go.Ground.chain }], guard := none }) rfl (fun K hK => ?_) ?_
        · skip
          refine step_callTo (by rfl) _ _ (hrunPtTimes _ _ rfl (.agg (psA F 4)) (.agg (num4A n)) rfl rfl V15) _ _ (ptTimesA F HF.out n V15 (G7.out.keep KV15.out)) (fun V16 HBx => ?_)
          have KV16 : Hid (Below W7.heap.size W7 V16) := KV15.out.trans (HBx.mono KV15.out.size)
          have ZN := hide (row_keep' ZN.out HBx)
          clear HBx
          refine hK.out _ _ ?_ (fun hHeld => ?_)
          · exact ⟨range_below R9r.out KV16.out l9, range_below R6r.out KV16.out l6⟩
          clear hK K
          try simp only [Act.put, List.setIfInBounds_toArray, List.set_cons_zero, List.set_cons_succ]
          refine wpAnyH_ready (rs := [4]) (by kernel_rfl) (by simp) ?_
          refine AllReadyH.cons (o := { dst := some 37, op := Go.Op.call { callee := Go.Callee.value (Go.Operand.func 25), args := #[Go.Operand.tmp 36], argTypes := #[44] }, type := 48, pos := "latch.go:90", after := #[{ on := 3, ground := Go.Ground.data }, { on := 3, ground := Go.Ground.chain }], guard := none }) rfl (fun K hK => ?_) ?_
          · skip
            refine step_callTo (by rfl) _ _ (hrunPtCode _ rfl (.agg (pA (mlP F n 64))) rfl V16) _ _ (ptCodeA (mlP F n 64) (mlP_ok F n 64) V16) (fun V17 HBx => ?_)
            have KV17 : Hid (Below W7.heap.size W7 V17) := KV16.out.trans (HBx.mono KV16.out.size)
            have ZN := hide (row_keep' ZN.out HBx)
            clear HBx
            refine hK.out _ _ ?_ (fun hHeld => ?_)
            · exact ⟨range_below R9r.out KV17.out l9, range_below R6r.out KV17.out l6⟩
            clear hK K
            try simp only [Act.put, List.setIfInBounds_toArray, List.set_cons_zero, List.set_cons_succ]
            refine wpAnyH_ready (rs := [6]) (by kernel_rfl) (by simp) ?_
            refine AllReadyH.cons (o := { dst := none, op := Go.Op.store 48 (Go.Operand.tmp 10) (Go.Operand.tmp 37), type := 0, pos := "latch.go:90", after := #[{ on := 5, ground := Go.Ground.data }, { on := 4, ground := Go.Ground.data }, { on := 4, ground := Go.Ground.chain }, { on := 0, ground := Go.Ground.phase }, { on := 1, ground := Go.Ground.phase }, { on := 2, ground := Go.Ground.phase }, { on := 3, ground := Go.Ground.phase }, { on := 4, ground := Go.Ground.phase }, { on := 5, ground := Go.Ground.phase }], guard := none }) rfl (fun K hK => ?_) ?_
            · skip
              refine step_store_row _ (by rfl) 48 (.tmp 10) (.tmp 37) (by rfl) gg14 (bA (cdN (mlP F n 64))) (by rfl) (by rfl) 48 _ ZN.out (bA_size _) (bA_old _ _) (bA_all _) ?_
              rw [put_none']
              refine hK.out _ _ ?_ (fun hHeld => ?_)
              · exact ⟨range_set (range_below R9r.out KV17.out l9) (Nat.ne_of_lt (Nat.lt_of_lt_of_le l9 GG.out)), range_set (range_below R6r.out KV17.out l6) (Nat.ne_of_lt (Nat.lt_of_lt_of_le l6 GG.out))⟩
              clear hK K
              try simp only [Act.put, List.setIfInBounds_toArray, List.set_cons_zero, List.set_cons_succ]
              refine wpAnyH_done (by kernel_rfl) ?_ _
              go_wp2_with fail
              go_meet
              case rel => exact ⟨gg14, rfl, hide (setRow_heap _ _ _ _ _ _ ZN.out), hide (below_setRow KV17.out GG.out _)⟩
            exact AllReadyH.nil
          exact AllReadyH.nil
        exact AllReadyH.nil
      exact AllReadyH.nil
    exact AllReadyH.nil
  case rest =>
  obtain ⟨g10, rfl, RN, X10⟩ := hcut
  obtain ⟨W8, hW⟩ : ∃ W, W = wc := ⟨_, rfl⟩
  subst hW
  have BL : Hid (Below w.heap.size w W8) := BL7.out.trans (X10.out.mono BL7.out.size)
  obtain ⟨c, Ec⟩ : ∃ c, Hid (c = cdN (mlP F n 64)) := ⟨_, hide rfl⟩
  rw [← Ec.out] at RN
  have hsl := fun q => slice48_all q 0
  have hcv2 : (convert 51 9 (.slice (some ⟨g10, 0, none⟩) 32 32)).run Tryd.prog W8 = .ok (.string (strOf (leB c 32))) W8 := conv32 _ _ (leB c 32) (leB_length _ _) 48 (by have e := RN.out; rw [bA_def] at e; exact e)
  obtain ⟨T, HT⟩ : ∃ T, Hid (T = strOf (leB c 32)) := ⟨_, hide rfl⟩
  rw [← HT.out] at hcv2
  go_wp2_with fail
  go_returns
  refine ⟨?_, BL.out⟩
  unfold lTmS lTmE lTmB
  rw [← Eb1.out, ← Eb2.out, ← Em.out, ← Eok.out, if_pos (by rfl), if_neg (by decide), if_pos (by rfl), ← En.out, ← EF.out, ← Ec.out, ← HT.out]; rfl
end
end Go.Proofs.YtemdlpcljjdfjaaDoor
/- The variables that Multiplies, Group and Scalars read. -/
namespace Go.Proofs.YtemdlpcljjdfjaaDoor
open Go.ChangeShapes Go.WideShapes Go.ChangeAt Go.RowKit
theorem el_met {L : List (String × DataW Unit)} {W : World} {nm : String} {lay : DataW Unit} {g : Nat} {zs : List Int} {n : Nat} (hL : laidMetH Tryd.prog L W) (hf : L.filter (fun x => x.1 == nm) = [(nm, lay)]) (hg : Tryd.prog.globalNamed nm = some g) (ht : (Tryd.prog.globals[g]?).map (·.type) = some 42) (hl : lay = Lib.tabData .u64 zs) (hn : (zs.map fun z => Value.int .u64 z).toArray = num4A n) : ∃ T fr, W.heap[g]? = some (.cells (num4A n) T fr) := by
  have h1 : laidMetH Tryd.prog (L.filter (fun x => x.1 == nm)) W := laidMetH.filter (fun x => x.1 == nm) hL
  rw [hf, hl] at h1
  exact el_row hg hn (Lib.tabIs_of_head (rest := []) hg ht under33 underU64 cells64 cellsEl h1)
theorem gvC : Tryd.prog.globalNamed "latch/curve.baseCode" = some 1 := by kernel_rfl
theorem gtC : (Tryd.prog.globals[1]?).map (·.type) = some 48 := by kernel_rfl
theorem cellsCode : Tryd.prog.cellsOf 48 = 32 := by kernel_rfl
theorem cellsU8 : Tryd.prog.cellsOf 5 = 1 := by kernel_rfl
theorem underCode32 : Tryd.prog.underlying 48 = some (.array 32 5) := by kernel_rfl
def intsC : List Int := [88, 102, 102, 102, 102, 102, 102, 102, 102, 102, 102, 102, 102, 102, 102, 102, 102, 102, 102, 102, 102, 102, 102, 102, 102, 102, 102, 102, 102, 102, 102, 102]
theorem laidC : (Rows.laid_latch_curve_baseCode : DataW Unit) = Lib.tabData .u8 intsC := by kernel_rfl
theorem numC : (intsC.map fun z => Value.int .u8 z).toArray = bA bcN := by kernel_rfl
theorem code_met {L : List (String × DataW Unit)} {W : World} (hL : laidMetH Tryd.prog L W) (hf : L.filter (fun x => x.1 == "latch/curve.baseCode") = [("latch/curve.baseCode", Rows.laid_latch_curve_baseCode)]) : ∃ T fr, W.heap[1]? = some (.cells (bA bcN) T fr) := by
  have h1 : laidMetH Tryd.prog (L.filter (fun x => x.1 == "latch/curve.baseCode")) W := laidMetH.filter (fun x => x.1 == "latch/curve.baseCode") hL
  rw [hf, laidC] at h1
  have t := Lib.tabIs_of_head (rest := []) gvC gtC underCode32 under8' cellsU8 cellsCode h1
  unfold Lib.TabIs World.var? at t
  rw [gvC] at t
  simp only [Option.bind_some] at t
  split at t
  · rename_i cs ty fr h
    refine ⟨ty, fr, h.trans ?_⟩
    rw [Option.some.inj t, ← numC]
  · cases t
/-- WHAT A ROW's LIST GIVES. -/
theorem glB_of {L : List (String × DataW Unit)} {W : World} (h : laidMetH Tryd.prog L W)
    (fM : L.filter (fun x => x.1 == "latch/field.modulus") = [("latch/field.modulus", Rows.laid_latch_field_modulus)])
    (fR : L.filter (fun x => x.1 == "latch/field.rootOfMinusOne") = [("latch/field.rootOfMinusOne", Rows.laid_latch_field_rootOfMinusOne)])
    (fC : L.filter (fun x => x.1 == "latch/curve.baseCode") = [("latch/curve.baseCode", Rows.laid_latch_curve_baseCode)])
    (fO : L.filter (fun x => x.1 == "latch/curve.one") = [("latch/curve.one", Rows.laid_latch_curve_one)])
    (fD : L.filter (fun x => x.1 == "latch/curve.d") = [("latch/curve.d", Rows.laid_latch_curve_d)])
    (fT : L.filter (fun x => x.1 == "latch/curve.twoD") = [("latch/curve.twoD", Rows.laid_latch_curve_twoD)]) : GlB W :=
  ⟨⟨el_met h fT gvT gtT laidT numT, el_met h fO gvO gtO laidO numO, el_met h fM gvM gtM laidM numM, el_met h fD gvD gtD laidD numD, el_met h fR gvR gtR laidR numR⟩, code_met h fC⟩
/-- A WORLD FOR THE WITNESS. -/
noncomputable def laidWorldB (os : Os) : World :=
  { laidWorldA os with heap := putR 1 (intsC.map fun z => Value.int .u8 z).toArray (laidWorldA os).heap }
end Go.Proofs.YtemdlpcljjdfjaaDoor
/- So many times a point: the program's way. Plain mathematics. -/
namespace Go.Proofs.YtemdlpcljjdfjaaDoor
/-! ### Decoded points lie on the curve -/
theorem on_of (d x y : Fin P) (h : x * x * (y * y * d + 1) = y * y - 1) : y * y = 1 + x * x + d * (x * x) * (y * y) := by grind
theorem sq_two (t r v u m : Fin P) (e : r * r + 1 = 0) (h : t * t * v = m) (hm : m + u = 0) : t * r * (t * r) * v = u := by grind
theorem root_sq {y : Nat} (hb : rootB (uN y) (vN y) = true) : tau (rootV (uN y) (vN y)) * tau (rootV (uN y) (vN y)) * tau (vN y) = tau (uN y) := by
  unfold rootB at hb
  have hb := of_decide_eq_true hb
  unfold rootV
  by_cases h1 : sqrN (uN y) (vN y) = uN y
  · rw [if_pos h1]
    have e : tau (sqrN (uN y) (vN y)) = tau (uN y) := by rw [h1]
    unfold sqrN at e
    rw [tau_mP, tau_mP] at e
    exact e
  · rw [if_neg h1]
    have h2 := hb.resolve_left h1
    rw [if_pos h2]
    have e : tau (sqrN (uN y) (vN y)) = tau (sP 0 (uN y)) := by rw [h2]
    unfold sqrN at e
    rw [tau_mP, tau_mP] at e
    rw [tau_mP]
    exact sq_two _ _ _ _ _ rm_e e (opp_e (uN_lt y))
theorem tau_uN (y : Nat) : tau (uN y) = tau y * tau y - 1 := by
  unfold uN; rw [tau_sP _ _ one_lt, tau_mP, tau_one]
theorem tau_vN (y : Nat) : tau (vN y) = tau y * tau y * dK + 1 := by
  unfold vN dK; rw [tau_aP, tau_mP, tau_mP, tau_one]
theorem neg_mul_self (a b : Fin P) (h : a + b = 0) : a * a = b * b := by grind
theorem root_on {y : Nat} (odd : Bool) (hb : rootB (uN y) (vN y) = true) : OnC (tau (xsN y odd)) (tau y) := by
  have h := root_sq hb
  have hx : tau (xsN y odd) * tau (xsN y odd) = tau (rootV (uN y) (vN y)) * tau (rootV (uN y) (vN y)) := by
    unfold xsN
    split
    · exact neg_mul_self _ _ (opp_e (rootV_lt _ _))
    · rfl
  rw [tau_uN, tau_vN, ← hx] at h
  exact on_of _ _ _ h
theorem dcP_on {m : Nat} (h : dcB m = true) : ∃ x y, x < P ∧ y < P ∧ OnC (tau x) (tau y) ∧ dcP m = ptOf x y := by
  unfold dcP
  rw [if_pos h]
  unfold dcB at h
  rw [Bool.and_eq_true] at h
  have hx := h.2
  unfold xofB at hx
  have hb : rootB (uN (ofbV (dcY m))) (vN (ofbV (dcY m))) = true := by
    by_cases hb : rootB (uN (ofbV (dcY m))) (vN (ofbV (dcY m))) = true
    · exact hb
    · rw [if_neg hb] at hx; cases hx
  refine ⟨_, _, xofV_lt _ _, ofbV_lt _, ?_, rfl⟩
  unfold xofV
  rw [if_pos hb]
  exact root_on _ hb
theorem RP_of {x y : Nat} (hx : x < P) (hy : y < P) (ho : OnC (tau x) (tau y)) : RP (ptOf x y) ⟨tau x, tau y, ho⟩ := by
  refine ⟨⟨hx, hy, one_lt, mP_lt _ _⟩, ?_, ?_, ?_, ?_⟩
  · show tau 1 ≠ 0
    rw [tau_one]; exact one_ne
  · show tau x = tau x * tau 1
    rw [tau_one, Fin.mul_one]
  · show tau y = tau y * tau 1
    rw [tau_one, Fin.mul_one]
  · show tau (mP x y) = tau x * tau y * tau 1
    rw [tau_one, Fin.mul_one, tau_mP]
theorem RQ_of {x y : Nat} (hx : x < P) (hy : y < P) (ho : OnC (tau x) (tau y)) : RQ (q3Of x y) ⟨tau x, tau y, ho⟩ := by
  refine ⟨⟨hx, hy, one_lt⟩, ?_, ?_, ?_⟩
  · show tau 1 ≠ 0
    rw [tau_one]; exact one_ne
  · show tau x = tau x * tau 1
    rw [tau_one, Fin.mul_one]
  · show tau y = tau y * tau 1
    rw [tau_one, Fin.mul_one]
/-! ### The program's way -/
theorem RP_zero : RP zeroPt g0 := by
  refine ⟨zeroPt_ok, ?_, ?_, ?_, ?_⟩
  · show tau 1 ≠ 0
    rw [tau_one]; exact one_ne
  · show tau 0 = 0 * tau 1
    rw [tau_zero, Fin.zero_mul]
  · show tau 1 = 1 * tau 1
    rw [Fin.one_mul]
  · show tau 0 = 0 * 1 * tau 1
    rw [tau_zero, Fin.zero_mul, Fin.zero_mul]
theorem RP_dblN {p : Pt} {a : G} (h : RP p a) : ∀ k, RP (dblN k p) (gMul (2 ^ k) a)
  | 0 => by rw [Nat.pow_zero, gMul_one]; exact h
  | k + 1 => by rw [Nat.pow_succ, Nat.mul_comm, gMul_dbl]; exact RP_dbl (RP_dblN h k)
noncomputable def gB (A : Nat → G) : Nat → Nat → G
  | 0, _ => g0
  | i + 1, c => if c < 2 ^ i then gB A i c else gAdd (gB A i (c - 2 ^ i)) (A i)
theorem RP_smB {f : Nat → Pt} {A : Nat → G} : ∀ i, (∀ j, j < i → RP (f j) (A j)) → ∀ c, RP (smB f i c) (gB A i c)
  | 0, _, _ => RP_zero
  | i + 1, h, c => by
    rw [smB, gB]
    split
    · exact RP_smB i (fun j hj => h j (by omega)) c
    · exact RP_add (RP_smB i (fun j hj => h j (by omega)) _) (h i (by omega))
/-- Bits of the words at 'a', each in its place. -/
def sbN (n a : Nat) : Nat → Nat
  | 0 => 0
  | i + 1 => sbN n a i + wd n i / 2 ^ a % 2 * 2 ^ (64 * i)
def hiN (n m : Nat) : Nat → Nat
  | 0 => 0
  | i + 1 => hiN n m i + wd n i / 2 ^ m * 2 ^ (64 * i)
theorem gB_ch (n k : Nat) (a : G) : ∀ i, gB (fun i => gMul (2 ^ (64 * i)) a) i (chN n k i) = gMul (sbN n k i) a
  | 0 => rfl
  | i + 1 => by
    rw [gB, chN, sbN]
    have hc := chN_lt n k i
    have hy : wd n i / 2 ^ k % 2 = 0 ∨ wd n i / 2 ^ k % 2 = 1 := by omega
    rcases hy with e | e
    · rw [e, Nat.zero_mul, Nat.zero_mul, Nat.add_zero, Nat.add_zero, if_pos hc]
      exact gB_ch n k a i
    · rw [e, Nat.one_mul, Nat.one_mul, if_neg (by omega), Nat.add_sub_cancel, gB_ch n k a i, gMul_add]
theorem div_bit (w m : Nat) : w / 2 ^ m = 2 * (w / 2 ^ (m + 1)) + w / 2 ^ m % 2 := by
  rw [Nat.pow_succ, ← Nat.div_div_eq_div_mul]; omega
theorem hiN_step (n m : Nat) : ∀ i, hiN n m i = 2 * hiN n (m + 1) i + sbN n m i
  | 0 => rfl
  | i + 1 => by
    rw [hiN, hiN, sbN, hiN_step n m i]
    have e := div_bit (wd n i) m
    generalize wd n i / 2 ^ (m + 1) = x at *
    generalize wd n i / 2 ^ m % 2 = y at *
    rw [e, Nat.add_mul]
    generalize 2 ^ (64 * i) = z
    have : 2 * x * z = 2 * (x * z) := Nat.mul_assoc _ _ _
    omega
/-- The multiple on its way. -/
def upN (n : Nat) : Nat → Nat
  | 0 => 0
  | k + 1 => 2 * upN n k + sbN n (63 - k) 4
theorem wd_hi (n i : Nat) : wd n i / 2 ^ 64 = 0 := Nat.div_eq_of_lt (wd_lt n i)
theorem upN_hi (n : Nat) : ∀ k, k ≤ 64 → upN n k = hiN n (64 - k) 4
  | 0, _ => by
    simp only [upN, hiN, Nat.sub_zero, wd_hi, Nat.zero_mul, Nat.add_zero]
  | k + 1, h => by
    rw [upN, upN_hi n k (by omega), hiN_step n (64 - (k + 1)), show 64 - (k + 1) = 63 - k by omega, show 63 - k + 1 = 64 - k by omega]
theorem upN_all (n : Nat) (h : n < 115792089237316195423570985008687907853269984665640564039457584007913129639936) : upN n 64 = n := by
  rw [upN_hi n 64 (Nat.le_refl _)]
  simp only [hiN, Nat.sub_self, Nat.pow_zero, Nat.div_one, wd]
  simp only [Nat.mul_zero, Nat.reduceMul, Nat.reducePow, Nat.mul_one, Nat.zero_add]
  omega
theorem RP_mlP {p : Pt} {a : G} (h : RP p a) (n : Nat) : ∀ k, RP (mlP (pwN p) n k) (gMul (upN n k) a)
  | 0 => RP_zero
  | k + 1 => by
    rw [mlP, upN, gMul_add, gMul_dbl, ← gB_ch]
    exact RP_add (RP_dbl (RP_mlP h n k)) (RP_smB 4 (fun j _ => RP_dblN h (64 * j)) _)
/-- THE PROGRAM's MULTIPLE. -/
theorem RP_times {p : Pt} {a : G} (h : RP p a) {n : Nat} (hn : n < 115792089237316195423570985008687907853269984665640564039457584007913129639936) : RP (mlP (pwN p) n 64) (gMul n a) := by
  have := RP_mlP h n 64
  rw [upN_all n hn] at this
  exact this
/-- A point's code is its own. -/
theorem code_RP {p : Pt} {a : G} (h : RP p a) : cdN p = codeN a.y.val (decide (a.x.val % 2 = 1)) := by
  unfold cdN
  rw [show mP p.y (invN p.z) = a.y.val from code_val h.z h.y h.ok.z, show mP p.x (invN p.z) = a.x.val from code_val h.z h.x h.ok.z]
theorem code_RQ {p : Q3} {a : G} (h : RQ p a) : codeD p = strOf (leB (codeN a.y.val (decide (a.x.val % 2 = 1))) 32) := by
  unfold codeD
  rw [invD_invN, show mP p.y (invN p.z) = a.y.val from code_val h.z h.y h.ok.z, show mP p.x (invN p.z) = a.x.val from code_val h.z h.x h.ok.z]
end Go.Proofs.YtemdlpcljjdfjaaDoor
