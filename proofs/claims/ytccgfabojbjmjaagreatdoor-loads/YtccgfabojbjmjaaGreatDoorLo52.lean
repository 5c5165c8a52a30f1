import Derived.Test.YtccgfabojbjmjaaGreatDoorLo51
import Derived.Test.YtccgfabojbjmjaaGreatDoorLo48
import Derived.Deep.CutBlock
import Derived.Deep.Strs
import Derived.SizedLaws
set_option maxRecDepth 100000
set_option maxHeartbeats 8000000
namespace Go.Proofs.YtccgfabojbjmjaaGreatDoor
open Go.RowKit
open Go.RowKit
structure j4 (lo hi : Nat) (w w' : World) : Prop where
 os : w'.os = w.os
 tape : w'.tape = w.tape
 output : w'.output = w.output
 size : w.heap.size ≤ w'.heap.size
 block : ∀ k, k < w.heap.size → (k < lo ∨ hi ≤ k) → w'.heap[k]? = w.heap[k]?
theorem j4.trans {lo hi : Nat} {u v w : World} (h : j4 lo hi u v) (k : j4 lo hi v w) : j4 lo hi u w :=
 ⟨k.os.trans h.os, k.tape.trans h.tape, k.output.trans h.output, Zg h.size k.size, fun j hj hb => (k.block j (zl hj h.size) hb).trans (h.block j hj hb)⟩
theorem j4.of {lo hi : Nat} {w w' : World} (h : zB w w') : j4 lo hi w w' := ⟨h.os, h.tape, h.output, h.size, fun k hk _ => h.block k hk⟩
theorem j4.ofX3 {lo hi g b r : Nat} {w w' : World} (h : Zs g b r w w') (h1 : lo ≤ g) (h2 : g < hi) (h3 : lo ≤ b) (h4 : b < hi) (h5 : lo ≤ r) (h6 : r < hi) : j4 lo hi w w' := ⟨h.os, h.tape, h.output, h.size, fun k hk hb => h.block k hk (by omega) (by omega) (by omega)⟩
theorem j4.ofX {lo hi g : Nat} {w w' : World} (h : qG g w w') (h1 : lo ≤ g) (h2 : g < hi) : j4 lo hi w w' := ⟨h.os, h.tape, h.output, h.size, fun k hk hb => h.block k hk (by omega)⟩
theorem j4.below {lo hi B : Nat} {w w' : World} (h : j4 lo hi w w') (hB : B ≤ lo) (hs : B ≤ w.heap.size) : Below B w w' := ⟨h.os, h.tape, h.output, h.size, fun k hk => h.block k (by omega) (by omega)⟩
theorem RL.kept {w w' : World} {g : Nat} {kv : Value} {keys : List ByteArray} {v : Int} (h : RL w g kv keys v) (hs : w.heap.size ≤ w'.heap.size) (hg : w'.heap[g]? = w.heap[g]?) (hk : ∀ q, kv.ownBlock = some q → w'.heap[q]? = w.heap[q]?) : RL w' g kv keys v := by
 refine ⟨hg.trans h.row, ?_, h.all32, h.v0, h.v1⟩
 rcases h.ks with h1 | ⟨q, cap, h1, h2, h3, h4⟩
 · exact .inl h1
 · exact .inr ⟨q, cap, h1, by omega, h3, fun i hi => (zo (hk q (by rw [h1]; rfl))).trans (h4 i hi)⟩
theorem qn9 (t : ByteArray) (h : 192 ≤ t.size) : t.size = 192 + (ZE t).size := by unfold ZE; rw [QS _ _ _ (zm _)]; omega
section
attribute [local irreducible] QV j8 ZE yc Jz Jc yp y6 jD Qs
theorem qmD (gx : Nat) (kx : Value) (keys : List ByteArray) (v : Int) (bx rx c0 : Nat) (l : List (Nat × Nat)) (gr : Nat) (kr : Value) (jI lo hi : Nat) (t : ByteArray) (hm : t.size ≤ 140737488351232) (k p s gA : Addr) (w0 w : World) (hL : Ld w gx 121 kx (jK keys) v bx rx l c0) (hR : RL w gr kr keys v)
  (a1 : lo ≤ gx) (a2 : lo ≤ bx) (a3 : lo ≤ rx) (a4 : ∀ q, kx.ownBlock = some q → lo ≤ q ∧ q < jI) (a5 : gx < jI) (a6 : bx < jI) (a7 : rx < jI) (a8 : jI ≤ gr) (a9 : gr < hi) (a10 : ∀ q, kr.ownBlock = some q → jI ≤ q ∧ q < hi)
  (hV : ZF w0 k p s gA) (h0 : zB w0 w) (hlo : w0.heap.size ≤ lo) (c : Int) (hc : Qs (jK keys) v t = c) (hc0 : c ≠ 0) :
  Calls Tryz.prog 23 #[.agg #[zp gx 0, zp gr 0], .string t] w fun e w' => e = .returned (.bool true) ∧ j4 lo hi w w' ∧ (∃ l' c', Ld w' gx 121 kx (jK keys) v bx rx l' c') ∧ RL w' gr kr keys v := by
 have hz := k8
 have HA4 := qa a4
 have HA10 := qa a10
 have HV := qa hV
 have l0 := h0.size
 have lgx := qh hL.row
 have lbx := hL.base.lt
 have lrx := qh hL.map
 have lgr := qh hR.row
 have hmx : Hid (t.size ≤ maxLen) := Zg hm (by decide)
 have Hm := qa hm
 have HC := qa hc
 clear hc
 obtain ⟨q0, Hq0⟩ := zx w.heap.size
 obtain ⟨W0, hW0⟩ := zy (w.alloc (.cells #[zp gx 0, zp gr 0] 43))
 have B0 : Hid (zB w W0) := by rw [hW0]; exact (zJ _ _).alloc (zm _) _
 have T0 : Hid (qi W0 q0 #[zp gx 0, zp gr 0] 43) := by rw [hW0, Hq0.o]; exact za _ _
 have L0 := qa (hL.below B0.o)
 have R0 := qa (hR.below B0.o)
 have N0 := qa (h0.trans (B0.o.mono l0))
 have HW0 := qa hW0
 clear hL hR hV h0 hm a4 a10 hW0
 go_enter Tryz.func23, Tryz.ntmps23
 go_upto_region 1 with fail
 rw [← Hq0.o, ← HW0.o]
 have t0 : W0.cell? ⟨q0, 0, none⟩ = some (zp gx 0) := by rw [zj W0 q0 0 _ _ _ T0.o]; rfl
 go_wp2_with fail
 refine (qmW gx 121 kx (jK keys) v bx rx c0 l t hmx.o k p s gA w0 W0 L0.o HV.o N0.o (by omega) (by omega) c HC.o hc0).mono ?_
 rintro e W1 ⟨rfl, hZ⟩
 have X1 : Hid (Zs gx bx rx W0 W1) := Zs.of hZ.1
 have L1 : Hid (∃ l' c', Ld W1 gx 121 kx (jK keys) v bx rx l' c') := hZ.2
 have T1 : Hid (W1.heap[q0]? = _) := (X1.o.block q0 (qh T0.o) (by have := Hq0.o; omega) (by have := Hq0.o; omega) (by have := Hq0.o; omega)).trans T0.o
 have R1 : Hid (RL W1 gr kr keys v) := R0.o.kept X1.o.size (X1.o.block gr (qh R0.o.row) (by omega) (by omega) (by omega)) (fun q hq => X1.o.block q (R0.o.own q hq) (by have := (HA10.o q hq).1; omega) (by have := (HA10.o q hq).1; omega) (by have := (HA10.o q hq).1; omega))
 have N1 : Hid (zB w0 W1) := N0.o.trans (X1.o.below (by omega) (by omega) (by omega) N0.o.size)
 have Y1 : Hid (j4 lo hi w W1) := (j4.of B0.o).trans (j4.ofX3 X1.o (by omega) (by omega) (by omega) (by omega) (by omega) (by omega))
 clear hZ t0 L0 R0 T0 B0 N0
 have z1 := X1.o.size
 have z0 : w.heap.size < W0.heap.size := by rw [HW0.o]; simp
 go_upto_region 2 with (first
  | (refine qB 47 (.tmp 5) (.tmp 12) W1.heap.size #[.int .i64 c, .int .u32 0, .int .i64 0, .int .i64 0, .int .i64 0] (za _ _) (by rw [ya]; rfl) rfl (by simp [Value.oneCell']) ?_))
 try rw [qH]
 generalize hW2 : World.setRow _ _ _ = W2
 have K2 : zB W1 W2 := by rw [← hW2]; exact ze ((zJ _ _).alloc (zm _) _) (zm _) _
 obtain ⟨q5, hq5⟩ := zy W1.heap.size
 have S2 : Hid (qi W2 q5 #[.int .i64 c, .int .u32 0, .int .i64 0, .int .i64 0, .int .i64 0] 47) := by rw [← hW2, hq5]; exact zd _ _ _ _ _ _ (za _ _)
 rw [← hq5]
 have L2 : Hid (∃ l' c', Ld W2 gx 121 kx (jK keys) v bx rx l' c') := by
  obtain ⟨l', c', h⟩ := L1.o
  exact ⟨l', c', h.below K2⟩
 have R2 := qa (R1.o.below K2)
 have T2 := qa (qk T1.o K2)
 have N2 := qa (N1.o.trans (K2.mono N1.o.size))
 have Y2 : Hid (j4 lo hi w W2) := Y1.o.trans (j4.of K2)
 have Hq5 : Hid (W0.heap.size ≤ q5) := by show _ ≤ _; omega
 clear hW2 K2 hq5 L1 R1 T1 N1 Y1 X1 z1
 have t1 : W2.cell? ⟨q0, 1, none⟩ = some (zp gr 0) := by rw [zj W2 q0 1 _ _ _ T2.o]; rfl
 go_wp2_with fail
 refine (qja gr kr keys v t Hm.o W2 R2.o c HC.o hc0).mono ?_
 rintro e W3 HR3
 obtain ⟨rfl, hX3⟩ := HR3
 have X3 : Hid (qG gr W2 W3) := qG.of hX3
 have R3 := qa (R2.o.below hX3)
 clear hX3
 have T3 : Hid (W3.heap[q0]? = _) := (X3.o.block q0 (qh T2.o) (by have := Hq0.o; omega)).trans T2.o
 have S3 : Hid (W3.heap[q5]? = _) := (X3.o.block q5 (qh S2.o) (by have := Hq5.o; have := Hq0.o; omega)).trans S2.o
 have L3 : Hid (∃ l' c', Ld W3 gx 121 kx (jK keys) v bx rx l' c') := by
  obtain ⟨l', c', h⟩ := L2.o
  exact ⟨l', c', ⟨(X3.o.block gx (qh h.row) (by omega)).trans h.row, h.keys.kept X3.o.size (fun q hq => X3.o.block q (h.keys.lt q hq) (by have := (HA4.o q hq).2; omega)), h.small, h.base.keep (X3.o.block bx h.base.lt (by omega)), (X3.o.block rx (qh h.map) (by omega)).trans h.map, h.ent, h.v0, h.v1, h.gb, h.gr, h.br, h.kg⟩⟩
 have Y3 : Hid (j4 lo hi w W3) := Y2.o.trans (j4.ofX X3.o (by omega) (by omega))
 clear t1 L2 R2 T2 S2 N2 Y2 X3
 go_upto_region 3 with (first
  | (refine qB 47 (.tmp 6) (.tmp 18) W3.heap.size #[.int .i64 0, .int .u32 0, .int .i64 0, .int .i64 0, .int .i64 0] (za _ _) (by rw [ya]; rfl) rfl (by simp [Value.oneCell']) ?_))
 try rw [qH]
 generalize hW4 : World.setRow _ _ _ = W4
 have K4 : zB W3 W4 := by rw [← hW4]; exact ze ((zJ _ _).alloc (zm _) _) (zm _) _
 obtain ⟨q6, hq6⟩ := zy W3.heap.size
 have S6 : Hid (qi W4 q6 #[.int .i64 0, .int .u32 0, .int .i64 0, .int .i64 0, .int .i64 0] 47) := by rw [← hW4, hq6]; exact zd _ _ _ _ _ _ (za _ _)
 rw [← hq6]
 obtain ⟨l4, c4, L4⟩ := L3.o
 have L4 := qa (L4.below K4)
 have R4 := qa (R3.o.below K4)
 have Y4 : Hid (j4 lo hi w W4) := Y3.o.trans (j4.of K4)
 have T4 := qk T3.o K4
 obtain ⟨e0, e1, e2, e3, e4⟩ := qcY (qk S3.o K4)
 obtain ⟨f0, f1, f2, f3, f4⟩ := qcY S6.o
 have t0 : W4.cell? ⟨q0, 0, none⟩ = some (zp gx 0) := by rw [zj W4 q0 0 _ _ _ T4]; rfl
 have t1 : W4.cell? ⟨q0, 1, none⟩ = some (zp gr 0) := by rw [zj W4 q0 1 _ _ _ T4]; rfl
 have cr : W4.cell? ⟨gr, 1, none⟩ = some (.int .u32 v) := by rw [zj W4 gr 1 _ _ _ R4.o.row]; rfl
 clear hW4 K4 hq6 L3 R3 T3 S3 Y3 T4 S6
 go_wp2_with fail
 refine (qdK W4 gx v L4.o.c1).mono ?_
 rintro e W ⟨rfl, hw⟩
 have hw' := hw.symm
 subst hw'
 clear hw
 go_wp2_with fail
 refine (quU c _).mono ?_
 rintro e W ⟨rfl, hw⟩
 have hw' := hw.symm
 subst hw'
 clear hw
 go_wp2_with fail
 go_returns
 exact ⟨rfl, Y4.o, ⟨_, _, L4.o⟩, R4.o⟩
theorem qjG (gx : Nat) (kx : Value) (keys : List ByteArray) (v : Int) (bx rx c0 : Nat) (l : List (Nat × Nat)) (gr : Nat) (kr : Value) (jI lo hi : Nat) (t : ByteArray) (hm : t.size ≤ 140737488351232) (k p s gA : Addr) (w0 w : World) (hL : Ld w gx 121 kx (jK keys) v bx rx l c0) (hR : RL w gr kr keys v)
  (a1 : lo ≤ gx) (a2 : lo ≤ bx) (a3 : lo ≤ rx) (a4 : ∀ q, kx.ownBlock = some q → lo ≤ q ∧ q < jI) (a5 : gx < jI) (a6 : bx < jI) (a7 : rx < jI) (a8 : jI ≤ gr) (a9 : gr < hi) (a10 : ∀ q, kr.ownBlock = some q → jI ≤ q ∧ q < hi)
  (hV : ZF w0 k p s gA) (h0 : zB w0 w) (hlo : w0.heap.size ≤ lo) (hc : Qs (jK keys) v t = 0) (n : Nat) (en : QV t = n) :
  Calls Tryz.prog 23 #[.agg #[zp gx 0, zp gr 0], .string t] w fun e w' => e = .returned (.bool true) ∧ j4 lo hi w w' ∧ (∃ l' c', Ld w' gx 121 kx (jK keys) (n : Int) bx rx l' c') ∧ RL w' gr kr keys (n : Int) := by
 have hz := k8
 have HA4 := qa a4
 have HA10 := qa a10
 have HV := qa hV
 have l0 := h0.size
 have lgx := qh hL.row
 have lbx := hL.base.lt
 have lrx := qh hL.map
 have lgr := qh hR.row
 have hmx : Hid (t.size ≤ maxLen) := Zg hm (by decide)
 have Hm := qa hm
 have HC := qa hc
 have En := qa en
 obtain ⟨i, Ei⟩ : ∃ i : Nat, Hid (j8 t = (i : Int)) := ⟨(j8 t).toNat, qa (Int.toNat_of_nonneg (qh0 t)).symm⟩
 obtain ⟨z, Ez⟩ : ∃ z : Nat, Hid ((ZE t).size = z) := ⟨_, qa rfl⟩
 have Ez2 : Hid (t.size = 192 + z) := by show _ = _; rw [← Ez.o]; exact qn9 t (qgi hc)
 clear hc en
 obtain ⟨q0, Hq0⟩ := zx w.heap.size
 obtain ⟨W0, hW0⟩ := zy (w.alloc (.cells #[zp gx 0, zp gr 0] 43))
 have B0 : Hid (zB w W0) := by rw [hW0]; exact (zJ _ _).alloc (zm _) _
 have T0 : Hid (qi W0 q0 #[zp gx 0, zp gr 0] 43) := by rw [hW0, Hq0.o]; exact za _ _
 have L0 := qa (hL.below B0.o)
 have R0 := qa (hR.below B0.o)
 have N0 := qa (h0.trans (B0.o.mono l0))
 have HW0 := qa hW0
 clear hL hR hV h0 hm a4 a10 hW0
 go_enter Tryz.func23, Tryz.ntmps23
 go_upto_region 1 with fail
 rw [← Hq0.o, ← HW0.o]
 have t0 : W0.cell? ⟨q0, 0, none⟩ = some (zp gx 0) := by rw [zj W0 q0 0 _ _ _ T0.o]; rfl
 go_wp2_with fail
 refine (qgl gx 121 kx (jK keys) v bx rx c0 l t hmx.o k p s gA w0 W0 L0.o HV.o N0.o (by omega) (by omega) HC.o n i z En.o Ei.o Ez.o).mono ?_
 rintro e W1 ⟨rfl, hZ⟩
 have X1 : Hid (Zs gx bx rx W0 W1) := hZ.1
 have L1 : Hid (∃ l' c', Ld W1 gx 121 kx (jK keys) (n : Int) bx rx l' c') := hZ.2
 have T1 : Hid (W1.heap[q0]? = _) := (X1.o.block q0 (qh T0.o) (by have := Hq0.o; omega) (by have := Hq0.o; omega) (by have := Hq0.o; omega)).trans T0.o
 have R1 : Hid (RL W1 gr kr keys v) := R0.o.kept X1.o.size (X1.o.block gr (qh R0.o.row) (by omega) (by omega) (by omega)) (fun q hq => X1.o.block q (R0.o.own q hq) (by have := (HA10.o q hq).1; omega) (by have := (HA10.o q hq).1; omega) (by have := (HA10.o q hq).1; omega))
 have N1 : Hid (zB w0 W1) := N0.o.trans (X1.o.below (by omega) (by omega) (by omega) N0.o.size)
 have Y1 : Hid (j4 lo hi w W1) := (j4.of B0.o).trans (j4.ofX3 X1.o (by omega) (by omega) (by omega) (by omega) (by omega) (by omega))
 clear hZ t0 L0 R0 T0 B0 N0
 have z1 := X1.o.size
 have z0 : w.heap.size < W0.heap.size := by rw [HW0.o]; simp
 go_upto_region 2 with (first
  | (refine qB 47 (.tmp 5) (.tmp 12) W1.heap.size #[.int .i64 0, .int .u32 (n : Int), .int .i64 (i : Int), .int .i64 192, .int .i64 (z : Int)] (za _ _) (by rw [ya]; rfl) rfl (by simp [Value.oneCell']) ?_))
 try rw [qH]
 generalize hW2 : World.setRow _ _ _ = W2
 have K2 : zB W1 W2 := by rw [← hW2]; exact ze ((zJ _ _).alloc (zm _) _) (zm _) _
 obtain ⟨q5, hq5⟩ := zy W1.heap.size
 have S2 : Hid (qi W2 q5 #[.int .i64 0, .int .u32 (n : Int), .int .i64 (i : Int), .int .i64 192, .int .i64 (z : Int)] 47) := by rw [← hW2, hq5]; exact zd _ _ _ _ _ _ (za _ _)
 rw [← hq5]
 have L2 : Hid (∃ l' c', Ld W2 gx 121 kx (jK keys) (n : Int) bx rx l' c') := by
  obtain ⟨l', c', h⟩ := L1.o
  exact ⟨l', c', h.below K2⟩
 have R2 := qa (R1.o.below K2)
 have T2 := qa (qk T1.o K2)
 have N2 := qa (N1.o.trans (K2.mono N1.o.size))
 have Y2 : Hid (j4 lo hi w W2) := Y1.o.trans (j4.of K2)
 have Hq5 : Hid (W0.heap.size ≤ q5) := by show _ ≤ _; omega
 clear hW2 K2 hq5 L1 R1 T1 N1 Y1 X1 z1
 have t1 : W2.cell? ⟨q0, 1, none⟩ = some (zp gr 0) := by rw [zj W2 q0 1 _ _ _ T2.o]; rfl
 go_wp2_with fail
 refine (qgM gr kr keys v t Hm.o W2 R2.o HC.o n En.o i Ei.o z Ez2.o).mono ?_
 rintro e W3 HR3
 obtain ⟨rfl, hX3, hR3⟩ := HR3
 have X3 := qa hX3
 have R3 := qa hR3
 clear hX3 hR3
 have T3 : Hid (W3.heap[q0]? = _) := (X3.o.block q0 (qh T2.o) (by have := Hq0.o; omega)).trans T2.o
 have S3 : Hid (W3.heap[q5]? = _) := (X3.o.block q5 (qh S2.o) (by have := Hq5.o; have := Hq0.o; omega)).trans S2.o
 have L3 : Hid (∃ l' c', Ld W3 gx 121 kx (jK keys) (n : Int) bx rx l' c') := by
  obtain ⟨l', c', h⟩ := L2.o
  exact ⟨l', c', ⟨(X3.o.block gx (qh h.row) (by omega)).trans h.row, h.keys.kept X3.o.size (fun q hq => X3.o.block q (h.keys.lt q hq) (by have := (HA4.o q hq).2; omega)), h.small, h.base.keep (X3.o.block bx h.base.lt (by omega)), (X3.o.block rx (qh h.map) (by omega)).trans h.map, h.ent, h.v0, h.v1, h.gb, h.gr, h.br, h.kg⟩⟩
 have Y3 : Hid (j4 lo hi w W3) := Y2.o.trans (j4.ofX X3.o (by omega) (by omega))
 clear t1 L2 R2 T2 S2 N2 Y2 X3
 go_upto_region 3 with (first
  | (refine qB 47 (.tmp 6) (.tmp 18) W3.heap.size #[.int .i64 0, .int .u32 (n : Int), .int .i64 (i : Int), .int .i64 192, .int .i64 (z : Int)] (za _ _) (by rw [ya]; rfl) rfl (by simp [Value.oneCell']) ?_))
 try rw [qH]
 generalize hW4 : World.setRow _ _ _ = W4
 have K4 : zB W3 W4 := by rw [← hW4]; exact ze ((zJ _ _).alloc (zm _) _) (zm _) _
 obtain ⟨q6, hq6⟩ := zy W3.heap.size
 have S6 : Hid (qi W4 q6 #[.int .i64 0, .int .u32 (n : Int), .int .i64 (i : Int), .int .i64 192, .int .i64 (z : Int)] 47) := by rw [← hW4, hq6]; exact zd _ _ _ _ _ _ (za _ _)
 rw [← hq6]
 obtain ⟨l4, c4, L4⟩ := L3.o
 have L4 := qa (L4.below K4)
 have R4 := qa (R3.o.below K4)
 have Y4 : Hid (j4 lo hi w W4) := Y3.o.trans (j4.of K4)
 have T4 := qk T3.o K4
 obtain ⟨e0, e1, e2, e3, e4⟩ := qcY (qk S3.o K4)
 obtain ⟨f0, f1, f2, f3, f4⟩ := qcY S6.o
 have t0 : W4.cell? ⟨q0, 0, none⟩ = some (zp gx 0) := by rw [zj W4 q0 0 _ _ _ T4]; rfl
 have t1 : W4.cell? ⟨q0, 1, none⟩ = some (zp gr 0) := by rw [zj W4 q0 1 _ _ _ T4]; rfl
 have cr : W4.cell? ⟨gr, 1, none⟩ = some (.int .u32 (n : Int)) := by rw [zj W4 gr 1 _ _ _ R4.o.row]; rfl
 clear hW4 K4 hq6 L3 R3 T3 S3 Y3 T4 S6
 go_wp2_with fail
 refine (qdK W4 gx (n : Int) L4.o.c1).mono ?_
 rintro e W ⟨rfl, hw⟩
 have hw' := hw.symm
 subst hw'
 clear hw
 go_wp2_with fail
 refine (quU 0 _).mono ?_
 rintro e W ⟨rfl, hw⟩
 have hw' := hw.symm
 subst hw'
 clear hw
 go_wp2_with fail
 go_returns
 exact ⟨rfl, Y4.o, ⟨_, _, L4.o⟩, R4.o⟩
end
open Go.RowKit
def lwH : ByteArray := ⟨#[76, 65, 84, 67, 72, 73, 77, 71, 7, 0, 0, 0, 7, 0, 0, 0, 0, 0, 0, 0, 0, 0, 0, 0, 0, 0, 0, 0, 0, 0, 0, 0, 0, 0, 0, 0, 0, 0, 0, 0, 0, 0, 0, 0, 0, 0, 0, 0, 0, 0, 0, 0, 0, 0, 0, 0, 0, 0, 0, 0, 0, 0, 0, 0, 112, 179, 60, 233, 201, 4, 126, 48, 249, 23, 231, 234, 19, 228, 47, 119, 103, 0, 140, 63, 79, 156, 155, 175, 73, 228, 57, 15, 198, 37, 84, 158, 150, 37, 238, 227, 155, 148, 84, 80, 116, 232, 161, 130, 76, 243, 242, 56, 70, 59, 17, 188, 3, 217, 115, 72, 224, 252, 41, 153, 202, 31, 255, 127]⟩
def Y0 : ByteArray := ⟨#[79, 102, 229, 116, 215, 103, 240, 239, 245, 0, 82, 210, 150, 35, 33, 56, 125, 199, 171, 134, 35, 228, 84, 22, 89, 59, 44, 4, 93, 220, 93, 250, 207, 123, 236, 248, 127, 41, 42, 41, 222, 217, 180, 86, 228, 229, 84, 117, 192, 16, 223, 58, 81, 148, 144, 251, 33, 210, 157, 49, 42, 185, 198, 11]⟩
def lwP : ByteArray := ⟨#[112, 97, 121, 108, 111, 97, 100]⟩
def lwI : ByteArray := ⟨([76, 65, 84, 67, 72, 73, 77, 71, 7, 0, 0, 0, 7, 0, 0, 0, 0, 0, 0, 0, 0, 0, 0, 0, 0, 0, 0, 0, 0, 0, 0, 0, 0, 0, 0, 0, 0, 0, 0, 0, 0, 0, 0, 0, 0, 0, 0, 0, 0, 0, 0, 0, 0, 0, 0, 0, 0, 0, 0, 0, 0, 0, 0, 0, 112, 179, 60, 233, 201, 4, 126, 48, 249, 23, 231, 234, 19, 228, 47, 119, 103, 0, 140, 63, 79, 156, 155, 175, 73, 228, 57, 15, 198, 37, 84, 158, 150, 37, 238, 227, 155, 148, 84, 80, 116, 232, 161, 130, 76, 243, 242, 56, 70, 59, 17, 188, 3, 217, 115, 72, 224, 252, 41, 153, 202, 31, 255, 127, 79, 102, 229, 116, 215, 103, 240, 239, 245, 0, 82, 210, 150, 35, 33, 56, 125, 199, 171, 134, 35, 228, 84, 22, 89, 59, 44, 4, 93, 220, 93, 250, 207, 123, 236, 248, 127, 41, 42, 41, 222, 217, 180, 86, 228, 229, 84, 117, 192, 16, 223, 58, 81, 148, 144, 251, 33, 210, 157, 49, 42, 185, 198, 11, 112, 97, 121, 108, 111, 97, 100] : List UInt8).toArray⟩
theorem qof : qI (qC (bytesOf ZQ)) 32 = bytesOf ZQ := qaR _ rfl
theorem qtX : jg (qC (bytesOf ZQ)) = true := by decide +kernel
theorem quB : qC ((bytesOf Y0).drop 32) < jf := by decide +kernel
theorem qpH : y8 (ZI (qV (qR qX) (qC ((bytesOf Y0).drop 32)) 64) (Qy (qV (qR (Qh (qC (bytesOf ZQ)))) (qC quh % jf) 64))) = qC ((bytesOf Y0).take 32) := by decide +kernel
theorem qsB : Yi (qC (bytesOf ZQ)) lwH (bytesOf Y0) = y8 (ZI (qV (qR qX) (qC ((bytesOf Y0).drop 32)) 64) (Qy (qV (Qj (qC (bytesOf ZQ))) (qC quh % jf) 64))) := by
 unfold Yi Yp
 rw [qof, show (bytesOf Y0).take 32 ++ (bytesOf ZQ ++ bytesOf lwH) = qu4 from rfl, qnZ]
theorem qsh : yp ZQ lwH Y0 = 0 := by
 unfold yp
 rw [if_pos ⟨rfl, rfl⟩, if_pos qtX, if_pos quB, qsB, qeQ qtX, if_pos qpH]
theorem qou : qrd lwI 7 0 lwH Y0 lwP := by
 refine qrN lwI 7 0 lwH Y0 lwP (by decide) (by decide) (by decide) ?_ rfl rfl
 unfold hdB
 rw [show bytesOf lwP = qup from rfl, qnn]
 rfl
theorem qnR : Qs (jK [ZQ]) 7 lwI = 0 :=
 quC qou [ZQ] (fun x hx => by rw [List.mem_singleton.1 hx]; rfl) (by decide) 7 (by decide) qsh
theorem qvo : yk [ZQ] := ⟨by decide, fun x hx => by rw [List.mem_singleton.1 hx]; rfl⟩
open Go.RowKit
theorem qp1 (px pr : Option Addr) (keys : List ByteArray) (v : Int) (lo hi : Nat) (t : ByteArray) (hm : t.size ≤ 140737488351232) (k p s gA : Addr) (w0 w : World) (hT : QP w px pr keys v lo hi) (hpx : px ≠ none) (hV : ZF w0 k p s gA) (h0 : zB w0 w) (hlo : w0.heap.size ≤ lo) :
  Calls Tryz.prog 23 #[.agg #[.pointer px, .pointer pr], .string t] w fun e w' => e = .returned (.bool true) ∧ j4 lo hi w w' ∧ ∃ v', QP w' px pr keys v' lo hi := by
 rcases hT with ⟨_, h, _⟩ | ⟨ok, gx, kx, bx, rx, l, c, gr, kr, jI, rfl, rfl, hL, hR, a1, a2, a3, a4, a5, a6, a7, a8, a9, a10⟩
 · exact absurd h hpx
 ·
  by_cases hc : Qs (jK keys) v t = 0
  ·
   refine (qjG gx kx keys v bx rx c l gr kr jI lo hi t hm k p s gA w0 w hL hR a1 a2 a3 a4 a5 a6 a7 a8 a9 a10 hV h0 hlo hc _ rfl).mono ?_
   rintro e w' ⟨rfl, hB, ⟨l', c', hL'⟩, hR'⟩
   exact ⟨rfl, hB, _, .inr ⟨ok, gx, kx, bx, rx, l', c', gr, kr, jI, rfl, rfl, hL', hR', a1, a2, a3, a4, a5, a6, a7, a8, a9, a10⟩⟩
  ·
   refine (qmD gx kx keys v bx rx c l gr kr jI lo hi t hm k p s gA w0 w hL hR a1 a2 a3 a4 a5 a6 a7 a8 a9 a10 hV h0 hlo _ rfl hc).mono ?_
   rintro e w' ⟨rfl, hB, ⟨l', c', hL'⟩, hR'⟩
   exact ⟨rfl, hB, _, .inr ⟨ok, gx, kx, bx, rx, l', c', gr, kr, jI, rfl, rfl, hL', hR', a1, a2, a3, a4, a5, a6, a7, a8, a9, a10⟩⟩
def kF (w : World) (pa ra pb rb : Option Addr) (k1 k2 : List ByteArray) (q15 q17 l1 h1 l2 h2 : Nat) (wr : World) : Prop :=
 (∃ va, QP wr pa ra k1 va l1 h1) ∧ (∃ vb, QP wr pb rb k2 vb l2 h2) ∧ wr.heap[q15]? = some (.cells #[.pointer pa, .pointer ra] 43) ∧ wr.heap[q17]? = some (.cells #[.pointer pb, .pointer rb] 43) ∧ zB w wr
theorem kF.below {w : World} {pa ra pb rb : Option Addr} {k1 k2 : List ByteArray} {q15 q17 l1 h1 l2 h2 : Nat} {wr w' : World} (h : kF w pa ra pb rb k1 k2 q15 q17 l1 h1 l2 h2 wr) (hb : zB wr w') (e1 : l1 ≤ h1) (e2 : l2 ≤ h2) : kF w pa ra pb rb k1 k2 q15 q17 l1 h1 l2 h2 w' := by
 obtain ⟨⟨va, hA⟩, ⟨vb, hB⟩, r1, r2, hw⟩ := h
 exact ⟨⟨va, hA.kept hb.size (fun k _ _ hk => hb.block k hk) e1⟩, ⟨vb, hB.kept hb.size (fun k _ _ hk => hb.block k hk) e2⟩, qk r1 hb, qk r2 hb, hw.trans (hb.mono hw.size)⟩
theorem qmC (a1 a2 a3 : Option Addr) (c1 c2 c3 : Nat) (k1 k2 im : List ByteArray) (v u : Nat) (hv : v < 4294967296) (hu : u < 4294967296) (w : World) (hS1 : yC w a1 k1) (hS2 : yC w a2 k2) (hS3 : yC w a3 im)
  (n1 : k1.length + 1 ≤ 17592186044416) (n2 : k2.length + 1 ≤ 17592186044416) (n3 : im.length ≤ 17592186044416) (z1 : a1 = none → k1.length = 0 ∧ c1 = 0) (z2 : a2 = none → k2.length = 0 ∧ c2 = 0) (him : ∀ t ∈ im, t.size ≤ 140737488351232) (k p s g : Addr) (hV : ZF w k p s g) :
  zC 6 #[.slice a1 k1.length c1, .int .u32 v, .slice a2 k2.length c2, .int .u32 u, .slice a3 im.length c3] w (.bool true) := by
 have hzt := qoT
 have hzv := k8
 have HV := qa hV
 have HS1 := qa hS1
 have HS2 := qa hS2
 have HS3 := qa hS3
 have Z1 := qa z1
 have Z2 := qa z2
 have HIM := qa him
 obtain ⟨m1, E1⟩ := zx k1.length
 obtain ⟨m2, E2⟩ := zx k2.length
 obtain ⟨n, En⟩ := zx im.length
 rw [← E1.o] at n1
 rw [← E2.o] at n2
 rw [← En.o] at n3
 have N1 := qa n1
 have N2 := qa n2
 rw [← E1.o, ← E2.o, ← En.o]
 clear hV hS1 hS2 hS3 z1 z2 him n1 n2
 obtain ⟨W0, hW0⟩ := zy (w.alloc (.cells #[.string ZQ] 9))
 have B0 : zB w W0 := by rw [hW0]; exact (zJ _ _).alloc (zm _) _
 have SI0 : yC W0 (some ⟨w.heap.size, 0, none⟩) [ZQ] := by
  intro i hi
  have hi0 : i = 0 := by simpa using hi
  subst hi0
  refine ⟨_, rfl, by rw [hW0]; simp, ?_⟩
  rw [hW0, Addr.add_mid, zj _ w.heap.size (0 + 0) _ _ _ (za _ _)]; rfl
 have H1 : Calls Tryz.prog 21 #[.slice (some ⟨w.heap.size, 0, none⟩) 1 1, .int .u32 7] W0 _ := qqx [ZQ] (some ⟨w.heap.size, 0, none⟩) 1 (by decide) (fun h => by cases h) 7 (by decide) (by decide) W0 SI0 k p s g (HV.o.below B0)
 have HM1 := qa H1
 have HB0 := qa B0
 have HW0 := qa hW0
 clear H1 B0 SI0 hW0
 go_enter Tryz.func6, Tryz.ntmps6
 go_wp2_with fail
 rw [HW0.o] at HM1
 refine HM1.o.mono ?_
 rintro e W1 ⟨px, pr, rfl, hB, hT⟩
 rw [← HW0.o] at hB hT
 have zw := HB0.o.size
 have B1 := qa (HB0.o.trans (hB.mono zw))
 obtain ⟨gx, kx, bx, rx, l, c, gr, kr, jI, rfl, rfl, hL, _, x1, x2, x3, _⟩ : ∃ gx kx bx rx l c gr kr jI, px = some ⟨gx, 0, none⟩ ∧ pr = some ⟨gr, 0, none⟩ ∧ Ld W1 gx 121 kx (jK [ZQ]) 7 bx rx l c ∧ RL W1 gr kr [ZQ] 7 ∧ W0.heap.size ≤ gx ∧ W0.heap.size ≤ bx ∧ W0.heap.size ≤ rx ∧ gx < jI := by
  rcases hT with ⟨h, _⟩ | ⟨_, gx, kx, bx, rx, l, c, gr, kr, jI, h1, h2, h3, h4, h5, h6, h7, h8, h9, _⟩
  · exact absurd qvo h
  · exact ⟨gx, kx, bx, rx, l, c, gr, kr, jI, h1, h2, h3, h4, h5, h6, h7, h9⟩
 have L1 := qa hL
 clear hT hB HM1 hL HB0
 go_upto_region 2 with (first
  | (refine qB 43 (.tmp 11) (.tmp 26) W1.heap.size #[zp gx 0, zp gr 0] (za _ _) (by rw [Yw]; rfl) rfl (by simp [Value.oneCell']) ?_))
 try rw [qH]
 generalize hW2 : World.setRow _ _ _ = W2
 have K2 : zB W1 W2 := by rw [← hW2]; exact ze ((zJ _ _).alloc (zm _) _) (zm _) _
 obtain ⟨q11, hq11⟩ := zy W1.heap.size
 have S11 : Hid (qi W2 q11 #[zp gx 0, zp gr 0] 43) := by rw [← hW2, hq11]; exact zd _ _ _ _ _ _ (za _ _)
 rw [← hq11]
 have B2 := qa (B1.o.trans (K2.mono B1.o.size))
 have L2 := qa (L1.o.below K2)
 have t0 : W2.cell? ⟨q11, 0, none⟩ = some (zp gx 0) := by rw [zj W2 q11 0 _ _ _ S11.o]; rfl
 clear hW2 K2 hq11 B1 L1 S11
 have z2 := B2.o.size
 go_wp2_with fail
 refine (qgl gx 121 kx (jK [ZQ]) 7 bx rx c l lwI (by decide) k p s g w W2 L2.o HV.o B2.o (by omega) (by omega) qnR 7 0 7 qou.ev qou.ek (by rw [qou.ep]; rfl)).mono ?_
 rintro e W3 ⟨rfl, hZ⟩
 have B3 : Hid (zB w W3) := B2.o.trans (hZ.1.below (by omega) (by omega) (by omega) z2)
 clear hZ L2 t0 B2 z2
 go_upto_region 5 with (first
  | (refine qB 47 (.tmp 13) (.tmp 37) W3.heap.size #[.int .i64 0, .int .u32 7, .int .i64 0, .int .i64 192, .int .i64 7] (za _ _) (by rw [ya]; rfl) rfl (by simp [Value.oneCell']) ?_))
 try rw [qH]
 generalize hW4 : World.setRow _ _ _ = W4
 have K4 : zB W3 W4 := by rw [← hW4]; exact ze ((zJ _ _).alloc (zm _) _) (zm _) _
 obtain ⟨q13, hq13⟩ := zy W3.heap.size
 have S13 : Hid (qi W4 q13 #[.int .i64 0, .int .u32 7, .int .i64 0, .int .i64 192, .int .i64 7] 47) := by rw [← hW4, hq13]; exact zd _ _ _ _ _ _ (za _ _)
 rw [← hq13]
 have B4 := qa (B3.o.trans (K4.mono B3.o.size))
 clear hW4 K4 hq13 B3
 have HM := qqx k1 a1 c1 (by rw [← E1.o]; exact N1.o) Z1.o (v : Int) (by omega) (by omega) W4 (HS1.o.below B4.o) k p s g (HV.o.below B4.o)
 rw [← E1.o] at HM
 have HM4 := qa HM
 clear HM
 go_wp2_with (first
  | (refine zL 47 (.tmp 13) q13 #[.int .i64 0, .int .u32 7, .int .i64 0, .int .i64 192, .int .i64 7] S13.o Tryz.underlying47 (by rw [ya]; rfl) ?_))
 refine HM4.o.mono ?_
 rintro e W5 ⟨pa, ra, rfl, hB, hT⟩
 obtain ⟨l1, Hl1⟩ := zx W4.heap.size
 obtain ⟨h1, Hh1⟩ := zx W5.heap.size
 rw [← Hl1.o, ← Hh1.o] at hT
 have B5 := qa (B4.o.trans (hB.mono B4.o.size))
 have e1 : l1 ≤ h1 := by rw [Hl1.o, Hh1.o]; exact hB.size
 have w4 : w.heap.size ≤ l1 := by rw [Hl1.o]; exact B4.o.size
 have TA5 := qa hT
 clear hB hT HM4 S13 B4
 go_upto_region 7 with (first
  | (refine qB 43 (.tmp 15) (.tmp 45) W5.heap.size #[.pointer pa, .pointer ra] (za _ _) (by rw [Yw]; rfl) rfl (by simp [Value.oneCell']) ?_))
 try rw [qH]
 generalize hW6 : World.setRow _ _ _ = W6
 have K6 : zB W5 W6 := by rw [← hW6]; exact ze ((zJ _ _).alloc (zm _) _) (zm _) _
 obtain ⟨q15, hq15⟩ := zy W5.heap.size
 have S15 : Hid (qi W6 q15 #[.pointer pa, .pointer ra] 43) := by rw [← hW6, hq15]; exact zd _ _ _ _ _ _ (za _ _)
 rw [← hq15]
 have B6 := qa (B5.o.trans (K6.mono B5.o.size))
 have TA6 : Hid (QP W6 pa ra k1 (v : Int) l1 h1) := TA5.o.kept K6.size (fun k _ _ hk => K6.block k hk) e1
 have hq15' : h1 ≤ q15 := by rw [Hh1.o]; omega
 have lq15 := qh S15.o
 clear hW6 K6 hq15 B5 TA5
 have HM := qqx k2 a2 c2 (by rw [← E2.o]; exact N2.o) Z2.o (u : Int) (by omega) (by omega) W6 (HS2.o.below B6.o) k p s g (HV.o.below B6.o)
 rw [← E2.o] at HM
 have HM6 := qa HM
 clear HM
 go_wp2_with fail
 refine HM6.o.mono ?_
 rintro e W7 ⟨pb, rb, rfl, hB, hT⟩
 obtain ⟨l2, Hl2⟩ := zx W6.heap.size
 obtain ⟨h2, Hh2⟩ := zx W7.heap.size
 rw [← Hl2.o, ← Hh2.o] at hT
 have B7 := qa (B6.o.trans (hB.mono B6.o.size))
 have e2 : l2 ≤ h2 := by rw [Hl2.o, Hh2.o]; exact hB.size
 have TA7 : Hid (QP W7 pa ra k1 (v : Int) l1 h1) := TA6.o.kept hB.size (fun k _ _ hk => hB.block k hk) e1
 have S157 := qa (qk S15.o hB)
 have q15l : q15 < l2 := by rw [Hl2.o]; exact lq15
 have TB7 := qa hT
 clear hB hT HM6 S15 B6 TA6 lq15
 go_upto_region 8 with (first
  | (refine qB 43 (.tmp 17) (.tmp 51) W7.heap.size #[.pointer pb, .pointer rb] (za _ _) (by rw [Yw]; rfl) rfl (by simp [Value.oneCell']) ?_))
 try rw [qH]
 generalize hW8 : World.setRow _ _ _ = W8
 have K8 : zB W7 W8 := by rw [← hW8]; exact ze ((zJ _ _).alloc (zm _) _) (zm _) _
 obtain ⟨q17, hq17⟩ := zy W7.heap.size
 have S17 : Hid (qi W8 q17 #[.pointer pb, .pointer rb] 43) := by rw [← hW8, hq17]; exact zd _ _ _ _ _ _ (za _ _)
 rw [← hq17]
 have B8 := qa (B7.o.trans (K8.mono B7.o.size))
 have hq17' : h2 ≤ q17 := by rw [Hh2.o]; omega
 have I8 : Hid (kF w pa ra pb rb k1 k2 q15 q17 l1 h1 l2 h2 W8) := ⟨⟨_, TA7.o.kept K8.size (fun k _ _ hk => K8.block k hk) e1⟩, ⟨_, TB7.o.kept K8.size (fun k _ _ hk => K8.block k hk) e2⟩, qk S157.o K8, S17.o, B8.o⟩
 clear hW8 K8 hq17 B7 TA7 TB7 S157 S17 B8
 have hw1 : IntKind.i64.wrap ((n : Int) + 1) = (n : Int) + 1 := by rw [zq]; omega
 have hw2 : IntKind.i64.wrap ((n : Int) - 1) = (n : Int) - 1 := by rw [zq]; omega
 go_upto_block 0 with fail
 go_cut [19, 20, 21, 22] from 63 to 99 (fun s19 s20 s21 s22 wr => Hid (kF w pa ra pb rb k1 k2 q15 q17 l1 h1 l2 h2 wr))
 case first =>
  go_wp2_with fail
  go_loopw [19, 20, 21, 22] (fun s19 s20 s21 s22 wr => ∃ i : Nat, i ≤ n + 2 ∧ s19 = .int .i64 i ∧ Hid (kF w pa ra pb rb k1 k2 q15 q17 l1 h1 l2 h2 wr)) (fun s19 _ _ _ _ => n + 2 - (intOf s19).toNat)
  case atStart => exact ⟨0, by omega, rfl, I8⟩
  case round =>
   clear I8
   obtain ⟨i, hi, rfl, I⟩ := hrel
   by_cases hle : i ≤ n + 1
   case neg =>
    have hle' : (n : Int) + 1 < (i : Int) := by omega
    go_wp2_with fail
    go_meet
    case rel => exact I
   have hle' : (i : Int) ≤ (n : Int) + 1 := by omega
   by_cases hn0 : n = 0
   ·
    have hn0' : (n : Int) = 0 := by omega
    subst hn0
    go_wp2_with fail
    go_meet
    case rel => exact I
   have hn0' : ¬ (n : Int) = 0 := by omega
   have hnb : ((n : Int) == 0) = false := by simp; omega
   have hwS : IntKind.i64.wrap ((i : Int) + 1) = (i : Int) + 1 := by rw [zq]; omega
   obtain ⟨x, rfl, hx2, hx3⟩ := HS3.o (n - 1) (by rw [← En.o]; omega)
   have hixL : ∀ w, (Instr.indexAt 38 (.slice (some x) n c3) (.int .i64 ((n : Int) - 1))).run Tryz.prog w = .ok (.pointer (some (x.add (n - 1)))) w := by
    intro w
    have h := qcv x n (n - 1) c3 (by omega) w
    rw [show ((n - 1 : Nat) : Int) = (n : Int) - 1 by omega] at h
    exact h
   obtain ⟨TL, ETL⟩ := zx (im[n - 1]'(by rw [← En.o]; omega))
   rw [← ETL.o] at hx3
   have cL : wr.cell? (x.add (n - 1)) = some (.string TL) := (I.o.2.2.2.2.cell (by rw [qa9]; exact hx2)).trans hx3
   have TLm : Hid (TL.size ≤ 140737488351232) := by rw [ETL.o]; exact HIM.o _ (List.getElem_mem _)
   go_upto_if 82 with fail
   go_cut [20] from 79 to 86 (fun s20 wx => ∃ T : ByteArray, s20 = .string T ∧ Hid (T.size ≤ 140737488351232) ∧ wx = wr)
   case first =>
    by_cases hlt : i < n
    ·
     have hlt' : (i : Int) < (n : Int) := by omega
     obtain ⟨x', hx', hy2, hy3⟩ := HS3.o i (by rw [← En.o]; exact hlt)
     obtain rfl : x = x' := Option.some.inj hx'
     have hixi := qcv x n i c3 hlt
     obtain ⟨TI, ETI⟩ := zx (im[i]'(by rw [← En.o]; exact hlt))
     rw [← ETI.o] at hy3
     have cI : wr.cell? (x.add i) = some (.string TI) := (I.o.2.2.2.2.cell (by rw [qa9]; exact hy2)).trans hy3
     have TIm : Hid (TI.size ≤ 140737488351232) := by rw [ETI.o]; exact HIM.o _ (List.getElem_mem _)
     go_wp2_with fail
     go_meet
     case rel => exact ⟨TI, rfl, TIm, rfl⟩
    ·
     have hlt' : (n : Int) ≤ (i : Int) := by omega
     go_wp2_with fail
     go_meet
     case rel => exact ⟨TL, rfl, TLm, rfl⟩
   case rest =>
   obtain ⟨T, rfl, Tm, hwc⟩ := hcut
   have hwc' := hwc.symm
   subst hwc'
   clear hwc hixL cL hx3 TLm
   obtain ⟨⟨va, hTA⟩, ⟨vb, hTB⟩, hr15, hr17, hBw⟩ := I.o
   have R15 := qa hr15
   have R17 := qa hr17
   have TA := qa hTA
   have TB := qa hTB
   have BW := qa hBw
   clear hTA hTB hr15 hr17 hBw I
   obtain ⟨q21, Hq21⟩ := zx wr.heap.size
   go_upto_region 18 with (first
    | (refine zL 43 (.tmp 15) q15 #[.pointer pa, .pointer ra] R15.o Tryz.underlying43 (by rw [Yw]; rfl) ?_)
    | (refine qB 43 (.tmp 21) (.tmp 87) wr.heap.size #[.pointer pa, .pointer ra] (za _ _) (by rw [Yw]; rfl) rfl (by simp [Value.oneCell']) ?_))
   try rw [qH]
   generalize hW9 : World.setRow _ _ _ = W9
   have K9 : zB wr W9 := by rw [← hW9]; exact ze ((zJ _ _).alloc (zm _) _) (zm _) _
   have S21 : Hid (qi W9 q21 #[.pointer pa, .pointer ra] 43) := by rw [← hW9, Hq21.o]; exact zd _ _ _ _ _ _ (za _ _)
   rw [← Hq21.o]
   have q15w := qh R15.o
   have q17w := qh R17.o
   have R15 := qa (qk R15.o K9)
   have R17 := qa (qk R17.o K9)
   have TA9 : Hid (QP W9 pa ra k1 va l1 h1) := TA.o.kept K9.size (fun k _ _ hk => K9.block k hk) e1
   have TB9 : Hid (QP W9 pb rb k2 vb l2 h2) := TB.o.kept K9.size (fun k _ _ hk => K9.block k hk) e2
   have B9 := qa (BW.o.trans (K9.mono BW.o.size))
   have q21a : q15 < q21 := by rw [Hq21.o]; exact q15w
   have q21b : q17 < q21 := by rw [Hq21.o]; exact q17w
   clear hW9 K9 TA TB BW
   go_upto_if 90 with fail
   go_cut [21] from 88 to 91 (fun s21 wx => ∃ (px pr : Option Addr) (keys : List ByteArray) (vv : Int) (lo hi : Nat), s21 = zp q21 0 ∧ Hid (qi wx q21 #[.pointer px, .pointer pr] 43) ∧ Hid (QP wx px pr keys vv lo hi) ∧ Hid (w.heap.size ≤ lo) ∧ Hid (zB w wx) ∧ Hid (kF w pa ra pb rb k1 k2 q15 q17 l1 h1 l2 h2 wx) ∧ Hid (∀ w2, j4 lo hi wx w2 → (∃ v2, QP w2 px pr keys v2 lo hi) → kF w pa ra pb rb k1 k2 q15 q17 l1 h1 l2 h2 w2))
   case first =>
    by_cases hodd : i % 2 = 1
    ·
     have hm1 : (i : Int).tmod 2 = 1 := by rw [Int.tmod_eq_emod_of_nonneg (by omega)]; omega
     have hm2 : (i : Int) % 2 = 1 := by omega
     go_wp2_with (first
      | (refine zL 43 (.tmp 17) q17 #[.pointer pb, .pointer rb] R17.o Tryz.underlying43 (by rw [Yw]; rfl) ?_)
      | (refine qB 43 (.tmp 21) (.tmp 91) q21 #[.pointer pb, .pointer rb] S21.o (by rw [Yw]; rfl) rfl (by simp [Value.oneCell']) ?_))
     go_meet
     case rel =>
      have ob : ∀ k, k ≠ q21 → (W9.setRow q21 #[.pointer pb, .pointer rb]).heap[k]? = W9.heap[k]? := fun k hk => zc _ _ _ _ hk
      have q15w9 := qh R15.o
      have q17w9 := qh R17.o
      have hsz : (W9.setRow q21 #[.pointer pb, .pointer rb]).heap.size = W9.heap.size := by simp [World.setRow]
      have TA10 : QP (W9.setRow q21 #[.pointer pb, .pointer rb]) pa ra k1 va l1 h1 := TA9.o.kept (by omega) (fun k _ hk _ => ob k (by omega)) e1
      have TB10 : QP (W9.setRow q21 #[.pointer pb, .pointer rb]) pb rb k2 vb l2 h2 := TB9.o.kept (by omega) (fun k _ hk _ => ob k (by omega)) e2
      have B10 := ze B9.o (show w.heap.size ≤ q21 by have := Hq21.o; omega) #[.pointer pb, .pointer rb]
      refine ⟨pb, rb, k2, vb, l2, h2, rfl, qa (zd _ _ _ _ _ _ S21.o), qa TB10, qa (by omega), qa B10, qa ⟨⟨va, TA10⟩, ⟨vb, TB10⟩, (ob q15 (by omega)).trans R15.o, (ob q17 (by omega)).trans R17.o, B10⟩, qa ?_⟩
      intro w2 hB hT
      refine ⟨⟨va, TA10.kept hB.size (fun k _ hk hs => hB.block k hs (by omega)) e1⟩, hT, (hB.block q15 (by omega) (by omega)).trans ((ob q15 (by omega)).trans R15.o), (hB.block q17 (by omega) (by omega)).trans ((ob q17 (by omega)).trans R17.o), B10.trans ((hB.below (by omega) B10.size))⟩
    ·
     have hm1 : (i : Int).tmod 2 = 0 := by rw [Int.tmod_eq_emod_of_nonneg (by omega)]; omega
     have hm2 : (i : Int) % 2 = 0 := by omega
     go_wp2_with fail
     go_meet
     case rel =>
      have q15w9 := qh R15.o
      have q17w9 := qh R17.o
      refine ⟨pa, ra, k1, va, l1, h1, rfl, S21, TA9, qa (by omega), B9, qa ⟨⟨va, TA9.o⟩, ⟨vb, TB9.o⟩, R15.o, R17.o, B9.o⟩, qa ?_⟩
      intro w2 hB hT
      refine ⟨hT, ⟨vb, TB9.o.kept hB.size (fun k hk _ hs => hB.block k hs (by omega)) e2⟩, (hB.block q15 (by omega) (by omega)).trans R15.o, (hB.block q17 (by omega) (by omega)).trans R17.o, B9.o.trans ((hB.below (by omega) B9.o.size))⟩
   case rest =>
   obtain ⟨px, pr, keys, vv, lo, hi', rfl, S, TT, LO, BB, II, KK⟩ := hcut
   obtain ⟨WA, hWA⟩ := zy wc
   rw [← hWA] at S TT BB II KK ⊢
   clear hWA
   have t0 : WA.cell? ⟨q21, 0, none⟩ = some (.pointer px) := by rw [zj WA q21 0 _ _ _ S.o]; rfl
   cases px with
   | none =>
    go_wp2_with fail
    exact ⟨⟨i + 1, by omega, by go_num, II⟩, by simp [intOf]; omega⟩
   | some ax =>
    have HLd := qa (qp1 (some ax) pr keys vv lo hi' T Tm.o k p s g w WA TT.o (by simp) HV.o BB.o LO.o)
    go_wp2_with (first
     | (refine zL 43 (.tmp 21) q21 #[.pointer (some ax), .pointer pr] S.o Tryz.underlying43 (by rw [Yw]; rfl) ?_))
    refine HLd.o.mono ?_
    rintro e WB ⟨rfl, hB, hT⟩
    have IB := qa (KK.o WB hB hT)
    clear hB hT HLd
    go_wp2_with fail
    exact ⟨⟨i + 1, by omega, by go_num, IB⟩, by simp [intOf]; omega⟩
 case rest =>
  have B9 := hcut.o.2.2.2.2
  go_wp2_with fail
  go_returns
  exact ⟨rfl, B9⟩
open Go.ChangeShapes Go.WideShapes Go.ChangeAt Go.RowKit
theorem qkG {n : Int} (h : (Lit.int .u32 n).wf = true) : ∃ k : Nat, n = (k : Int) ∧ k < 4294967296 := by
 simp [Lit.wf, IntKind.min, IntKind.max, IntKind.signed, IntKind.bits] at h
 exact ⟨n.toNat, by omega, by omega⟩
theorem qbC {H : Type} {P : Program} {e : TypeId} {d : DataW H} {n : Nat} : ∀ {l : List (DataW H)}, d ∈ l → n ∈ d.weights P e → n ∈ DataW.weightsAll P e l
 | x :: l, h, hn => by
  simp only [DataW.weightsAll, List.mem_append]
  rcases List.mem_cons.1 h with rfl | h
  · exact .inl hn
  · exact .inr (qbC h hn)
theorem qon : Tryz.prog.bytesOf 9 = 16 := by kernel_rfl
theorem qe3 {H : Type} {enc : TypeId × Value → H} {W : World} {a : Option Addr} {len cap : Nat} {d : DataW H} {ps : List MemPlace} (h : DataW.Trod enc Tryz.prog W 0 (fun _ => true) true 38 (.slice a len cap) d ps) :
  ∃ keys : List ByteArray, len = keys.length ∧ yC W a keys ∧ (a = none → keys.length = 0 ∧ cap = 0) ∧ ((keys = []) ∨ ∃ spare, d = .slice (keys.map fun s => .lit (.string s.data.toList)) spare) := by
 obtain ⟨fuel, hf⟩ := h
 rcases Deep.open_strs Tryz.underlying38 Tryz.underlying9 (by kernel_rfl) hf with ⟨hcs, _⟩ | ⟨x, l, c, m, Sx, hcs, _, hl, hm, hmm, hx, hcell⟩
 ·
  simp [Value.cells] at hcs
  obtain ⟨rfl, rfl, rfl⟩ := hcs
  exact ⟨[], rfl, fun i hi => absurd hi (by simp), fun _ => ⟨rfl, rfl⟩, .inl rfl⟩
 ·
  simp [Value.cells] at hcs
  obtain ⟨rfl, rfl, rfl⟩ := hcs
  have hlm : len ≤ m := by rw [hmm]; split <;> omega
  refine ⟨(List.range len).map Sx, by simp, ?_, (fun h => by cases h), .inr ⟨(List.range (m - len)).map (fun j => .lit (.string (Sx (len + j)).data.toList)), ?_⟩⟩
  ·
   intro i hi
   have hi' : i < len := by simpa using hi
   have e := (hcell i (by omega)).1
   refine ⟨_, rfl, ?_, by simpa using e⟩
   have := zX W _ e
   rw [qa9] at this; exact this
  ·
   have := congrArg Prod.fst hx
   simp only at this
   rw [this, List.map_map]
   rfl
theorem qcu {H : Type} {ts : List TypeId} {ds : List (DataW H)} (hsz : (DataW.weightsEach Tryz.prog ts ds).all (· ≤ reachBytes) = true) {j : Nat} {d : DataW H} (ht : ts[j]? = some 38) (hd : ds[j]? = some d) {keys : List ByteArray} (hk : keys = [] ∨ ∃ spare, d = .slice (keys.map fun s => .lit (.string s.data.toList)) spare) :
  keys.length + 1 ≤ 17592186044416 ∧ ∀ t ∈ keys, t.size ≤ 140737488351232 := by
 rcases hk with rfl | ⟨spare, rfl⟩
 · exact ⟨by decide, fun t ht => by cases ht⟩
 ·
  constructor
  ·
   have h := sized_slice hsz ht hd Tryz.underlying38
   rw [qon, zv] at h
   have : reachBytes = 140737488351232 := by decide
   omega
  ·
   intro t hm
   have h := List.all_eq_true.1 hsz _ (DataW.weights_mem_each ht hd t.data.toList.length (by
    have hu := Tryz.underlying38
    simp only [DataW.weights, hu]
    exact List.mem_cons_of_mem _ (List.mem_append.2 (.inl (qbC (d := .lit (.string t.data.toList)) (List.mem_map.2 ⟨t, hm, rfl⟩) (by simp [DataW.weights]))))))
   have h2 : t.data.toList.length ≤ reachBytes := by simpa using h
   have : reachBytes = 140737488351232 := by decide
   rw [this, Array.length_toList] at h2
   exact h2
theorem qd4 (H : Type) (enc : TypeId × Value → H) (W : World) (base : Nat) (args : Array Value) (ds gs : List (DataW H)) (before : List MemPlace)
  (hval : ∀ (j : Nat) t v, Tryz.f6.params[j]? = some t → args[j]? = some v → Value.okWide Tryz.prog W .any base t v)
  (hW : DataW.Whole enc Tryz.prog Tryz.f6.params.toList Rows.loadsSpec.vars false W args.toList ds gs before)
  (hsz0 : (DataW.weightsEach Tryz.prog (Tryz.f6.params.toList ++ (OpenSpec.ofChange Rows.loadsSpec).bare.plain.varTypes Tryz.prog) (ds ++ gs)).all (· ≤ reachBytes) = true)
  (hL : laidMetH Tryz.prog Rows.loadsRow.laid W) :
  Calls Tryz.prog 6 args W fun e W' => ∃ v, e = .returned v ∧ Rows.loadsSpec.post enc Tryz.prog Tryz.f6 false true false false W args v W' := by
 have hsz := hsz0
 have hW' := hW
 obtain ⟨p, q, hA0, hV, rfl, hfz, hnd⟩ := hW
 have hA : DataW.TrodAll enc Tryz.prog W 0 (fun _ => true) true Tryz.f6.params.toList args.toList ds p := hA0
 rw [Tryz.params6] at hA hval hsz
 obtain ⟨v0, vs0, d0, ds0, p0, q0, hargs, rfl, rfl, h0, r0⟩ := trodAll_cons hA
 obtain ⟨v1, vs1, d1, ds1, p1, q1, hargs1, rfl, rfl, h1, r1⟩ := trodAll_cons r0
 obtain ⟨v2, vs2, d2, ds2, p2, q2, hargs2, rfl, rfl, h2, r2⟩ := trodAll_cons r1
 obtain ⟨v3, vs3, d3, ds3, p3, q3, hargs3, rfl, rfl, h3, r3⟩ := trodAll_cons r2
 obtain ⟨v4, vs4, d4, ds4, p4, q4, hargs4, rfl, rfl, h4, r4⟩ := trodAll_cons r3
 obtain ⟨rfl, rfl, rfl⟩ := trodAll_nil r4
 obtain rfl : args = #[v0, v1, v2, v3, v4] := by cases args; simp_all
 obtain ⟨rfl, rfl⟩ := trodVars_none hV
 obtain ⟨a0, len0, cap0, rfl⟩ := okWide_slice Tryz.underlying38 (hval 0 38 v0 rfl rfl)
 obtain ⟨a1, rfl, rfl, rfl, w1⟩ := open_int Tryz.underlying39 (hval 1 39 v1 rfl rfl) h1
 obtain ⟨a2, len2, cap2, rfl⟩ := okWide_slice Tryz.underlying38 (hval 2 38 v2 rfl rfl)
 obtain ⟨a3, rfl, rfl, rfl, w3⟩ := open_int Tryz.underlying39 (hval 3 39 v3 rfl rfl) h3
 obtain ⟨a4, len4, cap4, rfl⟩ := okWide_slice Tryz.underlying38 (hval 4 38 v4 rfl rfl)
 have lt0 : ∀ x ∈ p0, x.block < W.heap.size := by obtain ⟨m, hm⟩ := h0; exact DataW.trod_lt m _ _ _ hm
 have lt2 : ∀ x ∈ p2, x.block < W.heap.size := by obtain ⟨m, hm⟩ := h2; exact DataW.trod_lt m _ _ _ hm
 have lt4 : ∀ x ∈ p4, x.block < W.heap.size := by obtain ⟨m, hm⟩ := h4; exact DataW.trod_lt m _ _ _ hm
 obtain ⟨s0, rfl, i0, z0, e0⟩ := qe3 h0
 obtain ⟨s2, rfl, i2, z2, e2⟩ := qe3 h2
 obtain ⟨s4, rfl, i4, z4, e4⟩ := qe3 h4
 have b0 := qcu hsz (j := 0) rfl rfl e0
 have b2 := qcu hsz (j := 2) rfl rfl e2
 have b4 := qcu hsz (j := 4) rfl rfl e4
 clear hA0
 obtain ⟨n1, rfl, c1⟩ := qkG w1
 obtain ⟨n3, rfl, c3⟩ := qkG w3
 obtain ⟨k, p, s, g, hS⟩ := qmE hL (by kernel_rfl) (by kernel_rfl) (by kernel_rfl) (by kernel_rfl) (by kernel_rfl)
 have hE : ZF W k p s g := ⟨qtr hL (by kernel_rfl) (by kernel_rfl) (by kernel_rfl) (by kernel_rfl) (by kernel_rfl) (by kernel_rfl), qq2 hL (by kernel_rfl), qpI hL (by kernel_rfl), hS⟩
 refine (qmC a0 a2 a4 cap0 cap2 cap4 s0 s2 s4 n1 n3 c1 c3 W i0 i2 i4 b0.1 b2.1 (by have := b4.1; omega) z0 z2 b4.2 k p s g hE).mono fun e W' ⟨he, bel⟩ => ?_
 subst he
 exact ⟨_, rfl, _, _, _, [], _, [], hW', trodAll_mk1 (shut_bool Tryz.underlying4 _), (trodAll_cons_mk (Below.trod qgR (by kernel_rfl) (of_decide_eq_true (by kernel_rfl)) h0 bel lt0) (trodAll_cons_mk (shut_int Tryz.underlying39 w1) (trodAll_cons_mk (Below.trod qgR (by kernel_rfl) (of_decide_eq_true (by kernel_rfl)) h2 bel lt2) (trodAll_cons_mk (shut_int Tryz.underlying39 w3) (trodAll_cons_mk (Below.trod qgR (by kernel_rfl) (of_decide_eq_true (by kernel_rfl)) h4 bel lt4) trodAll_mk0))))), rfl, bel.frame _, fun h => by cases h⟩
theorem qd7 (os : Os) : laidMetH Tryz.prog Rows.loadsRow.laid ((qep os).forCall (fun _ _ => 0) ⟨#[], #[.slice none 0 0, .int .u32 0, .slice none 0 0, .int .u32 0, .slice none 0 0], []⟩).memory :=
 laidMetH_of_parts (laidMet_of_run' 200 (by kernel_rfl) (by kernel_rfl)) (by kernel_rfl)
theorem qfu (os : Os) (started : os.Started) (H : Type) (enc : TypeId × Value → H) (F : Stop.Interp) :
  ReturnsInHanded {} Tryz.checked os 6 .any ((OpenSpec.ofChange Rows.loadsSpec).preRow enc Tryz.prog Tryz.f6 Rows.loadsRow.domain false Rows.loadsRow.laid) (((OpenSpec.ofChange Rows.loadsSpec).at F).post enc Tryz.prog Tryz.f6 false true false false) := by
 refine returnsInHanded_of_row (C := Tryz.checked) (s := OpenSpec.ofChange Rows.loadsSpec) own started (by kernel_rfl) Tryz.func6
  (witness_row_at (enc := enc) (C := Tryz.checked) false (qep os) #[.slice none 0 0, .int .u32 0, .slice none 0 0, .int .u32 0, .slice none 0 0] rfl (by kernel_rfl) (by kernel_rfl) (by kernel_rfl)
   (OpenSpec.preRow_of_cond (x := ([.nil, .lit (.int .u32 0), .nil, .lit (.int .u32 0), .nil], [], [])) 8 (by kernel_rfl) (by kernel_rfl) (fun k hk => by cases hk) (by kernel_rfl) (qd7 os))) ?_
 intro W base args ds gs before hval hW _ _ hsz hL _ _
 exact qd4 H enc W base args ds gs before hval hW hsz hL
theorem qjh : Rows.LoadsSaid :=
 OpenClaim.holds_of_cond 6 Tryz.f6 rfl rfl rfl rfl rfl rfl rfl ⟨rfl, rfl, rfl, rfl, rfl⟩ rfl rfl rfl rfl rfl (by kernel_rfl) Tryz.func6 (by kernel_rfl)
  (of_decide_eq_true (by kernel_rfl)) (by unfold Func.isWrapper; first | (rw [if_pos (by decide +kernel)]; kernel_rfl) | (rw [if_neg (by decide +kernel)]; exact ⟨rfl, rfl⟩))
  (fun os started H enc _ F => by rw [OpenClaim.pre_eq_preRow]; exact qfu os started H enc F)
theorem qhv (f : FuncId) (fn : Func) (hf : Tryz.pinned.checked.prog.funcNamed "latch/latchlaw.Loads" = some f) (hfn : Tryz.pinned.checked.prog.funcs[f]? = some fn) :
  true = Tryz.pinned.checked.prog.looks [] ∧ ∀ (j : Nat) t, fn.params[j]? = some t → Tryz.pinned.checked.prog.wantsStandIn t = false := by
 obtain rfl : f = 6 := Option.some.inj ((show Tryz.prog.funcNamed "latch/latchlaw.Loads" = some 6 by kernel_rfl).symm.trans hf) |>.symm
 obtain rfl : fn = Tryz.f6 := (Option.some.inj (Tryz.func6.symm.trans hfn)).symm
 refine ⟨by kernel_rfl, fun j t ht => ?_⟩
 rw [Tryz.params6] at ht
 have hm := Array.mem_of_getElem? ht
 simp only [List.mem_toArray, List.mem_cons, List.not_mem_nil, or_false] at hm
 have z2 := (show Tryz.prog.wantsStandIn 38 = false by kernel_rfl)
 have z4 := (show Tryz.prog.wantsStandIn 39 = false by kernel_rfl)
 rcases hm with rfl | rfl | rfl | rfl | rfl
 · exact z2
 · exact z4
 · exact z2
 · exact z4
 · exact z2
theorem loads_card : Rows.LoadsCardSaid :=
 Claim7.holds_tied_plain_at .later [] _ _ _ _ qjh (fun _ h => by cases h) (by kernel_rfl) (fun _ h => by cases h) loads_row_tie rfl ⟨rfl, rfl⟩ (by kernel_rfl) rfl qhv (by kernel_rfl)
#print axioms loads_card
end Go.Proofs.YtccgfabojbjmjaaGreatDoor
