import Derived.Test.YtccgfabojbjmjaaGreatDoorLo14
import Derived.Test.YtccgfabojbjmjaaGreatDoorLo10
set_option maxRecDepth 100000
set_option maxHeartbeats 8000000
namespace Go.Proofs.YtccgfabojbjmjaaGreatDoor
open Go.RowKit
open Go.RowKit
def fA (n : Nat) : Array Value := ((fd n).map iv).toArray
theorem qO (n : Nat) : (Tryz.prog.info? 95).map (·.size) = some (fA n).size := ki (Qo n)
theorem qin (n : Nat) : (fA n).size = 10 := by simp [fA, Qo]
theorem jo (m n : Nat) : (fA m).size = (fA n).size := by rw [qin, qin]
theorem jn (n : Nat) : (fA n).all (·.oneCell') = true := qdA _
theorem qhI (n : Nat) (h : n < 67108864) : fd n = (n : Int) :: List.replicate 9 0 := by
 have hall : ∀ x ∈ (n : Int) :: List.replicate 9 (0 : Int), 0 ≤ x ∧ x < 67108864 := by
  intro x hx
  simp only [List.mem_cons, List.mem_replicate] at hx
  omega
 have e := qnV 67108864 (by decide) _ hall
 have e2 : vB 67108864 ((n : Int) :: List.replicate 9 0) = n := by simp [vB]
 rw [e2] at e
 exact e
theorem qfh (n : Nat) (h : n < 67108864) : fA n = #[iv n, iv 0, iv 0, iv 0, iv 0, iv 0, iv 0, iv 0, iv 0, iv 0] := by
 unfold fA; rw [qhI n h]; rfl
theorem qvy : zF = fA 0 := (qfh 0 (by decide)).symm
theorem JP (w : World) : (zeroValue 95).run Tryz.prog w = .ok (.agg (fA 0)) w := by rw [← qvy]; exact qhp w
theorem Qb (a b : Nat) (ha : a < P) (hb : b < P) (w : World) :
  zC 63 #[.agg (fA a), .agg (fA b)] w (.agg (fA (mP a b))) := qsS a b ha hb w
theorem qqQ (a b : Nat) (ha : a < P) (hb : b < P) (w : World) :
  zC 109 #[.agg (fA a), .agg (fA b)] w (.agg (fA (aP a b))) := qtY a b ha hb w
theorem ku (a b : Nat) (ha : a < P) (hb : b < P) (w : World) :
  zC 64 #[.agg (fA a), .agg (fA b)] w (.agg (fA (sP a b))) := qs2 a b ha hb w
theorem qk {w w' : World} {g : Nat} {o : Obj} (h : w.heap[g]? = some o) (hb : zB w w') : w'.heap[g]? = some o := (hb.block g (qh h)).trans h
section
attribute [local irreducible] fA
theorem kA (n : Nat) (h : n < 67108864) (w : World) :
  zC 65 #[.int .i64 n] w (.agg (fA n)) := by
 have hz := qhp
 have HF := qa (qfh n h)
 have HS := qa (qO n)
 have HO : Hid (zF.size = (fA n).size) := by rw [qvy]; exact jo _ _
 have HA := qa (jn n)
 obtain ⟨R, HR⟩ := zx (fA n)
 rw [← HR.o] at HS HO HA HF ⊢
 obtain ⟨z, HZ⟩ := zx (α := Int) n
 rw [← HZ.o] at HF ⊢
 have h3 : z % 67108864 = z := by rw [HZ.o]; omega
 have h4 : z / 67108864 = 0 := by rw [HZ.o]; omega
 have h5 : z < 67108864 := by rw [HZ.o]; omega
 have h6 : 0 ≤ z := by rw [HZ.o]; omega
 have h1 : Int.tmod z 67108864 = z := by rw [Int.tmod_eq_emod_of_nonneg h6, h3]
 have h2 : Int.tdiv z 67108864 = 0 := by rw [Int.tdiv_eq_ediv_of_nonneg h6, h4]
 clear h
 go_enter Tryz.func65, Tryz.ntmps65
 go_wp2_with (first | (refine qB 95 (.tmp 2) (.tmp 7) w.heap.size #[iv z, iv 0, iv 0, iv 0, iv 0, iv 0, iv 0, iv 0, iv 0, iv 0] (za _ _) (by rw [← HF.o]; exact HS.o) (by rw [← HF.o]; exact HO.o) (by rw [← HF.o]; exact HA.o) ?_))
 rw [← HF.o]
 exact zh (v := .agg R) (results_cell_row Tryz.results65 _ _ w.heap.size 95 R (0, 0) _ (by rfl) (zd _ _ _ _ _ _ (za _ _)) q7 rfl HS.o) rfl ⟨rfl, ze ((zJ _ _).alloc (zm _) _) (zm _) _⟩
end
section
attribute [local irreducible] fA
theorem qdT (a k b : Nat) (ha : a < P) (hb : b < P) (hk : k ≤ 1000) (w : World) :
  zC 108 #[.agg (fA a), .int .i64 k, .agg (fA b)] w (.agg (fA (mP (sqN k a) b))) := by
 have hz := JP
 have Ha := qa ha
 have Hb := qa hb
 clear ha hb
 go_enter Tryz.func108, Tryz.ntmps108
 go_wp2_with fail
 go_loopw [1] (fun sV wr => ∃ (j i : Nat), i + j = k ∧ sV = .int .i64 j ∧ Hid (qi wr w.heap.size ((fA (sqN i a))) 95) ∧ Hid (qi wr (w.heap.size + 1) (fA b) 95) ∧ Hid (qi wr (w.heap.size + 2) (fA 0) 95) ∧ Hid (zB w wr)) (fun s _ => (intOf s).toNat)
 case atStart => exact ⟨k, 0, by omega, rfl, JO _ _ _ _, Jm _ _ _ _, Jb _ _ _ _, by show Below _ _ _; go_grown⟩
 case round =>
  obtain ⟨j, i, hij, rfl, H0, H1, H2, HB⟩ := hrel
  obtain ⟨x, HX⟩ := zx (sqN i a)
  have Hx : Hid (x < P) := by rw [HX.o]; exact Je i a Ha.o
  rw [← HX.o] at H0
  clear hz
  by_cases hj : 0 < j
  ·
   have bj : (0 : Int) < (j : Int) := by omega
   go_wp2_with (first | (refine zL 95 (.tmp 3) w.heap.size (fA x) H0.o q7 (qO _) ?_))
   refine (Qb x x Hx.o Hx.o _).mono ?_
   rintro e W1 ⟨rfl, hB1⟩
   have K0 := qa (qk H0.o hB1)
   have K1 := qa (qk H1.o hB1)
   have K2 := qa (qk H2.o hB1)
   have hl2 := qh H2.o
   have KB : Hid (zB w W1) := HB.o.trans (hB1.mono (by omega))
   clear hB1 hl2 H0 H1 H2 HB
   go_wp2_with (first | (refine qB 95 (.tmp 3) (.tmp 13) w.heap.size (fA (mP x x)) K0.o (qO _) (jo _ _) (jn _) ?_))
   refine ⟨⟨j - 1, i + 1, by omega, by go_num, ?_, (zc _ _ _ _ (by omega)).trans K1.o, (zc _ _ _ _ (by omega)).trans K2.o, ze KB.o (zm _) _⟩, by simp [intOf]; omega⟩
   show _ = _
   rw [qid, ← HX.o]
   exact zd _ _ _ _ _ _ K0.o
  ·
   obtain rfl : j = 0 := by omega
   have bj : ((0 : Nat) : Int) ≤ 0 := by omega
   obtain rfl : i = k := by omega
   go_wp2_with (first
    | (refine zL 95 (.tmp 3) w.heap.size (fA x) H0.o q7 (qO _) ?_)
    | (refine zL 95 (.tmp 5) (w.heap.size + 1) (fA b) H1.o q7 (qO _) ?_))
   refine (Qb x b Hx.o Hb.o _).mono ?_
   rintro e W1 ⟨rfl, hB1⟩
   have K2 := qa (qk H2.o hB1)
   have hl2 := qh H2.o
   have KB : Hid (zB w W1) := HB.o.trans (hB1.mono (by omega))
   clear hB1 hl2 H0 H1 H2 HB
   go_wp2_with (first | (refine qB 95 (.tmp 6) (.tmp 16) (w.heap.size + 2) (fA (mP x b)) K2.o (qO _) (jo _ _) (jn _) ?_))
   refine zh (v := .agg (fA (mP x b))) (results_cell_row Tryz.results108 _ _ (w.heap.size + 2) 95 _ (0, 0) _ (by rfl) (zd _ _ _ _ _ _ K2.o) q7 rfl (qO _)) rfl ⟨by rw [HX.o], ze KB.o (by omega) _⟩
def Jx (a : Nat) : Nat → Nat
 | 0 => 1
 | n + 1 => mP (sqN 1 (Jx a n)) a
theorem qbo (a n : Nat) : Jx a n < P := by
 cases n with
 | zero => exact (by decide : 1 < P)
 | succ n => exact qK _ _
theorem qq1 (a k : Nat) (ha : a < P) (hk : k ≤ 1000) (w : World) :
  zC 107 #[.agg (fA a), .int .i64 k] w (.agg (fA (Jx a k))) := by
 have hz := JP
 have Ha := qa ha
 clear ha
 go_enter Tryz.func107, Tryz.ntmps107
 go_wp2_with fail
 refine (kA 1 (by decide) _).mono ?_
 rintro e W1 ⟨rfl, hB1⟩
 have A0 := qa (qk (yY w (.cells (fA a) 95) (.cells (fA 0) 95)) hB1)
 have A1 := qa (qk (y4 w (.cells (fA a) 95) (.cells (fA 0) 95)) hB1)
 have AB : Hid (zB w W1) := (by go_grown : zB w _).trans (hB1.mono (by simp; omega))
 clear hB1
 go_wp2_with (first | (refine qB 95 (.tmp 5) (.tmp 6) W1.heap.size (fA 1) (za _ _) (qO _) (jo _ _) (jn _) ?_))
 obtain ⟨q, hq⟩ := zy W1.heap.size
 obtain ⟨W2, hW2⟩ := zy ((W1.alloc (.cells (fA 0) 95)).setRow W1.heap.size (fA 1))
 have hq1 : w.heap.size + 1 < q := by rw [hq]; exact qh A1.o
 have B0 : Hid (qi W2 w.heap.size (fA a) 95) := by
  rw [hW2]; exact (zc _ _ _ _ (by omega)).trans ((zb _ _ (by omega)).trans A0.o)
 have B1 : Hid (qi W2 (w.heap.size + 1) (fA 0) 95) := by
  rw [hW2]; exact (zc _ _ _ _ (by omega)).trans ((zb _ _ (by omega)).trans A1.o)
 have B2 : Hid (qi W2 q (fA 1) 95) := by
  rw [hW2, hq]; exact zd _ _ _ _ _ _ (za _ _)
 have BB : Hid (zB w W2) := by
  rw [hW2]; exact ze (AB.o.alloc AB.o.size _) (by omega) _
 rw [qH, ← hW2, ← hq]
 clear hW2 hq A0 A1 AB
 go_loopw [1] (fun sV wr => ∃ (j i : Nat), i + j = k ∧ sV = .int .i64 j ∧ Hid (qi wr w.heap.size (fA a) 95) ∧ Hid (qi wr (w.heap.size + 1) (fA 0) 95) ∧ Hid (qi wr q ((fA (Jx a i))) 95) ∧ Hid (zB w wr)) (fun s _ => (intOf s).toNat)
 case atStart => exact ⟨k, 0, by omega, rfl, B0, B1, B2, BB⟩
 case round =>
  clear B0 B1 B2 BB hz
  obtain ⟨j, i, hij, rfl, H0, H1, H2, HB⟩ := hrel
  obtain ⟨x, HX⟩ := zx (Jx a i)
  have Hx : Hid (x < P) := by rw [HX.o]; exact qbo a i
  rw [← HX.o] at H2
  by_cases hj : 0 < j
  ·
   have bj : (0 : Int) < (j : Int) := by omega
   go_wp2_with (first
    | (refine zL 95 (.tmp 5) q (fA x) H2.o q7 (qO _) ?_)
    | (refine zL 95 (.tmp 2) w.heap.size (fA a) H0.o q7 (qO _) ?_))
   refine (qdT x 1 a Hx.o Ha.o (by decide) _).mono ?_
   rintro e W1 ⟨rfl, hB1⟩
   have K0 := qa (qk H0.o hB1)
   have K1 := qa (qk H1.o hB1)
   have K2 := qa (qk H2.o hB1)
   have hl2 := qh H1.o
   have KB : Hid (zB w W1) := HB.o.trans (hB1.mono (by omega))
   clear hB1 hl2 H0 H1 H2 HB
   go_wp2_with (first | (refine qB 95 (.tmp 5) (.tmp 13) q (fA (mP (sqN 1 x) a)) K2.o (qO _) (jo _ _) (jn _) ?_))
   refine ⟨⟨j - 1, i + 1, by omega, by go_num, (zc _ _ _ _ (by omega)).trans K0.o, (zc _ _ _ _ (by omega)).trans K1.o, ?_, ze KB.o (by omega) _⟩, by simp [intOf]; omega⟩
   show _ = some (Obj.cells (fA (mP (sqN 1 (Jx a i)) a)) _ _)
   rw [← HX.o]
   exact zd _ _ _ _ _ _ K2.o
  ·
   obtain rfl : j = 0 := by omega
   have bj : ((0 : Nat) : Int) ≤ 0 := by omega
   obtain rfl : i = k := by omega
   go_wp2_with (first
    | (refine zL 95 (.tmp 5) q (fA x) H2.o q7 (qO _) ?_)
    | (refine qB 95 (.tmp 4) (.tmp 14) (w.heap.size + 1) (fA x) H1.o (qO _) (jo _ _) (jn _) ?_))
   refine zh (v := .agg (fA x)) (results_cell_row Tryz.results107 _ _ (w.heap.size + 1) 95 _ (0, 0) _ (by rfl) (zd _ _ _ _ _ _ H1.o) q7 rfl (qO _)) rfl ⟨by rw [HX.o], ze HB.o (by omega) _⟩
end
section
attribute [local irreducible] fA
def jm (a : Nat) : Nat := mP (sqN 1 (mP (sqN 2 (mP (sqN 2 (Jx a 250)) a)) a)) a
theorem qbD (a : Nat) : jm a < P := qK _ _
theorem qck (a : Nat) (ha : a < P) (w : World) :
  zC 66 #[.agg (fA a)] w (.agg (fA (jm a))) := by
 have hz := JP
 have Ha := qa ha
 clear ha
 go_enter Tryz.func66, Tryz.ntmps66
 go_upto_region 1 with fail
 obtain ⟨W0, hW0⟩ := zy ((w.alloc (.cells (fA a) 95)).alloc (.cells (fA 0) 95))
 have R0 : Hid (qi W0 w.heap.size (fA a) 95) := by rw [hW0]; exact yY _ _ _
 have R1 : Hid (qi W0 (w.heap.size + 1) (fA 0) 95) := by rw [hW0]; exact y4 _ _ _
 have BL : Hid (zB w W0) := by rw [hW0]; show Below _ _ _; go_grown
 rw [← hW0]
 clear hW0
 go_wp2_with (first | (refine zL 95 (.tmp 1) (w.heap.size) (fA a) R0.o q7 (qO _) ?_))
 refine (qq1 a 250 Ha.o (by decide) _).mono ?_
 rintro e W1 ⟨rfl, hB1⟩
 have R0 := qa (qk R0.o hB1)
 have R1 := qa (qk R1.o hB1)
 have BL : Hid (zB w W1) := BL.o.trans (hB1.mono BL.o.size)
 clear hB1
 obtain ⟨x1, Ex1⟩ := zx (Jx a 250)
 have Hx1 : Hid (x1 < P) := by rw [Ex1.o]; exact qbo _ _
 rw [← Ex1.o]
 go_upto_region 2 with (first | (refine qB 95 (.tmp 3) (.tmp 5) W1.heap.size (fA x1) (za _ _) (qO _) (jo _ _) (jn _) ?_))
 obtain ⟨q, hq⟩ := zy W1.heap.size
 obtain ⟨W2, hW2⟩ := zy ((W1.alloc (.cells (fA 0) 95)).setRow W1.heap.size (fA x1))
 have lR0q : w.heap.size < q := by rw [hq]; exact qh R0.o
 have lR1q : w.heap.size + 1 < q := by rw [hq]; exact qh R1.o
 have R0' : Hid (qi W2 w.heap.size (fA a) 95) := by rw [hW2]; exact (zc _ _ _ _ (by omega)).trans ((zb _ _ (by omega)).trans R0.o)
 have R1' : Hid (qi W2 (w.heap.size + 1) (fA 0) 95) := by rw [hW2]; exact (zc _ _ _ _ (by omega)).trans ((zb _ _ (by omega)).trans R1.o)
 have R2 : Hid (qi W2 q (fA x1) 95) := by rw [hW2, hq]; exact zd _ _ _ _ _ _ (za _ _)
 have BL' : Hid (zB w W2) := by rw [hW2]; exact ze (BL.o.alloc BL.o.size _) BL.o.size _
 rw [← hW2, ← hq]
 clear hW2 hq BL R0 R1
 have R0 := R0'
 have R1 := R1'
 have BL := BL'
 clear R0' R1' BL'
 clear hz
 go_wp2_with (first | (refine zL 95 (.tmp 3) (q) (fA x1) R2.o q7 (qO _) ?_) | (refine zL 95 (.tmp 1) (w.heap.size) (fA a) R0.o q7 (qO _) ?_))
 refine (qdT x1 2 a Hx1.o Ha.o (by decide) _).mono ?_
 rintro e W3 ⟨rfl, hB3⟩
 have R0 := qa (qk R0.o hB3)
 have R1 := qa (qk R1.o hB3)
 have R2 := qa (qk R2.o hB3)
 have BL : Hid (zB w W3) := BL.o.trans (hB3.mono BL.o.size)
 clear hB3
 obtain ⟨x2, Ex2⟩ := zx (mP (sqN 2 x1) a)
 have Hx2 : Hid (x2 < P) := by rw [Ex2.o]; exact qK _ _
 rw [← Ex2.o]
 go_upto_region 3 with (first | (refine qB 95 (.tmp 3) (.tmp 8) (q) (fA x2) R2.o (qO _) (jo _ _) (jn _) ?_))
 obtain ⟨W4, hW4⟩ := zy (W3.setRow (q) (fA x2))
 have R0' : Hid (qi W4 w.heap.size (fA a) 95) := by rw [hW4]; exact (zc _ _ _ _ (by omega)).trans R0.o
 have R1' : Hid (qi W4 (w.heap.size + 1) (fA 0) 95) := by rw [hW4]; exact (zc _ _ _ _ (by omega)).trans R1.o
 have R2' : Hid (qi W4 q (fA x2) 95) := by rw [hW4]; exact zd _ _ _ _ _ _ R2.o
 have BL' : Hid (zB w W4) := by rw [hW4]; exact ze BL.o (by omega) _
 rw [← hW4]
 clear hW4 BL R0 R1 R2
 have R0 := R0'
 have R1 := R1'
 have R2 := R2'
 have BL := BL'
 clear R0' R1' R2' BL'
 go_wp2_with (first | (refine zL 95 (.tmp 3) (q) (fA x2) R2.o q7 (qO _) ?_) | (refine zL 95 (.tmp 1) (w.heap.size) (fA a) R0.o q7 (qO _) ?_))
 refine (qdT x2 2 a Hx2.o Ha.o (by decide) _).mono ?_
 rintro e W5 ⟨rfl, hB5⟩
 have R0 := qa (qk R0.o hB5)
 have R1 := qa (qk R1.o hB5)
 have R2 := qa (qk R2.o hB5)
 have BL : Hid (zB w W5) := BL.o.trans (hB5.mono BL.o.size)
 clear hB5
 obtain ⟨x3, Ex3⟩ := zx (mP (sqN 2 x2) a)
 have Hx3 : Hid (x3 < P) := by rw [Ex3.o]; exact qK _ _
 rw [← Ex3.o]
 go_upto_region 4 with (first | (refine qB 95 (.tmp 3) (.tmp 11) (q) (fA x3) R2.o (qO _) (jo _ _) (jn _) ?_))
 obtain ⟨W6, hW6⟩ := zy (W5.setRow (q) (fA x3))
 have R0' : Hid (qi W6 w.heap.size (fA a) 95) := by rw [hW6]; exact (zc _ _ _ _ (by omega)).trans R0.o
 have R1' : Hid (qi W6 (w.heap.size + 1) (fA 0) 95) := by rw [hW6]; exact (zc _ _ _ _ (by omega)).trans R1.o
 have R2' : Hid (qi W6 q (fA x3) 95) := by rw [hW6]; exact zd _ _ _ _ _ _ R2.o
 have BL' : Hid (zB w W6) := by rw [hW6]; exact ze BL.o (by omega) _
 rw [← hW6]
 clear hW6 BL R0 R1 R2
 have R0 := R0'
 have R1 := R1'
 have R2 := R2'
 have BL := BL'
 clear R0' R1' R2' BL'
 go_wp2_with (first | (refine zL 95 (.tmp 3) (q) (fA x3) R2.o q7 (qO _) ?_) | (refine zL 95 (.tmp 1) (w.heap.size) (fA a) R0.o q7 (qO _) ?_))
 refine (qdT x3 1 a Hx3.o Ha.o (by decide) _).mono ?_
 rintro e W7 ⟨rfl, hB7⟩
 have R0 := qa (qk R0.o hB7)
 have R1 := qa (qk R1.o hB7)
 have R2 := qa (qk R2.o hB7)
 have BL : Hid (zB w W7) := BL.o.trans (hB7.mono BL.o.size)
 clear hB7
 obtain ⟨x4, Ex4⟩ := zx (mP (sqN 1 x3) a)
 have Hx4 : Hid (x4 < P) := by rw [Ex4.o]; exact qK _ _
 rw [← Ex4.o]
 go_wp2_with (first | (refine qB 95 (.tmp 2) (.tmp 14) (w.heap.size + 1) (fA x4) R1.o (qO _) (jo _ _) (jn _) ?_))
 refine zh (v := .agg (fA x4)) (results_cell_row Tryz.results66 _ _ (w.heap.size + 1) 95 _ (0, 0) _ (by rfl) (zd _ _ _ _ _ _ R1.o) q7 rfl (qO _)) rfl ⟨by rw [Ex4.o, Ex3.o, Ex2.o, Ex1.o]; rfl, ze BL.o (by omega) _⟩
def Yz : Nat := mP (sqN 1 (mP (sqN 2 (Jx 2 250)) 2)) 2
theorem qmF : 2 < P := by decide
theorem qrD (w : World) :
  zC 148 #[] w (.agg (fA Yz)) := by
 have hz := JP
 go_enter Tryz.func148, Tryz.ntmps148
 go_upto_region 1 with fail
 obtain ⟨W0, hW0⟩ := zy (w.alloc (.cells (fA 0) 95))
 have R1 : Hid (qi W0 w.heap.size (fA 0) 95) := by rw [hW0]; exact za _ _
 have BL : Hid (zB w W0) := by rw [hW0]; show Below _ _ _; go_grown
 rw [← hW0]
 clear hW0
 go_wp2_with fail
 refine (kA 2 (by decide) _).mono ?_
 rintro e W1 ⟨rfl, hB1⟩
 have R1 := qa (qk R1.o hB1)
 have BL : Hid (zB w W1) := BL.o.trans (hB1.mono BL.o.size)
 clear hB1
 go_upto_region 2 with (first | (refine qB 95 (.tmp 1) (.tmp 3) W1.heap.size (fA 2) (za _ _) (qO _) (jo _ _) (jn _) ?_))
 obtain ⟨q, hq⟩ := zy W1.heap.size
 obtain ⟨W2, hW2⟩ := zy ((W1.alloc (.cells (fA 0) 95)).setRow W1.heap.size (fA 2))
 have lR1q : w.heap.size < q := by rw [hq]; exact qh R1.o
 have R1' : Hid (qi W2 w.heap.size (fA 0) 95) := by rw [hW2]; exact (zc _ _ _ _ (by omega)).trans ((zb _ _ (by omega)).trans R1.o)
 have R2 : Hid (qi W2 q (fA 2) 95) := by rw [hW2, hq]; exact zd _ _ _ _ _ _ (za _ _)
 have BL' : Hid (zB w W2) := by rw [hW2]; exact ze (BL.o.alloc BL.o.size _) BL.o.size _
 rw [← hW2, ← hq]
 clear hW2 hq BL R1
 have R1 := R1'
 have BL := BL'
 clear R1' BL'
 go_wp2_with (first | (refine zL 95 (.tmp 1) (q) (fA 2) R2.o q7 (qO _) ?_))
 refine (qq1 2 250 qmF (by decide) _).mono ?_
 rintro e W3 ⟨rfl, hB3⟩
 have R1 := qa (qk R1.o hB3)
 have R2 := qa (qk R2.o hB3)
 have BL : Hid (zB w W3) := BL.o.trans (hB3.mono BL.o.size)
 clear hB3
 obtain ⟨x1, Ex1⟩ := zx (Jx 2 250)
 have Hx1 : Hid (x1 < P) := by rw [Ex1.o]; exact qbo _ _
 rw [← Ex1.o]
 go_upto_region 3 with (first | (refine qB 95 (.tmp 2) (.tmp 5) W3.heap.size (fA x1) (za _ _) (qO _) (jo _ _) (jn _) ?_))
 obtain ⟨r, hr⟩ := zy W3.heap.size
 obtain ⟨W4, hW4⟩ := zy ((W3.alloc (.cells (fA 0) 95)).setRow W3.heap.size (fA x1))
 have lR1r : w.heap.size < r := by rw [hr]; exact qh R1.o
 have lR2r : q < r := by rw [hr]; exact qh R2.o
 have R1' : Hid (qi W4 w.heap.size (fA 0) 95) := by rw [hW4]; exact (zc _ _ _ _ (by omega)).trans ((zb _ _ (by omega)).trans R1.o)
 have R2' : Hid (qi W4 q (fA 2) 95) := by rw [hW4]; exact (zc _ _ _ _ (by omega)).trans ((zb _ _ (by omega)).trans R2.o)
 have R3 : Hid (qi W4 r (fA x1) 95) := by rw [hW4, hr]; exact zd _ _ _ _ _ _ (za _ _)
 have BL' : Hid (zB w W4) := by rw [hW4]; exact ze (BL.o.alloc BL.o.size _) BL.o.size _
 rw [← hW4, ← hr]
 clear hW4 hr BL R1 R2
 have R1 := R1'
 have R2 := R2'
 have BL := BL'
 clear R1' R2' BL'
 clear hz
 go_wp2_with (first | (refine zL 95 (.tmp 2) (r) (fA x1) R3.o q7 (qO _) ?_) | (refine zL 95 (.tmp 1) (q) (fA 2) R2.o q7 (qO _) ?_))
 refine (qdT x1 2 2 Hx1.o qmF (by decide) _).mono ?_
 rintro e W5 ⟨rfl, hB5⟩
 have R1 := qa (qk R1.o hB5)
 have R2 := qa (qk R2.o hB5)
 have R3 := qa (qk R3.o hB5)
 have BL : Hid (zB w W5) := BL.o.trans (hB5.mono BL.o.size)
 clear hB5
 obtain ⟨x2, Ex2⟩ := zx (mP (sqN 2 x1) 2)
 have Hx2 : Hid (x2 < P) := by rw [Ex2.o]; exact qK _ _
 rw [← Ex2.o]
 go_upto_region 4 with (first | (refine qB 95 (.tmp 2) (.tmp 8) (r) (fA x2) R3.o (qO _) (jo _ _) (jn _) ?_))
 obtain ⟨W6, hW6⟩ := zy (W5.setRow (r) (fA x2))
 have R1' : Hid (qi W6 w.heap.size (fA 0) 95) := by rw [hW6]; exact (zc _ _ _ _ (by omega)).trans R1.o
 have R2' : Hid (qi W6 q (fA 2) 95) := by rw [hW6]; exact (zc _ _ _ _ (by omega)).trans R2.o
 have R3' : Hid (qi W6 r (fA x2) 95) := by rw [hW6]; exact zd _ _ _ _ _ _ R3.o
 have BL' : Hid (zB w W6) := by rw [hW6]; exact ze BL.o (by omega) _
 rw [← hW6]
 clear hW6 BL R1 R2 R3
 have R1 := R1'
 have R2 := R2'
 have R3 := R3'
 have BL := BL'
 clear R1' R2' R3' BL'
 go_wp2_with (first | (refine zL 95 (.tmp 2) (r) (fA x2) R3.o q7 (qO _) ?_) | (refine zL 95 (.tmp 1) (q) (fA 2) R2.o q7 (qO _) ?_))
 refine (qdT x2 1 2 Hx2.o qmF (by decide) _).mono ?_
 rintro e W7 ⟨rfl, hB7⟩
 have R1 := qa (qk R1.o hB7)
 have R2 := qa (qk R2.o hB7)
 have R3 := qa (qk R3.o hB7)
 have BL : Hid (zB w W7) := BL.o.trans (hB7.mono BL.o.size)
 clear hB7
 obtain ⟨x3, Ex3⟩ := zx (mP (sqN 1 x2) 2)
 have Hx3 : Hid (x3 < P) := by rw [Ex3.o]; exact qK _ _
 rw [← Ex3.o]
 go_wp2_with (first | (refine qB 95 (.tmp 0) (.tmp 11) (w.heap.size) (fA x3) R1.o (qO _) (jo _ _) (jn _) ?_))
 refine zh (v := .agg (fA x3)) (results_cell_row Tryz.results148 _ _ (w.heap.size) 95 _ (0, 0) _ (by rfl) (zd _ _ _ _ _ _ R1.o) q7 rfl (qO _)) rfl ⟨by rw [Ex3.o, Ex2.o, Ex1.o]; rfl, ze BL.o (by omega) _⟩
def ZC : Nat := mP (sP 0 121665) (jm 121666)
theorem k65 : 121665 < P := by decide
theorem k66 : 121666 < P := by decide
theorem qkd : 0 < P := by decide
theorem qsl (w : World) :
  zC 33 #[] w (.agg (fA ZC)) := by
 have hz := JP
 go_enter Tryz.func33, Tryz.ntmps33
 go_upto_region 1 with fail
 obtain ⟨W0, hW0⟩ := zy (w.alloc (.cells (fA 0) 95))
 have R1 : Hid (qi W0 w.heap.size (fA 0) 95) := by rw [hW0]; exact za _ _
 have BL : Hid (zB w W0) := by rw [hW0]; show Below _ _ _; go_grown
 rw [← hW0]
 clear hW0
 go_wp2_with fail
 refine (kA 121665 (by decide) _).mono ?_
 rintro e W1 ⟨rfl, hB1⟩
 have R1 := qa (qk R1.o hB1)
 have BL : Hid (zB w W1) := BL.o.trans (hB1.mono BL.o.size)
 clear hB1
 go_wp2_with fail
 refine (ku 0 121665 qkd k65 _).mono ?_
 rintro e W2 ⟨rfl, hB2⟩
 have R1 := qa (qk R1.o hB2)
 have BL : Hid (zB w W2) := BL.o.trans (hB2.mono BL.o.size)
 clear hB2
 obtain ⟨x1, Ex1⟩ := zx (sP 0 121665)
 have Hx1 : Hid (x1 < P) := by rw [Ex1.o]; exact jR _ _
 rw [← Ex1.o]
 go_wp2_with fail
 refine (kA 121666 (by decide) _).mono ?_
 rintro e W3 ⟨rfl, hB3⟩
 have R1 := qa (qk R1.o hB3)
 have BL : Hid (zB w W3) := BL.o.trans (hB3.mono BL.o.size)
 clear hB3
 go_wp2_with fail
 refine (qck 121666 k66 _).mono ?_
 rintro e W4 ⟨rfl, hB4⟩
 have R1 := qa (qk R1.o hB4)
 have BL : Hid (zB w W4) := BL.o.trans (hB4.mono BL.o.size)
 clear hB4
 obtain ⟨x2, Ex2⟩ := zx (jm 121666)
 have Hx2 : Hid (x2 < P) := by rw [Ex2.o]; exact qbD _
 rw [← Ex2.o]
 go_wp2_with fail
 refine (Qb x1 x2 Hx1.o Hx2.o _).mono ?_
 rintro e W5 ⟨rfl, hB5⟩
 have R1 := qa (qk R1.o hB5)
 have BL : Hid (zB w W5) := BL.o.trans (hB5.mono BL.o.size)
 clear hB5
 obtain ⟨x3, Ex3⟩ := zx (mP x1 x2)
 have Hx3 : Hid (x3 < P) := by rw [Ex3.o]; exact qK _ _
 rw [← Ex3.o]
 go_wp2_with (first | (refine qB 95 (.tmp 0) (.tmp 6) (w.heap.size) (fA x3) R1.o (qO _) (jo _ _) (jn _) ?_))
 refine zh (v := .agg (fA x3)) (results_cell_row Tryz.results33 _ _ (w.heap.size) 95 _ (0, 0) _ (by rfl) (zd _ _ _ _ _ _ R1.o) q7 rfl (qO _)) rfl ⟨by rw [Ex3.o, Ex2.o, Ex1.o]; rfl, ze BL.o (by omega) _⟩
end
end Go.Proofs.YtccgfabojbjmjaaGreatDoor
