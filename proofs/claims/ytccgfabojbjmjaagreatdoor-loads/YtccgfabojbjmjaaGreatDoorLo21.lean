import Derived.Test.YtccgfabojbjmjaaGreatDoorLo18
set_option maxRecDepth 100000
set_option maxHeartbeats 8000000
namespace Go.Proofs.YtccgfabojbjmjaaGreatDoor
open Go.RowKit
open Go.RowKit
def bA (n : Nat) : Array Value := ((qI n 32).map cv).toArray
theorem qgf (n : Nat) : (bA n).size = 32 := by simp [bA, jM]
theorem ZH : Tryz.prog.underlying 62 = some (.array 32 5) := by kernel_rfl
theorem kU : (Tryz.prog.info? 62).map (·.size) = some 32 := by kernel_rfl
theorem Jp (n : Nat) : (Tryz.prog.info? 62).map (·.size) = some (bA n).size := by rw [qgf]; exact kU
theorem qiC (m n : Nat) : (bA m).size = (bA n).size := by rw [qgf, qgf]
theorem qiP (n : Nat) : (bA n).all (·.oneCell') = true := all_oneCell_toArray (qaB _)
theorem qih (w : World) : (zeroValue 62).run Tryz.prog w = .ok (.agg (bA 0)) w := by
 unfold bA; rw [qhM]; kernel_rfl
theorem qrX (n : Nat) (w : World) : zC 94 #[.agg (qb n)] w (.agg (bA n)) := qp9 n w
theorem qvh (x : Nat) (h : x < 128) : bits .or .u8 (x : Int) 128 = (x : Int) + 128 := by
 have key : ∀ y : Fin 128, bits .or .u8 ((y.val : Nat) : Int) 128 = ((y.val : Nat) : Int) + 128 := by decide +kernel
 exact key ⟨x, h⟩
def y8 (p : Pt) : Nat := Qp (mP p.y (Qa p.z)) (decide (mP p.x (Qa p.z) % 2 = 1))
theorem qmA {w : World} {b y : Nat} {T : TypeId} {c : UInt8} (hy : y < P) (hc : c = Qe y 31) (h : w.heap[b]? = some (.cells (bA y) T (0, 0))) : (w.setCell ⟨b, 31, none⟩ (.int .u8 (C8 c + 128))).heap[b]? = some (.cells (bA (Qp y true)) T (0, 0)) := by
 have hcl : c.toNat < 128 := by
  rw [Zw] at hy
  rw [hc, Ja, show (256 : Nat) ^ 31 = 452312848583266388373324160190187140051835877600158453279131187530910662656 from by decide]
  omega
 have hcn : (UInt8.ofNat (c.toNat + 128)).toNat = c.toNat + 128 := by rw [UInt8.toNat_ofNat']; omega
 have e := qgs y 255 (zl hy (by decide)) (by decide) (UInt8.ofNat (c.toNat + 128)) (by rw [hcn, hc])
 have e2 : Qp y true = y + 2 ^ 255 := rfl
 unfold bA
 rw [e2, ← e, List.map_set]
 have e3 : cv (UInt8.ofNat (c.toNat + 128)) = .int .u8 (C8 c + 128) := by
  show Value.int .u8 (C8 _) = _
  unfold C8
  rw [hcn]; rfl
 rw [e3]
 exact Qg h 31 _
section
attribute [local irreducible] qb nL pA bA
theorem qqn (p : Pt) (hp : p.Ok) (w : World) :
  zC 58 #[.agg (pA p)] w (.agg (bA (y8 p))) := by
 have hz := qjD
 have hzc := qih
 have Hp := qa hp
 clear hp
 go_enter Tryz.func58, Tryz.ntmps58
 go_upto_region 1 with fail
 obtain ⟨W0, hW0⟩ := zy ((w.alloc (.cells (pA p) 82)).alloc (.cells (bA 0) 62))
 have RP : Hid (qi W0 w.heap.size (pA p) 82) := by rw [hW0]; exact yY _ _ _
 have RZ : Hid (qi W0 (w.heap.size + 1) (bA 0) 62) := by rw [hW0]; exact y4 _ _ _
 have BL : Hid (zB w W0) := by rw [hW0]; show Below _ _ _; go_grown
 rw [← hW0]
 clear hW0
 go_wp2_with (first | (refine zG (by rfl) 80 (.tmp 5) (by rfl) (w.heap.size) 8 (by rfl) (nL p.z) _ (Qr RP.o).2.2.1 jC rfl (qcz _) ?_))
 simp only [qoI]
 refine (qmu p.z Hp.o.z _).mono ?_
 rintro e W1 ⟨rfl, hB1⟩
 have RP := qa (qk RP.o hB1)
 have RZ := qa (qk RZ.o hB1)
 have BL := qq BL hB1
 clear hB1
 obtain ⟨i, Ei⟩ := zx (Qa p.z)
 have Hi : Hid (i < P) := by rw [Ei.o]; exact ql2 _
 rw [← Ei.o]
 go_upto_region 2 with (first | (refine qB 80 (.tmp 3) (.tmp 7) W1.heap.size (qb i) (za _ _) (jc _) (QL _ _) (qY _) ?_))
 obtain ⟨g3, hg3⟩ := zy W1.heap.size
 obtain ⟨W2, hW2⟩ := zy ((W1.alloc (.cells (qb 0) 80)).setRow W1.heap.size (qb i))
 have lRPg3 : w.heap.size < g3 := by rw [hg3]; exact qh RP.o
 have lRZg3 : w.heap.size + 1 < g3 := by rw [hg3]; exact qh RZ.o
 have RP' : Hid (qi W2 w.heap.size (pA p) 82) := by rw [hW2]; exact (zc _ _ _ _ (by omega)).trans ((zb _ _ (by omega)).trans RP.o)
 have RZ' : Hid (qi W2 (w.heap.size + 1) (bA 0) 62) := by rw [hW2]; exact (zc _ _ _ _ (by omega)).trans ((zb _ _ (by omega)).trans RZ.o)
 have RI : Hid (qi W2 g3 (qb i) 80) := by rw [hW2, hg3]; exact zd _ _ _ _ _ _ (za _ _)
 have BL' : Hid (zB w W2) := by rw [hW2]; exact ze (BL.o.alloc BL.o.size _) BL.o.size _
 rw [← hW2, ← hg3]
 clear hW2 hg3 BL RP RZ
 have RP := RP'
 have RZ := RZ'
 have BL := BL'
 clear RP' RZ' BL'
 go_wp2_with (first | (refine zG (by rfl) 80 (.tmp 8) (by rfl) (w.heap.size) 4 (by rfl) (nL p.y) _ (Qr RP.o).2.1 jC rfl (qcz _) ?_) | (refine zL 80 (.tmp 3) (g3) (qb i) RI.o jC (jc _) ?_))
 simp only [qoI]
 refine (jF p.y i Hp.o.y Hi.o _).mono ?_
 rintro e W3 ⟨rfl, hB3⟩
 have RP := qa (qk RP.o hB3)
 have RZ := qa (qk RZ.o hB3)
 have RI := qa (qk RI.o hB3)
 have BL := qq BL hB3
 clear hB3
 obtain ⟨y, Ey⟩ := zx (mP p.y i)
 have Hy : Hid (y < P) := by rw [Ey.o]; exact qK _ _
 rw [← Ey.o]
 go_wp2_with fail
 refine (qrX y _).mono ?_
 rintro e W4 ⟨rfl, hB4⟩
 have RP := qa (qk RP.o hB4)
 have RZ := qa (qk RZ.o hB4)
 have RI := qa (qk RI.o hB4)
 have BL := qq BL hB4
 clear hB4
 go_upto_region 3 with (first | (refine qB 62 (.tmp 4) (.tmp 12) W4.heap.size (bA y) (za _ _) (Jp _) (qiC _ _) (qiP _) ?_))
 obtain ⟨g4, hg4⟩ := zy W4.heap.size
 obtain ⟨W5, hW5⟩ := zy ((W4.alloc (.cells (bA 0) 62)).setRow W4.heap.size (bA y))
 have lRPg4 : w.heap.size < g4 := by rw [hg4]; exact qh RP.o
 have lRZg4 : w.heap.size + 1 < g4 := by rw [hg4]; exact qh RZ.o
 have lRIg4 : g3 < g4 := by rw [hg4]; exact qh RI.o
 have RP' : Hid (qi W5 w.heap.size (pA p) 82) := by rw [hW5]; exact (zc _ _ _ _ (by omega)).trans ((zb _ _ (by omega)).trans RP.o)
 have RZ' : Hid (qi W5 (w.heap.size + 1) (bA 0) 62) := by rw [hW5]; exact (zc _ _ _ _ (by omega)).trans ((zb _ _ (by omega)).trans RZ.o)
 have RI' : Hid (qi W5 g3 (qb i) 80) := by rw [hW5]; exact (zc _ _ _ _ (by omega)).trans ((zb _ _ (by omega)).trans RI.o)
 have RC : Hid (qi W5 g4 (bA y) 62) := by rw [hW5, hg4]; exact zd _ _ _ _ _ _ (za _ _)
 have BL' : Hid (zB w W5) := by rw [hW5]; exact ze (BL.o.alloc BL.o.size _) BL.o.size _
 rw [← hW5, ← hg4]
 clear hW5 hg4 BL RP RZ RI
 have RP := RP'
 have RZ := RZ'
 have RI := RI'
 have BL := BL'
 clear RP' RZ' RI' BL'
 go_wp2_with (first | (refine zG (by rfl) 80 (.tmp 13) (by rfl) (w.heap.size) 0 (by rfl) (nL p.x) _ (Qr RP.o).1 jC rfl (qcz _) ?_) | (refine zL 80 (.tmp 3) (g3) (qb i) RI.o jC (jc _) ?_))
 simp only [qoI]
 refine (jF p.x i Hp.o.x Hi.o _).mono ?_
 rintro e W6 ⟨rfl, hB6⟩
 have RP := qa (qk RP.o hB6)
 have RZ := qa (qk RZ.o hB6)
 have RI := qa (qk RI.o hB6)
 have RC := qa (qk RC.o hB6)
 have BL := qq BL hB6
 clear hB6
 obtain ⟨x, Ex⟩ := zx (mP p.x i)
 have Hx : Hid (x < P) := by rw [Ex.o]; exact qK _ _
 rw [← Ex.o]
 go_wp2_with fail
 refine (qhh x _).mono ?_
 rintro e W7 ⟨rfl, hB7⟩
 have RP := qa (qk RP.o hB7)
 have RZ := qa (qk RZ.o hB7)
 have RI := qa (qk RI.o hB7)
 have RC := qa (qk RC.o hB7)
 have BL := qq BL hB7
 clear hB7
 obtain ⟨ob, Eo⟩ := zx (decide (x % 2 = 1))
 rw [← Eo.o]
 have HC : Hid (y8 p = Qp y ob) := by show _ = _; unfold y8; rw [Eo.o, Ex.o, Ey.o, Ei.o]
 clear hz hzc
 cases ob
 case false =>
  go_wp2_with (first | (refine zL 62 (.tmp 4) (g4) (bA y) RC.o ZH (Jp _) ?_) | (refine qB 62 (.tmp 2) (.tmp 22) (w.heap.size + 1) (bA y) RZ.o (Jp _) (qiC _ _) (qiP _) ?_))
  refine zh (v := .agg (bA y)) (results_cell_row Tryz.results58 _ _ (w.heap.size + 1) 62 _ (0, 0) _ (by rfl) (zd _ _ _ _ _ _ RZ.o) ZH rfl (Jp _)) rfl ⟨by first | (rw [HC.o]; done) | (rw [HC.o]; rfl), ze BL.o (by omega) _⟩
 case true =>
 obtain ⟨c, Ec⟩ := zx (Qe y 31)
 have c2 := qcn (l := qI y 32) (T := 62) (fr := (0, 0)) (by have e := RC.o; unfold bA at e; exact e) 31 (by rw [jM]; decide)
 rw [qbX y 32 31 (by decide), ← Ec.o, show cv c = .int .u8 (C8 c) from rfl] at c2
 have f2 := frozen_of_row W7 g4 31 _ _ RC.o
 have hcl : c.toNat < 128 := by
  have h := Hy.o; rw [Zw] at h
  rw [Ec.o, Ja, show (256 : Nat) ^ 31 = 452312848583266388373324160190187140051835877600158453279131187530910662656 from by decide]; omega
 have hor : bits .or .u8 (C8 c) 128 = C8 c + 128 := qvh c.toNat hcl
 obtain ⟨v, Ev⟩ := zx (C8 c + 128)
 rw [← Ev.o] at hor
 have RC2 : Hid ((W7.setCell ⟨g4, 31, none⟩ (.int .u8 v)).heap[g4]? = some (.cells (bA (Qp y true)) 62)) := by rw [Ev.o]; exact qmA Hy.o Ec.o RC.o
 have RZ2 : Hid ((W7.setCell ⟨g4, 31, none⟩ (.int .u8 v)).heap[w.heap.size + 1]? = some (.cells (bA 0) 62)) := QR _ _ RZ.o (by omega)
 have BL2 : Hid (zB w (W7.setCell ⟨g4, 31, none⟩ (.int .u8 v))) := BL.o.setCell (by show w.heap.size ≤ g4; omega) _
 clear hcl
 go_upto_region 5 with fail
 obtain ⟨WV, hWV⟩ := zy (W7.setCell ⟨g4, 31, none⟩ (.int .u8 v))
 rw [← hWV] at RC2 RZ2 BL2 ⊢
 clear hWV c2 f2 hor RC RZ BL
 have RC := RC2
 have RZ := RZ2
 have BL := BL2
 go_wp2_with (first | (refine zg (by rfl) 62 (.tmp 4) (by rfl) (g4) (by rfl) 62 (bA (Qp y true)) (0, 0) _ RC.o ZH rfl (Jp _) ?_) | (refine qB 62 (.tmp 2) (.tmp 22) (w.heap.size + 1) (bA (Qp y true)) RZ.o (Jp _) (qiC _ _) (qiP _) ?_))
 refine zh (v := .agg (bA (Qp y true))) (results_cell_row Tryz.results58 _ _ (w.heap.size + 1) 62 _ (0, 0) _ (by rfl) (zd _ _ _ _ _ _ RZ.o) ZH rfl (Jp _)) rfl ⟨by first | (rw [HC.o]; done) | (rw [HC.o]; rfl), ze BL.o (by omega) _⟩
end
open Go.RowKit
theorem qsg (x : Nat) (h : x < 256) : (bits .and .u8 (x : Int) 128 != 0) = decide (128 ≤ x) := by
 have key : ∀ y : Fin 256, (bits .and .u8 ((y.val : Nat) : Int) 128 != 0) = decide (128 ≤ y.val) := by decide +kernel
 exact key ⟨x, h⟩
theorem qkW (x : Nat) (h : x < 256) : bits .andNot .u8 (x : Int) 128 = ((x % 128 : Nat) : Int) := by
 have key : ∀ y : Fin 256, bits .andNot .u8 ((y.val : Nat) : Int) 128 = ((y.val % 128 : Nat) : Int) := by decide +kernel
 exact key ⟨x, h⟩
theorem qaR (l : List UInt8) (h : l.length = 32) : qI (qC l) 32 = l := by
 apply List.ext_getElem
 · rw [jM, h]
 ·
  intro i h1 h2
  have hi : i < 32 := by rw [jM] at h1; exact h1
  have g : ∀ h : i < (qI (qC l) 32).length, (qI (qC l) 32)[i] = Qe (qC l) i := by intro h; simp [qI]
  rw [g]
  apply UInt8.toNat_inj.1
  rw [Ja, qar]
  simp [List.getD, zO h2]
theorem kz (n : Nat) (h : n < 115792089237316195423570985008687907853269984665640564039457584007913129639936) : qC (qI n 32) = n := by
 have key : ∀ k m, m < 256 ^ k → qC (qI m k) = m := by
  intro k
  induction k with
  | zero => intro m hm; simp [qI, qC]; omega
  | succ k ih =>
   intro m hm
   have e : qI m (k + 1) = Qe m 0 :: qI (m / 256) k := by
    unfold qI
    rw [List.range_succ_eq_map, List.map_cons, List.map_map]
    congr 1
    apply List.map_congr_left
    intro i _
    show Qe m (i + 1) = Qe (m / 256) i
    unfold Qe
    rw [Zk, Zl (256 ^ i) 256, Nat.div_div_eq_div_mul]
   rw [e]
   simp only [qC]
   rw [ih (m / 256) (by rw [Zk] at hm; omega), Ja, Nat.pow_zero, Nat.div_one]
   omega
 exact key 32 n h
theorem qil (n : Nat) (h : n < 115792089237316195423570985008687907853269984665640564039457584007913129639936) : (Qe n 31).toNat = n / 452312848583266388373324160190187140051835877600158453279131187530910662656 := by
 rw [Ja, show (256 : Nat) ^ 31 = 452312848583266388373324160190187140051835877600158453279131187530910662656 from by decide]; omega
def km (n : Nat) : Bool := decide (57896044618658097711785492504343953926634992332820282019728792003956564819968 ≤ n)
def ZS (n : Nat) : Nat := n % 57896044618658097711785492504343953926634992332820282019728792003956564819968
theorem qlb (n : Nat) (h : n < 115792089237316195423570985008687907853269984665640564039457584007913129639936) : decide (128 ≤ (Qe n 31).toNat) = km n := by
 rw [qil n h]
 unfold km
 congr 1
 apply propext
 omega
theorem ql3 {w : World} {b n : Nat} {T : TypeId} {c : UInt8} (hn : n < 115792089237316195423570985008687907853269984665640564039457584007913129639936) (hc : c = Qe n 31) (h : w.heap[b]? = some (.cells (bA n) T (0, 0))) : (w.setCell ⟨b, 31, none⟩ (.int .u8 ((c.toNat % 128 : Nat) : Int))).heap[b]? = some (.cells (bA (ZS n)) T (0, 0)) := by
 have hrow : (qI n 32).set 31 (UInt8.ofNat (c.toNat % 128)) = qI (ZS n) 32 := by
  have hct := qil n hn
  rw [← hc] at hct
  have hcn : (UInt8.ofNat (c.toNat % 128)).toNat = c.toNat % 128 := by rw [UInt8.toNat_ofNat']; omega
  apply List.ext_getElem
  · simp [jM]
  ·
   intro j h1 h2
   rw [jM] at h2
   rw [List.getElem_set]
   have g : ∀ n : Nat, ∀ h : j < (qI n 32).length, (qI n 32)[j] = Qe n j := by intro n h; simp [qI]
   rw [g (ZS n)]
   apply UInt8.toNat_inj.1
   by_cases hj : 31 = j
   ·
    subst hj
    rw [if_pos rfl, hcn, Ja, show (256 : Nat) ^ 31 = 452312848583266388373324160190187140051835877600158453279131187530910662656 from by decide, hct]
    unfold ZS
    omega
   ·
    rw [if_neg hj, g n, Ja, Ja]
    unfold ZS
    have hd : ∃ k, 57896044618658097711785492504343953926634992332820282019728792003956564819968 = 256 ^ j * (256 * k) := ⟨2 ^ (247 - 8 * j), by
     rw [show (256 : Nat) = 2 ^ 8 by decide, ← Nat.pow_mul, ← Nat.pow_add, ← Nat.pow_add, show 8 * j + (8 + (247 - 8 * j)) = 255 by omega]⟩
    obtain ⟨k, hk⟩ := hd
    rw [hk, Nat.mod_mul_right_div_self, Nat.mod_mul_right_mod]
 unfold bA at h ⊢
 rw [← hrow, List.map_set]
 have e3 : cv (UInt8.ofNat (c.toNat % 128)) = .int .u8 ((c.toNat % 128 : Nat) : Int) := by
  show Value.int .u8 (C8 _) = _
  unfold C8
  rw [UInt8.toNat_ofNat', z6 (by omega)]
 rw [e3]
 exact Qg h 31 _
theorem Gl.keep {w w' : World} (h : Gl w) (hb : zB w w') : Gl w' := by
 obtain ⟨t0, f0, e0⟩ := h.g0
 obtain ⟨t1, f1, e1⟩ := h.g1
 obtain ⟨t3, f3, e3⟩ := h.g3
 obtain ⟨t4, f4, e4⟩ := h.g4
 obtain ⟨t5, f5, e5⟩ := h.g5
 exact ⟨⟨t0, f0, qk e0 hb⟩, ⟨t1, f1, qk e1 hb⟩, ⟨t3, f3, qk e3 hb⟩, ⟨t4, f4, qk e4 hb⟩, ⟨t5, f5, qk e5 hb⟩⟩
theorem qpj (x y z t : Nat) : Tryz.prog.built 82 [(0, .agg (qb x)), (1, .agg (qb y)), (2, .agg (qb z)), (3, .agg (qb t))] = some (pA ⟨x, y, z, t⟩) := qqZ x y z t
theorem qsD (n : Nat) : ZS n < 57896044618658097711785492504343953926634992332820282019728792003956564819968 := Nat.mod_lt _ (by decide)
theorem qnE (m : Nat) (hm : m < 57896044618658097711785492504343953926634992332820282019728792003956564819968) (w : World) (hG : Gl w) :
  zC 149 #[.agg (bA m)] w (.tuple #[.agg (qb (Zu m)), .bool (Yc m)]) := by
 obtain ⟨T, fr, e⟩ := hG.g3
 have c := qle (qI m 32) (jM _ _) T fr w e
 rw [kz m (by omega)] at c
 exact c
theorem qvH (y : Nat) (odd : Bool) (hy : y < P) (w : World) (hG : Gl w) :
  zC 150 #[.agg (qb y), .bool odd] w (.tuple #[.agg (qb (yG y odd)), .bool (y5 y odd)]) := qry y odd hy w hG
theorem qgx (y : Nat) (odd : Bool) : yG y odd < P := by
 unfold yG; split
 ·
  unfold JH; split
  · exact jR _ _
  · exact qca _ _
 · exact j3
def jg (n : Nat) : Bool := Yc (ZS n) && y5 (Zu (ZS n)) (km n)
def Qh (n : Nat) : Pt := if jg n = true then Yg (yG (Zu (ZS n)) (km n)) (Zu (ZS n)) else p0
section
attribute [local irreducible] qb nL pA bA
theorem qkR (n : Nat) (hn : n < 115792089237316195423570985008687907853269984665640564039457584007913129639936) (w : World) (hG : Gl w) :
  zC 118 #[.agg (bA n)] w (.tuple #[.agg (pA (Qh n)), .bool (jg n)]) := by
 have hz := qjD
 have hzp := yK
 have HGl := qa hG
 have Hn := qa hn
 obtain ⟨TT, frr, hg1⟩ := hG.g1
 obtain ⟨o1, Eo1⟩ : ∃ o : Nat, Hid (o = 1) := ⟨1, qa rfl⟩
 rw [← Eo1.o] at hg1
 have HG1 := qa hg1
 have lG := qh hg1
 clear hn hG hg1
 go_enter Tryz.func118, Tryz.ntmps118
 go_upto_region 1 with fail
 obtain ⟨W0, hW0⟩ := zy ((w.alloc (.cells (bA n) 62)).alloc (.cells (pA p0) 82))
 have RC : Hid (qi W0 w.heap.size (bA n) 62) := by rw [hW0]; exact yY _ _ _
 have RZ : Hid (qi W0 (w.heap.size + 1) (pA p0) 82) := by rw [hW0]; exact y4 _ _ _
 have BL : Hid (zB w W0) := by rw [hW0]; show Below _ _ _; go_grown
 rw [← hW0]
 clear hW0
 obtain ⟨c, Ec⟩ := zx (Qe n 31)
 have c2 := qcn (l := qI n 32) (T := 62) (fr := (0, 0)) (by have e := RC.o; unfold bA at e; exact e) 31 (by rw [jM]; decide)
 rw [qbX n 32 31 (by decide), ← Ec.o, show cv c = .int .u8 (C8 c) from rfl] at c2
 have f2 := frozen_of_row W0 w.heap.size 31 _ _ RC.o
 obtain ⟨od, Eod⟩ := zx (km n)
 have hand : (bits .and .u8 (C8 c) 128 != 0) = od := by
  rw [Eod.o, ← qlb n Hn.o, ← Ec.o]; exact qsg c.toNat c.toNat_lt
 obtain ⟨v, Ev⟩ := zx (α := Int) (((c.toNat % 128 : Nat) : Int))
 have hann : bits .andNot .u8 (C8 c) 128 = v := by rw [Ev.o]; exact qkW c.toNat c.toNat_lt
 have RC2 : Hid ((W0.setCell ⟨w.heap.size, 31, none⟩ (.int .u8 v)).heap[w.heap.size]? = some (.cells (bA (ZS n)) 62)) := by rw [Ev.o]; exact ql3 Hn.o Ec.o RC.o
 have RZ2 : Hid ((W0.setCell ⟨w.heap.size, 31, none⟩ (.int .u8 v)).heap[w.heap.size + 1]? = some (.cells (pA p0) 82)) := QR _ _ RZ.o (by omega)
 have BL2 : Hid (zB w (W0.setCell ⟨w.heap.size, 31, none⟩ (.int .u8 v))) := BL.o.setCell (zm _) _
 go_upto_region 3 with fail
 obtain ⟨WV, hWV⟩ := zy (W0.setCell ⟨w.heap.size, 31, none⟩ (.int .u8 v))
 rw [← hWV] at RC2 RZ2 BL2 ⊢
 clear hWV c2 f2 hand hann RC RZ BL
 have RC := RC2
 have RZ := RZ2
 have BL := BL2
 clear RC2 RZ2 BL2
 obtain ⟨m, Em⟩ := zx (ZS n)
 rw [← Em.o] at RC
 have Hm : Hid (m < 57896044618658097711785492504343953926634992332820282019728792003956564819968) := by rw [Em.o]; exact qsD n
 have RG : Hid (WV.heap[8]? = some (.cells (qb o1) TT frr)) := qs HG1.o BL.o lG
 clear HG1
 go_wp2_with (first | (refine zL 62 (.tmp 1) (w.heap.size) (bA m) RC.o ZH (Jp _) ?_))
 refine (qnE m Hm.o _ (HGl.o.keep BL.o)).mono ?_
 rintro e W1 ⟨rfl, hB1⟩
 have RC := qa (qk RC.o hB1)
 have RZ := qa (qk RZ.o hB1)
 have RG := qa (qk RG.o hB1)
 have BL := qq BL hB1
 clear hB1
 obtain ⟨y, Ey⟩ := zx (Zu m)
 have Hy : Hid (y < P) := by rw [Ey.o]; exact qhs _
 obtain ⟨yb, Eyb⟩ := zx (Yc m)
 rw [← Ey.o, ← Eyb.o]
 go_upto_region 4 with (first | (refine qB 80 (.tmp 5) (.tmp 19) W1.heap.size (qb y) (za _ _) (jc _) (QL _ _) (qY _) ?_))
 obtain ⟨gy, hgy⟩ := zy W1.heap.size
 obtain ⟨W2, hW2⟩ := zy ((W1.alloc (.cells (qb 0) 80)).setRow W1.heap.size (qb y))
 have lRCgy : w.heap.size < gy := by rw [hgy]; exact qh RC.o
 have lRZgy : w.heap.size + 1 < gy := by rw [hgy]; exact qh RZ.o
 have lRGgy : 8 < gy := by rw [hgy]; exact qh RG.o
 have RC' : Hid (qi W2 w.heap.size (bA m) 62) := by rw [hW2]; exact (zc _ _ _ _ (by omega)).trans ((zb _ _ (by omega)).trans RC.o)
 have RZ' : Hid (qi W2 (w.heap.size + 1) (pA p0) 82) := by rw [hW2]; exact (zc _ _ _ _ (by omega)).trans ((zb _ _ (by omega)).trans RZ.o)
 have RG' : Hid (W2.heap[8]? = some (.cells (qb o1) TT frr)) := by rw [hW2]; exact (zc _ _ _ _ (by omega)).trans ((zb _ _ (by omega)).trans RG.o)
 have RY : Hid (qi W2 gy (qb y) 80) := by rw [hW2, hgy]; exact zd _ _ _ _ _ _ (za _ _)
 have BL' : Hid (zB w W2) := by rw [hW2]; exact ze (BL.o.alloc BL.o.size _) BL.o.size _
 rw [← hW2, ← hgy]
 clear hW2 hgy BL RC RZ RG
 have RC := RC'
 have RZ := RZ'
 have RG := RG'
 have BL := BL'
 clear RC' RZ' RG' BL'
 cases yb
 case false =>
  have HB : Hid (jg n = false) := by show _ = _; unfold jg; rw [← Em.o, ← Eyb.o]; rfl
  go_wp2_with (first | (refine qB 82 (.tmp 2) (.tmp 23) (w.heap.size + 1) (pA p0) RZ.o (jO _) (ZK _ _) (QJ _) ?_))
  refine zh (v := .tuple #[.agg (pA p0), .bool false]) (jJ Tryz.results118 _ _ (w.heap.size + 1) 82 (pA p0) (0, 0) _ (by rfl) (zd _ _ _ _ _ _ RZ.o) Tryz.underlying82 rfl (jO _)) rfl ⟨?_, ze BL.o (by omega) _⟩
  unfold Qh
  rw [HB.o, if_neg (by decide)]
 case true =>
 go_wp2_with (first | (refine zL 80 (.tmp 5) (gy) (qb y) RY.o jC (jc _) ?_))
 refine (qvH y od Hy.o _ (HGl.o.keep BL.o)).mono ?_
 rintro e W3 ⟨rfl, hB3⟩
 have RC := qa (qk RC.o hB3)
 have RZ := qa (qk RZ.o hB3)
 have RG := qa (qk RG.o hB3)
 have RY := qa (qk RY.o hB3)
 have BL := qq BL hB3
 clear hB3
 obtain ⟨x, Ex⟩ := zx (yG y od)
 have Hx : Hid (x < P) := by rw [Ex.o]; exact qgx _ _
 obtain ⟨xb, Exb⟩ := zx (y5 y od)
 rw [← Ex.o, ← Exb.o]
 go_upto_region 7 with (first | (refine qB 80 (.tmp 7) (.tmp 28) W3.heap.size (qb x) (za _ _) (jc _) (QL _ _) (qY _) ?_))
 obtain ⟨gx, hgx⟩ := zy W3.heap.size
 obtain ⟨W4, hW4⟩ := zy ((W3.alloc (.cells (qb 0) 80)).setRow W3.heap.size (qb x))
 have lRCgx : w.heap.size < gx := by rw [hgx]; exact qh RC.o
 have lRZgx : w.heap.size + 1 < gx := by rw [hgx]; exact qh RZ.o
 have lRGgx : 8 < gx := by rw [hgx]; exact qh RG.o
 have lRYgx : gy < gx := by rw [hgx]; exact qh RY.o
 have RC' : Hid (qi W4 w.heap.size (bA m) 62) := by rw [hW4]; exact (zc _ _ _ _ (by omega)).trans ((zb _ _ (by omega)).trans RC.o)
 have RZ' : Hid (qi W4 (w.heap.size + 1) (pA p0) 82) := by rw [hW4]; exact (zc _ _ _ _ (by omega)).trans ((zb _ _ (by omega)).trans RZ.o)
 have RG' : Hid (W4.heap[8]? = some (.cells (qb o1) TT frr)) := by rw [hW4]; exact (zc _ _ _ _ (by omega)).trans ((zb _ _ (by omega)).trans RG.o)
 have RY' : Hid (qi W4 gy (qb y) 80) := by rw [hW4]; exact (zc _ _ _ _ (by omega)).trans ((zb _ _ (by omega)).trans RY.o)
 have RX : Hid (qi W4 gx (qb x) 80) := by rw [hW4, hgx]; exact zd _ _ _ _ _ _ (za _ _)
 have BL' : Hid (zB w W4) := by rw [hW4]; exact ze (BL.o.alloc BL.o.size _) BL.o.size _
 rw [← hW4, ← hgx]
 clear hW4 hgx BL RC RZ RG RY
 have RC := RC'
 have RZ := RZ'
 have RG := RG'
 have RY := RY'
 have BL := BL'
 clear RC' RZ' RG' RY' BL'
 cases xb
 case false =>
  have HB : Hid (jg n = false) := by show _ = _; unfold jg; rw [← Em.o, ← Eyb.o, ← Ey.o, ← Eod.o, ← Exb.o]; rfl
  go_wp2_with (first | (refine qB 82 (.tmp 2) (.tmp 32) (w.heap.size + 1) (pA p0) RZ.o (jO _) (ZK _ _) (QJ _) ?_))
  refine zh (v := .tuple #[.agg (pA p0), .bool false]) (jJ Tryz.results118 _ _ (w.heap.size + 1) 82 (pA p0) (0, 0) _ (by rfl) (zd _ _ _ _ _ _ RZ.o) Tryz.underlying82 rfl (jO _)) rfl ⟨?_, ze BL.o (by omega) _⟩
  unfold Qh
  rw [HB.o, if_neg (by decide)]
 case true =>
 have HB : Hid (jg n = true) := by show _ = _; unfold jg; rw [← Em.o, ← Eyb.o, ← Ey.o, ← Eod.o, ← Exb.o]; rfl
 go_wp2_with fail
 refine zM (S := fun w' => w'.rangeAt (gx) 0 (nL x) ∧ w'.rangeAt (gy) 0 (nL y) ∧ w'.rangeAt (8) 0 (nL o1)) (by kernel_rfl) (by exact ⟨Qu RX.o, Qu RY.o, Qu RG.o⟩) (fun hHeld => ?_)
 obtain ⟨V1, hV1⟩ := zy W4.drew
 rw [← hV1] at hHeld ⊢
 have KV1 : Hid (zB W4 V1) := by rw [hV1]; exact (zJ _ _).drew
 clear hV1
 refine zT 0 ⟨some 33, .load 80 (.tmp 7), 80, "point.go:42", #[], none⟩ (.agg (qb x)) (jA (by rfl) _ rfl (gx) 0 x rfl (fun w h => h.1)) ?_
 simp only [qd]
 refine zT 1 ⟨some 34, .load 80 (.tmp 5), 80, "point.go:42", #[], none⟩ (.agg (qb y)) (jA (by rfl) _ rfl (gy) 0 y rfl (fun w h => h.2.1)) ?_
 simp only [qd]
 refine zT 2 ⟨some 35, .load 80 (.global 8), 80, "point.go:42", #[], none⟩ (.agg (qb o1)) (jA (by rfl) _ rfl (8) 0 o1 rfl (fun w h => h.2.2)) ?_
 simp only [qd]
 refine zT 3 ⟨some 36, .load 80 (.tmp 7), 80, "point.go:42", #[], none⟩ (.agg (qb x)) (jA (by rfl) _ rfl (gx) 0 x rfl (fun w h => h.1)) ?_
 simp only [qd]
 refine zT 4 ⟨some 37, .load 80 (.tmp 5), 80, "point.go:42", #[], none⟩ (.agg (qb y)) (jA (by rfl) _ rfl (gy) 0 y rfl (fun w h => h.2.1)) ?_
 simp only [qd]
 refine zW [5] ?_
 refine zK ⟨some 38, .call ⟨.value (.func 93), #[.tmp 36, .tmp 37], #[80, 80]⟩, 80, "point.go:42", #[ql 3, ql 4], none⟩ (fun K hK => ?_) ?_
 ·
  refine zE (ys _ _ rfl (.agg (qb x)) (.agg (qb y)) rfl rfl V1) (jF x y Hx.o Hy.o V1) fun V2 HBx => ?_
  have KV2 := qq KV1 HBx
  clear HBx
  refine hK.o _ _ (⟨qS RX KV2, qS RY KV2, qS RG KV2⟩) fun hHeld => ?_
  try simp only [qd]
  refine zT 6 ⟨some 39, .build 82 #[(0, .tmp 33), (1, .tmp 34), (2, .tmp 35), (3, .tmp 38)], 82, "point.go:42", #[ql 0, ql 1, ql 2, ql 5], none⟩ (.agg (pA ⟨x, y, o1, mP x y⟩)) (Yq (by rfl) _ _ rfl _ _ (by kernel_rfl) (qpj x y o1 (mP x y))) ?_
  simp only [qd]
  refine zW [7] ?_
  refine zK ⟨none, .store 82 (.tmp 2) (.tmp 39), 0, "point.go:42", #[ql 6, qT 5, qj 0, qj 1, qj 2, qj 3, qj 4, qj 5, qj 6], none⟩ (fun K hK => ?_) ?_
  ·
   refine zQ 82 (.tmp 2) (.tmp 39) (w.heap.size + 1) (pA ⟨x, y, o1, mP x y⟩) (qa (qs RZ.o KV2.o (qh RZ.o))).o (jO _) (ZK _ _) (QJ _) ?_
   rw [qH]
   refine hK.o _ _ (⟨qF (qS RX KV2) (by omega), qF (qS RY KV2) (by omega), qF (qS RG KV2) (by omega)⟩) fun hHeld => ?_
   try simp only [qd]
   refine zU 8 ⟨some 3, .assign (.const (.bool true)), 4, "point.go:42", #[qT 7, qj 0, qj 1, qj 2, qj 3, qj 4, qj 5, qj 6, qj 7], none⟩ (.bool true) ?_
   simp only [qd]
   refine zi (by kernel_rfl) ?_ _
   go_wp2_with fail
   have RZ9 := qa (qs RZ.o KV2.o (qh RZ.o))
   have BL9 := qa (BL.o.trans (KV2.o.mono BL.o.size))
   refine zh (v := .tuple #[.agg (pA ⟨x, y, o1, mP x y⟩), .bool true]) (jJ Tryz.results118 _ _ (w.heap.size + 1) 82 (pA ⟨x, y, o1, mP x y⟩) (0, 0) _ (by rfl) (zd _ _ _ _ _ _ RZ9.o) Tryz.underlying82 rfl (jO _)) rfl ⟨?_, ze BL9.o (by omega) _⟩
   unfold Qh; rw [HB.o, if_pos rfl, ← Em.o, ← Ey.o, ← Eod.o, ← Ex.o, Eo1.o]; rfl
  exact zu
 exact zu
end
end Go.Proofs.YtccgfabojbjmjaaGreatDoor
