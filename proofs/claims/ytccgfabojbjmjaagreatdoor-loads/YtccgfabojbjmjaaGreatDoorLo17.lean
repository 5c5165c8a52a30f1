import Derived.Test.YtccgfabojbjmjaaGreatDoorLo16
import Derived.ChangeKeysEq
import Derived.Laws.ResultCell
import Derived.Deep.RegionHeld3
import Derived.Test.YtccgfabojbjmjaaGreatDoorLo15
import Derived.Deep.CutRange
set_option maxRecDepth 100000
set_option maxHeartbeats 8000000
namespace Go.Proofs.YtccgfabojbjmjaaGreatDoor
open Go.RowKit
theorem qg1 : (Tryz.prog.info? 3).map (·.size) = some 1 := by kernel_rfl
theorem qog : Tryz.prog.underlying 3 = some (.int .i64) := by kernel_rfl
theorem qna : Tryz.prog.cellsOf 3 = 1 := by kernel_rfl
theorem qma (xs : Array Value) (i : Nat) (x : Int) (h : xs[i]? = some (.int .i64 x)) (w : World) : (part 3 xs i).run Tryz.prog w = .ok (.int .i64 x) w := by
 cases hq : Tryz.prog.info? 3 with
 | none => have := qg1; rw [hq] at this; cases this
 | some inf =>
  have hi : inf.size = 1 := by have := qg1; rw [hq] at this; simpa using this
  simp [part, sizeOf, typeInfo, hq, hi, h]
theorem qsY (a : List Int) (i : Nat) (h : i < a.length) : ((a.map iv).toArray)[i]? = some (.int .i64 (a.getD i 0)) := by simp [h, List.getD]
theorem qd9 (d : Nat) (a b : List Int) (w : World) : ∀ (is : List Nat), (∀ i ∈ is, i < a.length ∧ i < b.length) →
  (Op.eqItems (d + 1) 3 1 (a.map iv).toArray (b.map iv).toArray is).run Tryz.prog w = .ok (is.all fun i => a.getD i 0 == b.getD i 0) w
 | [], _ => by simp [Op.eqItems]
 | i :: is, h => by
  obtain ⟨h1, h2⟩ := h i List.mem_cons_self
  have ih := qd9 d a b w is (fun j hj => h j (List.mem_cons_of_mem _ hj))
  have p := qma _ i _ (qsY a i h1) w
  have q := qma _ i _ (qsY b i h2) w
  have e := run_equalIn_int (P := Tryz.prog) w d 3 .i64 .i64 (a.getD i 0) (b.getD i 0) qog
  simp only [Op.eqItems, Sem.run_bind, Nat.mul_one, p, q, Result.andThen_ok, e, List.all_cons]
  cases (a.getD i 0 == b.getD i 0)
  · simp
  · simpa using ih
theorem qi2 (a b : List Int) (hl : a.length = b.length) : ((List.range a.length).all fun i => a.getD i 0 == b.getD i 0) = decide (a = b) := by
 by_cases h : a = b
 · subst h; simp
 ·
  rw [zD h]
  rw [Bool.eq_false_iff]
  intro hh
  apply h
  apply List.ext_getElem hl
  intro i h1 h2
  have := (List.all_eq_true.1 hh) i (List.mem_range.2 h1)
  simpa [List.getD, h1, h2] using this
theorem eqF (a b : List Int) (ha : a.length = 10) (hb : b.length = 10) (w : World) :
  (Op.equalIn 10000 95 (.agg (a.map iv).toArray) (.agg (b.map iv).toArray)).run Tryz.prog w = .ok (decide (a = b)) w := by
 cases hq : Tryz.prog.info? 3 with
 | none => have := qg1; rw [hq] at this; cases this
 | some inf =>
  rw [show (10000 : Nat) = 9998 + 1 + 1 from rfl, run_equalIn_array w _ _ _ q7 hq, qna, qd9 9998 a b w _ (fun i hi => by rw [List.mem_range] at hi; omega)]
  have e := qi2 a b (by rw [ha, hb])
  rw [ha] at e
  rw [e]
theorem qr5 {a b : Nat} (ha : a < P) (hb : b < P) (h : fd a = fd b) : a = b := by
 have e := congrArg (vB 67108864) h
 rw [kW a ha, kW b hb] at e
 omega
theorem eqA (a b : Nat) (ha : a < P) (hb : b < P) (w : World) :
  (Op.equalIn 10000 95 (.agg (fA a)) (.agg (fA b))).run Tryz.prog w = .ok (decide (a = b)) w := by
 refine (eqF (fd a) (fd b) (Qo a) (Qo b) w).trans ?_
 congr 1
 by_cases h : a = b
 · subst h; simp
 · rw [zD h, zD (fun e => h (qr5 ha hb e))]
open Go.RowKit
def fc (x i : Nat) : Int := (fd x).getD i 0
theorem qkA (x : Nat) : fd x = [fc x 0, fc x 1, fc x 2, fc x 3, fc x 4, fc x 5, fc x 6, fc x 7, fc x 8, fc x 9] := by
 have h := Qo x
 unfold fc
 generalize fd x = l at *
 match l, h with
 | [a0, a1, a2, a3, a4, a5, a6, a7, a8, a9], _ => rfl
theorem qcw (x : Nat) : fA x = #[iv (fc x 0), iv (fc x 1), iv (fc x 2), iv (fc x 3), iv (fc x 4), iv (fc x 5), iv (fc x 6), iv (fc x 7), iv (fc x 8), iv (fc x 9)] := by
 unfold fA; rw [qkA]; rfl
theorem qmK (x : Nat) : Value.agg #[.int .i64 (fc x 0), .int .i64 (fc x 1), .int .i64 (fc x 2), .int .i64 (fc x 3), .int .i64 (fc x 4), .int .i64 (fc x 5), .int .i64 (fc x 6), .int .i64 (fc x 7), .int .i64 (fc x 8), .int .i64 (fc x 9)] = .agg (fA x) := by
 rw [qcw]
abbrev C10 (w : World) (b x : Nat) : Prop := w.cell? ⟨b, 0, none⟩ = some (.int .i64 (fc x 0)) ∧ w.cell? ⟨b, 1, none⟩ = some (.int .i64 (fc x 1)) ∧ w.cell? ⟨b, 2, none⟩ = some (.int .i64 (fc x 2)) ∧ w.cell? ⟨b, 3, none⟩ = some (.int .i64 (fc x 3)) ∧ w.cell? ⟨b, 4, none⟩ = some (.int .i64 (fc x 4)) ∧ w.cell? ⟨b, 5, none⟩ = some (.int .i64 (fc x 5)) ∧ w.cell? ⟨b, 6, none⟩ = some (.int .i64 (fc x 6)) ∧ w.cell? ⟨b, 7, none⟩ = some (.int .i64 (fc x 7)) ∧ w.cell? ⟨b, 8, none⟩ = some (.int .i64 (fc x 8)) ∧ w.cell? ⟨b, 9, none⟩ = some (.int .i64 (fc x 9))
theorem qds {w : World} {b x : Nat} {T : TypeId} {fr : Nat × Nat} (h : w.heap[b]? = some (.cells (fA x) T fr)) : C10 w b x := by
 rw [qcw] at h
 refine ⟨?_, ?_, ?_, ?_, ?_, ?_, ?_, ?_, ?_, ?_⟩ <;> exact (zj w b _ _ _ _ h).trans rfl
def fL (x : Nat) : List Value := (fd x).map iv
theorem ka (x : Nat) : (fL x).length = 10 := by unfold fL; rw [zv, Qo]
theorem Yt (x : Nat) : (Tryz.prog.info? 95).map (·.size) = some (fL x).length := by rw [ka]; exact qsb
theorem qiZ (x : Nat) : Value.agg (fL x).toArray = .agg (fA x) := rfl
theorem QU {w : World} {b x : Nat} {T : TypeId} {fr : Nat × Nat} (h : w.heap[b]? = some (.cells (fA x) T fr)) : w.rangeAt b 0 (fL x) := by
 intro j v hv
 rw [Zb, zj w b j _ T _ h]
 show ((fL x).toArray)[j]? = some v
 simpa using hv
theorem q8 {w w' : World} {b o B : Nat} {cs : List Value} (h : w.rangeAt b o cs) (hB : Below B w w') (hb : b < B) : w'.rangeAt b o cs :=
 fun j v hv => (hB.cell hb).trans (h j v hv)
theorem qp5 : Value.agg #[.int .i64 1, .int .i64 0, .int .i64 0, .int .i64 0, .int .i64 0, .int .i64 0, .int .i64 0, .int .i64 0, .int .i64 0, .int .i64 0] = .agg (fA 1) := by
 rw [qfh 1 (by decide)]; rfl
theorem qrR (w : World) : (zeroValue 95).run Tryz.prog w = .ok (.agg #[.int .i64 0, .int .i64 0, .int .i64 0, .int .i64 0, .int .i64 0, .int .i64 0, .int .i64 0, .int .i64 0, .int .i64 0, .int .i64 0]) w := qhp w
def Qf (a : Nat) : Nat → Nat
 | 0 => mP (sqN 1 (Jx a 251)) 1
 | k + 1 => mP (Qf a k) Yz
theorem qk4 (a k : Nat) : Qf a k < P := by cases k <;> exact qK _ _
def Zy (a : Nat) : Bool := decide (mP (Qf a 0) (Qf a 0) = a ∨ mP (Qf a 1) (Qf a 1) = a)
def Zz (a : Nat) : Nat := if mP (Qf a 0) (Qf a 0) = a then Qf a 0 else if mP (Qf a 1) (Qf a 1) = a then Qf a 1 else 0
theorem qgc (a : Nat) : Zz a < P := by
 unfold Zz; split
 · exact qk4 _ _
 ·
  split
  · exact qk4 _ _
  · exact (by decide : 0 < P)
theorem qtK : Yz < P := qK _ _
section
attribute [local irreducible] fA fc Yz
attribute [local go_sem] qp5 qmK
theorem qnH (a : Nat) (ha : a < P) (w : World) :
  zC 111 #[.agg (fA a)] w (.tuple #[.agg (fA (Zz a)), .bool (Zy a)]) := by
 have hz := JP
 have Ha := qa ha
 clear ha
 go_enter Tryz.func111, Tryz.ntmps111
 go_upto_region 1 with fail
 obtain ⟨W0, hW0⟩ := zy ((w.alloc (.cells (fA a) 95)).alloc (.cells (fA 0) 95))
 have R0 : Hid (qi W0 w.heap.size (fA a) 95) := by rw [hW0]; exact yY _ _ _
 have R1 : Hid (qi W0 (w.heap.size + 1) (fA 0) 95) := by rw [hW0]; exact y4 _ _ _
 have BL : Hid (zB w W0) := by rw [hW0]; show Below _ _ _; go_grown
 rw [← hW0]
 clear hW0
 go_wp2_with (first | (refine zL 95 (.tmp 1) (w.heap.size) (fA a) R0.o q7 (qO _) ?_))
 refine (qq1 a 251 Ha.o (by decide) _).mono ?_
 rintro e W1 ⟨rfl, hB1⟩
 have R0 := qa (qk R0.o hB1)
 have R1 := qa (qk R1.o hB1)
 have BL : Hid (zB w W1) := BL.o.trans (hB1.mono BL.o.size)
 clear hB1
 obtain ⟨x0, E0⟩ := zx (Jx a 251)
 have Hx0 : Hid (x0 < P) := by rw [E0.o]; exact qbo _ _
 rw [← E0.o]
 clear hz
 have hz := qrR
 go_wp2_with fail
 refine (qdT x0 1 1 Hx0.o (by decide) (by decide) _).mono ?_
 rintro e W2 ⟨rfl, hB1⟩
 have R0 := qa (qk R0.o hB1)
 have R1 := qa (qk R1.o hB1)
 have BL : Hid (zB w W2) := BL.o.trans (hB1.mono BL.o.size)
 clear hB1
 obtain ⟨x1, E1⟩ := zx (mP (sqN 1 x0) 1)
 rw [← E1.o]
 clear hz
 have hz := JP
 go_wp2_with (first | (refine qB 95 (.tmp 4) (.tmp 10) W2.heap.size (fA x1) (za _ _) (qO _) (jo _ _) (jn _) ?_))
 obtain ⟨q, hq⟩ := zy W2.heap.size
 obtain ⟨W3, hW3⟩ := zy ((W2.alloc (.cells (fA 0) 95)).setRow W2.heap.size (fA x1))
 have hq1 : w.heap.size + 1 < q := by rw [hq]; exact qh R1.o
 have B0 : Hid (qi W3 w.heap.size (fA a) 95) := by
  rw [hW3]; exact (zc _ _ _ _ (by omega)).trans ((zb _ _ (by omega)).trans R0.o)
 have B1 : Hid (qi W3 (w.heap.size + 1) (fA 0) 95) := by
  rw [hW3]; exact (zc _ _ _ _ (by omega)).trans ((zb _ _ (by omega)).trans R1.o)
 have B2 : Hid (qi W3 q ((fA (Qf a 0))) 95) := by
  rw [hW3, hq]
  show _ = some (Obj.cells (fA (mP (sqN 1 (Jx a 251)) 1)) _ _)
  rw [← E0.o, ← E1.o]
  exact zd _ _ _ _ _ _ (za _ _)
 have BB : Hid (zB w W3) := by
  rw [hW3]; exact ze (BL.o.alloc BL.o.size _) (by omega) _
 rw [← hW3, ← hq]
 clear hW3 hq R0 R1 BL E1 E0 Hx0
 go_loopw [5] (fun kV wr => ∃ (k : Nat), k ≤ 2 ∧ kV = .int .i64 k ∧ Hid (∀ j, j < k → ¬ mP (Qf a j) (Qf a j) = a) ∧ Hid (qi wr w.heap.size (fA a) 95) ∧ Hid (qi wr (w.heap.size + 1) (fA 0) 95) ∧ Hid (qi wr q ((fA (Qf a k))) 95) ∧ Hid (zB w wr)) (fun k _ => 2 - (intOf k).toNat)
 case atStart => exact ⟨0, by omega, rfl, qa (fun j h => by omega), B0, B1, B2, BB⟩
 case round =>
  clear B0 B1 B2 BB
  obtain ⟨k, hk, rfl, HN, H0, H1, H2, HB⟩ := hrel
  by_cases hlt : k < 2
  ·
   have bk : (k : Int) < 2 := by omega
   obtain ⟨x, HX⟩ := zx (Qf a k)
   have Hx : Hid (x < P) := by rw [HX.o]; exact qk4 a k
   rw [← HX.o] at H2
   go_wp2_with (first | (refine zL 95 (.tmp 4) q (fA x) H2.o q7 (qO _) ?_))
   refine (Qb x x Hx.o Hx.o _).mono ?_
   rintro e W1 ⟨rfl, hB1⟩
   have H0 := qa (qk H0.o hB1)
   have H1 := qa (qk H1.o hB1)
   have H2 := qa (qk H2.o hB1)
   have HB : Hid (zB w W1) := HB.o.trans (hB1.mono HB.o.size)
   clear hB1
   obtain ⟨y, EY⟩ := zx (mP x x)
   have Hy : Hid (y < P) := by rw [EY.o]; exact qK _ _
   rw [← EY.o]
   go_upto_region 6 with (first | (refine qB 95 (.tmp 6) (.tmp 17) W1.heap.size (fA y) (za _ _) (qO _) (jo _ _) (jn _) ?_))
   obtain ⟨r, hr⟩ := zy W1.heap.size
   obtain ⟨W2, hW2⟩ := zy ((W1.alloc (.cells (fA 0) 95)).setRow W1.heap.size (fA y))
   have hqr : q < r := by rw [hr]; exact qh H2.o
   have J0 : Hid (qi W2 w.heap.size (fA a) 95) := by
    rw [hW2]; exact (zc _ _ _ _ (by omega)).trans ((zb _ _ (by omega)).trans H0.o)
   have J1 : Hid (qi W2 (w.heap.size + 1) (fA 0) 95) := by
    rw [hW2]; exact (zc _ _ _ _ (by omega)).trans ((zb _ _ (by omega)).trans H1.o)
   have J2 : Hid (qi W2 q (fA x) 95) := by
    rw [hW2]; exact (zc _ _ _ _ (by omega)).trans ((zb _ _ (by omega)).trans H2.o)
   have J3 : Hid (qi W2 r (fA y) 95) := by
    rw [hW2, hr]; exact zd _ _ _ _ _ _ (za _ _)
   have JB : Hid (zB w W2) := by
    rw [hW2]; exact ze (HB.o.alloc HB.o.size _) (by omega) _
   rw [← hW2, ← hr]
   clear hW2 hr H0 H1 H2 HB hz
   have heq := eqA y a Hy.o Ha.o W2
   by_cases hy : y = a
   ·
    have hd : decide (y = a) = true := zN hy
    rw [hd] at heq
    have HY : Hid (mP (Qf a k) (Qf a k) = a) := by rw [← HX.o, ← EY.o]; exact hy
    clear hd hy
    go_wp2_with (first
     | (refine zL 95 (.tmp 6) r (fA y) J3.o q7 (qO _) ?_)
     | (refine zL 95 (.tmp 1) w.heap.size (fA a) J0.o q7 (qO _) ?_)
     | (refine zL 95 (.tmp 4) q (fA x) J2.o q7 (qO _) ?_)
     | (refine qB 95 (.tmp 2) (.tmp 21) (w.heap.size + 1) (fA x) J1.o (qO _) (jo _ _) (jn _) ?_))
    refine zh (v := .tuple #[.agg (fA x), .bool true]) (jJ Tryz.results111 _ _ (w.heap.size + 1) 95 (fA x) (0, 0) _ (by rfl) (zd _ _ _ _ _ _ J1.o) q7 rfl (qO _)) rfl ⟨?_, ze JB.o (by omega) _⟩
    rw [HX.o]
    unfold Zz Zy
    have hk2 : k = 0 ∨ k = 1 := by omega
    rcases hk2 with rfl | rfl
    · rw [if_pos HY.o, zN (Or.inl HY.o)]
    · rw [if_neg (HN.o 0 (by decide)), if_pos HY.o, zN (Or.inr HY.o)]
   ·
    have hd : decide (y = a) = false := zD hy
    rw [hd] at heq
    have HY : Hid (¬ mP (Qf a k) (Qf a k) = a) := by rw [← HX.o, ← EY.o]; exact hy
    clear hd hy
    go_wp2_with (first
     | (refine zL 95 (.tmp 6) r (fA y) J3.o q7 (qO _) ?_)
     | (refine zL 95 (.tmp 1) w.heap.size (fA a) J0.o q7 (qO _) ?_))
    clear heq
    obtain ⟨c0, c1, c2, c3, c4, c5, c6, c7, c8, c9⟩ := qds J2.o
    go_region_with (first
      | (go_at_call 148; (fail_if_success (have zz := K1)); refine (qrD _).mono ?_; rintro e V1 ⟨rfl, HBx⟩; have K1 : Hid (zB W2 V1) := qa (Zt HBx); obtain ⟨d0, d1, d2, d3, d4, d5, d6, d7, d8, d9⟩ := qds (qs J2.o K1.o (qh J2.o)); clear HBx)
      | (go_at_call 63; (have zz := K1; clear zz); refine (Qb x Yz Hx.o qtK _).mono ?_; rintro e V2 ⟨rfl, HBx⟩; have K2 : Hid (zB W2 V2) := qa (K1.o.trans (HBx.mono K1.o.size)); have hst := jP (P := Tryz.prog) (cs := fA (mP x Yz)) (qs J2.o K2.o (qh J2.o)) (jo _ _) (jn _); have hs10 := qin (mP x Yz); clear HBx)
      | fail)
    all_goals (
     clear hst hs10 c0 c1 c2 c3 c4 c5 c6 c7 c8 c9 d0 d1 d2 d3 d4 d5 d6 d7 d8 d9
     go_wp2_with fail
     have L0 := qa (qs J0.o K2.o (qh J0.o))
     have L1 := qa (qs J1.o K2.o (qh J1.o))
     have L2 := qa (qs J2.o K2.o (qh J2.o))
     have LB : Hid (zB w V2) := JB.o.trans (K2.o.mono JB.o.size)
     refine ⟨⟨k + 1, by omega, by go_num, ?_, (zc _ _ _ _ (by omega)).trans L0.o, (zc _ _ _ _ (by omega)).trans L1.o, ?_, ze LB.o (by omega) _⟩, by simp [intOf]; omega⟩
     ·
      intro j hj
      rcases Nat.lt_or_ge j k with h | h
      · exact HN.o j h
      ·
       obtain rfl : j = k := by omega
       exact HY.o
     ·
      show _ = some (Obj.cells (fA (mP (Qf a k) Yz)) _ _)
      rw [← HX.o]
      exact zd _ _ _ _ _ _ L2.o)
  ·
   obtain rfl : k = 2 := by omega
   have bk : (2 : Int) ≤ ((2 : Nat) : Int) := by omega
   go_wp2_with (first | (refine qB 95 (.tmp 2) (.tmp 25) (w.heap.size + 1) (fA 0) H1.o (qO _) (jo _ _) (jn _) ?_))
   refine zh (v := .tuple #[.agg (fA 0), .bool false]) (jJ Tryz.results111 _ _ (w.heap.size + 1) 95 (fA 0) (0, 0) _ (by rfl) (zd _ _ _ _ _ _ H1.o) q7 rfl (qO _)) rfl ⟨?_, ze HB.o (by omega) _⟩
   unfold Zz Zy
   have n0 := HN.o 0 (by decide)
   have n1 := HN.o 1 (by decide)
   rw [if_neg n0, if_neg n1, zD (fun h => h.elim n0 n1)]
end
open Go.RowKit
theorem qpM {a b : Nat} (ha : a < 57896044618658097711785492504343953926634992332820282019728792003956564819968) (hb : b < 57896044618658097711785492504343953926634992332820282019728792003956564819968) (h : fd a = fd b) : a = b := by
 have e := congrArg (vB 67108864) h
 unfold fd at e
 rw [Yd _ (by decide), Yd _ (by decide), show (67108864 : Int) ^ 10 = 1852673427797059126777135760139006525652319754650249024631321344126610074238976 from by decide] at e
 omega
theorem qv4 (a b : Nat) (ha : a < 57896044618658097711785492504343953926634992332820282019728792003956564819968) (hb : b < 57896044618658097711785492504343953926634992332820282019728792003956564819968) (w : World) :
  (Op.equalIn 10000 95 (.agg (fA a)) (.agg (fA b))).run Tryz.prog w = .ok (decide (a = b)) w := by
 refine (eqF (fd a) (fd b) (Qo a) (Qo b) w).trans ?_
 congr 1
 by_cases h : a = b
 · subst h; simp
 · rw [zD h, zD (fun e => h (qpM ha hb e))]
theorem qt1 (n : Nat) (h : n < 57896044618658097711785492504343953926634992332820282019728792003956564819968) : JK (fd n) = n % P := by
 unfold JK fd
 have e : (n : Int) % 1852673427797059126777135760139006525652319754650249024631321344126610074238976 = n := by omega
 rw [Yd _ (by decide), show (67108864 : Int) ^ 10 = 1852673427797059126777135760139006525652319754650249024631321344126610074238976 from by decide, e, Zw]
 omega
theorem qos (n : Nat) (h : n < 57896044618658097711785492504343953926634992332820282019728792003956564819968) (w : World) :
  zC 106 #[.agg (fA n)] w (.agg (fA (n % P))) := by
 have e := qaV (fd n) (Qo n) (fun x hx => by have := yZ n x hx; omega) w
 rw [qt1 n h] at e
 exact e
def Qz (s : ByteArray) : Nat := qC (bytesOf s) % 57896044618658097711785492504343953926634992332820282019728792003956564819968
theorem qtn (s : ByteArray) : Qz s < 57896044618658097711785492504343953926634992332820282019728792003956564819968 := Nat.mod_lt _ (by decide)
section
attribute [local irreducible] fA fc
attribute [local go_sem] qmK
theorem qoC (s : ByteArray) (hs : s.size = 32) (w : World) :
  zC 110 #[.string s] w (.tuple #[.agg (fA (Qz s % P)), .bool (decide (Qz s = Qz s % P))]) := by
 have hz := JP
 obtain ⟨N, HN⟩ := zx (qC (bytesOf s))
 have HS := qa hs
 clear hs
 go_enter Tryz.func110, Tryz.ntmps110
 go_wp2_with fail
 go_loopw [5] (fun iV wr => ∃ (i : Nat), i ≤ 255 ∧ iV = .int .i64 i ∧ Hid (qi wr w.heap.size (fA 0) 95) ∧ Hid (qi wr (w.heap.size + 1) ((fA (N % 2 ^ i))) 95) ∧ Hid (zB w wr)) (fun i _ => 255 - (intOf i).toNat)
 case atStart => exact ⟨0, Zc _, rfl, yY _ _ _, by rw [Nat.pow_zero, Nat.mod_one]; exact y4 _ _ _, by show Below _ _ _; go_grown⟩
 case round =>
  obtain ⟨i, hi, rfl, H0, H1, HB⟩ := hrel
  by_cases hlt : i < 255
  ·
   have bi : (i : Int) < 255 := by omega
   obtain ⟨q, hq⟩ := zy (i / 8)
   obtain ⟨r, hr⟩ := zy (i % 8)
   obtain ⟨j, hj⟩ := zy (i / 26)
   obtain ⟨t, ht⟩ := zy (i % 26)
   have e8 : (i : Int) / 8 = (q : Int) := by omega
   have er : (i : Int) % 8 = (r : Int) := by omega
   have e26 : (i : Int) / 26 = (j : Int) := by omega
   have et : (i : Int) % 26 = (t : Int) := by omega
   have hs32 : s.size = 32 := HS.o
   have bq : (q : Int) < (s.size : Int) := by omega
   have br : (r : Int) < 8 := by omega
   have bj : (j : Int) < 10 := by omega
   have bt : (t : Int) < 26 := by omega
   have hidx := Jw s q (by omega)
   obtain ⟨x, HX⟩ := zx (C8 ((bytesOf s).getD q 0))
   rw [← HX.o] at hidx
   have x0 : 0 ≤ x := by rw [HX.o]; exact J5 _
   have x1 : x < 256 := by rw [HX.o]; exact yt _
   have HBit : Hid (x / 2 ^ r % 2 = ((N / 2 ^ i % 2 : Nat) : Int)) := by
    show _ = _
    rw [HN.o, qkv, ← hq, ← hr, HX.o]
    unfold C8
    generalize ((bytesOf s).getD q 0).toNat = u
    rw [Int.natCast_emod, Int.natCast_ediv, Int.natCast_pow]; rfl
   clear hs32
   have hnn : 0 ≤ x / 2 ^ r := Int.ediv_nonneg x0 (Int.le_of_lt (Int.pow_pos (by decide)))
   have hcase : (((x / 2 ^ r).tmod 2 == 1) = true ∧ N / 2 ^ i % 2 = 1) ∨ (((x / 2 ^ r).tmod 2 == 1) = false ∧ ¬ N / 2 ^ i % 2 = 1) := by
    rw [Int.tmod_eq_emod_of_nonneg hnn, HBit.o]
    by_cases hp : N / 2 ^ i % 2 = 1
    · exact .inl ⟨by rw [hp]; rfl, hp⟩
    · exact .inr ⟨by rw [beq_eq_false_iff_ne]; omega, hp⟩
   clear hnn
   rcases hcase with ⟨hb, hp⟩ | ⟨hb, hp⟩
   ·
    have hE : N % 2 ^ (i + 1) = N % 2 ^ i + 2 ^ i := by rw [qeK, if_pos hp]
    obtain ⟨m, HM⟩ := zx (N % 2 ^ i)
    have hml : m < 2 ^ i := by rw [HM.o]; exact Nat.mod_lt _ (Nat.pow_pos (by decide))
    rw [← HM.o] at hE H1
    have hbit := qr1 m i hml hlt
    have hdg := yZ m _ (jB (l := fd m) (i := j) (by rw [Qo]; omega))
    have hp26 := qia i
    rw [← hj, ← ht] at hbit
    rw [← ht] at hp26
    have c1 := Qc (l := fd m) (T := 95) (fr := (0, 0)) (by have e := H1.o; unfold fA at e; exact e) j (by rw [Qo]; omega)
    have f1 := frozen_of_row wr (w.heap.size + 1) j _ _ H1.o
    obtain ⟨y, HY⟩ := zx ((fd m).getD j 0)
    rw [← HY.o] at c1 hbit hdg
    obtain ⟨y0, y1⟩ := hdg
    have ep : ((2 ^ t : Nat) : Int) = (2 : Int) ^ t := Int.natCast_pow 2 t
    have hsh : IntKind.i64.wrap (2 ^ t) = 2 ^ t := by
     rw [← ep, zq]; generalize 2 ^ t = p at *; omega
    have hsh1 : IntKind.i64.wrap (1 * 2 ^ t) = 2 ^ t := by rw [Int.one_mul]; exact hsh
    have hadd : IntKind.i64.wrap (y + 2 ^ t) = y + 2 ^ t := by
     rw [← ep, zq]; generalize 2 ^ t = p at *; omega
    have HR : Hid ((fd m).set j (y + 2 ^ t) = fd (N % 2 ^ (i + 1))) := by
     show _ = _
     rw [hE, ← hbit, ep]
    clear ep
    clear hE hp hq hr hj ht hbit hp26 hml
    go_wp2_with fail
    go_region
    go_wp2_with fail
    refine ⟨⟨i + 1, by omega, by go_num, qaZ _ _ H0.o (by omega), ?_, (HB.o.setCell (by show _ ≤ _; simp) _).drew⟩, by simp [intOf]; omega⟩
    show _ = some (Obj.cells (fA (N % 2 ^ (i + 1))) _ _)
    have e0 : wr.heap[w.heap.size + 1]? = some (.cells ((fd m).map iv).toArray 95) := by have e := H1.o; unfold fA at e; exact e
    have e := Qg e0 j (iv (y + 2 ^ t))
    rw [← List.map_set, HR.o] at e
    unfold fA
    exact e
   ·
    have hE : N % 2 ^ (i + 1) = N % 2 ^ i := by rw [qeK, if_neg hp, Nat.add_zero]
    have HE := qa hE
    clear hE hp hq hr hj ht
    go_wp2_with fail
    exact ⟨⟨i + 1, by omega, by go_num, H0, by rw [HE.o]; exact H1, HB⟩, by simp [intOf]; omega⟩
  ·
   obtain rfl : i = 255 := by omega
   have bi : (255 : Int) ≤ ((255 : Nat) : Int) := by omega
   obtain ⟨y, HY⟩ := zx (Qz s)
   have Hy : Hid (y < 57896044618658097711785492504343953926634992332820282019728792003956564819968) := by rw [HY.o]; exact qtn s
   have H1' : Hid (qi wr (w.heap.size + 1) (fA y) 95) := by
    rw [HY.o]; unfold Qz; rw [← HN.o]; exact H1.o
   clear H1
   go_wp2_with (first | (refine zL 95 (.tmp 4) (w.heap.size + 1) (fA y) H1'.o q7 (qO _) ?_))
   refine (qos y Hy.o _).mono ?_
   rintro e W1 ⟨rfl, hB1⟩
   have R0 := qa (qk H0.o hB1)
   have R1 := qa (qk H1'.o hB1)
   have BL : Hid (zB w W1) := HB.o.trans (hB1.mono HB.o.size)
   clear hB1 H0 H1' HB hlt hi
   obtain ⟨z, HZ⟩ := zx (y % P)
   have Hz : Hid (z < 57896044618658097711785492504343953926634992332820282019728792003956564819968) := by
    show z < _
    rw [HZ.o]; exact Nat.lt_of_le_of_lt (Nat.mod_le _ _) Hy.o
   rw [← HZ.o]
   go_wp2_with (first | (refine qB 95 (.tmp 6) (.tmp 32) W1.heap.size (fA z) (za _ _) (qO _) (jo _ _) (jn _) ?_))
   obtain ⟨q, hq⟩ := zy W1.heap.size
   obtain ⟨W2, hW2⟩ := zy ((W1.alloc (.cells (fA 0) 95)).setRow W1.heap.size (fA z))
   have hq1 : w.heap.size + 1 < q := by rw [hq]; exact qh R1.o
   have B0 : Hid (qi W2 w.heap.size (fA 0) 95) := by
    rw [hW2]; exact (zc _ _ _ _ (by omega)).trans ((zb _ _ (by omega)).trans R0.o)
   have B1 : Hid (qi W2 (w.heap.size + 1) (fA y) 95) := by
    rw [hW2]; exact (zc _ _ _ _ (by omega)).trans ((zb _ _ (by omega)).trans R1.o)
   have B2 : Hid (qi W2 q (fA z) 95) := by
    rw [hW2, hq]; exact zd _ _ _ _ _ _ (za _ _)
   have BB : Hid (zB w W2) := by
    rw [hW2]; exact ze (BL.o.alloc BL.o.size _) (by omega) _
   rw [← hW2, ← hq]
   clear hW2 hq R0 R1 BL hz
   have heq := qv4 y z Hy.o Hz.o
   have hst := jP (P := Tryz.prog) (w := W2.drew) (cs := fA z) B0.o (jo _ _) (jn _)
   have hs10 := qin z
   obtain ⟨c0, c1, c2, c3, c4, c5, c6, c7, c8, c9⟩ := qds B1.o
   obtain ⟨d0, d1, d2, d3, d4, d5, d6, d7, d8, d9⟩ := qds B2.o
   obtain ⟨a0, a1, a2, a3, a4, a5, a6, a7, a8, a9⟩ := qds (w := W2.drew.setRow w.heap.size (fA z)) ((zc _ _ _ _ (by omega)).trans B1.o)
   obtain ⟨b0, b1, b2, b3, b4, b5, b6, b7, b8, b9⟩ := qds (w := W2.drew.setRow w.heap.size (fA z)) ((zc _ _ _ _ (by omega)).trans B2.o)
   try rw [qH]
   go_region
   clear a0 a1 a2 a3 a4 a5 a6 a7 a8 a9 b0 b1 b2 b3 b4 b5 b6 b7 b8 b9
   clear heq hst hs10 c0 c1 c2 c3 c4 c5 c6 c7 c8 c9 d0 d1 d2 d3 d4 d5 d6 d7 d8 d9
   go_wp2_with fail
   refine zh (v := .tuple #[.agg (fA z), .bool (decide (y = z))]) (jJ Tryz.results110 _ _ (w.heap.size) 95 (fA z) (0, 0) _ (by rfl) (zd W2.drew _ _ _ _ _ B0.o) q7 rfl (qO _)) rfl ⟨by rw [HZ.o, HY.o], ze BB.o.drew (zm _) _⟩
end
open Go.RowKit
theorem qhM : qI 0 32 = List.replicate 32 0 := by decide +kernel
theorem qth : z32 = ((qI 0 32).map cv).toArray := by rw [qhM]; rfl
theorem qtQ (w : World) : (Instr.makeSlice 89 (.int .i64 32) (.int .i64 32)).run Tryz.prog w = .ok (.slice (some ⟨w.heap.size, 0, none⟩) 32 32) (w.alloc (.cells z32 5)) := by kernel_rfl
def Qp (y : Nat) (odd : Bool) : Nat := if odd then y + 57896044618658097711785492504343953926634992332820282019728792003956564819968 else y
section
attribute [local irreducible] fA
theorem qsK (a : Nat) (odd : Bool) (ha : a < P) (w : World) :
  zC 69 #[.agg (fA a), .bool odd] w (.string (jk (qI (Qp a odd) 32))) := by
 have hmk := qtQ
 have Ha := qa ha
 clear ha
 go_enter Tryz.func69, Tryz.ntmps69
 go_wp2_with fail
 go_loopw [6] (fun iV wr => ∃ (i : Nat), i ≤ 255 ∧ iV = .int .i64 i ∧ Hid (qi wr w.heap.size (fA a) 95) ∧ Hid (qi wr (w.heap.size + 1) (((qI (a % 2 ^ i) 32).map cv).toArray) 5) ∧ Hid (zB w wr)) (fun i _ => 255 - (intOf i).toNat)
 case atStart => exact ⟨0, Zc _, rfl, yY _ _ _, by rw [Nat.pow_zero, Nat.mod_one, ← qth]; exact y4 _ _ _, by show Below _ _ _; go_grown⟩
 case round =>
  clear hmk
  obtain ⟨i, hi, rfl, H0, H1, HB⟩ := hrel
  by_cases hlt : i < 255
  ·
   have bi : (i : Int) < 255 := by omega
   obtain ⟨q, hq⟩ := zy (i / 8)
   obtain ⟨r, hr⟩ := zy (i % 8)
   obtain ⟨j, hj⟩ := zy (i / 26)
   obtain ⟨t, ht⟩ := zy (i % 26)
   have e8 : (i : Int) / 8 = (q : Int) := by omega
   have er : (i : Int) % 8 = (r : Int) := by omega
   have e26 : (i : Int) / 26 = (j : Int) := by omega
   have et : (i : Int) % 26 = (t : Int) := by omega
   have bq : (q : Int) < 32 := by omega
   have br : (r : Int) < 8 := by omega
   have bj : (j : Int) < 10 := by omega
   have bt : (t : Int) < 26 := by omega
   have c1 := Qc (l := fd a) (T := 95) (fr := (0, 0)) (by have e := H0.o; unfold fA at e; exact e) j (by rw [Qo]; omega)
   have hdg := yZ a _ (jB (l := fd a) (i := j) (by rw [Qo]; omega))
   obtain ⟨x, HX⟩ := zx ((fd a).getD j 0)
   rw [← HX.o] at c1 hdg
   obtain ⟨x0, x1⟩ := hdg
   have HBit : Hid (x / 2 ^ t % 2 = ((a / 2 ^ i % 2 : Nat) : Int)) := by
    show _ = _
    have e := qnr a i hlt
    rw [← hj, ← ht, ← HX.o, Int.natCast_pow] at e
    exact e
   have hnn : 0 ≤ x / 2 ^ t := Int.ediv_nonneg x0 (Int.le_of_lt (Int.pow_pos (by decide)))
   have hcase : (((x / 2 ^ t).tmod 2 == 1) = true ∧ a / 2 ^ i % 2 = 1) ∨ (((x / 2 ^ t).tmod 2 == 1) = false ∧ ¬ a / 2 ^ i % 2 = 1) := by
    rw [Int.tmod_eq_emod_of_nonneg hnn, HBit.o]
    by_cases hp : a / 2 ^ i % 2 = 1
    · exact .inl ⟨by rw [hp]; rfl, hp⟩
    · exact .inr ⟨by rw [beq_eq_false_iff_ne]; omega, hp⟩
   clear hnn
   rcases hcase with ⟨hb, hp⟩ | ⟨hb, hp⟩
   ·
    have hE : a % 2 ^ (i + 1) = a % 2 ^ i + 2 ^ i := by rw [qeK, if_pos hp]
    obtain ⟨m, HM⟩ := zx (a % 2 ^ i)
    have hml : m < 2 ^ i := by rw [HM.o]; exact Nat.mod_lt _ (Nat.pow_pos (by decide))
    rw [← HM.o] at hE H1
    have hlow := qls m i hml
    have hp8 := qlm i
    have hby := Ja m (i / 8)
    rw [← hq, ← hr] at hlow
    rw [← hr] at hp8
    rw [← hq] at hby
    have c2 := qcn H1.o q (by rw [jM]; omega)
    rw [qbX m 32 q (by omega)] at c2
    have f2 := frozen_of_row wr (w.heap.size + 1) q _ _ H1.o
    obtain ⟨c, HC⟩ := zx (Qe m q)
    rw [← HC.o] at c2 hby
    obtain ⟨y, HY⟩ := zx (C8 c)
    have hyv : y = (c.toNat : Int) := HY.o
    have hcl : c.toNat < 2 ^ r := by rw [hby]; exact Nat.lt_of_le_of_lt (Nat.mod_le _ _) hlow
    rw [show cv c = .int .u8 (C8 c) from rfl, ← HY.o] at c2
    have ep : ((2 ^ r : Nat) : Int) = (2 : Int) ^ r := Int.natCast_pow 2 r
    have hsh : IntKind.u8.wrap (2 ^ r) = 2 ^ r := by
     rw [← ep, IntKind.wrap_u8]; generalize 2 ^ r = p at *; omega
    have hsh1 : IntKind.u8.wrap (1 * 2 ^ r) = 2 ^ r := by rw [Int.one_mul]; exact hsh
    have hadd : IntKind.u8.wrap (y + 2 ^ r) = y + 2 ^ r := by
     rw [← ep, IntKind.wrap_u8, hyv]; generalize 2 ^ r = p at *; omega
    have HR : Hid (((qI m 32).map cv).set q (.int .u8 (y + 2 ^ r)) = (qI (a % 2 ^ (i + 1)) 32).map cv) := by
     show _ = _
     have hcn : (UInt8.ofNat (c.toNat + 2 ^ r)).toNat = c.toNat + 2 ^ r := by
      rw [UInt8.toNat_ofNat']; generalize 2 ^ r = p at *; omega
     have e := qgs m i hml (by omega) (UInt8.ofNat (c.toNat + 2 ^ r)) (by rw [hcn, HC.o, hq, hr])
     rw [hE, ← e, List.map_set, ← hq]
     congr 1
     show Value.int .u8 (y + 2 ^ r) = Value.int .u8 (C8 _)
     unfold C8
     rw [hcn, hyv, ← ep]; rfl
    clear hE hp hq hr hj ht hlow hp8 hml ep hyv hcl hby
    go_wp2_with fail
    go_region
    go_wp2_with fail
    refine ⟨⟨i + 1, by omega, by go_num, qaZ _ _ H0.o (by omega), ?_, (HB.o.setCell (by show _ ≤ _; simp) _).drew⟩, by simp [intOf]; omega⟩
    rw [← HR.o]
    exact Qg H1.o q _
   ·
    have hE : a % 2 ^ (i + 1) = a % 2 ^ i := by rw [qeK, if_neg hp, Nat.add_zero]
    have HE := qa hE
    clear hE hp hq hr hj ht
    go_wp2_with fail
    exact ⟨⟨i + 1, by omega, by go_num, H0, by rw [HE.o]; exact H1, HB⟩, by simp [intOf]; omega⟩
  ·
   obtain rfl : i = 255 := by omega
   have bi : (255 : Int) ≤ ((255 : Nat) : Int) := by omega
   have ham : a % 2 ^ 255 = a := z6 (zl Ha.o (by decide))
   rw [ham] at H1
   clear hlt hi ham
   cases odd
   ·
    have hcv : (convert 89 9 (.slice (some ⟨w.heap.size + 1, 0, none⟩) 32 32)).run Tryz.prog wr = .ok (.string (jk (qI a 32))) wr := qpf _ _ (qI a 32) (jM _ _) _ H1.o
    obtain ⟨T, HT⟩ := zx (jk (qI a 32))
    rw [← HT.o] at hcv
    go_wp2_with fail
    go_ret
    exact ⟨by rw [HT.o]; rfl, HB.o⟩
   ·
    have c2 := qcn H1.o 31 (by rw [jM]; decide)
    rw [qbX a 32 31 (by decide)] at c2
    have f2 := frozen_of_row wr (w.heap.size + 1) 31 _ _ H1.o
    obtain ⟨c, HC⟩ := zx (Qe a 31)
    have hcl : c.toNat < 128 := by
     have h := Ha.o
     rw [Zw] at h
     rw [HC.o, Ja, show (256 : Nat) ^ 31 = 452312848583266388373324160190187140051835877600158453279131187530910662656 from by decide]
     omega
    rw [← HC.o] at c2
    obtain ⟨y, HY⟩ := zx (C8 c)
    have hyv : y = (c.toNat : Int) := HY.o
    rw [show cv c = .int .u8 (C8 c) from rfl, ← HY.o] at c2
    have hadd : IntKind.u8.wrap (y + 128) = y + 128 := by rw [IntKind.wrap_u8, hyv]; omega
    obtain ⟨W2, hW2⟩ := zy (wr.setCell ⟨w.heap.size + 1, 31, none⟩ (.int .u8 (y + 128)))
    have HR : Hid (qi W2 (w.heap.size + 1) (((qI (Qp a true) 32).map cv).toArray) 5) := by
     have hcn : (UInt8.ofNat (c.toNat + 128)).toNat = c.toNat + 128 := by rw [UInt8.toNat_ofNat']; omega
     have e := qgs a 255 (zl Ha.o (by decide)) (by decide) (UInt8.ofNat (c.toNat + 128)) (by rw [hcn, HC.o])
     have e2 : Qp a true = a + 2 ^ 255 := rfl
     show _ = _
     rw [e2, ← e, List.map_set, hW2]
     have e3 : cv (UInt8.ofNat (c.toNat + 128)) = .int .u8 (y + 128) := by
      show Value.int .u8 (C8 _) = _
      unfold C8
      rw [hcn, hyv]; rfl
     rw [e3]
     exact Qg H1.o 31 _
    have HB2 : Hid (zB w W2) := by rw [hW2]; exact HB.o.setCell (by show _ ≤ _; simp) _
    have hcv : (convert 89 9 (.slice (some ⟨w.heap.size + 1, 0, none⟩) 32 32)).run Tryz.prog W2 = .ok (.string (jk (qI (Qp a true) 32))) W2 := qpf _ _ (qI (Qp a true) 32) (jM _ _) _ HR.o
    obtain ⟨T, HT⟩ := zx (jk (qI (Qp a true) 32))
    rw [← HT.o, hW2] at hcv
    clear hcl hyv HR
    go_wp2_with fail
    go_ret
    exact ⟨by rw [HT.o]; rfl, by rw [← hW2]; exact HB2.o⟩
end
end Go.Proofs.YtccgfabojbjmjaaGreatDoor
