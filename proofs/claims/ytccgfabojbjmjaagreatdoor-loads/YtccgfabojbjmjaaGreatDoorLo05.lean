import Derived.Test.YtccgfabojbjmjaaGreatDoorLo01
import Derived.Test.YtccgfabojbjmjaaGreatDoorRows
import Derived.Test.YtccgfabojbjmjaaGreatDoorLo04
import Derived.WalkSpells
import Derived.WalkLawsBesides
import Derived.Handy
import Derived.Deep.MidRow
import Derived.Laws.CopyOwn
import Derived.Laws.BitsLemmas
set_option maxRecDepth 100000
set_option maxHeartbeats 8000000
namespace Go.Proofs.YtccgfabojbjmjaaGreatDoor
open Go.RowKit
open Go.RowKit
def Qe (n i : Nat) : UInt8 := UInt8.ofNat (n / 256 ^ i)
def qI (n k : Nat) : List UInt8 := (List.range k).map (Qe n)
theorem jM (n k : Nat) : (qI n k).length = k := by simp [qI]
def YB (n m k : Nat) : List UInt8 := (List.range m).map fun i => if i < k then Qe n i else 0
theorem qhm (n m k : Nat) : (YB n m k).length = m := by simp [YB]
theorem qk0 (n m k : Nat) : (YB n m k).set k (Qe n k) = YB n m (k + 1) := by
 apply List.ext_getElem?
 intro i
 rw [List.getElem?_set]
 simp only [YB, Zp, zv, List.length_range]
 by_cases h : k = i
 ·
  subst h
  by_cases hm : k < m
  · simp [hm]
  · simp [hm]
 ·
  rw [if_neg h]
  by_cases hm : i < m
  ·
   have e1 : (i < k + 1) = (i < k) := by apply propext; omega
   simp [hm, e1]
  · simp [hm]
theorem qm6 (n m : Nat) : YB n m m = qI n m := by
 unfold YB qI
 apply List.map_congr_left
 intro i hi
 rw [if_pos (List.mem_range.1 hi)]
theorem qkt (n m : Nat) : YB n m 0 = List.replicate m 0 := by
 unfold YB
 apply List.ext_getElem?
 intro i
 by_cases hm : i < m
 · simp [hm]
 · simp [hm]
def wd (n q : Nat) : Nat := n / 18446744073709551616 ^ q % 18446744073709551616
theorem qpS (n q r : Nat) (hr : r < 8) : wd n q / 2 ^ (8 * r) % 256 = n / 256 ^ (8 * q + r) % 256 := by
 unfold wd
 rw [Nat.pow_add, ← Nat.div_div_eq_div_mul, Nat.pow_mul, Nat.pow_mul]
 have e : (256 : Nat) ^ 8 = 18446744073709551616 := by decide
 have e2 : (2 : Nat) ^ 8 = 256 := by decide
 rw [e, e2]
 generalize n / 18446744073709551616 ^ q = x
 have : r = 0 ∨ r = 1 ∨ r = 2 ∨ r = 3 ∨ r = 4 ∨ r = 5 ∨ r = 6 ∨ r = 7 := by omega
 rcases this with rfl | rfl | rfl | rfl | rfl | rfl | rfl | rfl <;> simp only [Nat.reducePow] <;> omega
theorem qsi (n q r i : Nat) (hr : r < 8) (hi : i = 8 * q + r) : V (wd n q) / 2 ^ (8 * r) % 256 = C8 (Qe n i) := by
 have := qpS n q r hr
 unfold V C8 Qe
 rw [UInt8.toNat_ofNat', hi]
 have e : ((wd n q : Nat) : Int) / 2 ^ (8 * r) % 256 = ((wd n q / 2 ^ (8 * r) % 256 : Nat) : Int) := by rw [Int.natCast_emod, Int.natCast_ediv, Int.natCast_pow]; rfl
 rw [e, this]
theorem qfk (n : Nat) : QD n = .agg #[nv (wd n 0), nv (wd n 1), nv (wd n 2), nv (wd n 3)] := by
 unfold QD wd w4; simp only [Nat.reducePow, Nat.pow_zero, Nat.div_one]
theorem qo9 (n q : Nat) (hq : q < 4) : (#[nv (wd n 0), nv (wd n 1), nv (wd n 2), nv (wd n 3)] : Array Value)[q]? = some (nv (wd n q)) := by
 have : q = 0 ∨ q = 1 ∨ q = 2 ∨ q = 3 := by omega
 rcases this with rfl | rfl | rfl | rfl <;> rfl
theorem qcn {w : World} {b : Nat} {l : List UInt8} {T : TypeId} {fr : Nat × Nat} (h : w.heap[b]? = some (.cells (l.map cv).toArray T fr)) (i : Nat) (hi : i < l.length) :
  w.cell? ⟨b, i, none⟩ = some (cv (l.getD i 0)) := by
 rw [zj w b i _ T _ h]; simp [hi, List.getD]
def z32 : Array Value := ((List.replicate 32 (0 : UInt8)).map cv).toArray
theorem qpt (w : World) : (zeroValue 61).run Tryz.prog w = .ok (.agg z32) w := by kernel_rfl
theorem kL : Tryz.prog.underlying 61 = some (.array 32 5) := by kernel_rfl
theorem qf0 : (Tryz.prog.info? 61).map (·.size) = some 32 := by kernel_rfl
theorem qaB (l : List UInt8) : ∀ v ∈ l.map cv, v.oneCell' = true := by
 intro v hv; obtain ⟨x, _, rfl⟩ := List.mem_map.1 hv; rfl
theorem qkn {w : World} {g g' : Nat} {o : Obj} (i : Nat) (v : Value) (h : w.heap[g]? = some o) (hne : g ≠ g') : (w.setCell ⟨g', i, none⟩ v).heap[g]? = some o :=
 (Below.heap_setCell w _ v g hne).trans h
theorem JO (w : World) (A B C : Obj) : (((w.alloc A).alloc B).alloc C).heap[w.heap.size]? = some A := by
 rw [zb _ _ (by simp; omega), zb _ _ (by simp)]; exact za _ _
theorem Jm (w : World) (A B C : Obj) : (((w.alloc A).alloc B).alloc C).heap[w.heap.size + 1]? = some B := by
 rw [zb _ _ (by simp)]; exact Zd _ _ _
theorem Jb (w : World) (A B C : Obj) : (((w.alloc A).alloc B).alloc C).heap[w.heap.size + 2]? = some C := by
 have := Zd (w.alloc A) B C
 rw [World.size_alloc] at this; exact this
section
theorem qkP (n : Nat) (w : World) :
  zC 46 #[QD n] w (.agg ((qI n 32).map cv).toArray) := by
 have hz := qpt
 rw [qfk]
 go_enter Tryz.func46, Tryz.ntmps46
 go_wp2_with fail
 go_loopw [5] (fun i wr => ∃ k : Nat, k ≤ 32 ∧ i = .int .i64 k ∧ Hid (qi wr w.heap.size #[nv (wd n 0), nv (wd n 1), nv (wd n 2), nv (wd n 3)] 60) ∧ Hid (qi wr (w.heap.size + 1) z32 61) ∧
   Hid (qi wr (w.heap.size + 2) (((YB n 32 k).map cv).toArray) 61) ∧ Hid (zB w wr)) (fun i _ => 32 - (intOf i).toNat)
 case atStart => exact ⟨0, Zc _, rfl, JO _ _ _ _, Jm _ _ _ _, by rw [qkt]; exact Jb _ _ _ _, by show Below _ _ _; go_grown⟩
 case round =>
  obtain ⟨k, hk, rfl, H0, H1, H2, HB⟩ := hrel
  by_cases hlt : k < 32
  ·
   obtain ⟨q, hq⟩ := zy (k / 8)
   obtain ⟨r, hr⟩ := zy (k % 8)
   have e8 : (k : Int) / 8 = (q : Int) := by omega
   have er : (k : Int) % 8 = (r : Int) := by omega
   have bq : (q : Int) < 4 := by omega
   have br : (r : Int) < 8 := by omega
   have bk : (k : Int) < 32 := by omega
   have c0 := (zj wr w.heap.size q _ _ _ H0.o).trans (qo9 n q (by omega))
   have c2 := qcn H2.o k (by rw [qhm]; exact hlt)
   have f2 := frozen_of_row wr (w.heap.size + 2) k _ _ H2.o
   have HN : Hid (V (wd n q) / 2 ^ (r * 8) % 256 = C8 (Qe n k)) := by rw [Zl]; exact qsi n q r k (by omega) (by omega)
   generalize wd n q = x at c0 HN
   clear hq hr hz
   go_wp2_with fail
   refine ⟨⟨k + 1, by omega, by go_num, qkn _ _ H0.o (by omega), qkn _ _ H1.o (by omega), ?_, ?_⟩, by simp [intOf]; omega⟩
   ·
    rw [HN.o, ← qk0, List.map_set]
    exact Qg H2.o k _
   · exact HB.o.setCell (by show _ ≤ _; simp; omega) _
  ·
   have hk32 : k = 32 := by omega
   have bk : (32 : Int) ≤ (k : Int) := by omega
   obtain ⟨M, HM⟩ := zx ((qI n 32).map cv)
   have H2' : Hid (qi wr (w.heap.size + 2) M.toArray 61) := by
    have := H2.o; rw [hk32, qm6, ← HM.o] at this; exact this
   have hMl : M.length = 32 := by rw [HM.o, zv, jM]
   have HSz : Hid ((Tryz.prog.info? 61).map (·.size) = some M.toArray.size) := by show _ = _; rw [qf0]; simp [hMl]
   have HO : Hid (z32.size = M.toArray.size) := by show _ = _; simp [hMl]; rfl
   have HA : Hid (M.toArray.all (·.oneCell') = true) := by rw [HM.o]; exact all_oneCell_toArray (qaB _)
   clear H2 hk32 hlt hk hMl
   go_wp2_with (first | (refine zL 61 (.tmp 3) (w.heap.size + 2) M.toArray H2'.o kL HSz.o ?_) | (refine qB 61 (.tmp 2) (.tmp 20) (w.heap.size + 1) M.toArray H1.o HSz.o HO.o HA.o ?_))
   refine zh (v := .agg M.toArray) (results_cell_row Tryz.results46 _ _ (w.heap.size + 1) 61 M.toArray (0, 0) _ (by rfl) (zd _ _ _ _ _ _ H1.o) kL rfl HSz.o) rfl ⟨by rw [HM.o], ze HB.o (by omega) _⟩
end
open Go.RowKit
theorem qnO (n : Int) : bits .and .i64 n 65535 = n % 65536 := by
 have h : (BitVec.ofInt 64 65535).toNat = 2 ^ 16 - 1 := by decide
 have key : (BitVec.ofInt 64 n &&& BitVec.ofInt 64 65535).toNat = (n % ((2 ^ 64 : Nat) : Int)).toNat % 2 ^ 16 := by
  rw [BitVec.toNat_and, BitVec.toNat_ofInt, h, Nat.and_two_pow_sub_one_eq_mod]
 show IntKind.i64.wrap ((BitVec.ofInt 64 n &&& BitVec.ofInt 64 65535).toNat : Nat) = n % 65536
 rw [key, zq]
 omega
theorem y9 : Tryz.prog.underlying 91 = some (.array 17 3) := by kernel_rfl
theorem qnF : (Tryz.prog.info? 91).map (·.size) = some 17 := by kernel_rfl
def zS : Array Value := ((List.replicate 17 (0 : Int)).map iv).toArray
theorem qlX (w : World) : (zeroValue 91).run Tryz.prog w = .ok (.agg zS) w := by kernel_rfl
theorem qh {w : World} {g : Nat} {o : Obj} (h : w.heap[g]? = some o) : g < w.heap.size := by
 rcases Nat.lt_or_ge g w.heap.size with k | k
 · exact k
 · rw [Array.getElem?_eq_none k] at h; cases h
theorem QR {w : World} {g g' : Nat} {o : Obj} (i : Nat) (v : Value) (h : w.heap[g]? = some o) (hne : g ≠ g') : (w.setCell ⟨g', i, none⟩ v).heap[g]? = some o :=
 (Below.heap_setCell w _ v g hne).trans h
section
attribute [local go_sem] qnO
theorem qdl (d : List Int) (hl : d.length = 17) (hb : ∀ x ∈ d, -1099511627776 ≤ x ∧ x ≤ 1099511627776) (w : World) :
  zC 113 #[.agg (d.map iv).toArray] w (.agg ((dB 65536 17 (vB 65536 d)).map iv).toArray) := by
 have hz := qlX
 have HL := qa hl
 have HB := qa hb
 clear hl hb
 obtain ⟨M, HM⟩ := zx ((d.map iv).toArray)
 rw [← HM.o]
 go_enter Tryz.func113, Tryz.ntmps113
 go_wp2_with fail
 go_loopw [3, 4] (fun c i wr => ∃ (k : Nat) (z : Int), k ≤ 17 ∧ i = .int .i64 k ∧ c = .int .i64 z ∧ Hid (z = jT 65536 d k) ∧ Hid (qi wr w.heap.size (((jQ 65536 d k).map iv).toArray) 91) ∧ Hid (qi wr (w.heap.size + 1) zS 91) ∧ Hid (zB w wr)) (fun _ i _ => 17 - (intOf i).toNat)
 case atStart =>
  refine ⟨0, 0, Zc _, rfl, rfl, rfl, ?_, Zd _ _ _, by show Below _ _ _; go_grown⟩
  rw [qbW, ← HM.o]; exact (zb _ _ (by simp)).trans (za _ _)
 case round =>
  obtain ⟨k, z, hk, rfl, rfl, HZ, H0, H1, HBl⟩ := hrel
  by_cases hlt : k < 17
  ·
   have bk : (k : Int) < 17 := by omega
   have c0 := Qc H0.o k (by rw [Ya, HL.o]; exact hlt)
   rw [qbu _ _ _ (by rw [HL.o]; exact hlt)] at c0
   have f0 := frozen_of_row wr w.heap.size k _ _ H0.o
   obtain ⟨x, HX⟩ := zx (d.getD k 0)
   rw [← HX.o] at c0
   have hx := HB.o _ (jB (l := d) (i := k) (by rw [HL.o]; exact hlt))
   rw [← HX.o] at hx
   have hz1 := qas 65536 (by decide) d 1099511627776 HB.o (by decide) k (by rw [HL.o]; omega)
   rw [← HZ.o] at hz1
   obtain ⟨x0, x1⟩ := hx
   obtain ⟨z0, z1⟩ := hz1
   have hw1 : IntKind.i64.wrap (x + z) = x + z := by rw [zq]; omega
   clear hz
   go_wp2_with fail
   refine ⟨⟨k + 1, (x + z) / 65536, by omega, by go_num, rfl, ?_, ?_, QR _ _ H1.o (by omega), HBl.o.setCell (by show _ ≤ _; exact zm _) _⟩, by simp [intOf]; omega⟩
   · show _ = _; simp only [jT]; rw [← HX.o, ← HZ.o]
   ·
    show _ = _
    rw [← qce _ _ _ (by rw [HL.o]; exact hlt), List.map_set, ← HX.o, ← HZ.o]
    exact Qg H0.o k _
  ·
   have hk17 : k = 17 := by omega
   have bk : (17 : Int) ≤ (k : Int) := by omega
   obtain ⟨R, HR⟩ := zx ((dB 65536 17 (vB 65536 d)).map iv)
   have H0' : Hid (qi wr w.heap.size R.toArray 91) := by
    have e := H0.o
    rw [hk17, show jQ 65536 d 17 = jQ 65536 d d.length by rw [HL.o], qh8 _ (by decide), HL.o, ← HR.o] at e
    exact e
   have hRl : R.length = 17 := by rw [HR.o, zv, ZG]
   have HSz : Hid ((Tryz.prog.info? 91).map (·.size) = some R.toArray.size) := by show _ = _; rw [qnF]; simp [hRl]
   have HO : Hid (zS.size = R.toArray.size) := by show _ = _; simp [hRl]; rfl
   have HA : Hid (R.toArray.all (·.oneCell') = true) := by rw [HR.o]; exact all_oneCell_toArray (qbO _)
   clear H0 hk17 hlt hk hRl hz
   go_wp2_with (first | (refine zL 91 (.tmp 1) w.heap.size R.toArray H0'.o y9 HSz.o ?_) | (refine qB 91 (.tmp 2) (.tmp 21) (w.heap.size + 1) R.toArray H1.o HSz.o HO.o HA.o ?_))
   refine zh (v := .agg R.toArray) (results_cell_row Tryz.results113 _ _ (w.heap.size + 1) 91 R.toArray (0, 0) _ (by rfl) (zd _ _ _ _ _ _ H1.o) y9 rfl HSz.o) rfl ⟨by rw [HR.o], ze HBl.o (by omega) _⟩
end
theorem qs1 (B : Int) (a b : List Int) (h : a = b) : ¬ vB B a < vB B b := by rw [h]; omega
theorem qnK {a b : List Int} {i : Nat} (ha : i < a.length) (hb : i < b.length) (h : a.drop (i + 1) = b.drop (i + 1)) (he : a.getD i 0 = b.getD i 0) : a.drop i = b.drop i := by
 rw [List.drop_eq_getElem_cons ha, List.drop_eq_getElem_cons hb, h]
 simp [List.getD, zO ha, zO hb] at he
 rw [he]
section
theorem qlI (a b : List Int) (ha : a.length = 17) (hb : b.length = 17) (ra : ∀ x ∈ a, 0 ≤ x ∧ x < 65536) (rb : ∀ x ∈ b, 0 ≤ x ∧ x < 65536) (w : World) :
  zC 76 #[.agg (a.map iv).toArray, .agg (b.map iv).toArray] w (.bool (decide (vB 65536 a < vB 65536 b))) := by
 have HA := qa ha
 have HB := qa hb
 have HRA := qa ra
 have HRB := qa rb
 clear ha hb ra rb
 obtain ⟨M, HM⟩ := zx ((a.map iv).toArray)
 obtain ⟨N, HN⟩ := zx ((b.map iv).toArray)
 rw [← HM.o, ← HN.o]
 obtain ⟨r, HR⟩ := zx (decide (vB 65536 a < vB 65536 b))
 rw [← HR.o]
 go_enter Tryz.func76, Tryz.ntmps76
 go_wp2_with fail
 go_loopw [5] (fun i wr => ∃ (j : Nat) (z : Int), j ≤ 17 ∧ i = .int .i64 z ∧ Hid (z = (j : Int) - 1) ∧ Hid (a.drop j = b.drop j) ∧ Hid (qi wr w.heap.size M 91) ∧ Hid (qi wr (w.heap.size + 1) N 91) ∧ Hid (zB w wr)) (fun i _ => (intOf i + 1).toNat)
 case atStart =>
  refine ⟨17, 16, zm _, rfl, rfl, ?_, (zb _ _ (by simp)).trans (za _ _), Zd _ _ _, by show Below _ _ _; go_grown⟩
  rw [List.drop_eq_nil_of_le (by rw [HA.o]; exact zm _), List.drop_eq_nil_of_le (by rw [HB.o]; exact zm _)]; exact rfl
 case round =>
  obtain ⟨j, z, hj, rfl, HZ, HD, H0, H1, HBl⟩ := hrel
  by_cases hlt : 0 < j
  ·
   obtain ⟨i, rfl⟩ : ∃ i, j = i + 1 := ⟨j - 1, by omega⟩
   obtain rfl : z = (i : Int) := by have := HZ.o; omega
   have bi : (i : Int) < 17 := by omega
   have c0 := Qc (by rw [← HM.o]; exact H0.o) i (by rw [HA.o]; omega)
   have c1 := Qc (by rw [← HN.o]; exact H1.o) i (by rw [HB.o]; omega)
   obtain ⟨x, HX⟩ := zx (a.getD i 0)
   obtain ⟨y, HY⟩ := zx (b.getD i 0)
   rw [← HX.o] at c0
   rw [← HY.o] at c1
   by_cases hxy : x = y
   ·
    have HXY := qa hxy
    have hne : (x != y) = false := by rw [hxy]; simp
    clear hxy
    go_wp2_with fail
    go_region
    go_wp2_with fail
    refine ⟨⟨i, (i : Int) - 1, by omega, by go_num, rfl, ?_, H0, H1, HBl.o.drew⟩, by simp [intOf]⟩
    have := HXY.o; rw [HX.o, HY.o] at this
    exact qnK (by rw [HA.o]; omega) (by rw [HB.o]; omega) HD.o this
   ·
    have HXY := qa hxy
    have hne : (x != y) = true := by rw [bne_iff_ne]; exact hxy
    clear hxy
    go_wp2_with fail
    go_region
    go_wp2_with fail
    go_region
    go_wp2_with fail
    go_returns
    refine ⟨?_, HBl.o.drew.drew⟩
    have e := qhj 65536 (by decide) a b i HRA.o HRB.o (by rw [HA.o, HB.o]) (by rw [HA.o]; omega) HD.o (by rw [← HX.o, ← HY.o]; exact HXY.o)
    rw [← HX.o, ← HY.o] at e
    rw [HR.o]
    simp only [e]
    rfl
  ·
   obtain rfl : j = 0 := by omega
   have hz0 : z = -1 := by have := HZ.o; omega
   subst hz0
   go_wp2_with fail
   go_returns
   refine ⟨?_, HBl.o⟩
   have e := HD.o
   rw [List.drop_zero, List.drop_zero] at e
   rw [HR.o, zD (qs1 65536 a b e)]
   rfl
end
end Go.Proofs.YtccgfabojbjmjaaGreatDoor
