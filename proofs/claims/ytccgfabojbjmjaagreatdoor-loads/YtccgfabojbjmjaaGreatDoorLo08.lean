import Derived.Laws.IdiomStrings
import Derived.Deep.MidRow
import Derived.Test.YtccgfabojbjmjaaGreatDoorLo05
import Derived.Deep.RegionWith
import Derived.Deep.RegionHeld3
import Derived.Test.YtccgfabojbjmjaaGreatDoorLo07
import Derived.BigRegion
set_option maxRecDepth 100000
set_option maxHeartbeats 8000000
namespace Go.Proofs.YtccgfabojbjmjaaGreatDoor
open Go.RowKit
def bytesOf (s : ByteArray) : List UInt8 := s.data.toList
theorem jY (s : ByteArray) : (bytesOf s).length = s.size := rfl
def jk (l : List UInt8) : ByteArray := ⟨l.toArray⟩
theorem qad (l : List UInt8) : bytesOf (jk l) = l := by simp [bytesOf, jk]
theorem Yl (s : ByteArray) : jk (bytesOf s) = s := by cases s; simp [bytesOf, jk]
theorem JT {P : Program} (src dst e : TypeId) (hs : P.underlying src = some .string) (hd : P.underlying dst = some (.slice e)) (he : P.underlying e = some (.int .u8)) (s : ByteArray) (w : World) :
  ∃ cap W1, (convert src dst (.string s)).run P w = .ok (.slice (some ⟨w.heap.size, 0, none⟩) s.size cap) W1 ∧ W1.rangeAt w.heap.size 0 ((bytesOf s).map cv) ∧ zB w W1 ∧ W1.heap.size = w.heap.size + 1 := by
 refine ⟨_, _, run_bytes_of_string (P := P) w src dst e s hs hd he, ?_, (zJ _ _).drew.alloc (zm _) _, by simp⟩
 intro j v hv
 rw [Zb, zj _ w.heap.size j _ _ _ (za w.drew _)]
 have hj : j < s.data.size := by
  have := (List.getElem?_eq_some_iff.1 hv).1
  simpa [bytesOf] using this
 simp only [bytesRow]
 rw [Array.getElem?_append_left (by simpa using hj)]
 simp [bytesOf] at hv ⊢
 exact hv
def qC : List UInt8 → Nat
 | [] => 0
 | c :: l => c.toNat + 256 * qC l
open Go.RowKit
def qb (n : Nat) : Array Value := #[nv (wd n 0), nv (wd n 1), nv (wd n 2), nv (wd n 3)]
theorem yN (n : Nat) : QD n = .agg (qb n) := qfk n
theorem qsf : (Tryz.prog.info? 60).map (·.size) = some 4 := by kernel_rfl
abbrev zr4 : Array Value := #[.int .u64 0, .int .u64 0, .int .u64 0, .int .u64 0]
theorem Jh : Tryz.prog.underlying 102 = some (.array 64 5) := by kernel_rfl
theorem J7 : (Tryz.prog.info? 102).map (·.size) = some 64 := by kernel_rfl
theorem qjx (l : List UInt8) (j : Nat) (hj : j < l.length) : qC (l.drop j) = (l.getD j 0).toNat + 256 * qC (l.drop (j + 1)) := by
 rw [List.drop_eq_getElem_cons hj]
 simp [qC, List.getD, zO hj]
theorem qiK (l : List UInt8) (j : Nat) (hj : j < l.length) : (256 * (qC (l.drop (j + 1)) % jf) + (l.getD j 0).toNat) % jf = qC (l.drop j) % jf := by
 rw [qjx l j hj, Nat.add_comm, Nat.add_mod, Nat.mul_mod, Nat.mod_mod, ← Nat.mul_mod, ← Nat.add_mod]
theorem QT.below {B : Nat} {w w' : World} (h : QT w) (hb : Below B w w') (hB : 6 < B) : QT w' := by
 obtain ⟨t, fr, e⟩ := h.row
 exact ⟨t, fr, qs e hb hB⟩
theorem QT.lt {w : World} (h : QT w) : 6 < w.heap.size := by
 obtain ⟨t, fr, e⟩ := h.row; exact qm e
theorem YR {w : World} {b n : Nat} {T : TypeId} {fr : Nat × Nat} (h : w.heap[b]? = some (.cells (qb n) T fr)) (q : Nat) (hq : q < 4) : w.cell? ⟨b, q, none⟩ = some (nv (wd n q)) :=
 (zj w b q _ _ _ h).trans (qo9 n q hq)
theorem jP {P : Program} {w : World} {g : Nat} {old cs : Array Value} {t : TypeId} (h : w.heap[g]? = some (.cells old t (0, 0))) (ho : old.size = cs.size) (h1 : cs.all (·.oneCell') = true) :
  (storeCells ⟨g, 0, none⟩ cs.toList).run P w = .ok () (w.setRow g cs) := by
 have := run_storeCells_from (P := P) g t cs.toList 0 old w h (by simp; omega) (fun v hv => (Array.all_eq_true_iff_forall_mem.1 h1) v (by simpa using hv))
 simpa using this
theorem qnq : qb (qC [] % jf) = #[.int .u64 0, .int .u64 0, .int .u64 0, .int .u64 0] := by
 unfold qC qb wd; rfl
theorem qY (n : Nat) : (qb n).all (·.oneCell') = true := YZ _ _ _ _
theorem qgI (n : Nat) (c : UInt8) (hn : n < jf) (w : World) (hO : QT w) :
  zC 80 #[.agg #[nv (wd n 0), nv (wd n 1), nv (wd n 2), nv (wd n 3)], cv c] w (.agg (qb ((256 * n + c.toNat) % jf))) := by
 have := qfO n c.toNat hn c.toNat_lt w hO
 rw [qfk, yN] at this
 exact this
theorem qoO (n : Nat) (w : World) :
  zC 46 #[.agg #[nv (wd n 0), nv (wd n 1), nv (wd n 2), nv (wd n 3)]] w (.agg ((qI n 32).map cv).toArray) := by
 have := qkP n w
 rw [qfk] at this
 exact this
section
attribute [local irreducible] wd V
theorem qjE (l : List UInt8) (hl : l.length = 64) (w : World) (hO : QT w) :
  zC 47 #[.agg (l.map cv).toArray] w (.agg (qb (qC l % jf))) := by
 have h2s := hO.lt
 have HO := qa hO
 obtain ⟨M, HM⟩ := zx ((l.map cv).toArray)
 rw [← HM.o]
 clear hO
 go_enter Tryz.func47, Tryz.ntmps47
 go_wp2_with fail
 go_loopw [4] (fun i wr => ∃ (j : Nat) (z : Int), j ≤ 64 ∧ i = .int .i64 z ∧ Hid (z = (j : Int) - 1) ∧ Hid (qi wr w.heap.size M 102) ∧ Hid (qi wr (w.heap.size + 1) zr4 60) ∧
   Hid (qi wr (w.heap.size + 2) ((qb (qC (l.drop j) % jf))) 60) ∧ Hid (zB w wr)) (fun i _ => (intOf i + 1).toNat)
 case atStart =>
  refine ⟨64, 63, zm _, rfl, rfl, JO _ _ _ _, Jm _ _ _ _, ?_, by show Below _ _ _; go_grown⟩
  rw [List.drop_eq_nil_of_le (by omega)]; show _ = _; rw [Jb, qnq]
 case round =>
  obtain ⟨j, z, hj, rfl, HZ, H0, H1, H2, HB⟩ := hrel
  by_cases hlt : 0 < j
  ·
   obtain ⟨i, rfl⟩ : ∃ i, j = i + 1 := ⟨j - 1, by omega⟩
   obtain rfl : z = (i : Int) := by have := HZ.o; omega
   have bi : (i : Int) < 64 := by omega
   have hc : wr.cell? ⟨w.heap.size, i, none⟩ = some (cv (l.getD i 0)) := qcn (by rw [← HM.o]; exact H0.o) i (by omega)
   have k0 := YR H2.o 0 (by decide)
   have k1 := YR H2.o 1 (by decide)
   have k2 := YR H2.o 2 (by decide)
   have k3 := YR H2.o 3 (by decide)
   have hOr : QT wr := HO.o.below HB.o h2s
   obtain ⟨n, HNq⟩ := zx (qC (l.drop (i + 1)) % jf)
   have HNl : Hid (n < jf) := by rw [HNq.o]; exact Nat.mod_lt _ (by decide)
   rw [← HNq.o] at k0 k1 k2 k3 H2
   obtain ⟨c, HC⟩ := zx ((l.getD i 0))
   rw [← HC.o] at hc
   have HOr := qa hOr
   clear hOr
   go_wp2_with fail
   go_region_with (first | (go_at_call 80; refine (qgI n c HNl.o _ ?_).mono ?_; exact ⟨HOr.o.row⟩; rintro e W1 ⟨rfl, hB1⟩; have hst := jP (P := Tryz.prog) (cs := qb ((256 * n + c.toNat) % jf)) (qs (w := wr.drew) H2.o hB1 (qm H2.o)) rfl (qY _); have hs4 : (qb ((256 * n + c.toNat) % jf)).size = 4 := rfl; have HB1 := qa hB1; clear hB1))
   all_goals (
    clear hst hs4 k0 k1 k2 k3 hc
    go_wp2_with fail
    have hlt0 := qm H2.o
    have HB2 : zB w W1 := HB.o.drew.trans (HB1.o.mono (Nat.le_of_lt (Nat.lt_of_le_of_lt (Nat.le_add_right _ 2) hlt0)))
    refine ⟨⟨i, (i : Int) - 1, by omega, by go_num, rfl, ?_, ?_, ?_, ?_⟩, by simp [intOf]⟩
    · exact (zc _ _ _ _ (by omega)).trans (qs (w := wr.drew) H0.o HB1.o (qm H0.o))
    · exact (zc _ _ _ _ (by omega)).trans (qs (w := wr.drew) H1.o HB1.o (qm H1.o))
    ·
     have e := zd W1 (w.heap.size + 2) _ (qb ((256 * n + c.toNat) % jf)) _ _ (qs (w := wr.drew) H2.o HB1.o (qm H2.o))
     rw [HNq.o, HC.o, qiK l i (by omega)] at e
     rw [HNq.o, HC.o, qiK l i (by omega)]
     exact e
    · exact ze HB2 (by omega) _)
  ·
   obtain rfl : j = 0 := by omega
   have hz0 : z = -1 := by have := HZ.o; omega
   subst hz0
   rw [List.drop_zero] at H2
   obtain ⟨R, HR⟩ := zx (qb (qC l % jf))
   have H2' : Hid (qi wr (w.heap.size + 2) R 60) := by rw [HR.o]; exact H2.o
   have HSz : Hid ((Tryz.prog.info? 60).map (·.size) = some R.size) := by show _ = _; rw [HR.o]; exact qsf
   have HOo : Hid (zr4.size = R.size) := by show _ = _; rw [HR.o]; rfl
   have HA : Hid (R.all (·.oneCell') = true) := by rw [HR.o]; exact qY _
   clear hj hlt HZ H2
   go_wp2_with (first | (refine zL 60 (.tmp 3) (w.heap.size + 2) R H2'.o Jr HSz.o ?_) | (refine qB 60 (.tmp 2) (.tmp 14) (w.heap.size + 1) R H1.o HSz.o HOo.o HA.o ?_))
   refine zh (v := .agg R) (results_cell_row Tryz.results47 _ _ (w.heap.size + 1) 60 R (0, 0) _ (by rfl) (zd _ _ _ _ _ _ H1.o) Jr rfl HSz.o) rfl ⟨by rw [HR.o], ze HB.o (by omega) _⟩
end
theorem qgu (l : List UInt8) (hl : l.length = 64) (M : List Value) (hM : M = l.map cv) (w : World) (hO : QT w) :
  zC 47 #[.agg M.toArray] w (.agg (qb (qC l % jf))) := by
 rw [hM]; exact qjE l hl w hO
def kG (blk : List UInt8) (t : Nat) : BitVec 64 := be (fun i => blk.getD (8 * t + i) 0) 8
def JX (blk : List UInt8) : Nat → List (BitVec 64)
 | 0 => []
 | n + 1 => JX blk n ++ [kG blk n]
theorem qaC (blk : List UInt8) (n : Nat) : (JX blk n).length = n := by
 induction n with
 | zero => rfl
 | succ n ih => simp [JX, ih]
def YQ (l : List (BitVec 64)) (n : Nat) : BitVec 64 :=
 qal (l.getD (n + 14) 0) + l.getD (n + 9) 0 + qam (l.getD (n + 1) 0) + l.getD n 0
def je (blk : List UInt8) : Nat → List (BitVec 64)
 | 0 => JX blk 16
 | n + 1 => je blk n ++ [YQ (je blk n) n]
theorem kt (blk : List UInt8) (n : Nat) : (je blk n).length = 16 + n := by
 induction n with
 | zero => simp [je, qaC]
 | succ n ih => simp [je, ih]; omega
def Qm (l : List (BitVec 64)) : List Value := l.map uv ++ List.replicate (80 - l.length) (uv 0)
theorem qaH (l : List (BitVec 64)) (h : l.length ≤ 80) : (Qm l).length = 80 := by simp [Qm]; omega
theorem qm3 (l : List (BitVec 64)) (i : Nat) (h : i < l.length) : (Qm l)[i]? = some (uv (l.getD i 0)) := by
 unfold Qm; rw [z5 (by simpa using h)]; simp [h]
theorem qej (l : List (BitVec 64)) (i : Nat) (h : i < 80) (hl : l.length ≤ 80) : ∃ v, (Qm l)[i]? = some v :=
 ⟨_, zO (by rw [qaH l hl]; exact h)⟩
theorem qhH (l : List (BitVec 64)) (x : BitVec 64) (h : l.length < 80) : (Qm l).set l.length (uv x) = Qm (l ++ [x]) := by
 unfold Qm
 rw [List.set_append_right _ _ (by simp)]
 obtain ⟨m, hm⟩ : ∃ m, 80 - l.length = m + 1 := ⟨79 - l.length, by omega⟩
 have e2 : 80 - (l ++ [x]).length = m := by simp; omega
 rw [hm, e2]
 simp [List.replicate_succ]
theorem qfr (l : List (BitVec 64)) : ∀ v ∈ Qm l, v.oneCell' = true := by
 intro v hv
 rcases List.mem_append.1 hv with h | h
 · obtain ⟨x, _, rfl⟩ := List.mem_map.1 h; rfl
 · rw [(List.mem_replicate.1 h).2]; rfl
theorem qpl (w : World) : (zeroValue 257).run Tryz.prog w = .ok (.agg (Qm []).toArray) w := by kernel_rfl
theorem qeF : Tryz.prog.underlying 164 = some (.array 128 5) := by kernel_rfl
theorem kS : (Tryz.prog.info? 5).map (·.size) = some 1 := by kernel_rfl
theorem YD (b o : Nat) (z : Int) (l : Nat) (hz : z = l) (hl : l < 128) (w : World) :
  (Instr.sliceAt 164 (.pointer (some ⟨b, o, none⟩)) (some (.int .i64 z)) none none).run Tryz.prog w = .ok (.slice (some ⟨b, o + l, none⟩) (128 - l) (128 - l)) w := by
 subst hz
 have h1 : ((l : Int) ≤ 128) := by omega
 have h2 : ¬ 128 = l := by omega
 cases hq : Tryz.prog.info? 5 with
 | none => have := kS; rw [hq] at this; cases this
 | some i =>
  have hi : i.size = 1 := by have := kS; rw [hq] at this; simpa using this
  simp [Instr.sliceAt, Instr.sureAddr, run_underlying qeF, Instr.sliceBounds, run_sliceBound, sizeOf, typeInfo, hq, hi, h1, h2, Addr.add]
theorem qhu : Tryz.prog.underlying 257 = some (.array 80 59) := by kernel_rfl
theorem qpo : (Tryz.prog.info? 257).map (·.size) = some 80 := by kernel_rfl
open Go.RowKit
abbrev LI : Int := 7237005577332262213973186563042994240857116359379907606001950938285454250989
def ZP : List Int := dB 65536 17 LI
theorem qah : ZP.length = 17 := ZG _ _ _
theorem qaX {d : List Int} (h : d.length = 17) : (Tryz.prog.info? 91).map (·.size) = some (d.map iv).toArray.size := by rw [qnF]; simp [h]
theorem qlP {d : List Int} (h : d.length = 17) : zS.size = (d.map iv).toArray.size := by simp [h, zS]
theorem qh4 {d e : List Int} (h : d.length = 17) (k : e.length = 17) : (d.map iv).toArray.size = (e.map iv).toArray.size := by simp [h, k]
theorem qfp (d : List Int) : (d.map iv).toArray.all (·.oneCell') = true := all_oneCell_toArray (qbO _)
theorem qn3 : (ZP.map iv).toArray = #[iv 54253, iv 23797, iv 25370, iv 22546, iv 40150, iv 41719, iv 63966, iv 5342, iv 0, iv 0, iv 0, iv 0, iv 0, iv 0, iv 0, iv 4096, iv 0] := by kernel_rfl
section
theorem qgd (w : World) :
  zC 77 #[] w (.agg (ZP.map iv).toArray) := by
 go_enter Tryz.func77, Tryz.ntmps77
 go_wp2_with fail
 go_returns
 refine ⟨?_, by go_grown⟩
 rw [qn3]
end
end Go.Proofs.YtccgfabojbjmjaaGreatDoor
