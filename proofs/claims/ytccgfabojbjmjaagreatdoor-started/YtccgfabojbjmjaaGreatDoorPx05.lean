import Derived.Test.YtccgfabojbjmjaaGreatDoorPx04
import Derived.Deep.RegionWith
import Derived.Deep.RegionHeld3
namespace Go.Proofs.YtccgfabojbjmjaaGreatDoor
open Go.RowKit
def num4A (n : Nat) : Array Value := #[nv (wd n 0), nv (wd n 1), nv (wd n 2), nv (wd n 3)]
theorem num4_A (n : Nat) : num4 n = .agg (num4A n) := num4_wd n
theorem size4r : (Tryz.prog.info? 60).map (·.size) = some 4 := by kernel_rfl
abbrev zr4 : Array Value := #[.int .u64 0, .int .u64 0, .int .u64 0, .int .u64 0]
def z64 : Array Value := ((List.replicate 64 (0 : UInt8)).map cv).toArray
theorem under64 : Tryz.prog.underlying 102 = some (.array 64 5) := by kernel_rfl
theorem size64 : (Tryz.prog.info? 102).map (·.size) = some 64 := by kernel_rfl
theorem valLE_drop (l : List UInt8) (j : Nat) (hj : j < l.length) : valLE (l.drop j) = (l.getD j 0).toNat + 256 * valLE (l.drop (j + 1)) := by
 rw [List.drop_eq_getElem_cons hj]
 simp [valLE, List.getD, List.getElem?_eq_getElem hj]
theorem red_step (l : List UInt8) (j : Nat) (hj : j < l.length) : (256 * (valLE (l.drop (j + 1)) % Lord) + (l.getD j 0).toNat) % Lord = valLE (l.drop j) % Lord := by
 rw [valLE_drop l j hj, Nat.add_comm, Nat.add_mod, Nat.mul_mod, Nat.mod_mod, ← Nat.mul_mod, ← Nat.add_mod]
theorem OrdAt.below {B : Nat} {w w' : World} (h : OrdAt w) (hb : Below B w w') (hB : 6 < B) : OrdAt w' := by
 obtain ⟨t, fr, e⟩ := h.row
 exact ⟨t, fr, row_below e hb hB⟩
theorem OrdAt.lt {w : World} (h : OrdAt w) : 6 < w.heap.size := by
 obtain ⟨t, fr, e⟩ := h.row; exact lt_of_row e
theorem num4A_cell {w : World} {b n : Nat} {T : TypeId} {fr : Nat × Nat} (h : w.heap[b]? = some (.cells (num4A n) T fr)) (q : Nat) (hq : q < 4) : w.cell? ⟨b, q, none⟩ = some (nv (wd n q)) :=
 (cell_of_row w b q _ _ _ h).trans (wd_get n q hq)
theorem storeRow_run {P : Program} {w : World} {g : Nat} {old cs : Array Value} {t : TypeId} (h : w.heap[g]? = some (.cells old t (0, 0))) (ho : old.size = cs.size) (h1 : cs.all (·.oneCell') = true) :
  (storeCells ⟨g, 0, none⟩ cs.toList).run P w = .ok () (w.setRow g cs) := by
 have := run_storeCells_from (P := P) g t cs.toList 0 old w h (by simp; omega) (fun v hv => (Array.all_eq_true_iff_forall_mem.1 h1) v (by simpa using hv))
 simpa using this
theorem zero_row : num4A (valLE [] % Lord) = #[.int .u64 0, .int .u64 0, .int .u64 0, .int .u64 0] := by
 unfold valLE num4A wd; rfl
theorem num4A_all (n : Nat) : (num4A n).all (·.oneCell') = true := w4_cell _ _ _ _
theorem withByte_wd (n : Nat) (c : UInt8) (hn : n < Lord) (w : World) (hO : OrdAt w) :
  Calls Tryz.prog 80 #[.agg #[nv (wd n 0), nv (wd n 1), nv (wd n 2), nv (wd n 3)], cv c] w fun e w' => e = .returned (.agg (num4A ((256 * n + c.toNat) % Lord))) ∧ Below w.heap.size w w' := by
 have := withByte_any n c.toNat hn c.toNat_lt w hO
 rw [num4_wd, num4_A] at this
 exact this
theorem bytes_wd (n : Nat) (w : World) :
  Calls Tryz.prog 46 #[.agg #[nv (wd n 0), nv (wd n 1), nv (wd n 2), nv (wd n 3)]] w fun e w' => e = .returned (.agg ((leB n 32).map cv).toArray) ∧ Below w.heap.size w w' := by
 have := bytes_any n w
 rw [num4_wd] at this
 exact this
section
attribute [local irreducible] wd V
set_option maxRecDepth 100000 in
set_option maxHeartbeats 400000 in
theorem reduce_any (l : List UInt8) (hl : l.length = 64) (w : World) (hO : OrdAt w) :
  Calls Tryz.prog 47 #[.agg (l.map cv).toArray] w fun e w' => e = .returned (.agg (num4A (valLE l % Lord))) ∧ Below w.heap.size w w' := by
 have h2s := hO.lt
 have HO := hide hO
 obtain ⟨M, HM⟩ : ∃ M, Hid (M = (l.map cv).toArray) := ⟨_, rfl⟩
 rw [← HM.out]
 clear hO
 go_enter Tryz.func47, Tryz.ntmps47
 go_wp2_with fail
 go_loopw [4] (fun i wr => ∃ (j : Nat) (z : Int), j ≤ 64 ∧ i = .int .i64 z ∧ Hid (z = (j : Int) - 1) ∧ Hid (wr.heap[w.heap.size]? = some (.cells M 102 (0, 0))) ∧ Hid (wr.heap[w.heap.size + 1]? = some (.cells zr4 60 (0, 0))) ∧
   Hid (wr.heap[w.heap.size + 2]? = some (.cells (num4A (valLE (l.drop j) % Lord)) 60 (0, 0))) ∧ Hid (Below w.heap.size w wr)) (fun i _ => (intOf i + 1).toNat)
 case atStart =>
  refine ⟨64, 63, Nat.le_refl _, rfl, rfl, heap3_0 _ _ _ _, heap3_1 _ _ _ _, ?_, by show Below _ _ _; go_grown⟩
  rw [List.drop_eq_nil_of_le (by omega)]; show _ = _; rw [heap3_2, zero_row]
 case round =>
  obtain ⟨j, z, hj, rfl, HZ, H0, H1, H2, HB⟩ := hrel
  by_cases hlt : 0 < j
  ·
   obtain ⟨i, rfl⟩ : ∃ i, j = i + 1 := ⟨j - 1, by omega⟩
   obtain rfl : z = (i : Int) := by have := HZ.out; omega
   have bi : (i : Int) < 64 := by omega
   have hc : wr.cell? ⟨w.heap.size, i, none⟩ = some (cv (l.getD i 0)) := cvs_get (by rw [← HM.out]; exact H0.out) i (by omega)
   have k0 := num4A_cell H2.out 0 (by decide)
   have k1 := num4A_cell H2.out 1 (by decide)
   have k2 := num4A_cell H2.out 2 (by decide)
   have k3 := num4A_cell H2.out 3 (by decide)
   have hOr : OrdAt wr := HO.out.below HB.out h2s
   obtain ⟨n, HNq⟩ : ∃ n, Hid (n = valLE (l.drop (i + 1)) % Lord) := ⟨_, rfl⟩
   have HNl : Hid (n < Lord) := by rw [HNq.out]; exact Nat.mod_lt _ (by decide)
   rw [← HNq.out] at k0 k1 k2 k3 H2
   obtain ⟨c, HC⟩ : ∃ c, Hid (c = (l.getD i 0)) := ⟨_, rfl⟩
   rw [← HC.out] at hc
   have HOr := hide hOr
   clear hOr
   go_wp2_with fail
   go_region_with (first | (go_at_call 80; refine (withByte_wd n c HNl.out _ ?_).mono ?_; exact ⟨HOr.out.row⟩; rintro e W1 ⟨rfl, hB1⟩; have hst := storeRow_run (P := Tryz.prog) (cs := num4A ((256 * n + c.toNat) % Lord)) (row_below (w := wr.drew) H2.out hB1 (lt_of_row H2.out)) rfl (num4A_all _); have hs4 : (num4A ((256 * n + c.toNat) % Lord)).size = 4 := rfl; have HB1 := hide hB1; clear hB1))
   all_goals (
    clear hst hs4 k0 k1 k2 k3 hc
    go_wp2_with fail
    have hlt0 := lt_of_row H2.out
    have HB2 : Below w.heap.size w W1 := HB.out.drew.trans (HB1.out.mono (Nat.le_of_lt (Nat.lt_of_le_of_lt (Nat.le_add_right _ 2) hlt0)))
    refine ⟨⟨i, (i : Int) - 1, by omega, by go_num, rfl, ?_, ?_, ?_, ?_⟩, by simp [intOf]⟩
    · exact (setRow_other _ _ _ _ (by omega)).trans (row_below (w := wr.drew) H0.out HB1.out (lt_of_row H0.out))
    · exact (setRow_other _ _ _ _ (by omega)).trans (row_below (w := wr.drew) H1.out HB1.out (lt_of_row H1.out))
    ·
     have e := setRow_heap W1 (w.heap.size + 2) _ (num4A ((256 * n + c.toNat) % Lord)) _ _ (row_below (w := wr.drew) H2.out HB1.out (lt_of_row H2.out))
     rw [HNq.out, HC.out, red_step l i (by omega)] at e
     rw [HNq.out, HC.out, red_step l i (by omega)]
     exact e
    · exact below_setRow HB2 (by omega) _)
  ·
   obtain rfl : j = 0 := by omega
   have hz0 : z = -1 := by have := HZ.out; omega
   subst hz0
   rw [List.drop_zero] at H2
   obtain ⟨R, HR⟩ : ∃ R, Hid (R = num4A (valLE l % Lord)) := ⟨_, rfl⟩
   have H2' : Hid (wr.heap[w.heap.size + 2]? = some (.cells R 60 (0, 0))) := by rw [HR.out]; exact H2.out
   have HSz : Hid ((Tryz.prog.info? 60).map (·.size) = some R.size) := by show _ = _; rw [HR.out]; exact size4r
   have HOo : Hid (zr4.size = R.size) := by show _ = _; rw [HR.out]; rfl
   have HA : Hid (R.all (·.oneCell') = true) := by rw [HR.out]; exact num4A_all _
   clear hj hlt HZ H2
   go_wp2_with (first | (refine wpList_load_row (by rfl) 60 (.tmp 3) (by rfl) (w.heap.size + 2) (by rfl) 60 R (0, 0) _ H2'.out under4 rfl HSz.out ?_) | (refine wpList_store_row (by rfl) 60 (.tmp 2) (.tmp 14) (by rfl) (w.heap.size + 1) R (by rfl) (by rfl) 60 _ H1.out HSz.out HOo.out HA.out ?_))
   refine bodyPost_ret (v := .agg R) (results_cell_row Tryz.results47 _ _ (w.heap.size + 1) 60 R (0, 0) _ (by rfl) (setRow_heap _ _ _ _ _ _ H1.out) under4 rfl HSz.out) rfl ⟨by rw [HR.out], below_setRow HB.out (by omega) _⟩
end
theorem reduce_list (l : List UInt8) (hl : l.length = 64) (M : List Value) (hM : M = l.map cv) (w : World) (hO : OrdAt w) :
  Calls Tryz.prog 47 #[.agg M.toArray] w fun e w' => e = .returned (.agg (num4A (valLE l % Lord))) ∧ Below w.heap.size w w' := by
 rw [hM]; exact reduce_any l hl w hO
end Go.Proofs.YtccgfabojbjmjaaGreatDoor
