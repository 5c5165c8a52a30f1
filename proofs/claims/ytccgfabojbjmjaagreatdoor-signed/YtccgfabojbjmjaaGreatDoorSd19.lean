import Derived.Test.YtccgfabojbjmjaaGreatDoorSd16
import Derived.Deep.RegionHeld3
import Derived.Deep.DrawnRows
import Derived.Laws.CopyOwn
namespace Go.Proofs.YtccgfabojbjmjaaGreatDoor
open Go.RowKit
section
attribute [local go_sem] U_and U_or U_xor U_not U_add U_add_one
attribute [local go_sem ↓] Go.wp_at_zero Go.wp_at_succ
theorem getBlk_any (b k n cap : Nat) (H : HS) (w : World) (hn : 8 ≤ n) (hm : n ≤ 9223372036854775807)
  (hc : ∀ i, i < 8 → w.cell? ⟨b, 8 + 8 * k + i, none⟩ = some (.int .u8 (C8 (H.blk.getD (8 * k + i) 0)))) :
  Calls Tryz.prog 163 #[.slice (some ⟨b, 8 + 8 * k, none⟩) n cap] w fun e w' => e = .returned (.int .u64 (U (w16 H.blk k))) ∧ w' = w :=
 getWord_any b (8 + 8 * k) n cap (fun i => H.blk.getD (8 * k + i) 0) w hn hm hc
theorem row_store_far {w : World} {g g' : Nat} {o : Obj} (i : Nat) (v : Value) (h : w.heap[g]? = some o) (hne : g ≠ g') : (w.setCell ⟨g', i, none⟩ v).heap[g]? = some o := by
 rw [Below.heap_setCell _ _ _ _ (by exact hne)]; exact h
theorem sch_row_step {wr : World} {g : Nat} {T : TypeId} {blk : List UInt8} {n : Nat} (hn : n < 64) (h : wr.heap[g]? = some (.cells (wrow (sch blk n)).toArray T (0, 0))) :
  (wr.setCell ⟨g, 16 + n, none⟩ (uv (nextW (sch blk n) n))).heap[g]? = some (.cells (wrow (sch blk (n + 1))).toArray T (0, 0)) := by
 have e := row_store h (16 + n) (uv (nextW (sch blk n) n))
 have e2 := wrow_set (sch blk n) (nextW (sch blk n) n) (by rw [sch_length]; omega)
 rw [sch_length] at e2
 rw [e2] at e
 exact e
theorem w16_row_step {wr : World} {g : Nat} {T : TypeId} {blk : List UInt8} {n : Nat} (hn : n < 16) (h : wr.heap[g]? = some (.cells (wrow (w16s blk n)).toArray T (0, 0))) :
  (wr.setCell ⟨g, n, none⟩ (uv (w16 blk n))).heap[g]? = some (.cells (wrow (w16s blk (n + 1))).toArray T (0, 0)) := by
 have e := row_store h n (uv (w16 blk n))
 have e2 := wrow_set (w16s blk n) (w16 blk n) (by rw [w16s_length]; omega)
 rw [w16s_length] at e2
 rw [e2] at e
 exact e
theorem wcell {wr : World} {g : Nat} {T : TypeId} {l : List (BitVec 64)} (h : wr.heap[g]? = some (.cells (wrow l).toArray T (0, 0))) (i : Nat) (hi : i < l.length) :
  wr.cell? ⟨g, i, none⟩ = some (.int .u64 (U (l.getD i 0))) :=
 (cell_of_row wr g i _ _ _ h).trans (by simpa using wrow_get l i hi)
theorem cell_store_far {w : World} {g i j : Nat} {v u : Value} (h : w.cell? ⟨g, i, none⟩ = some u) (hne : j ≠ i) : (w.setCell ⟨g, j, none⟩ v).drew.cell? ⟨g, i, none⟩ = some u := by
 rw [World.cell?_drew, World.cell?_setCell_other _ _ _ _ (by intro e; exact hne (congrArg Addr.off e))]; exact h
set_option maxRecDepth 100000 in
set_option maxHeartbeats 4000000 in
theorem spread_any (b : Nat) (T : TypeId) (H : HS) (w : World) (h : Has w b T H) :
  Calls Tryz.prog 153 #[.pointer (some ⟨b, 0, none⟩)] w fun e w' => e = .returned (.agg (wrow (sch H.blk 64)).toArray) ∧ Below w.heap.size w w' := by
 have hz := zero80
 have HH : Hid (Has w b T H) := h
 have hb : b < w.heap.size := h.lt
 clear h
 go_enter Tryz.func153, Tryz.ntmps153
 go_wp2_with fail
 go_loopw [6] (fun i wr => ∃ k : Nat, k ≤ 16 ∧ i = .int .i64 k ∧ Hid (wr.heap[w.heap.size + 1]? = some (.cells (wrow (w16s H.blk k)).toArray 257 (0, 0))) ∧
   Hid (wr.heap[w.heap.size]? = some (.cells (wrow []).toArray 257 (0, 0))) ∧ Below w.heap.size w wr) (fun i _ => 16 - (intOf i).toNat)
 case atStart => exact ⟨0, Nat.zero_le _, rfl, heap_alloc2_new _ _ _, heap_alloc2_old _ _ _, ((Below.refl _ _).alloc (Nat.le_refl _) _).alloc (by simp) _⟩
 case round =>
  obtain ⟨k, hk, rfl, hr, hr0, hbel⟩ := hrel
  by_cases hlt : k < 16
  ·
   obtain ⟨v0, hv0⟩ := wrow_there (w16s H.blk k) k (by omega) (by rw [w16s_length]; omega)
   have hcell : wr.cell? ⟨w.heap.size + 1, k, none⟩ = some v0 := (cell_of_row wr (w.heap.size + 1) k _ _ _ hr.out).trans (by simpa using hv0)
   have hfr := frozen_of_row wr (w.heap.size + 1) k _ _ hr.out
   have hsl := slice128 b 8 (8 * (k : Int)) (8 * k) (by omega) (by omega)
   clear hv0 hz
   go_wp2_with fail
   refine (getBlk_any b k (128 - 8 * k) (128 - 8 * k) H _ (by omega) (by omega) ?_).mono ?_
   ·
    intro i hi
    have hc := HH.out.cell (8 + (8 * k + i))
    rw [H.row_blk (8 * k + i) (by rw [HH.out.len]; omega)] at hc
    rw [← Nat.add_assoc] at hc
    exact (hbel.cell (by exact hb)).trans hc
   ·
    rintro e w' ⟨rfl, rfl⟩
    go_wp2_with fail
    go_roundw
    case rel => exact ⟨k + 1, by omega, by go_num, w16_row_step hlt hr.out, row_store_far _ _ hr0.out (by omega), hbel.setCell (by simp) _⟩
    case measure => simp [intOf]; omega
  ·
   have hk16 : k = 16 := by omega
   have hr' : Hid (wr.heap[w.heap.size + 1]? = some (.cells (wrow (sch H.blk 0)).toArray 257 (0, 0))) := by have := hr.out; rw [hk16] at this; exact this
   have hk16' : (16 : Int) ≤ (k : Int) := by omega
   clear hz hr hk hk16 hlt
   go_wp2_with fail
   go_loopw [5] (fun i wr => ∃ n m : Nat, n ≤ 64 ∧ Hid (m = 16 + n) ∧ i = .int .i64 m ∧ Hid (wr.heap[w.heap.size + 1]? = some (.cells (wrow (sch H.blk n)).toArray 257 (0, 0))) ∧
    Hid (wr.heap[w.heap.size]? = some (.cells (wrow []).toArray 257 (0, 0))) ∧ Below w.heap.size w wr) (fun i _ => 80 - (intOf i).toNat)
   case atStart => exact ⟨0, 16, Nat.zero_le _, rfl, rfl, hr', hr0, hbel⟩
   case round =>
    clear hr' hr0 hbel
    obtain ⟨n, m, hn, hm, rfl, hr, hr0, hbel⟩ := hrel
    by_cases hlt : n < 64
    ·
     have hl := sch_length H.blk n
     have hm' := hm.out
     obtain ⟨m2, hm2⟩ : ∃ m2, m2 = n + 14 := ⟨_, rfl⟩
     obtain ⟨m7, hm7⟩ : ∃ m7, m7 = n + 9 := ⟨_, rfl⟩
     obtain ⟨m15, hm15⟩ : ∃ m15, m15 = n + 1 := ⟨_, rfl⟩
     have c2 := wcell hr.out m2 (by omega)
     have c7 := wcell hr.out m7 (by omega)
     have c15 := wcell hr.out m15 (by omega)
     have c16 := wcell hr.out n (by omega)
     have e2 : IntKind.i64.wrap ((m : Int) - 2) = (m2 : Int) := by rw [IntKind.wrap_i64]; omega
     have e7 : IntKind.i64.wrap ((m : Int) - 7) = (m7 : Int) := by rw [IntKind.wrap_i64]; omega
     have e15 : IntKind.i64.wrap ((m : Int) - 15) = (m15 : Int) := by rw [IntKind.wrap_i64]; omega
     have e16 : IntKind.i64.wrap ((m : Int) - 16) = (n : Int) := by rw [IntKind.wrap_i64]; omega
     have b2 : (m2 : Int) < 80 := by omega
     have b7 : (m7 : Int) < 80 := by omega
     have b15 : (m15 : Int) < 80 := by omega
     have b16 : (n : Int) < 80 := by omega
     have bm : (m : Int) < 80 := by omega
     have n2 : m ≠ m2 := by omega
     have n7 : m ≠ m7 := by omega
     have n15 : m ≠ m15 := by omega
     have n16 : m ≠ n := by omega
     obtain ⟨v0, hv0⟩ := wrow_there (sch H.blk n) m (by omega) (by rw [sch_length]; omega)
     have hcell := (cell_of_row _ (w.heap.size + 1) m _ _ _ hr.out).trans (by simpa using hv0)
     have hfr := frozen_of_row _ (w.heap.size + 1) m _ _ hr.out
     clear hv0
     generalize hx2 : (sch H.blk n).getD m2 0 = x2 at c2
     generalize hx7 : (sch H.blk n).getD m7 0 = x7 at c7
     generalize hx15 : (sch H.blk n).getD m15 0 = x15 at c15
     generalize hx16 : (sch H.blk n).getD n 0 = x16 at c16
     have HX : Hid (smallSigma1W x2 + x7 + smallSigma0W x15 + x16 = nextW (sch H.blk n) n) := by
      show _ = _
      unfold nextW; rw [← hx2, ← hx7, ← hx15, ← hx16, hm2, hm7, hm15]
     clear hx2 hx7 hx15 hx16 hl hm2 hm7 hm15 hm'
     go_wp2_with fail
     go_region_held3 (fun w' => w'.cell? ⟨w.heap.size + 1, m2, none⟩ = some (.int .u64 (U x2)) ∧ w'.cell? ⟨w.heap.size + 1, m7, none⟩ = some (.int .u64 (U x7)) ∧ w'.cell? ⟨w.heap.size + 1, m15, none⟩ = some (.int .u64 (U x15)) ∧ w'.cell? ⟨w.heap.size + 1, n, none⟩ = some (.int .u64 (U x16))) (first | exact ⟨cell_store_far c2 n2, cell_store_far c7 n7, cell_store_far c15 n15, cell_store_far c16 n16⟩ | go_keep)
      (first | (go_at_call 164; refine (smallSigma1_any x2 _).mono ?_; rintro e w' ⟨rfl, rfl⟩) | (go_at_call 165; refine (smallSigma0_any x15 _).mono ?_; rintro e w' ⟨rfl, rfl⟩))
     clear c2 c7 c15 c16 hcell hfr n2 n7 n15 n16 e2 e7 e15 e16 b2 b7 b15 b16
     go_wp2
     go_roundw
     case rel =>
      refine ⟨n + 1, m + 1, by omega, ?_, by go_num, ?_, row_store_far _ _ hr0.out (by omega), (hbel.setCell (by simp) _).drew⟩
      · have := hm.out; show m + 1 = 16 + (n + 1); omega
      · rw [HX.out, hm.out]; exact sch_row_step hlt hr.out
     case measure => simp [intOf]; omega
    ·
     obtain rfl : n = 64 := by omega
     have hm80 : m = 80 := hm.out
     have hm' : (80 : Int) ≤ (m : Int) := by omega
     clear hm hm80 hlt hn
     have hsz : (wrow (sch H.blk 64)).length = 80 := wrow_length _ (by rw [sch_length]; omega)
     have HS : Hid ((Tryz.prog.info? 257).map (·.size) = some (wrow (sch H.blk 64)).toArray.size) := by show _ = _; rw [size80]; simp [hsz]
     have HO : Hid ((wrow []).toArray.size = (wrow (sch H.blk 64)).toArray.size) := by show _ = _; simp [hsz, wrow_length]
     have HA : Hid ((wrow (sch H.blk 64)).toArray.all (·.oneCell') = true) := all_oneCell_toArray (wrow_cell _)
     clear hsz
     generalize hR : (wrow (sch H.blk 64)).toArray = R at *
     have HRq : Hid (R = (wrow (sch H.blk 64)).toArray) := hR.symm
     clear hR
     go_wp2_with (first | (refine wpList_load_row (by rfl) 257 (.tmp 3) (by rfl) (w.heap.size + 1) (by rfl) 257 R (0, 0) _ hr.out under80 rfl HS.out ?_) | (refine wpList_store_row (by rfl) 257 (.tmp 2) (.tmp 46) (by rfl) w.heap.size R (by rfl) (by rfl) 257 _ hr0.out HS.out HO.out HA.out ?_))
     refine bodyPost_ret (v := .agg R) (results_cell_row Tryz.results153 _ _ w.heap.size 257 R (0, 0) _ (by rfl) (setRow_heap _ _ _ _ _ _ hr0.out) under80 rfl HS.out) rfl ⟨by rw [HRq.out], below_setRow hbel (Nat.le_refl _) _⟩
end
end Go.Proofs.YtccgfabojbjmjaaGreatDoor
