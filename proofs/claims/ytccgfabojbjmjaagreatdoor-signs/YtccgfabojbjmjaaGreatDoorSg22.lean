import Derived.Test.YtccgfabojbjmjaaGreatDoorSg18
import Derived.Deep.QuietTactic
import Derived.BigQuiet
import Derived.Laws.CopyOwn
namespace Go.Proofs.YtccgfabojbjmjaaGreatDoor
open Go.RowKit
def ksB (s : ByteArray) : List UInt8 := if s.size = 32 then qax s else List.replicate 32 0
def ksO (s : ByteArray) : Bool := decide (s.size = 32)
theorem ksB_length (s : ByteArray) : (ksB s).length = 32 := by
 unfold ksB; split
 · rename_i h; rw [qc3, h]
 · simp
end Go.Proofs.YtccgfabojbjmjaaGreatDoor
namespace Go.Proofs.YtccgfabojbjmjaaGreatDoor
open Go.RowKit
section
attribute [local go_sem] U_and U_or qej U_not U_add qbC
attribute [local go_sem ↓] Go.wp_at_zero Go.wp_at_succ
def z8 : Array Value := ((List.replicate 8 (0#64)).map uv).toArray
def z80 : Array Value := (qel []).toArray
def w8 (s : S8) : List Value := s.words.map uv
theorem mix_world1 {b : Nat} {w w1 W1 : World} {cs : List Value} {R : List Value} {Z : Array Value} {t : TypeId} (hb1 : Below w.heap.size w w1) (hb : b < w.heap.size) (hT : w1.rangeAt b 0 cs)
  (hW1 : W1 = (w1.alloc (.cells Z t)).setRow w1.heap.size R.toArray) :
  Hid (Below w.heap.size w W1 ∧ w1.heap.size < W1.heap.size ∧ W1.heap[w1.heap.size]? = some (.cells R.toArray t (0, 0)) ∧ W1.rangeAt b 0 cs) := by
 subst hW1
 refine ⟨below_setRow (hb1.alloc hb1.size _) hb1.size _, by simp, setRow_heap _ _ _ _ _ _ (heap_alloc_new _ _), fun j v hv => ?_⟩
 have := hb1.size
 rw [cell_setRow_other _ _ _ _ (by show b ≠ _; omega), World.cell?_alloc_lt _ _ _ (by show b < _; omega)]
 exact hT j v hv
theorem mix_world2 {b g : Nat} {w W1 W2 : World} {cs : List Value} {R X : List Value} {Z : Array Value} {t t' : TypeId}
  (h : Below w.heap.size w W1 ∧ g < W1.heap.size ∧ W1.heap[g]? = some (.cells R.toArray t (0, 0)) ∧ W1.rangeAt b 0 cs)
  (hW2 : W2 = (W1.alloc (.cells Z t')).setRow W1.heap.size X.toArray) :
  Hid (Below w.heap.size w W2 ∧ W2.heap[g]? = some (.cells R.toArray t (0, 0)) ∧ W2.heap[W1.heap.size]? = some (.cells X.toArray t' (0, 0)) ∧ W2.heap.size = W1.heap.size + 1) := by
 subst hW2
 obtain ⟨h1, h2, h3, h4⟩ := h
 refine ⟨below_setRow (h1.alloc h1.size _) h1.size _, ?_, setRow_heap _ _ _ _ _ _ (heap_alloc_new _ _), by simp⟩
 rw [setRow_other _ _ _ _ (by omega), heap_alloc_old _ _ h2]; exact h3
theorem qdu {W : World} {g : Nat} {s : S8} {t : TypeId} (h : W.heap[g]? = some (.cells (w8 s).toArray t (0, 0))) (i : Nat) (hi : i < 8) : W.cell? ⟨g, i, none⟩ = some (.int .u64 (U (s.words.getD i 0))) := by
 rw [cell_of_row W g i _ _ _ h]
 have : i < s.words.length := hi
 simp [w8, this]
theorem index8_0 (s : S8) (w : World) : (Instr.index 163 (.agg #[.int .u64 (U s.a), .int .u64 (U s.b), .int .u64 (U s.c), .int .u64 (U s.d), .int .u64 (U s.e), .int .u64 (U s.f), .int .u64 (U s.g), .int .u64 (U s.h)]) (.int .i64 0)).run Tryz.prog w = .ok (.int .u64 (U s.a)) w := by kernel_rfl
theorem index8_1 (s : S8) (w : World) : (Instr.index 163 (.agg #[.int .u64 (U s.a), .int .u64 (U s.b), .int .u64 (U s.c), .int .u64 (U s.d), .int .u64 (U s.e), .int .u64 (U s.f), .int .u64 (U s.g), .int .u64 (U s.h)]) (.int .i64 1)).run Tryz.prog w = .ok (.int .u64 (U s.b)) w := by kernel_rfl
theorem index8_2 (s : S8) (w : World) : (Instr.index 163 (.agg #[.int .u64 (U s.a), .int .u64 (U s.b), .int .u64 (U s.c), .int .u64 (U s.d), .int .u64 (U s.e), .int .u64 (U s.f), .int .u64 (U s.g), .int .u64 (U s.h)]) (.int .i64 2)).run Tryz.prog w = .ok (.int .u64 (U s.c)) w := by kernel_rfl
theorem index8_3 (s : S8) (w : World) : (Instr.index 163 (.agg #[.int .u64 (U s.a), .int .u64 (U s.b), .int .u64 (U s.c), .int .u64 (U s.d), .int .u64 (U s.e), .int .u64 (U s.f), .int .u64 (U s.g), .int .u64 (U s.h)]) (.int .i64 3)).run Tryz.prog w = .ok (.int .u64 (U s.d)) w := by kernel_rfl
theorem index8_4 (s : S8) (w : World) : (Instr.index 163 (.agg #[.int .u64 (U s.a), .int .u64 (U s.b), .int .u64 (U s.c), .int .u64 (U s.d), .int .u64 (U s.e), .int .u64 (U s.f), .int .u64 (U s.g), .int .u64 (U s.h)]) (.int .i64 4)).run Tryz.prog w = .ok (.int .u64 (U s.e)) w := by kernel_rfl
theorem index8_5 (s : S8) (w : World) : (Instr.index 163 (.agg #[.int .u64 (U s.a), .int .u64 (U s.b), .int .u64 (U s.c), .int .u64 (U s.d), .int .u64 (U s.e), .int .u64 (U s.f), .int .u64 (U s.g), .int .u64 (U s.h)]) (.int .i64 5)).run Tryz.prog w = .ok (.int .u64 (U s.f)) w := by kernel_rfl
theorem index8_6 (s : S8) (w : World) : (Instr.index 163 (.agg #[.int .u64 (U s.a), .int .u64 (U s.b), .int .u64 (U s.c), .int .u64 (U s.d), .int .u64 (U s.e), .int .u64 (U s.f), .int .u64 (U s.g), .int .u64 (U s.h)]) (.int .i64 6)).run Tryz.prog w = .ok (.int .u64 (U s.g)) w := by kernel_rfl
theorem index8_7 (s : S8) (w : World) : (Instr.index 163 (.agg #[.int .u64 (U s.a), .int .u64 (U s.b), .int .u64 (U s.c), .int .u64 (U s.d), .int .u64 (U s.e), .int .u64 (U s.f), .int .u64 (U s.g), .int .u64 (U s.h)]) (.int .i64 7)).run Tryz.prog w = .ok (.int .u64 (U s.h)) w := by kernel_rfl
theorem index8 (s : S8) (j : Nat) (hj : j < 8) : ∀ w, (Instr.index 163 (.agg #[.int .u64 (U s.a), .int .u64 (U s.b), .int .u64 (U s.c), .int .u64 (U s.d), .int .u64 (U s.e), .int .u64 (U s.f), .int .u64 (U s.g), .int .u64 (U s.h)]) (.int .i64 j)).run Tryz.prog w = .ok (.int .u64 (U (s.words.getD j 0))) w := by
 intro w
 have h : j = 0 ∨ j = 1 ∨ j = 2 ∨ j = 3 ∨ j = 4 ∨ j = 5 ∨ j = 6 ∨ j = 7 := by omega
 rcases h with rfl | rfl | rfl | rfl | rfl | rfl | rfl | rfl
 · exact index8_0 s w
 · exact index8_1 s w
 · exact index8_2 s w
 · exact index8_3 s w
 · exact index8_4 s w
 · exact index8_5 s w
 · exact index8_6 s w
 · exact index8_7 s w
theorem rnds_succ (l : List (BitVec 64)) (s : S8) (n : Nat) : rnds l s (n + 1) = stepW (kw n) (l.getD n 0) (rnds l s n) := rfl
theorem addTo_succ (s t : S8) (k : Nat) : addTo s t (k + 1) = (addTo s t k).set k (s.words.getD k 0 + t.words.getD k 0) := rfl
theorem row_start (H : HS) (t : S8) : H.row = rowLH (addTo H.st t 0) H := rfl
theorem row_mix (H : HS) (l : List (BitVec 64)) (h : l = sch H.blk 64) : H.mix.row = rowLH (H.st.add (rnds l H.st 80)).words H := by
 rw [← sch64_eq] at h; subst h; rw [← rnd80_eq]; cases H; rfl
theorem blk_mix (H : HS) : H.mix.blk = H.blk := by cases H; rfl
theorem qdv {w : World} {g g' i j : Nat} {v u : Value} (h : w.cell? ⟨g, i, none⟩ = some u) (hne : g' ≠ g) : (w.setCell ⟨g', j, none⟩ v).drew.cell? ⟨g, i, none⟩ = some u := by
 rw [World.cell?_drew, World.cell?_setCell_other _ _ _ _ (by intro e; exact hne (congrArg Addr.block e))]; exact h
set_option maxRecDepth 100000 in
set_option maxHeartbeats 4000000 in
theorem qb2 (b : Nat) (T : TypeId) (H : HS) (w : World) (h : Has w b T H) (hK : Tab w) (_hb0 : 9 ≠ b) :
  Calls Tryz.prog 127 #[.pointer (some ⟨b, 0, none⟩)] w fun e w' => e = .returned (.tuple #[]) ∧ Has w' b T H.mix ∧ qcv b w w' := by
 have hz : ∀ w, (zeroValue 257).run Tryz.prog w = .ok (.agg z80) w := zero80
 have hz8 : ∀ w, (zeroValue 163).run Tryz.prog w = .ok (.agg z8) w := zero8
 have HH : Hid (Has w b T H) := h
 have HK : Hid (Tab w) := hK
 have hb : b < w.heap.size := h.lt
 clear h hK
 go_enter Tryz.func127, Tryz.ntmps127
 go_wp2_with fail
 refine (spread_any b T H w HH.out).mono ?_
 rintro e w1 ⟨rfl, hb1⟩
 obtain ⟨L, HL⟩ : ∃ L, Hid (L = sch H.blk 64) := ⟨_, rfl⟩
 rw [← HL.out]
 have HLL : Hid (L.length = 80) := by rw [HL.out]; exact qb5 _ _
 obtain ⟨R, HR⟩ : ∃ R, Hid (R = qel L) := ⟨_, rfl⟩
 rw [← HR.out]
 have HSz : Hid ((Tryz.prog.info? 257).map (·.size) = some R.toArray.size) := by show _ = _; rw [size80, HR.out]; simp [qcU, HLL.out]
 have HO : Hid (z80.size = R.toArray.size) := by show _ = _; rw [HR.out]; simp [z80, qcU, HLL.out]
 have HA : Hid (R.toArray.all (·.oneCell') = true) := by rw [HR.out]; exact all_oneCell_toArray (wrow_cell _)
 have HT : Hid (w1.rangeAt b 0 (w8 H.st)) := by
  intro j v hv
  have hj : j < 8 := by simp only [w8, S8.words, List.getElem?_map] at hv; rcases Nat.lt_or_ge j 8 with g | g; exact g; rw [List.getElem?_eq_none (by simpa using g)] at hv; cases hv
  rw [Nat.zero_add, (hb1.cell (by exact hb) : w1.cell? ⟨b, j, none⟩ = w.cell? ⟨b, j, none⟩), HH.out.cell j]
  unfold HS.row at *; rw [List.getElem?_append_left (by simpa [S8.words] using hj)]; exact hv
 go_wp2_with (first
  | (refine wpList_store_row (by rfl) 257 (.tmp 2) (.tmp 18) (by rfl) w1.heap.size R.toArray (by rfl) (by rfl) 257 _ (heap_alloc_new _ _) HSz.out HO.out HA.out ?_; (obtain ⟨W1, hW1⟩ : ∃ W1, W1 = (w1.alloc (.cells z80 257)).setRow w1.heap.size R.toArray := ⟨_, rfl⟩); rw [← hW1]; have F1 := mix_world1 hb1 hb HT.out hW1; clear hW1)
  | (refine wpList_load_mid (by rfl) 163 (.tmp 21) (by rfl) b 0 (by rfl) (w8 H.st) _ F1.out.2.2.2 under8 rfl size8 ?_)
  | (refine wpList_store_row (by rfl) 163 (.tmp 3) (.tmp 22) (by rfl) W1.heap.size (w8 H.st).toArray (by rfl) (by rfl) 163 _ (heap_alloc_new _ _) size8 (by rfl) (by exact all_oneCell_toArray (words_cell _)) ?_; (obtain ⟨W2, hW2⟩ : ∃ W2, W2 = (W1.alloc (.cells z8 163)).setRow W1.heap.size (w8 H.st).toArray := ⟨_, rfl⟩); rw [← hW2]; have F2 := mix_world2 F1.out hW2; clear hW2))
 obtain ⟨g1, hg1⟩ : ∃ g1, g1 = w1.heap.size := ⟨_, rfl⟩
 obtain ⟨g2, hg2⟩ : ∃ g2, g2 = W1.heap.size := ⟨_, rfl⟩
 have F3 : Hid (Below w.heap.size w W2 ∧ W2.heap[g1]? = some (.cells R.toArray 257 (0, 0)) ∧ W2.heap[g2]? = some (.cells (w8 H.st).toArray 163 (0, 0)) ∧ w.heap.size ≤ g1 ∧ w.heap.size ≤ g2 ∧ g1 < g2) := by
  rw [hg1, hg2]; exact ⟨F2.out.1, F2.out.2.1, F2.out.2.2.1, hb1.size, F1.out.1.size, F1.out.2.1⟩
 rw [← hg1, ← hg2]
 clear hg1 hg2 F1 F2 hb1 HT HA HO HSz hz hz8
 have c0 : W2.cell? ⟨g2, 0, none⟩ = some (.int .u64 (U H.st.a)) := qdu F3.out.2.2.1 0 (by omega)
 have c1 : W2.cell? ⟨g2, 1, none⟩ = some (.int .u64 (U H.st.b)) := qdu F3.out.2.2.1 1 (by omega)
 have c2 : W2.cell? ⟨g2, 2, none⟩ = some (.int .u64 (U H.st.c)) := qdu F3.out.2.2.1 2 (by omega)
 have c3 : W2.cell? ⟨g2, 3, none⟩ = some (.int .u64 (U H.st.d)) := qdu F3.out.2.2.1 3 (by omega)
 have c4 : W2.cell? ⟨g2, 4, none⟩ = some (.int .u64 (U H.st.e)) := qdu F3.out.2.2.1 4 (by omega)
 have c5 : W2.cell? ⟨g2, 5, none⟩ = some (.int .u64 (U H.st.f)) := qdu F3.out.2.2.1 5 (by omega)
 have c6 : W2.cell? ⟨g2, 6, none⟩ = some (.int .u64 (U H.st.g)) := qdu F3.out.2.2.1 6 (by omega)
 have c7 : W2.cell? ⟨g2, 7, none⟩ = some (.int .u64 (U H.st.h)) := qdu F3.out.2.2.1 7 (by omega)
 go_quiet (fail)
 clear c0 c1 c2 c3 c4 c5 c6 c7
 go_wp2_with fail
 go_loopw [4, 5, 6, 7, 8, 9, 10, 11, 39] (fun va vb vc vd ve vf vg vh i wr => ∃ (k : Nat) (s : S8), k ≤ 80 ∧ Hid (s = rnds L H.st k) ∧ i = .int .i64 k ∧ va = .int .u64 (U s.a) ∧ vb = .int .u64 (U s.b) ∧ vc = .int .u64 (U s.c) ∧ vd = .int .u64 (U s.d) ∧
   ve = .int .u64 (U s.e) ∧ vf = .int .u64 (U s.f) ∧ vg = .int .u64 (U s.g) ∧ vh = .int .u64 (U s.h) ∧
   Hid (Below w.heap.size w wr ∧ wr.heap[g1]? = some (.cells R.toArray 257 (0, 0)) ∧ wr.heap[g2]? = some (.cells (w8 H.st).toArray 163 (0, 0)) ∧ w.heap.size ≤ g1 ∧ w.heap.size ≤ g2 ∧ g1 < g2)) (fun _ _ _ _ _ _ _ _ i _ => 80 - (intOf i).toNat)
 case atStart => exact ⟨0, H.st, Nat.zero_le _, rfl, rfl, rfl, rfl, rfl, rfl, rfl, rfl, rfl, rfl, ⟨⟨F3.out.1.os, F3.out.1.tape, F3.out.1.output, F3.out.1.size, F3.out.1.block⟩, F3.out.2⟩⟩
 case round =>
  clear F3
  obtain ⟨k, s, hk, hs, rfl, rfl, rfl, rfl, rfl, rfl, rfl, rfl, rfl, F3⟩ := hrel
  by_cases hlt : k < 80
  ·
   have bk : (k : Int) < 80 := by omega
   have hck : wr.cell? ⟨9, k, none⟩ = some (.int .u64 (U (kw k))) := HK.out.below F3.out.1 (by have := HK.out.lt; omega) k hlt
   have hcw : wr.cell? ⟨g1, k, none⟩ = some (.int .u64 (U (L.getD k 0))) := by
    have := F3.out.2.1; rw [HR.out] at this
    exact wcell this k (by rw [HLL.out]; exact hlt)
   generalize hww : L.getD k 0 = ww at hcw
   have HN : Hid (stepW (kw k) ww s = rnds L H.st (k + 1)) := by show _ = _; rw [rnds_succ, hs.out, ← hww]
   clear hww
   generalize kw k = kk at *
   go_wp2_with fail
   go_quiet (first | (go_at_call 154; exact Calls.quiet_of_same (bigSigma1_any _ _)) | (go_at_call 155; exact Calls.quiet_of_same (choose_any _ _ _ _)))
   go_wp2_with (first | (go_at_call 156; refine (bigSigma0_any _ _).mono ?_; rintro e w' ⟨rfl, rfl⟩) | (go_at_call 157; refine (majority_any _ _ _ _).mono ?_; rintro e w' ⟨rfl, rfl⟩))
   go_roundw
   case rel => exact ⟨k + 1, stepW kk ww s, by omega, HN.out, by go_num, rfl, rfl, rfl, rfl, rfl, rfl, rfl, rfl, ⟨⟨F3.out.1.os, F3.out.1.tape, F3.out.1.output, F3.out.1.size, F3.out.1.block⟩, F3.out.2⟩⟩
   case measure => simp [intOf]; omega
  ·
   have hk80 : k = 80 := by omega
   have hk' : (80 : Int) ≤ (k : Int) := by omega
   have hs' : Hid (s = rnds L H.st 80) := by have := hs.out; rw [hk80] at this; exact this
   clear hs hk80 hlt hk
   go_wp2_with fail
   have HG : Hid (w.heap.size ≤ g2) := F3.out.2.2.2.2.1
   go_loopw [88] (fun i wr => ∃ j : Nat, j ≤ 8 ∧ i = .int .i64 j ∧ Hid (wr.heap[b]? = some (.cells (rowLH (addTo H.st s j) H).toArray T (0, 0))) ∧ Hid (wr.heap[g2]? = some (.cells (w8 H.st).toArray 163 (0, 0))) ∧ Hid (qcv b w wr)) (fun i _ => 8 - (intOf i).toNat)
   case atStart => exact ⟨0, Nat.zero_le _, rfl, by rw [← row_start]; exact (F3.out.1.block b hb).trans HH.out.heap, F3.out.2.2.1, qcv.of_below F3.out.1⟩
   case round =>
    clear F3
    obtain ⟨j, hj, rfl, hr, hr2, ht⟩ := hrel
    by_cases hlt : j < 8
    ·
     have bj : (j : Int) < 8 := by omega
     have hidx := index8 s j hlt
     have hc2 := qdu hr2.out j hlt
     have hcb : wr.cell? ⟨b, j, none⟩ = some (.int .u64 (U ((addTo H.st s j).getD j 0))) := (cell_of_row wr b j _ _ _ hr.out).trans (by simpa using rowL_get (addTo H.st s j) H j (by rw [qdQ]; exact hlt))
     have hfb := frozen_of_row wr b j _ _ hr.out
     have hne : b ≠ g2 := by have := HG.out; omega
     generalize hold : H.st.words.getD j 0 = x at hc2
     generalize hnew : s.words.getD j 0 = y at hidx
     generalize (addTo H.st s j).getD j 0 = y0 at hcb
     have HX : Hid (H.st.words.getD j 0 + s.words.getD j 0 = x + y) := by show _ = _; rw [hold, hnew]
     clear hold hnew hk'
     go_wp2_with fail
     go_region_held3 (fun w' => w'.cell? ⟨g2, j, none⟩ = some (.int .u64 (U x))) (first | exact qdv hc2 hne | go_keep) (fail)
     go_wp2
     go_roundw
     case rel =>
      refine ⟨j + 1, by omega, by go_num, ?_, qdt _ _ hr2.out (Ne.symm hne), (ht.out.setCell rfl _).drew⟩
      have e := qaA hr.out j (uv (x + y))
      rw [rowL_set _ _ _ (by rw [qdQ]; exact hlt)] at e
      rw [addTo_succ, HX.out]
      exact e
     case measure => simp [intOf]; omega
    ·
     have hj8 : j = 8 := by omega
     have hj' : (8 : Int) ≤ (j : Int) := by omega
     rw [hj8] at hr
     clear hj8 hj hlt hk'
     go_wp2_with fail
     go_end0
     refine ⟨rfl, ⟨?_, by rw [blk_mix]; exact HH.out.len⟩, ht.out⟩
     rw [row_mix H L HL.out, ← hs'.out, ← addTo_all]
     exact hr.out
end
noncomputable def HS.done (X : HS) : HS := if X.filled = 0 then X.mix else X
noncomputable def HS.chunk (H : HS) (l : List UInt8) : HS := HS.done { H with blk := splice H.blk H.filled l, n := H.n + l.length }
noncomputable def HS.put (H : HS) (c : UInt8) : HS := H.chunk [c]
noncomputable def HS.puts (H : HS) (l : List UInt8) : HS := l.foldl HS.put H
theorem HS.puts_append (H : HS) (l m : List UInt8) : H.puts (l ++ m) = (H.puts l).puts m := List.foldl_append ..
theorem HS.puts_cons (H : HS) (c : UInt8) (m : List UInt8) : H.puts (c :: m) = (H.put c).puts m := rfl
theorem splice_step {α : Type} (L : List α) (f : Nat) (c : α) (m : List α) (h : f + 1 + m.length ≤ L.length) : splice (splice L f [c]) (f + 1) m = splice L f (c :: m) := by
 unfold splice
 have h1 : (L.take f).length = f := by simp; omega
 have e1 : (L.take f ++ ([c] ++ L.drop (f + [c].length))).take (f + 1) = L.take f ++ [c] := by
  rw [← List.append_assoc, List.take_append_of_le_length (by simp; omega)]
  exact List.take_of_length_le (by simp; omega)
 have e2 : (L.take f ++ ([c] ++ L.drop (f + [c].length))).drop (f + 1 + m.length) = L.drop (f + 1 + m.length) := by
  rw [← List.append_assoc, List.drop_append, List.drop_eq_nil_of_le (by simp; omega), List.nil_append, List.drop_drop]
  congr 1; simp only [List.length_append, h1, List.length_singleton]; omega
 rw [e1, e2]
 simp only [List.append_assoc, List.cons_append, List.nil_append, List.length_cons]
 rw [show f + 1 + m.length = f + (m.length + 1) by omega]
theorem HS.chunk_cons (H : HS) (c : UInt8) (m : List UInt8) (hm : m ≠ []) (hl : H.blk.length = 128) (h : H.filled + (m.length + 1) ≤ 128) : H.chunk (c :: m) = (H.put c).chunk m := by
 have hm0 : 0 < m.length := List.length_pos_iff.2 hm
 have hf := H.filled_lt
 have e : H.put c = { H with blk := splice H.blk H.filled [c], n := H.n + 1 } := by
  unfold HS.put HS.chunk HS.done
  rw [if_neg]; rfl
  show ¬ (H.n + [c].length) % 128 = 0
  have : H.n % 128 = H.filled := rfl
  simp; omega
 have e2 : ({ H with blk := splice H.blk H.filled [c], n := H.n + 1 } : HS).filled = H.filled + 1 := by
  show (H.n + 1) % 128 = H.n % 128 + 1
  have : H.n % 128 = H.filled := rfl
  omega
 rw [e]
 unfold HS.chunk
 rw [e2]
 congr 2
 · exact (splice_step H.blk H.filled c m (by omega)).symm
 · simp; omega
theorem HS.chunk_puts (l : List UInt8) : ∀ (H : HS), l ≠ [] → H.blk.length = 128 → H.filled + l.length ≤ 128 → H.chunk l = H.puts l := by
 induction l with
 | nil => intro H h; exact absurd rfl h
 | cons c m ih =>
  intro H _ hl h
  by_cases hm : m = []
  · subst hm; rfl
  ·
   rw [H.chunk_cons c m hm hl (by simpa using h), H.puts_cons]
   have e : H.put c = { H with blk := splice H.blk H.filled [c], n := H.n + 1 } := by
    have hm0 : 0 < m.length := List.length_pos_iff.2 hm
    unfold HS.put HS.chunk HS.done
    rw [if_neg]; rfl
    show ¬ (H.n + [c].length) % 128 = 0
    have : H.n % 128 = H.filled := rfl
    simp at h ⊢; omega
   refine ih _ hm ?_ ?_
   · rw [e]; exact (length_splice _ _ _ (by have := H.filled_lt; simp; omega)).trans hl
   ·
    rw [e]; show (H.n + 1) % 128 + _ ≤ _
    have hm0 : 0 < m.length := List.length_pos_iff.2 hm
    have : H.n % 128 = H.filled := rfl
    simp at h; omega
theorem HS.row_splice (H : HS) (off : Nat) (l : List UInt8) (h : off + l.length ≤ H.blk.length) :
  H.row.take (8 + off) ++ l.map cv ++ H.row.drop (8 + off + l.length) = ({ H with blk := splice H.blk off l } : HS).row := by
 have h8 : (H.st.words.map uv).length = 8 := rfl
 have e1 : H.row.take (8 + off) = H.st.words.map uv ++ (H.blk.take off).map cv := by
  unfold HS.row
  rw [List.take_append, List.take_of_length_le (by rw [h8]; omega), h8, Nat.add_sub_cancel_left, List.take_append_of_le_length (by simp; omega), List.map_take]
 have e2 : H.row.drop (8 + off + l.length) = (H.blk.drop (off + l.length)).map cv ++ [uv H.hi, uv H.lo] := by
  unfold HS.row
  rw [List.drop_append, List.drop_eq_nil_of_le (by rw [h8]; omega), h8, List.nil_append, List.drop_append, List.map_drop]
  have : 8 + off + l.length - 8 = off + l.length := by omega
  rw [this]
  have h0 : off + l.length - (List.map cv H.blk).length = 0 := by simp; omega
  rw [h0]; rfl
 rw [e1, e2]
 show _ = H.st.words.map uv ++ ((splice H.blk off l).map cv ++ [uv H.hi, uv H.lo])
 simp [splice]
theorem run_copy_str {P : Program} (w : World) (dT sT ty elem : TypeId) (g o dLen dCap : Nat) (s : ByteArray) (cur : List Value) (t : TypeId) (n : Nat)
  (hu : P.underlying dT = some (.slice elem)) (hs : (P.info? elem).map (·.size) = some 1) (hg : w.heap[g]? = some (.cells cur.toArray t (0, 0))) (hn : Nat.min s.size dLen = n) (hfit : o + n ≤ cur.length) :
  (Builtin.copy_ #[dT, sT] ty #[.slice (some ⟨g, o, none⟩) dLen dCap, .string s]).run P w =
   .ok (goInt n) (w.setRow g (cur.take o ++ (s.data.toList.take n).map cv ++ cur.drop (o + n)).toArray) := by
 have hsz : s.size = s.data.toList.length := rfl
 have hln : n ≤ s.data.toList.length := by rw [← hsz, ← hn]; exact Nat.min_le_left _ _
 have hlen : ((s.data.toList.take n).map cv).length = n := by rw [List.length_map, List.length_take]; exact Nat.min_eq_left hln
 have hst := run_storeCells_at P g o t ((s.data.toList.take n).map cv) 0 cur.toArray w hg (by rw [hlen]; simpa using hfit) (by
  intro v hv; obtain ⟨x, _, rfl⟩ := List.mem_map.1 hv; rfl)
 rw [hlen] at hst
 simp only [Nat.add_zero] at hst
 have htk : (Array.map (fun b : UInt8 => Value.int IntKind.u8 (b.toNat : Int)) (s.extract 0 n).data).toList = (s.data.toList.take n).map cv := by
  simp only [Array.toList_map, ByteArray.data_extract, Array.toList_extract, List.extract_eq_take_drop, List.drop_zero, Nat.sub_zero]; rfl
 cases hq : P.info? elem with
 | none => simp [hq] at hs
 | some i =>
  simp only [Builtin.copy_, Sem.run_bind, run_underlying hu, Result.andThen_ok, Builtin.lenOf, Builtin.firstCells, Sem.run_pure, hn, List.getElem?_toArray, List.getElem?_cons_zero, List.getElem?_cons_succ]
  rw [htk]
  simp [sizeOf, typeInfo, hq, hst, -List.map_take]
def strLen : Value → Nat
 | .string s => s.size
 | _ => 0
def qaz (s : ByteArray) : List UInt8 := s.data.toList
theorem qaQ (s : ByteArray) : (qaz s).length = s.size := rfl
theorem bytesOf_extract (s : ByteArray) (n : Nat) : qaz (s.extract n s.size) = (qaz s).drop n := by
 unfold qaz
 simp only [ByteArray.data_extract, Array.toList_extract, List.extract_eq_take_drop]
 exact List.take_of_length_le (by rw [List.length_drop]; exact Nat.le_refl _)
theorem qcX (s : ByteArray) (n : Nat) : (s.extract n s.size).size = s.size - n := by simp
theorem qcH : Tryz.prog.underlying 89 = some (.slice 5) := by kernel_rfl
section
attribute [local go_sem] U_and U_or qej U_not U_add qbC
attribute [local go_sem ↓] Go.wp_at_zero Go.wp_at_succ
set_option maxRecDepth 100000 in
set_option maxHeartbeats 4000000 in
theorem write_any (b : Nat) (T : TypeId) (H : HS) (s : ByteArray) (w : World) (h : Has w b T H) (hK : Tab w) (hb0 : 9 ≠ b) (hs : s.size ≤ maxLen) :
  Calls Tryz.prog 82 #[.pointer (some ⟨b, 0, none⟩), .string s] w fun e w' => e = .returned (.tuple #[]) ∧ Has w' b T (H.puts (qaz s)) ∧ qcv b w w' := by
 unfold maxLen at hs
 have HH : Hid (Has w b T H) := h
 have HK : Hid (Tab w) := hK
 clear h hK
 go_enter Tryz.func82, Tryz.ntmps82
 go_wp2_with fail
 go_loopw [1] (fun v wr => ∃ (t : ByteArray) (J : HS), v = .string t ∧ t.size ≤ 9223372036854775807 ∧ Hid (J.puts (qaz t) = H.puts (qaz s)) ∧ Hid (Has wr b T J) ∧ Hid (qcv b w wr)) (fun v _ => strLen v)
 case atStart => exact ⟨s, H, rfl, hs, rfl, HH, qcv.refl _ _⟩
 case round =>
  obtain ⟨t, J, rfl, ht, HJ, hJ, hT⟩ := hrel
  by_cases hpos : 0 < t.size
  ·
   obtain ⟨f, hf⟩ : ∃ f, f = J.filled := ⟨_, rfl⟩
   have hf1 : f < 128 := by rw [hf]; exact J.filled_lt
   obtain ⟨n, hn⟩ : ∃ n, n = Nat.min t.size (128 - f) := ⟨_, rfl⟩
   have hn1 : n ≤ t.size := by rw [hn]; exact Nat.min_le_left _ _
   have hn2 : n ≤ 128 - f := by rw [hn]; exact Nat.min_le_right _ _
   have hn0 : 0 < n := by rw [hn]; exact Nat.lt_min.2 ⟨hpos, by omega⟩
   have hsl := qco b 8 (f : Int) f rfl hf1
   obtain ⟨X, hX⟩ : ∃ X, X = J.row.take (8 + f) ++ ((qaz t).take n).map cv ++ J.row.drop (8 + f + n) := ⟨_, rfl⟩
   have hcp : (Builtin.copy_ #[89, 9] 3 #[.slice (some ⟨b, 8 + f, none⟩) (128 - f) (128 - f), .string t]).run Tryz.prog wr.drew = .ok (goInt n) (wr.drew.setRow b X.toArray) := by
    rw [hX]
    exact run_copy_str wr.drew _ _ _ 5 b (8 + f) (128 - f) (128 - f) t J.row T n qcH qdG hJ.out.heap hn.symm (by rw [J.row_length hJ.out.len]; omega)
   have HX : Hid (X = J.row.take (8 + f) ++ ((qaz t).take n).map cv ++ J.row.drop (8 + f + n)) := hX
   have HF : Hid (f = J.filled) := hf
   clear hX hf hn
   go_wp2_with fail
   go_region_held3 (fun w' => w'.heap = wr.heap ∨ w'.heap = (wr.setRow b X.toArray).heap) (first | exact Or.inl rfl | exact Or.inr rfl)
    (first | (go_at_call 125; refine (filled_any b T J wr.drew ⟨hJ.out.heap, hJ.out.len⟩).mono ?_; rintro e w' ⟨rfl, rfl⟩; rw [← HF.out]))
   obtain ⟨W1, hW1⟩ : ∃ W1, W1 = wr.drew.setRow b X.toArray := ⟨_, rfl⟩
   rw [← hW1]
   obtain ⟨J1, hJ1⟩ : ∃ J1 : HS, J1 = { J with blk := splice J.blk f ((qaz t).take n) } := ⟨_, rfl⟩
   have hl : ((qaz t).take n).length = n := by rw [List.length_take, qaQ]; omega
   have hA1 : Hid (Has W1 b T J1) := by
    refine ⟨?_, ?_⟩
    ·
     rw [hW1, setRow_heap wr.drew b _ X.toArray T (0, 0) hJ.out.heap, HX.out, hJ1]
     have e := J.row_splice f ((qaz t).take n) (by rw [hl, hJ.out.len]; omega)
     rw [hl] at e
     rw [e]
    · rw [hJ1]; exact (length_splice _ _ _ (by rw [hl, hJ.out.len]; omega)).trans hJ.out.len
   have hT1 : Hid (qcv b w W1) := by
    rw [hW1]
    exact hT.out.trans ⟨rfl, rfl, rfl, by simp, fun k _ hk => setRow_other wr.drew b k _ hk⟩
   have HC : Hid ((J1.count n).done.puts (qaz (t.extract n t.size)) = H.puts (qaz s)) := by
    show _ = _
    rw [bytesOf_extract, ← HJ.out]
    have e1 : (J1.count n).done = J.chunk ((qaz t).take n) := by
     unfold HS.chunk; rw [hl, ← HF.out, hJ1]; rfl
    rw [e1, HS.chunk_puts _ J (by intro e; rw [e] at hl; simp at hl; omega) hJ.out.len (by rw [hl, ← HF.out]; omega), ← HS.puts_append, List.take_append_drop]
   clear hW1 hJ1 hcp hsl hJ hT HX HJ HF
   go_wp2_with fail
   refine (count_any b T J1 _ n (by omega) (by omega) W1 hA1.out).mono ?_
   rintro e W2 ⟨rfl, hA2, hT2⟩
   have hA2' : Hid (Has W2 b T (J1.count n)) := hA2
   have hT2' : Hid (qcv b w W2) := hT1.out.trans hT2
   clear hA2 hT2 hA1 hT1
   go_wp2_with fail
   refine (filled_any b T (J1.count n) W2 hA2'.out).mono ?_
   rintro e w' ⟨rfl, rfl⟩
   by_cases h0 : (J1.count n).filled = 0
   ·
    have hq : (((J1.count n).filled : Int) == 0) = true := by rw [h0]; rfl
    have HD : Hid ((J1.count n).done = (J1.count n).mix) := by show _ = _; unfold HS.done; rw [if_pos h0]
    clear h0
    go_wp2_with fail
    refine (qb2 b T (J1.count n) w' hA2'.out (HK.out.turn hT2'.out hb0) hb0).mono ?_
    rintro e W3 ⟨rfl, hA3, hT3⟩
    rw [HD.out] at HC
    have hA3' : Hid (Has W3 b T (J1.count n).mix) := hA3
    have hT3' : Hid (qcv b w W3) := hT2'.out.trans hT3
    clear hA3 hT3 hA2' hT2'
    go_wp2_with fail
    go_roundw
    case rel => exact ⟨_, _, rfl, by rw [qcX]; omega, HC, hA3', hT3'⟩
    case measure => simp only [strLen, qcX]; omega
   ·
    have hq : (((J1.count n).filled : Int) == 0) = false := by simpa using h0
    have HD : Hid ((J1.count n).done = J1.count n) := by show _ = _; unfold HS.done; rw [if_neg h0]
    clear h0
    rw [HD.out] at HC
    go_wp2_with fail
    go_roundw
    case rel => exact ⟨_, _, rfl, by rw [qcX]; omega, HC, hA2', hT2'⟩
    case measure => simp only [strLen, qcX]; omega
  ·
   have h0 : t.size = 0 := by omega
   have hb : qaz t = [] := List.eq_nil_of_length_eq_zero h0
   have HE : Hid (J = H.puts (qaz s)) := by have := HJ.out; rw [hb] at this; exact this
   have hp : ¬ (0 : Int) < (t.size : Int) := by omega
   clear hpos h0 hb HJ
   go_wp2_with fail
   go_end0
   exact ⟨rfl, by rw [← HE.out]; exact hJ.out, hT.out⟩
end
theorem zeroU8 (w : World) : (zeroValue 5).run Tryz.prog w = .ok (.int .u8 0) w := by kernel_rfl
theorem zeroCells_u8 (n : Nat) : (Builtin.zeroCells (Value.int .u8 0).cells n).toList = (List.replicate n (0 : UInt8)).map cv := by
 have e : (Value.int .u8 0).cells = #[Value.int .u8 0] := rfl
 rw [e]
 unfold Builtin.zeroCells
 apply List.ext_getElem?
 intro i
 by_cases hi : i < n
 ·
  have h1 : i % 1 = 0 := Nat.mod_one i
  simp [hi]
  rw [h1]; rfl
 · simp [hi]
theorem qdP (w : World) (ty : TypeId) (g o n cap : Nat) (cur : List Value) (t : TypeId) (hn : 0 < n) (hg : w.heap[g]? = some (.cells cur.toArray t (0, 0))) (hfit : o + n ≤ cur.length) :
  (Builtin.clear_ #[89] ty #[.slice (some ⟨g, o, none⟩) n cap]).run Tryz.prog w =
   .ok (.tuple #[]) (w.setRow g (cur.take o ++ (List.replicate n (0 : UInt8)).map cv ++ cur.drop (o + n)).toArray) := by
 obtain ⟨m, rfl⟩ : ∃ m, n = m + 1 := ⟨n - 1, by omega⟩
 have hlen : ((List.replicate (m + 1) (0 : UInt8)).map cv).length = m + 1 := by simp
 have hst := run_storeCells_at Tryz.prog g o t ((List.replicate (m + 1) (0 : UInt8)).map cv) 0 cur.toArray w hg (by rw [hlen]; simpa using hfit) (by
  intro v hv; obtain ⟨x, _, rfl⟩ := List.mem_map.1 hv; rfl)
 rw [hlen] at hst
 simp only [Nat.add_zero] at hst
 simp only [Builtin.clear_, Sem.run_bind, run_underlying qcH, Result.andThen_ok, Sem.run_pure, List.getElem?_toArray, List.getElem?_cons_zero]
 simp only [zeroU8, Result.andThen_ok, zeroCells_u8]
 rw [hst]
 rfl
theorem run_clear_none (w : World) (ty : TypeId) (a : Option Addr) (cap : Nat) : (Builtin.clear_ #[89] ty #[.slice a 0 cap]).run Tryz.prog w = .ok (.tuple #[]) w := by
 cases a <;> simp [Builtin.clear_, run_underlying qcH]
theorem slice128_end (b o : Nat) (w : World) :
  (Instr.sliceAt 164 (.pointer (some ⟨b, o, none⟩)) (some (.int .i64 128)) none none).run Tryz.prog w = .ok (.slice (some ⟨b, o, none⟩) 0 0) w := by
 cases hq : Tryz.prog.info? 5 with
 | none => have := qdG; rw [hq] at this; cases this
 | some i =>
  have hi : i.size = 1 := by have := qdG; rw [hq] at this; simpa using this
  simp [Instr.sliceAt, Instr.sureAddr, run_underlying under128, Instr.sliceBounds, run_sliceBound, sizeOf, typeInfo, hq, hi]
theorem slice128_all (b o : Nat) (w : World) :
  (Instr.sliceAt 164 (.pointer (some ⟨b, o, none⟩)) none none none).run Tryz.prog w = .ok (.slice (some ⟨b, o, none⟩) 128 128) w := by
 cases hq : Tryz.prog.info? 5 with
 | none => have := qdG; rw [hq] at this; cases this
 | some i =>
  simp [Instr.sliceAt, Instr.sureAddr, run_underlying under128, Instr.sliceBounds, sizeOf, typeInfo, hq, Addr.add]
def layB (l : List UInt8) (off : Nat) (x : BitVec 64) : Nat → List UInt8
 | 0 => l
 | k + 1 => (layB l off x k).set (off + k) (qbT x k)
theorem qeg (l : List UInt8) (off : Nat) (x : BitVec 64) (k : Nat) : (layB l off x k).length = l.length := by
 induction k with
 | zero => rfl
 | succ k ih => simp [layB, ih]
theorem lay_row (H : HS) (off : Nat) (x : BitVec 64) (k : Nat) (h : off + k ≤ H.blk.length) : lay H.row (8 + off) x k = ({ H with blk := layB H.blk off x k } : HS).row := by
 induction k with
 | zero => cases H; rfl
 | succ k ih =>
  have e := HS.set_blk { H with blk := layB H.blk off x k } (off + k) (by show _ < (layB H.blk off x k).length; rw [qeg]; omega) (qbT x k)
  show (lay H.row (8 + off) x k).set (8 + off + k) (cv (qbT x k)) = _
  rw [ih (by omega), Nat.add_assoc, e]
  rfl
def be8 (x : BitVec 64) : List UInt8 := [qbT x 0, qbT x 1, qbT x 2, qbT x 3, qbT x 4, qbT x 5, qbT x 6, qbT x 7]
theorem layB_all (l : List UInt8) (off : Nat) (x : BitVec 64) (h : off + 8 ≤ l.length) : layB l off x 8 = l.take off ++ (be8 x ++ l.drop (off + 8)) := by
 apply List.ext_getElem?
 intro i
 have ht : (l.take off).length = off := by simp; omega
 by_cases h1 : i < off
 ·
  rw [List.getElem?_append_left (by omega), List.getElem?_take, if_pos h1]
  simp only [layB]
  rw [List.getElem?_set_ne (by omega), List.getElem?_set_ne (by omega), List.getElem?_set_ne (by omega), List.getElem?_set_ne (by omega), List.getElem?_set_ne (by omega), List.getElem?_set_ne (by omega), List.getElem?_set_ne (by omega), List.getElem?_set_ne (by omega)]
 ·
  obtain ⟨j, rfl⟩ : ∃ j, i = off + j := ⟨i - off, by omega⟩
  rw [List.getElem?_append_right (by omega), ht, Nat.add_sub_cancel_left]
  by_cases h2 : j < 8
  ·
   rw [List.getElem?_append_left (by exact h2)]
   have hj : j = 0 ∨ j = 1 ∨ j = 2 ∨ j = 3 ∨ j = 4 ∨ j = 5 ∨ j = 6 ∨ j = 7 := by omega
   have hl : ∀ k, k < 8 → off + k < l.length := fun k hk => by omega
   have hl0 : off < l.length := by omega
   rcases hj with rfl | rfl | rfl | rfl | rfl | rfl | rfl | rfl <;> simp [layB, be8, hl, hl0]
  ·
   rw [List.getElem?_append_right (by show 8 ≤ j; omega), List.getElem?_drop]
   simp only [layB]
   have e : off + 8 + (j - (be8 x).length) = off + j := by show off + 8 + (j - 8) = _; omega
   rw [e, List.getElem?_set_ne (by omega), List.getElem?_set_ne (by omega), List.getElem?_set_ne (by omega), List.getElem?_set_ne (by omega), List.getElem?_set_ne (by omega), List.getElem?_set_ne (by omega), List.getElem?_set_ne (by omega), List.getElem?_set_ne (by omega)]
def HS.marked (H : HS) : HS := { H with blk := H.blk.take H.filled ++ (128 :: List.replicate (127 - H.filled) 0) }
noncomputable def HS.roomed (H : HS) : HS := if 112 ≤ H.filled then { H.marked.mix with blk := List.replicate 128 0 } else H.marked
def HS.hi3 (H : HS) : BitVec 64 := H.hi <<< 3 ||| H.lo >>> 61
def HS.lo3 (H : HS) : BitVec 64 := H.lo <<< 3
noncomputable def HS.ended (H : HS) : HS := HS.mix { H.roomed with blk := layB (layB H.roomed.blk 112 H.hi3 8) 120 H.lo3 8 }
theorem HS.marked_length (H : HS) (h : H.blk.length = 128) : H.marked.blk.length = 128 := by
 have := H.filled_lt
 simp [HS.marked, h]; omega
theorem HS.roomed_n (H : HS) : H.roomed.n = H.n := by
 unfold HS.roomed; split <;> cases H <;> rfl
end Go.Proofs.YtccgfabojbjmjaaGreatDoor
