import Derived.Test.YtccgfabojbjmjaaGreatDoorPx14
import Derived.Deep.RegionHeld3
import Derived.Deep.CutRange
import Derived.Deep.QuietTactic
import Derived.BigQuiet
namespace Go.Proofs.YtccgfabojbjmjaaGreatDoor
open Go.RowKit
def fc (x i : Nat) : Int := (fd x).getD i 0
theorem fd_list (x : Nat) : fd x = [fc x 0, fc x 1, fc x 2, fc x 3, fc x 4, fc x 5, fc x 6, fc x 7, fc x 8, fc x 9] := by
 have h := fd_length x
 unfold fc
 generalize fd x = l at *
 match l, h with
 | [a0, a1, a2, a3, a4, a5, a6, a7, a8, a9], _ => rfl
theorem fA_list (x : Nat) : fA x = #[iv (fc x 0), iv (fc x 1), iv (fc x 2), iv (fc x 3), iv (fc x 4), iv (fc x 5), iv (fc x 6), iv (fc x 7), iv (fc x 8), iv (fc x 9)] := by
 unfold fA; rw [fd_list]; rfl
theorem fold10 (x : Nat) : Value.agg #[.int .i64 (fc x 0), .int .i64 (fc x 1), .int .i64 (fc x 2), .int .i64 (fc x 3), .int .i64 (fc x 4), .int .i64 (fc x 5), .int .i64 (fc x 6), .int .i64 (fc x 7), .int .i64 (fc x 8), .int .i64 (fc x 9)] = .agg (fA x) := by
 rw [fA_list]
theorem range_below {w w' : World} {b o B : Nat} {cs : List Value} (h : w.rangeAt b o cs) (hB : Below B w w') (hb : b < B) : w'.rangeAt b o cs :=
 fun j v hv => (hB.cell hb).trans (h j v hv)
theorem foldOne : Value.agg #[.int .i64 1, .int .i64 0, .int .i64 0, .int .i64 0, .int .i64 0, .int .i64 0, .int .i64 0, .int .i64 0, .int .i64 0, .int .i64 0] = .agg (fA 1) := by
 rw [fA_small 1 (by decide)]; rfl
def rxD (a : Nat) : Nat → Nat
 | 0 => mP (sqN 1 (onesN a 251)) 1
 | k + 1 => mP (rxD a k) m1D
section
attribute [local irreducible] fA fc m1D
attribute [local go_sem] foldOne fold10
end
section
attribute [local irreducible] fA fc
attribute [local go_sem] fold10
end
section
attribute [local go_sem] U_and U_or U_xor U_not U_add U_add_one
attribute [local go_sem ↓] Go.wp_at_zero Go.wp_at_succ
def z8 : Array Value := ((List.replicate 8 (0#64)).map uv).toArray
def z80 : Array Value := (wrow []).toArray
def w8 (s : S8) : List Value := s.words.map uv
theorem mix_world1 {b : Nat} {w w1 W1 : World} {cs : List Value} {R : List Value} {Z : Array Value} {t : TypeId} (hb1 : Below w.heap.size w w1) (hb : b < w.heap.size) (hT : w1.rangeAt b 0 cs)
  (hW1 : W1 = (w1.alloc (.cells Z t)).setRow w1.heap.size R.toArray) :
  Hid (Below w.heap.size w W1 ∧ w1.heap.size < W1.heap.size ∧ W1.heap[w1.heap.size]? = some (.cells R.toArray t (0, 0)) ∧ W1.rangeAt b 0 cs) := by
 subst hW1
 refine ⟨below_setRow (hb1.alloc hb1.size _) hb1.size _, by simp, setRow_heap _ _ _ _ _ _ (heap_alloc_new _ _), fun j v hv => ?_⟩
 have := hb1.size
 rw [cell_setRow_other _ _ _ _ (by show b ≠ _; omega), World.cell?_alloc_lt _ _ _ (by show b < _; omega)]
 exact hT j v hv
theorem mix_world2 {b g : Nat} {w W1 W2 : World} {cs : List Value} {R X : List Value} {Z : Array Value} {t t' : TypeId}
  (h : Below w.heap.size w W1 ∧ g < W1.heap.size ∧ W1.heap[g]? = some (.cells R.toArray t (0, 0)) ∧ W1.rangeAt b 0 cs)
  (hW2 : W2 = (W1.alloc (.cells Z t')).setRow W1.heap.size X.toArray) :
  Hid (Below w.heap.size w W2 ∧ W2.heap[g]? = some (.cells R.toArray t (0, 0)) ∧ W2.heap[W1.heap.size]? = some (.cells X.toArray t' (0, 0)) ∧ W2.heap.size = W1.heap.size + 1) := by
 subst hW2
 obtain ⟨h1, h2, h3, h4⟩ := h
 refine ⟨below_setRow (h1.alloc h1.size _) h1.size _, ?_, setRow_heap _ _ _ _ _ _ (heap_alloc_new _ _), by simp⟩
 rw [setRow_other _ _ _ _ (by omega), heap_alloc_old _ _ h2]; exact h3
theorem w8_cell {W : World} {g : Nat} {s : S8} {t : TypeId} (h : W.heap[g]? = some (.cells (w8 s).toArray t (0, 0))) (i : Nat) (hi : i < 8) : W.cell? ⟨g, i, none⟩ = some (.int .u64 (U (s.words.getD i 0))) := by
 rw [cell_of_row W g i _ _ _ h]
 have : i < s.words.length := hi
 simp [w8, this]
theorem index8_0 (s : S8) (w : World) : (Instr.index 163 (.agg #[.int .u64 (U s.a), .int .u64 (U s.b), .int .u64 (U s.c), .int .u64 (U s.d), .int .u64 (U s.e), .int .u64 (U s.f), .int .u64 (U s.g), .int .u64 (U s.h)]) (.int .i64 0)).run Tryz.prog w = .ok (.int .u64 (U s.a)) w := by kernel_rfl
theorem index8_1 (s : S8) (w : World) : (Instr.index 163 (.agg #[.int .u64 (U s.a), .int .u64 (U s.b), .int .u64 (U s.c), .int .u64 (U s.d), .int .u64 (U s.e), .int .u64 (U s.f), .int .u64 (U s.g), .int .u64 (U s.h)]) (.int .i64 1)).run Tryz.prog w = .ok (.int .u64 (U s.b)) w := by kernel_rfl
theorem index8_2 (s : S8) (w : World) : (Instr.index 163 (.agg #[.int .u64 (U s.a), .int .u64 (U s.b), .int .u64 (U s.c), .int .u64 (U s.d), .int .u64 (U s.e), .int .u64 (U s.f), .int .u64 (U s.g), .int .u64 (U s.h)]) (.int .i64 2)).run Tryz.prog w = .ok (.int .u64 (U s.c)) w := by kernel_rfl
theorem index8_3 (s : S8) (w : World) : (Instr.index 163 (.agg #[.int .u64 (U s.a), .int .u64 (U s.b), .int .u64 (U s.c), .int .u64 (U s.d), .int .u64 (U s.e), .int .u64 (U s.f), .int .u64 (U s.g), .int .u64 (U s.h)]) (.int .i64 3)).run Tryz.prog w = .ok (.int .u64 (U s.d)) w := by kernel_rfl
theorem index8_4 (s : S8) (w : World) : (Instr.index 163 (.agg #[.int .u64 (U s.a), .int .u64 (U s.b), .int .u64 (U s.c), .int .u64 (U s.d), .int .u64 (U s.e), .int .u64 (U s.f), .int .u64 (U s.g), .int .u64 (U s.h)]) (.int .i64 4)).run Tryz.prog w = .ok (.int .u64 (U s.e)) w := by kernel_rfl
theorem index8_5 (s : S8) (w : World) : (Instr.index 163 (.agg #[.int .u64 (U s.a), .int .u64 (U s.b), .int .u64 (U s.c), .int .u64 (U s.d), .int .u64 (U s.e), .int .u64 (U s.f), .int .u64 (U s.g), .int .u64 (U s.h)]) (.int .i64 5)).run Tryz.prog w = .ok (.int .u64 (U s.f)) w := by kernel_rfl
theorem index8_6 (s : S8) (w : World) : (Instr.index 163 (.agg #[.int .u64 (U s.a), .int .u64 (U s.b), .int .u64 (U s.c), .int .u64 (U s.d), .int .u64 (U s.e), .int .u64 (U s.f), .int .u64 (U s.g), .int .u64 (U s.h)]) (.int .i64 6)).run Tryz.prog w = .ok (.int .u64 (U s.g)) w := by kernel_rfl
theorem index8_7 (s : S8) (w : World) : (Instr.index 163 (.agg #[.int .u64 (U s.a), .int .u64 (U s.b), .int .u64 (U s.c), .int .u64 (U s.d), .int .u64 (U s.e), .int .u64 (U s.f), .int .u64 (U s.g), .int .u64 (U s.h)]) (.int .i64 7)).run Tryz.prog w = .ok (.int .u64 (U s.h)) w := by kernel_rfl
theorem index8 (s : S8) (j : Nat) (hj : j < 8) : ∀ w, (Instr.index 163 (.agg #[.int .u64 (U s.a), .int .u64 (U s.b), .int .u64 (U s.c), .int .u64 (U s.d), .int .u64 (U s.e), .int .u64 (U s.f), .int .u64 (U s.g), .int .u64 (U s.h)]) (.int .i64 j)).run Tryz.prog w = .ok (.int .u64 (U (s.words.getD j 0))) w := by
 intro w
 have h : j = 0 ∨ j = 1 ∨ j = 2 ∨ j = 3 ∨ j = 4 ∨ j = 5 ∨ j = 6 ∨ j = 7 := by omega
 rcases h with rfl | rfl | rfl | rfl | rfl | rfl | rfl | rfl
 · exact index8_0 s w
 · exact index8_1 s w
 · exact index8_2 s w
 · exact index8_3 s w
 · exact index8_4 s w
 · exact index8_5 s w
 · exact index8_6 s w
 · exact index8_7 s w
theorem rnds_succ (l : List (BitVec 64)) (s : S8) (n : Nat) : rnds l s (n + 1) = stepW (kw n) (l.getD n 0) (rnds l s n) := rfl
theorem addTo_succ (s t : S8) (k : Nat) : addTo s t (k + 1) = (addTo s t k).set k (s.words.getD k 0 + t.words.getD k 0) := rfl
theorem row_start (H : HS) (t : S8) : H.row = rowLH (addTo H.st t 0) H := rfl
theorem row_mix (H : HS) (l : List (BitVec 64)) (h : l = sch H.blk 64) : H.mix.row = rowLH (H.st.add (rnds l H.st 80)).words H := by
 rw [← sch64_eq] at h; subst h; rw [← rnd80_eq]; cases H; rfl
theorem blk_mix (H : HS) : H.mix.blk = H.blk := by cases H; rfl
theorem cell_store_other {w : World} {g g' i j : Nat} {v u : Value} (h : w.cell? ⟨g, i, none⟩ = some u) (hne : g' ≠ g) : (w.setCell ⟨g', j, none⟩ v).drew.cell? ⟨g, i, none⟩ = some u := by
 rw [World.cell?_drew, World.cell?_setCell_other _ _ _ _ (by intro e; exact hne (congrArg Addr.block e))]; exact h
set_option maxRecDepth 100000 in
set_option maxHeartbeats 4000000 in
theorem mixBlock_any (b : Nat) (T : TypeId) (H : HS) (w : World) (h : Has w b T H) (hK : Tab w) (_hb0 : 9 ≠ b) :
  Calls Tryz.prog 127 #[.pointer (some ⟨b, 0, none⟩)] w fun e w' => e = .returned (.tuple #[]) ∧ Has w' b T H.mix ∧ Turn b w w' := by
 have hz : ∀ w, (zeroValue 257).run Tryz.prog w = .ok (.agg z80) w := zero80
 have hz8 : ∀ w, (zeroValue 163).run Tryz.prog w = .ok (.agg z8) w := zero8
 have HH : Hid (Has w b T H) := h
 have HK : Hid (Tab w) := hK
 have hb : b < w.heap.size := h.lt
 clear h hK
 go_enter Tryz.func127, Tryz.ntmps127
 go_wp2_with fail
 refine (spread_any b T H w HH.out).mono ?_
 rintro e w1 ⟨rfl, hb1⟩
 obtain ⟨L, HL⟩ : ∃ L, Hid (L = sch H.blk 64) := ⟨_, rfl⟩
 rw [← HL.out]
 have HLL : Hid (L.length = 80) := by rw [HL.out]; exact sch_length _ _
 obtain ⟨R, HR⟩ : ∃ R, Hid (R = wrow L) := ⟨_, rfl⟩
 rw [← HR.out]
 have HSz : Hid ((Tryz.prog.info? 257).map (·.size) = some R.toArray.size) := by show _ = _; rw [size80, HR.out]; simp [wrow_length, HLL.out]
 have HO : Hid (z80.size = R.toArray.size) := by show _ = _; rw [HR.out]; simp [z80, wrow_length, HLL.out]
 have HA : Hid (R.toArray.all (·.oneCell') = true) := by rw [HR.out]; exact all_oneCell_toArray (wrow_cell _)
 have HT : Hid (w1.rangeAt b 0 (w8 H.st)) := by
  intro j v hv
  have hj : j < 8 := by simp only [w8, S8.words, List.getElem?_map] at hv; rcases Nat.lt_or_ge j 8 with g | g; exact g; rw [List.getElem?_eq_none (by simpa using g)] at hv; cases hv
  rw [Nat.zero_add, (hb1.cell (by exact hb) : w1.cell? ⟨b, j, none⟩ = w.cell? ⟨b, j, none⟩), HH.out.cell j]
  unfold HS.row at *; rw [List.getElem?_append_left (by simpa [S8.words] using hj)]; exact hv
 go_wp2_with (first
  | (refine wpList_store_row (by rfl) 257 (.tmp 2) (.tmp 18) (by rfl) w1.heap.size R.toArray (by rfl) (by rfl) 257 _ (heap_alloc_new _ _) HSz.out HO.out HA.out ?_; (obtain ⟨W1, hW1⟩ : ∃ W1, W1 = (w1.alloc (.cells z80 257)).setRow w1.heap.size R.toArray := ⟨_, rfl⟩); rw [← hW1]; have F1 := mix_world1 hb1 hb HT.out hW1; clear hW1)
  | (refine wpList_load_mid (by rfl) 163 (.tmp 21) (by rfl) b 0 (by rfl) (w8 H.st) _ F1.out.2.2.2 under8 rfl size8 ?_)
  | (refine wpList_store_row (by rfl) 163 (.tmp 3) (.tmp 22) (by rfl) W1.heap.size (w8 H.st).toArray (by rfl) (by rfl) 163 _ (heap_alloc_new _ _) size8 (by rfl) (by exact all_oneCell_toArray (words_cell _)) ?_; (obtain ⟨W2, hW2⟩ : ∃ W2, W2 = (W1.alloc (.cells z8 163)).setRow W1.heap.size (w8 H.st).toArray := ⟨_, rfl⟩); rw [← hW2]; have F2 := mix_world2 F1.out hW2; clear hW2))
 obtain ⟨g1, hg1⟩ : ∃ g1, g1 = w1.heap.size := ⟨_, rfl⟩
 obtain ⟨g2, hg2⟩ : ∃ g2, g2 = W1.heap.size := ⟨_, rfl⟩
 have F3 : Hid (Below w.heap.size w W2 ∧ W2.heap[g1]? = some (.cells R.toArray 257 (0, 0)) ∧ W2.heap[g2]? = some (.cells (w8 H.st).toArray 163 (0, 0)) ∧ w.heap.size ≤ g1 ∧ w.heap.size ≤ g2 ∧ g1 < g2) := by
  rw [hg1, hg2]; exact ⟨F2.out.1, F2.out.2.1, F2.out.2.2.1, hb1.size, F1.out.1.size, F1.out.2.1⟩
 rw [← hg1, ← hg2]
 clear hg1 hg2 F1 F2 hb1 HT HA HO HSz hz hz8
 have c0 : W2.cell? ⟨g2, 0, none⟩ = some (.int .u64 (U H.st.a)) := w8_cell F3.out.2.2.1 0 (by omega)
 have c1 : W2.cell? ⟨g2, 1, none⟩ = some (.int .u64 (U H.st.b)) := w8_cell F3.out.2.2.1 1 (by omega)
 have c2 : W2.cell? ⟨g2, 2, none⟩ = some (.int .u64 (U H.st.c)) := w8_cell F3.out.2.2.1 2 (by omega)
 have c3 : W2.cell? ⟨g2, 3, none⟩ = some (.int .u64 (U H.st.d)) := w8_cell F3.out.2.2.1 3 (by omega)
 have c4 : W2.cell? ⟨g2, 4, none⟩ = some (.int .u64 (U H.st.e)) := w8_cell F3.out.2.2.1 4 (by omega)
 have c5 : W2.cell? ⟨g2, 5, none⟩ = some (.int .u64 (U H.st.f)) := w8_cell F3.out.2.2.1 5 (by omega)
 have c6 : W2.cell? ⟨g2, 6, none⟩ = some (.int .u64 (U H.st.g)) := w8_cell F3.out.2.2.1 6 (by omega)
 have c7 : W2.cell? ⟨g2, 7, none⟩ = some (.int .u64 (U H.st.h)) := w8_cell F3.out.2.2.1 7 (by omega)
 go_quiet (fail)
 clear c0 c1 c2 c3 c4 c5 c6 c7
 go_wp2_with fail
 go_loopw [4, 5, 6, 7, 8, 9, 10, 11, 39] (fun va vb vc vd ve vf vg vh i wr => ∃ (k : Nat) (s : S8), k ≤ 80 ∧ Hid (s = rnds L H.st k) ∧ i = .int .i64 k ∧ va = .int .u64 (U s.a) ∧ vb = .int .u64 (U s.b) ∧ vc = .int .u64 (U s.c) ∧ vd = .int .u64 (U s.d) ∧
   ve = .int .u64 (U s.e) ∧ vf = .int .u64 (U s.f) ∧ vg = .int .u64 (U s.g) ∧ vh = .int .u64 (U s.h) ∧
   Hid (Below w.heap.size w wr ∧ wr.heap[g1]? = some (.cells R.toArray 257 (0, 0)) ∧ wr.heap[g2]? = some (.cells (w8 H.st).toArray 163 (0, 0)) ∧ w.heap.size ≤ g1 ∧ w.heap.size ≤ g2 ∧ g1 < g2)) (fun _ _ _ _ _ _ _ _ i _ => 80 - (intOf i).toNat)
 case atStart => exact ⟨0, H.st, Nat.zero_le _, rfl, rfl, rfl, rfl, rfl, rfl, rfl, rfl, rfl, rfl, ⟨⟨F3.out.1.os, F3.out.1.tape, F3.out.1.output, F3.out.1.size, F3.out.1.block⟩, F3.out.2⟩⟩
 case round =>
  clear F3
  obtain ⟨k, s, hk, hs, rfl, rfl, rfl, rfl, rfl, rfl, rfl, rfl, rfl, F3⟩ := hrel
  by_cases hlt : k < 80
  ·
   have bk : (k : Int) < 80 := by omega
   have hck : wr.cell? ⟨9, k, none⟩ = some (.int .u64 (U (kw k))) := HK.out.below F3.out.1 (by have := HK.out.lt; omega) k hlt
   have hcw : wr.cell? ⟨g1, k, none⟩ = some (.int .u64 (U (L.getD k 0))) := by
    have := F3.out.2.1; rw [HR.out] at this
    exact wcell this k (by rw [HLL.out]; exact hlt)
   generalize hww : L.getD k 0 = ww at hcw
   have HN : Hid (stepW (kw k) ww s = rnds L H.st (k + 1)) := by show _ = _; rw [rnds_succ, hs.out, ← hww]
   clear hww
   generalize kw k = kk at *
   go_wp2_with fail
   go_quiet (first | (go_at_call 154; exact Calls.quiet_of_same (bigSigma1_any _ _)) | (go_at_call 155; exact Calls.quiet_of_same (choose_any _ _ _ _)))
   go_wp2_with (first | (go_at_call 156; refine (bigSigma0_any _ _).mono ?_; rintro e w' ⟨rfl, rfl⟩) | (go_at_call 157; refine (majority_any _ _ _ _).mono ?_; rintro e w' ⟨rfl, rfl⟩))
   go_roundw
   case rel => exact ⟨k + 1, stepW kk ww s, by omega, HN.out, by go_num, rfl, rfl, rfl, rfl, rfl, rfl, rfl, rfl, ⟨⟨F3.out.1.os, F3.out.1.tape, F3.out.1.output, F3.out.1.size, F3.out.1.block⟩, F3.out.2⟩⟩
   case measure => simp [intOf]; omega
  ·
   have hk80 : k = 80 := by omega
   have hk' : (80 : Int) ≤ (k : Int) := by omega
   have hs' : Hid (s = rnds L H.st 80) := by have := hs.out; rw [hk80] at this; exact this
   clear hs hk80 hlt hk
   go_wp2_with fail
   have HG : Hid (w.heap.size ≤ g2) := F3.out.2.2.2.2.1
   go_loopw [88] (fun i wr => ∃ j : Nat, j ≤ 8 ∧ i = .int .i64 j ∧ Hid (wr.heap[b]? = some (.cells (rowLH (addTo H.st s j) H).toArray T (0, 0))) ∧ Hid (wr.heap[g2]? = some (.cells (w8 H.st).toArray 163 (0, 0))) ∧ Hid (Turn b w wr)) (fun i _ => 8 - (intOf i).toNat)
   case atStart => exact ⟨0, Nat.zero_le _, rfl, by rw [← row_start]; exact (F3.out.1.block b hb).trans HH.out.heap, F3.out.2.2.1, Turn.of_below F3.out.1⟩
   case round =>
    clear F3
    obtain ⟨j, hj, rfl, hr, hr2, ht⟩ := hrel
    by_cases hlt : j < 8
    ·
     have bj : (j : Int) < 8 := by omega
     have hidx := index8 s j hlt
     have hc2 := w8_cell hr2.out j hlt
     have hcb : wr.cell? ⟨b, j, none⟩ = some (.int .u64 (U ((addTo H.st s j).getD j 0))) := (cell_of_row wr b j _ _ _ hr.out).trans (by simpa using rowL_get (addTo H.st s j) H j (by rw [addTo_length]; exact hlt))
     have hfb := frozen_of_row wr b j _ _ hr.out
     have hne : b ≠ g2 := by have := HG.out; omega
     generalize hold : H.st.words.getD j 0 = x at hc2
     generalize hnew : s.words.getD j 0 = y at hidx
     generalize (addTo H.st s j).getD j 0 = y0 at hcb
     have HX : Hid (H.st.words.getD j 0 + s.words.getD j 0 = x + y) := by show _ = _; rw [hold, hnew]
     clear hold hnew hk'
     go_wp2_with fail
     go_region_held3 (fun w' => w'.cell? ⟨g2, j, none⟩ = some (.int .u64 (U x))) (first | exact cell_store_other hc2 hne | go_keep) (fail)
     go_wp2
     go_roundw
     case rel =>
      refine ⟨j + 1, by omega, by go_num, ?_, row_store_far _ _ hr2.out (Ne.symm hne), (ht.out.setCell rfl _).drew⟩
      have e := row_store hr.out j (uv (x + y))
      rw [rowL_set _ _ _ (by rw [addTo_length]; exact hlt)] at e
      rw [addTo_succ, HX.out]
      exact e
     case measure => simp [intOf]; omega
    ·
     have hj8 : j = 8 := by omega
     have hj' : (8 : Int) ≤ (j : Int) := by omega
     rw [hj8] at hr
     clear hj8 hj hlt hk'
     go_wp2_with fail
     go_end0
     refine ⟨rfl, ⟨?_, by rw [blk_mix]; exact HH.out.len⟩, ht.out⟩
     rw [row_mix H L HL.out, ← hs'.out, ← addTo_all]
     exact hr.out
end
end Go.Proofs.YtccgfabojbjmjaaGreatDoor
