import Derived.Test.YtccgfabojbjmjaaGreatDoorVe40
import Derived.Deep.RegionHeld3
import Derived.Deep.DrawnRows
import Derived.BigRegion
namespace Go.Proofs.YtccgfabojbjmjaaGreatDoor
open Go.RowKit
section
attribute [local go_sem] U_and U_or U_xor U_not U_add U_add_one U_shr7 U_shr6
attribute [local go_sem ↓] Go.wp_at_zero Go.wp_at_succ
set_option maxRecDepth 100000 in
set_option maxHeartbeats 8000000 in
theorem refHash_any (s : ByteArray) (w : World) (hs : s.size ≤ 140737488351744) :
  Calls Tryz.prog 61 #[.string s] w fun e w' => ∃ NB, (padBH (bytesOfH s)).length = 128 * NB ∧ e = .returned (.string ⟨((mixTo (padBH (bytesOfH s)) ivH NB).words.flatMap be8).toArray⟩) ∧ Below w.heap.size w w' := by
 obtain ⟨i0, hi, hz0, hz1, hz2⟩ := info_parts infoU64
 have HI := hide hi
 have HZ0 := hide hz0
 have HZ1 := hide hz1
 have HZ2 := hide hz2
 clear hi hz0 hz1 hz2
 obtain ⟨i1, hi, hz0, hz1, hz2⟩ := info_parts infoU8
 have JI := hide hi
 have JZ0 := hide hz0
 have JZ1 := hide hz1
 have JZ2 := hide hz2
 clear hi hz0 hz1 hz2
 go_enter Tryz.func61, Tryz.ntmps61
 go_wp2_with fail
 obtain ⟨gh, hgh⟩ : ∃ gh, gh = w.heap.size := ⟨_, rfl⟩
 obtain ⟨W0, hW0⟩ : ∃ W0, W0 = w.alloc (.cells #[.int .u64 7640891576956012808, .int .u64 13503953896175478587, .int .u64 4354685564936845355, .int .u64 11912009170470909681, .int .u64 5840696475078001361, .int .u64 11170449401992604703, .int .u64 2270897969802886507, .int .u64 6620516959819538809] 59) := ⟨_, rfl⟩
 rw [← hW0, ← hgh]
 have hR0 : W0.heap[gh]? = some (.cells (ivH.words.map uv).toArray 59 (0, 0)) := by
  rw [hW0, hgh]; exact (heap_alloc_new w _)
 have hB0 : Below w.heap.size w W0 := by rw [hW0]; exact (Below.refl _ _).alloc (Nat.le_refl _) _
 have hS0 : W0.heap.size = gh + 1 := by rw [hW0, hgh]; simp
 have HGH := hide hgh
 clear hW0 hgh
 refine (refRounds_any W0).mono ?_
 rintro e W1 ⟨gc, rfl, hgc, hRc, hB1⟩
 have hRh1 : W1.heap[gh]? = some (.cells (ivH.words.map uv).toArray 59 (0, 0)) := (hB1.block gh (by omega)).trans hR0
 have HB1 := hide (hB0.trans (hB1.mono hB0.size))
 have HR1 := hide hRh1
 have HC1 := hide hRc
 have HGC : Hid (gh < gc ∧ gc < W1.heap.size) := ⟨by omega, by
  rcases Nat.lt_or_ge gc W1.heap.size with q | q
  · exact q
  · rw [Array.getElem?_eq_none q] at hRc; cases hRc⟩
 clear hR0 hB0 hS0 hgc hRc hB1 hRh1
 go_wp2_with fail
 refine (padded_any s W1 hs).mono ?_
 rintro e W2 ⟨gb, capb, rfl, hgb, hcap, hcapm, hgb2, hcb, hB2⟩
 obtain ⟨PB, HPB⟩ : ∃ PB, Hid (PB = padBH (bytesOfH s)) := ⟨_, rfl⟩
 rw [← HPB.out] at hcap hcb ⊢
 obtain ⟨NB0, hNB, hNL⟩ := padB_length (bytesOfH s)
 rw [← HPB.out] at hNB hNL
 rw [bytesOf_lengthH] at hNL
 obtain ⟨NB, hNBq⟩ : ∃ NB, NB = NB0 + 1 := ⟨_, rfl⟩
 rw [← hNBq] at hNB
 obtain ⟨N, hN⟩ : ∃ N, N = PB.length := ⟨_, rfl⟩
 rw [← hN] at hNB hNL hcap hcb ⊢
 have HN := hide hNB
 have HNP := hide hN
 clear hN
 have bcap : (N : Int) ≤ (capb : Int) := by omega
 have bcap2 : (capb : Int) ≤ 9223372036854775807 := by unfold maxLen at hcapm; omega
 have bN : N ≤ 140737488351889 := by omega
 have HB2 := hide (HB1.out.trans (hB2.mono HB1.out.size))
 have HR2 : Hid (W2.heap[gh]? = some (.cells (ivH.words.map uv).toArray 59 (0, 0))) := (hB2.block gh (by have := HGC.out; omega)).trans HR1.out
 have HC2 : Hid (W2.heap[gc]? = some (.cells (kws.map uv).toArray 59 (0, 0))) := (hB2.block gc HGC.out.2).trans HC1.out
 have HCB := hide hcb
 have HGB : Hid (gh < gb ∧ gh < gc ∧ gc < W1.heap.size ∧ W1.heap.size ≤ W2.heap.size ∧ gb < W2.heap.size) := ⟨by have := HGC.out; omega, HGC.out.1, HGC.out.2, hB2.size, hgb2⟩
 have HCAP : Hid (N ≤ capb ∧ capb ≤ maxLen) := ⟨hcap, hcapm⟩
 clear hNB hNL hNBq hgb hcap hcapm hgb2 hcb hB2 HB1 HR1 HC1 HGC
 go_wp2_with fail
 go_loopw [6] (fun av wr => ∃ k A : Nat, k ≤ NB ∧ Hid (A = 128 * k) ∧ A ≤ N ∧ av = .int .i64 A ∧ Hid (wr.heap[gh]? = some (.cells ((mixTo PB ivH k).words.map uv).toArray 59 (0, 0))) ∧ Hid (wr.heap[gc]? = some (.cells (kws.map uv).toArray 59 (0, 0))) ∧
   Hid (∀ i, i < N → wr.cell? ⟨gb, i, none⟩ = some (.int .u8 (C8 (PB.getD i 0)))) ∧ Hid (gh < wr.heap.size ∧ gc < wr.heap.size ∧ gb < wr.heap.size) ∧ Hid (Below w.heap.size w wr)) (fun av _ => N - (intOf av).toNat)
 case atStart => exact ⟨0, 0, Nat.zero_le _, rfl, Nat.zero_le _, rfl, HR2, HC2, HCB, ⟨by have := HGB.out; omega, by have := HGB.out; omega, HGB.out.2.2.2.2⟩, HB2⟩
 case round =>
  clear HR2 HC2 HCB HB2
  obtain ⟨k, A, hk, HA, hAN, rfl, HRh, HRc, HCb, HLT, HBw⟩ := hrel
  obtain ⟨Wk, rfl⟩ : ∃ Wk, Wk = wr := ⟨_, rfl⟩
  by_cases hlt : A < N
  --[[L1
  ·
   have hA128 : A + 128 ≤ N := by have := HA.out; have := HN.out; omega
   have bA : (A : Int) < (N : Int) := by omega
   have hdA : decide ((A : Int) < (N : Int)) = true := by simpa using bA
   have bA2 : (A : Int) + 128 ≤ (N : Int) := by omega
   go_wp2_with fail
   obtain ⟨S, HS⟩ : ∃ S, Hid (S = mixTo PB ivH k) := ⟨_, rfl⟩
   obtain ⟨C, HC⟩ : ∃ C, Hid (C = chunk PB k) := ⟨_, rfl⟩
   go_loopw [7, 8] (fun v i w2 => ∃ m : Nat, m ≤ 16 ∧ i = .int .i64 m ∧ Hid (Own w2 Wk.heap.size 59 v ((w16s C m).map uv)) ∧ Hid (Below Wk.heap.size Wk w2)) (fun _ i _ => 16 - (intOf i).toNat)
   case atStart => exact ⟨0, Nat.zero_le _, rfl, Own.nil _ _ _, Below.refl _ _⟩
   case round =>
    obtain ⟨m, hm, rfl, HO, HBr⟩ := hrel
    by_cases hm16 : m < 16
    --[[L2
    ·
     have bm : (m : Int) < 16 := by omega
     have bm2 : (A : Int) + 8 * (m : Int) + 8 ≤ (capb : Int) := by omega
     have bm3 : (A : Int) + 8 * (m : Int) + 8 ≤ (N : Int) := by omega
     have hne : ¬ capb = A + 8 * m := by omega
     go_wp2_with fail
     refine (refWord_any gb (A + 8 * m) (capb - (A + 8 * m)) (fun i => PB.getD (128 * k + 8 * m + i) 0) wr ?_).mono ?_
     ·
      intro i hi
      rw [(HBr.out.cell (by exact HLT.out.2.2) : wr.cell? ⟨gb, A + 8 * m + i, none⟩ = Wk.cell? ⟨gb, A + 8 * m + i, none⟩), HCb.out _ (by omega), HA.out]
     rintro e w' ⟨rfl, rfl⟩
     obtain ⟨x, HX⟩ : ∃ x, Hid (x = w16 C m) := ⟨_, rfl⟩
     rw [← w16_chunk PB k m hm16, ← HC.out, ← HX.out]
     have HLN : Hid (((w16s C m).map uv).length = m) := by show _ = _; rw [List.length_map, w16s_length]
     go_wp2_with (first | (at_builtin; refine wpList_append_Own _ (by rfl) (.tmp 48) (.tmp 50) 196 (by rfl) Wk.heap.size 59 i0 (.int .u64 0) 8 underSl64 HI.out HZ0.out HZ1.out HZ2.out rfl _ _ (by rfl) (HO.out.alloc _) ⟨w'.heap.size, 0, none⟩ 1 1 [.int .u64 (U x)] (by rfl) rfl (cell_one_new _ _ _) (by intro u hu; simp at hu; subst hu; rfl) (by rw [HLN.out]; unfold maxLen; omega) (by rw [HLN.out]; omega) (by have := HBr.out.size; simp; omega) ?_; intro v1 W3 hO2 hG2))
     have HB3 : Hid (Below Wk.heap.size Wk W3) := (HBr.out.alloc HBr.out.size _).grown hG2.out (by have := HBr.out.size; simp; omega) (fun q hq => own_geH HO.out hq)
     have HO3 : Hid (Own W3 Wk.heap.size 59 v1 ((w16s C (m + 1)).map uv)) := by
      have e := hO2.out
      have e2 : (w16s C m).map uv ++ [Value.int .u64 (U x)] = (w16s C (m + 1)).map uv := by rw [HX.out]; simp [w16s]
      rw [e2] at e; exact e
     clear HO HBr hO2 hG2 hne bm2 bm3
     go_wp2
     go_roundw
     case rel => exact ⟨m + 1, by omega, by go_num, HO3, HB3⟩
     case measure => simp [intOf]; omega
    --]]L2
    ·
     have hm' : m = 16 := by omega
     have HO' : Hid (Own wr Wk.heap.size 59 u7 ((sch C 0).map uv)) := by rw [hm'] at HO; exact HO
     have bm' : (16 : Int) ≤ (m : Int) := by omega
     clear HO hm hm16 hm'
     go_wp2_with fail
     refine refLoop3 Wk _ i0 C _ _ _ _ _ _ _ _ _ _ _ _ _ _ _ _ _ _ _ _ _ _ _ _ _ _ _ _ _ _ _ _ _ _ _ _ _ _ _ _ _ _ _ _ _ _ _ _ _ _ _ _ _ _ _ _ _ _ _ _ _ _ _ _ _ _ _ _ _ _ _ _ _ _ _ _ _ _ _ _ _ _ _ _ _ _ _ _ _ _ _ _ _ _ _ _ _ _ _ _ _ _ _ _ _ _ _ _ _ _ _ _ _ _ _ _ _ _ _ _ _ _ _ _ _ _ _ _ _ _ _ _ _ _ _ _ _ _ _ _ _ _ _ _ _ _ _ _ _ _ _ _ _ _ _ _ _ _ _ _ _ _ _ _ _ _ _ _ _ _ _ _ _ _ _ _ _ _ _ _ _ _ _ _ _ _ _ _ _ _ _ _ _ _ _ _ _ _ _ _ _ _ _ _ _ _ _ _ _ _ _ _ _ _ _ _ _ _ _ _ _ _ _ _ _ _ _ _ _ _ _ _ _ _ _ _ _ _ _ _ _ _ _ _ _ _ _ _ _ _ _ _ _ _ _ _ _ _ _ _ _ _ _ _ _ _ _ _ _ HI HZ0 HZ1 HZ2 HO' HBr ?_
     clear HO' HBr
     intro n m u7 u11 u12 u52 u53 u54 u55 u56 u57 u58 u59 u60 u61 u62 u63 u64 u65 u66 u67 u68 u69 u70 u71 u72 u73 u74 u75 u76 u77 u78 u79 u80 u81 u82 u83 u84 u85 u86 u87 u88 u89 u90 u91 u92 u93 u94 u95 u96 u97 u98 u99 u100 u101 u102 u103 u104 u105 u106 u107 u108 u109 u110 u111 u112 u113 wr hn' hm80 HO HBr
     have hl := sch_length C n
     obtain ⟨gw, capw, hv, hgw, hgwl, hcw, hcwm, hcells⟩ := HO.out.form (by rw [List.length_map, hl]; omega)
     have hlm : ((sch C n).map uv).length = m := by rw [List.length_map, hl, hm80, hn']
     rw [hlm] at hv hcw
     subst hv
     have HGW : Hid (Wk.heap.size ≤ gw) := hgw
     obtain ⟨L, HL⟩ : ∃ L, Hid (L = sch C 64) := ⟨_, rfl⟩
     have HCW : Hid (∀ i, i < 80 → wr.cell? ⟨gw, i, none⟩ = some (.int .u64 (U (L.getD i 0)))) := by
      intro i hi
      have e := sch_cell hcells i (by rw [hl]; omega)
      rw [hn', ← HL.out] at e; exact e
     have bm80 : (80 : Int) ≤ (m : Int) := by omega
     have HM80 := hide hm80
     have HGL : Hid (gw < wr.heap.size) := hgwl
     have HGS : Hid (gh < wr.heap.size) := by have := HLT.out.1; have := HBr.out.size; show _ < _; omega
     have HRS : Hid (wr.heap[gh]? = some (.cells (S.words.map uv).toArray 59 (0, 0))) := by rw [HS.out]; exact (HBr.out.block gh HLT.out.1).trans HRh.out
     clear hcells hl hlm hn' hm80 hgw hgwl hcw hcwm HO
     obtain ⟨Ws, rfl⟩ : ∃ Ws, Ws = wr := ⟨_, rfl⟩
     go_wp2_with (first | (at_builtin; refine wpList_append_Own _ (by rfl) (.tmp 114) (.tmp 115) 196 (by rfl) Ws.heap.size 59 i0 (.int .u64 0) 8 underSl64 HI.out HZ0.out HZ1.out HZ2.out rfl _ _ (by rfl) (Own.nil _ _ _) ⟨gh, 0, none⟩ 8 8 (S.words.map uv) (by rfl) rfl (by have e := World.news_of_block HRS.out; simpa using e) (words_cell S) (by simp [maxLen]) (by simp) (Nat.le_refl _) ?_; intro v1 W3 hO2 hG2))
     have HB4 : Hid (Below Ws.heap.size Ws W3) := (Below.refl _ _).grown hG2.out (Nat.le_refl _) (fun q hq => by cases hq)
     obtain ⟨gv0, capv0, hv1, hgv1, hgv2, _, _, hcv⟩ := hO2.out.form (by simp [S8.words])
     have HCV0 : Hid (∀ i, i < 8 → W3.cell? ⟨gv0, i, none⟩ = some (.int .u64 (U (S.words.getD i 0)))) := by
      intro i hi
      have hi' : i < S.words.length := hi
      rw [hcv i (by simpa using hi')]; simp [hi']
     have HGV0 : Hid (Ws.heap.size ≤ gv0 ∧ gv0 < W3.heap.size) := ⟨hgv1, hgv2⟩
     have hv1' : v1 = .slice (some ⟨gv0, 0, none⟩) 8 capv0 := hv1
     subst hv1'
     clear hv1 hgv1 hgv2 hcv hO2 hG2
     refine refLoop4 Ws W3 gc gw gv0 capv0 m capw L S _ _ _ _ _ _ _ _ _ _ _ _ _ _ _ _ _ _ _ _ _ _ _ _ _ _ _ _ _ _ _ _ _ _ _ _ _ _ _ _ _ _ _ _ _ _ _ _ _ _ _ _ _ _ _ _ _ _ _ _ _ _ _ _ _ _ _ _ _ _ _ _ _ _ _ _ _ _ _ _ _ _ _ _ _ _ _ _ _ _ _ _ _ _ _ _ _ _ _ _ _ _ _ _ _ _ _ _ _ _ _ _ _ _ _ _ _ _ _ _ _ _ _ _ _ _ _ _ _ _ _ _ _ _ _ _ _ _ _ _ _ _ _ _ _ _ _ _ _ _ _ _ _ _ _ _ _ _ _ _ _ _ _ _ _ _ _ _ _ _ _ _ _ _ _ _ _ _ _ _ _ _ _ _ _ _ _ _ _ _ _ _ _ _ _ _ _ _ _ _ _ _ _ _ _ _ _ _ _ _ _ _ _ _ _ _ _ _ _ _ _ _ _ _ _ _ _ _ _ _ _ _ _ _ _ _ _ _ _ _ _ _ _ _ _ _ _ _ _ _ _ _ _ _ _ _ _ _ _ _ _ _ _ _ _ _ HM80 (hide ((HBr.out.block gc HLT.out.2.1).trans HRc.out)) (hide (by have := HLT.out.2.1; have := HBr.out.size; omega)) HCW HGL HCV0 HGV0 HB4 ?_
     clear HCV0 HGV0 HB4
     intro n T gv capv u15 u16 u17 u18 u117 u118 u119 u120 u121 u122 u123 u124 u125 u126 u127 u128 u129 u130 u131 u132 u133 u134 u135 u136 u137 u138 u139 u140 u141 u142 u143 u144 u145 u146 u147 u148 u149 u150 u151 u152 u153 u154 u155 u156 u157 u158 u159 u160 u161 u162 u163 u164 u165 u166 u167 u168 u169 u170 u171 u172 u173 u174 u175 u176 u177 u178 u179 u180 u181 u182 u183 u184 u185 u186 u187 u188 u189 u190 u191 u192 u193 u194 u195 u196 u197 u198 u199 u200 u201 u202 u203 u204 u205 u206 u207 u208 u209 u210 u211 u212 u213 u214 u215 u216 u217 u218 u219 u220 u221 u222 u223 u224 u225 u226 u227 u228 u229 u230 u231 u232 wr hn' HT' HCV HGV HB4
     have bn80 : (80 : Int) ≤ (n : Int) := by omega
     have HRS5 : Hid (wr.heap[gh]? = some (.cells (S.words.map uv).toArray 59 (0, 0))) := (HB4.out.block gh HGS.out).trans HRS.out
     have HTN : Hid (Turn gh Wk wr) := Turn.of_below ((HBr.out.trans (HB4.out.mono HBr.out.size)))
     have HGN : Hid (gh ≠ gv) := by have := HGV.out.1; have := HGS.out; show _ ≠ _; omega
     clear hn' HB4
     go_wp2_with fail
     go_loopw [19] (fun i w5 => ∃ j : Nat, j ≤ 8 ∧ i = .int .i64 j ∧ Hid (w5.heap[gh]? = some (.cells ((addTo S T j).map uv).toArray 59 (0, 0))) ∧ Hid (∀ i, i < 8 → w5.cell? ⟨gv, i, none⟩ = some (.int .u64 (U (T.words.getD i 0)))) ∧ Hid (Turn gh Wk w5)) (fun i _ => 8 - (intOf i).toNat)
     case atStart => exact ⟨0, Nat.zero_le _, rfl, HRS5, HCV, HTN⟩
     case round =>
      clear HRS5 HCV HTN
      obtain ⟨j, hj, rfl, HR5, HCV, HTN⟩ := hrel
      by_cases hj8 : j < 8
      --[[L5
      ·
       have bj : (j : Int) < 8 := by omega
       have ch := uvs_at HR5.out j (by rw [addTo_length]; exact hj8)
       have cv := HCV.out j hj8
       have hfz := frozen_of_row wr gh j _ _ HR5.out
       rw [addTo_get S T j j (Nat.le_refl _)] at ch
       generalize hx : S.words.getD j 0 = x at ch
       generalize hy : T.words.getD j 0 = y at cv
       have HXY : Hid (S.words.getD j 0 + T.words.getD j 0 = x + y) := by show _ = _; rw [hx, hy]
       clear hx hy
       go_wp2_with fail
       go_region
       go_wp2
       go_roundw
       case rel =>
        refine ⟨j + 1, by omega, by go_num, ?_, fun i hi => cell_store_other (HCV.out i hi) HGN.out, (HTN.out.setCell rfl _).drew⟩
        have e := row_store HR5.out j (uv (x + y))
        rw [← List.map_set] at e
        rw [addTo_succ, HXY.out]
        exact e
       case measure => simp [intOf]; omega
      --]]L5
      ·
       have hj' : j = 8 := by omega
       have bj8 : (8 : Int) ≤ (j : Int) := by omega
       have HRN : Hid (wr.heap[gh]? = some (.cells ((mixTo PB ivH (k + 1)).words.map uv).toArray 59 (0, 0))) := by
        have e := HR5.out
        rw [hj', addTo_all, HT'.out, HL.out, HC.out, HS.out, ← mixTo_succ] at e
        exact e
       clear HR5 hj hj8 hj' HCV
       go_wp2
       go_roundw
       case rel =>
        have hne := HGB.out
        have h1 := HLT.out
        refine ⟨k + 1, A + 128, ?_, ?_, hA128, by go_num, HRN, ?_, ?_, ?_, ?_⟩
        · have := HA.out; have := HN.out; omega
        · show A + 128 = 128 * (k + 1); have := HA.out; omega
        · exact (HTN.out.block gc h1.2.1 (by omega)).trans HRc.out
        ·
         intro i hi
         exact (World.cell?_of_block (w := Wk) (HTN.out.block gb h1.2.2 (by omega))).trans (HCb.out i hi)
        · have := HTN.out.size; exact ⟨by omega, by omega, by omega⟩
        · exact HBw.out.trans (HTN.out.below (by have := HGH.out; omega) HBw.out.size)
       case measure => simp [intOf]; omega
  --]]L1
  ·
   have hkN : k = NB := by have := HA.out; have := HN.out; omega
   have bAN : (N : Int) ≤ (A : Int) := by omega
   have hdA2 : decide ((A : Int) < (N : Int)) = false := by simpa using bAN
   have hdA3 : decide (A < N) = false := by simpa using hlt
   obtain ⟨R, HR⟩ : ∃ R, Hid (R = mixTo PB ivH NB) := ⟨_, rfl⟩
   have HRR : Hid (Wk.heap[gh]? = some (.cells (R.words.map uv).toArray 59 (0, 0))) := by rw [HR.out, ← hkN]; exact HRh
   clear hkN HRh HRc HCb hlt hk
   go_wp2_with fail
   go_loopw [20, 21] (fun v i w6 => ∃ j : Nat, j ≤ 64 ∧ i = .int .i64 j ∧ Hid (Own w6 Wk.heap.size 5 v (((R.words.flatMap be8).take j).map cv)) ∧ Hid (Below Wk.heap.size Wk w6)) (fun _ i _ => 64 - (intOf i).toNat)
   case atStart => exact ⟨0, Nat.zero_le _, rfl, Own.nil _ _ _, Below.refl _ _⟩
   case round =>
    obtain ⟨j, hj, rfl, HO, HBr⟩ := hrel
    by_cases hj64 : j < 64
    ·
     obtain ⟨q, hq⟩ : ∃ q, q = j / 8 := ⟨_, rfl⟩
     obtain ⟨r, hr⟩ : ∃ r, r = j % 8 := ⟨_, rfl⟩
     have e8 : (j : Int) / 8 = (q : Int) := by omega
     have er : (j : Int) % 8 = (r : Int) := by omega
     have bq : (q : Int) < 8 := by omega
     have br : (r : Int) < 8 := by omega
     have bj : (j : Int) < 64 := by omega
     have e : wr.heap[gh]? = some (.cells (R.words.map uv).toArray 59 (0, 0)) := (HBr.out.block gh HLT.out.1).trans HRR.out
     have ch := uvs_at e q (by show q < 8; omega)
     have HFB : Hid (C8 (byteOf (R.words.getD q 0) r) = C8 ((R.words.flatMap be8).getD j 0)) := by
      show _ = _
      rw [hq, hr, flat_get _ _ (by show j < 64; exact hj64)]
     generalize R.words.getD q 0 = x at ch HFB
     have HBN : Hid (U x / 2 ^ (56 - 8 * r) % 256 = C8 (byteOf x r)) := byte_num x (56 - 8 * r)
     have HLN : Hid ((((R.words.flatMap be8).take j).map cv).length = j) := by show _ = _; rw [List.length_map, List.length_take, flat_length]; show min j 64 = j; omega
     clear hq hr e
     go_wp2_with (first | (at_builtin; refine wpList_append_Own _ (by rfl) (.tmp 253) (.tmp 265) 89 (by rfl) Wk.heap.size 5 i1 (.int .u8 0) 1 sizeSl39 JI.out JZ0.out JZ1.out JZ2.out rfl _ _ (by rfl) (HO.out.alloc _) ⟨wr.heap.size, 0, none⟩ 1 1 [.int .u8 (U x / 2 ^ (56 - 8 * r) % 256)] (by rfl) rfl (cell_one_new _ _ _) (by intro u hu; simp at hu; subst hu; rfl) (by rw [HLN.out]; unfold maxLen; omega) (by rw [HLN.out]; omega) (by have := HBr.out.size; simp; omega) ?_; intro v1 W3 hO2 hG2))
     have HB3 : Hid (Below Wk.heap.size Wk W3) := (HBr.out.alloc HBr.out.size _).grown hG2.out (by have := HBr.out.size; simp; omega) (fun q hq => own_geH HO.out hq)
     have HO3 : Hid (Own W3 Wk.heap.size 5 v1 (((R.words.flatMap be8).take (j + 1)).map cv)) := by
      have e := hO2.out
      rw [HBN.out, HFB.out] at e
      have hjl : j < (R.words.flatMap be8).length := by rw [flat_length]; exact hj64
      have e2 : (R.words.flatMap be8).take (j + 1) = (R.words.flatMap be8).take j ++ [(R.words.flatMap be8).getD j 0] := by
       rw [List.take_succ_eq_append_getElem hjl]; simp [List.getD, List.getElem?_eq_getElem hjl]
      rw [e2, List.map_append]; exact e
     clear HO HBr hO2 hG2 ch e8 er bq br
     go_wp2
     go_roundw
     case rel => exact ⟨j + 1, by omega, by go_num, HO3, HB3⟩
     case measure => simp [intOf]; omega
    ·
     have hj' : j = 64 := by omega
     have bj64 : (64 : Int) ≤ (j : Int) := by omega
     have hfl : (R.words.flatMap be8).length = 64 := flat_length _
     have HO' : Own wr Wk.heap.size 5 u20 ((R.words.flatMap be8).map cv) := by
      have e := HO.out; rw [hj', List.take_of_length_le (by rw [hfl]; exact Nat.le_refl _)] at e; exact e
     obtain ⟨go, capo, hv, _, _, _, _, hc⟩ := HO'.form (by rw [List.length_map, hfl]; omega)
     rw [List.length_map, hfl] at hv
     subst hv
     have hcv : (convert 89 9 (.slice (some ⟨go, 0, none⟩) 64 capo)).run Tryz.prog wr = .ok (.string ⟨(R.words.flatMap be8).toArray⟩) wr := by
      have e := run_convert_bytes_back (P := Tryz.prog) wr 89 9 5 ⟨go, 0, none⟩ capo (R.words.flatMap be8) sizeSl39 (by kernel_rfl) (by kernel_rfl) (fun i hi => by
       rw [Addr.add_mid, Nat.zero_add, hc i (by rw [List.length_map]; exact hi), List.getElem?_map, List.getElem?_eq_getElem hi]
       rfl)
      rw [hfl] at e; exact e
     clear HO HO' hc hj hj64 hj' hfl
     generalize hD : ByteArray.mk (R.words.flatMap be8).toArray = D at hcv
     have HD := hide hD
     clear hD
     go_wp2_with fail
     go_ret
     refine ⟨NB, by rw [← HPB.out, ← HNP.out]; exact HN.out, ?_, HBw.out.trans (HBr.out.mono HBw.out.size)⟩
     rw [← HPB.out, ← HR.out, HD.out]; rfl
end
end Go.Proofs.YtccgfabojbjmjaaGreatDoor
