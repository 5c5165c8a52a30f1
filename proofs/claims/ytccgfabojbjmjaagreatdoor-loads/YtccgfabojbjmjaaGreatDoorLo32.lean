import Derived.Test.YtccgfabojbjmjaaGreatDoorLo26
import Derived.Test.YtccgfabojbjmjaaGreatDoorLo31
import Derived.Deep.RegionHeld3
import Derived.Deep.DrawnRows
import Derived.BigRegion
set_option maxRecDepth 100000
set_option maxHeartbeats 8000000
namespace Go.Proofs.YtccgfabojbjmjaaGreatDoor
open Go.RowKit
open Go.RowKit
section
attribute [local go_sem] y7 Ji JU Ye yh Yr qiN qhJ
attribute [local go_sem ↓] Go.wp_at_zero Go.wp_at_succ
theorem qhn (s : ByteArray) (w : World) (hs : s.size ≤ 140737488351744) :
  Calls Tryz.prog 61 #[.string s] w fun e w' => ∃ NB, (Qk (jt s)).length = 128 * NB ∧ e = .returned (.string ⟨((ZT (Qk (jt s)) jV NB).words.flatMap jL).toArray⟩) ∧ zB w w' := by
 obtain ⟨i0, hi, hz0, hz1, hz2⟩ := info_parts qq4
 have HI := qa hi
 have HZ0 := qa hz0
 have HZ1 := qa hz1
 have HZ2 := qa hz2
 clear hi hz0 hz1 hz2
 obtain ⟨i1, hi, hz0, hz1, hz2⟩ := info_parts qpv
 have JI := qa hi
 have JZ0 := qa hz0
 have JZ1 := qa hz1
 have JZ2 := qa hz2
 clear hi hz0 hz1 hz2
 go_enter Tryz.func61, Tryz.ntmps61
 go_wp2_with fail
 obtain ⟨gh, hgh⟩ := zy w.heap.size
 obtain ⟨W0, hW0⟩ := zy (w.alloc (.cells #[.int .u64 7640891576956012808, .int .u64 13503953896175478587, .int .u64 4354685564936845355, .int .u64 11912009170470909681, .int .u64 5840696475078001361, .int .u64 11170449401992604703, .int .u64 2270897969802886507, .int .u64 6620516959819538809] 59))
 rw [← hW0, ← hgh]
 have hR0 : W0.heap[gh]? = some (.cells (jV.words.map uv).toArray 59) := by
  rw [hW0, hgh]; exact (za w _)
 have hB0 : zB w W0 := by rw [hW0]; exact (zJ _ _).alloc (zm _) _
 have hS0 : W0.heap.size = gh + 1 := by rw [hW0, hgh]; simp
 have HGH := qa hgh
 clear hW0 hgh
 refine (qeV W0).mono ?_
 rintro e W1 ⟨gc, rfl, hgc, hRc, hB1⟩
 have hRh1 : W1.heap[gh]? = some (.cells (jV.words.map uv).toArray 59) := (hB1.block gh (by omega)).trans hR0
 have HB1 := qa (hB0.trans (hB1.mono hB0.size))
 have HR1 := qa hRh1
 have HC1 := qa hRc
 have HGC : Hid (gh < gc ∧ gc < W1.heap.size) := ⟨by omega, by
  rcases Nat.lt_or_ge gc W1.heap.size with q | q
  · exact q
  · rw [Array.getElem?_eq_none q] at hRc; cases hRc⟩
 clear hR0 hB0 hS0 hgc hRc hB1 hRh1
 go_wp2_with fail
 refine (qiW s W1 hs).mono ?_
 rintro e W2 ⟨gb, capb, rfl, hgb, hcap, hcapm, hgb2, hcb, hB2⟩
 obtain ⟨PB, HPB⟩ := zx (Qk (jt s))
 rw [← HPB.o] at hcap hcb ⊢
 obtain ⟨NB0, hNB, hNL⟩ := qhf (jt s)
 rw [← HPB.o] at hNB hNL
 rw [yI] at hNL
 obtain ⟨NB, hNBq⟩ := zy (NB0 + 1)
 rw [← hNBq] at hNB
 obtain ⟨N, hN⟩ := zy PB.length
 rw [← hN] at hNB hNL hcap hcb ⊢
 have HN := qa hNB
 have HNP := qa hN
 clear hN
 have bcap : (N : Int) ≤ (capb : Int) := by omega
 have bcap2 : (capb : Int) ≤ 9223372036854775807 := by unfold maxLen at hcapm; omega
 have bN : N ≤ 140737488351889 := by omega
 have HB2 := qa (HB1.o.trans (hB2.mono HB1.o.size))
 have HR2 : Hid (qi W2 gh ((jV.words.map uv).toArray) 59) := (hB2.block gh (by have := HGC.o; omega)).trans HR1.o
 have HC2 : Hid (qi W2 gc ((Y6.map uv).toArray) 59) := (hB2.block gc HGC.o.2).trans HC1.o
 have HCB := qa hcb
 have HGB : Hid (gh < gb ∧ gh < gc ∧ gc < W1.heap.size ∧ W1.heap.size ≤ W2.heap.size ∧ gb < W2.heap.size) := ⟨by have := HGC.o; omega, HGC.o.1, HGC.o.2, hB2.size, hgb2⟩
 have HCAP : Hid (N ≤ capb ∧ capb ≤ maxLen) := ⟨hcap, hcapm⟩
 clear hNB hNL hNBq hgb hcap hcapm hgb2 hcb hB2 HB1 HR1 HC1 HGC
 go_wp2_with fail
 go_loopw [6] (fun av wr => ∃ k A : Nat, k ≤ NB ∧ Hid (A = 128 * k) ∧ A ≤ N ∧ av = .int .i64 A ∧ Hid (qi wr gh (((ZT PB jV k).words.map uv).toArray) 59) ∧ Hid (qi wr gc ((Y6.map uv).toArray) 59) ∧
   Hid (∀ i, i < N → wr.cell? ⟨gb, i, none⟩ = some (.int .u8 (C8 (PB.getD i 0)))) ∧ Hid (gh < wr.heap.size ∧ gc < wr.heap.size ∧ gb < wr.heap.size) ∧ Hid (zB w wr)) (fun av _ => N - (intOf av).toNat)
 case atStart => exact ⟨0, 0, Zc _, rfl, Zc _, rfl, HR2, HC2, HCB, ⟨by have := HGB.o; omega, by have := HGB.o; omega, HGB.o.2.2.2.2⟩, HB2⟩
 case round =>
  clear HR2 HC2 HCB HB2
  obtain ⟨k, A, hk, HA, hAN, rfl, HRh, HRc, HCb, HLT, HBw⟩ := hrel
  obtain ⟨Wk, rfl⟩ := zy wr
  by_cases hlt : A < N
  --[[L1
  ·
   have hA128 : A + 128 ≤ N := by have := HA.o; have := HN.o; omega
   have bA : (A : Int) < (N : Int) := by omega
   have hdA : decide ((A : Int) < (N : Int)) = true := by simpa using bA
   have bA2 : (A : Int) + 128 ≤ (N : Int) := by omega
   go_wp2_with fail
   obtain ⟨S, HS⟩ := zx (ZT PB jV k)
   obtain ⟨C, HC⟩ := zx (chunk PB k)
   go_loopw [7, 8] (fun v i w2 => ∃ m : Nat, m ≤ 16 ∧ i = .int .i64 m ∧ Hid (q9 w2 Wk.heap.size 59 v ((JX C m).map uv)) ∧ Hid (zB Wk w2)) (fun _ i _ => 16 - (intOf i).toNat)
   case atStart => exact ⟨0, Zc _, rfl, q9.nil _ _ _, zJ _ _⟩
   case round =>
    obtain ⟨m, hm, rfl, HO, HBr⟩ := hrel
    by_cases hm16 : m < 16
    --[[L2
    ·
     have bm : (m : Int) < 16 := by omega
     have bm2 : (A : Int) + 8 * (m : Int) + 8 ≤ (capb : Int) := by omega
     have bm3 : (A : Int) + 8 * (m : Int) + 8 ≤ (N : Int) := by omega
     have hne : ¬ capb = A + 8 * m := by omega
     go_wp2_with fail
     refine (qha gb (A + 8 * m) (capb - (A + 8 * m)) (fun i => PB.getD (128 * k + 8 * m + i) 0) wr ?_).mono ?_
     ·
      intro i hi
      rw [(HBr.o.cell (by exact HLT.o.2.2) : wr.cell? ⟨gb, A + 8 * m + i, none⟩ = Wk.cell? ⟨gb, A + 8 * m + i, none⟩), HCb.o _ (by omega), HA.o]
     rintro e w' ⟨rfl, rfl⟩
     obtain ⟨x, HX⟩ := zx (kG C m)
     rw [← qlv PB k m hm16, ← HC.o, ← HX.o]
     have HLN : Hid (((JX C m).map uv).length = m) := by show _ = _; rw [zv, qaC]
     go_wp2_with (first | (at_builtin; refine qaa _ (by rfl) (.tmp 48) (.tmp 50) 196 (by rfl) Wk.heap.size 59 i0 (.int .u64 0) 8 qdn HI.o HZ0.o HZ1.o HZ2.o rfl _ _ (by rfl) (HO.o.alloc _) ⟨w'.heap.size, 0, none⟩ 1 1 [.int .u64 (U x)] (by rfl) rfl (cell_one_new _ _ _) (by intro u hu; simp at hu; subst hu; rfl) (by rw [HLN.o]; unfold maxLen; omega) (by rw [HLN.o]; omega) (by have := HBr.o.size; simp; omega) ?_; intro v1 W3 hO2 hG2))
     have HB3 : Hid (zB Wk W3) := (HBr.o.alloc HBr.o.size _).grown hG2.o (by have := HBr.o.size; simp; omega) (fun q hq => qlQ HO.o hq)
     have HO3 : Hid (q9 W3 Wk.heap.size 59 v1 ((JX C (m + 1)).map uv)) := by
      have e := hO2.o
      have e2 : (JX C m).map uv ++ [Value.int .u64 (U x)] = (JX C (m + 1)).map uv := by rw [HX.o]; simp [JX]
      rw [e2] at e; exact e
     clear HO HBr hO2 hG2 hne bm2 bm3
     go_wp2
     go_roundw
     case rel => exact ⟨m + 1, by omega, by go_num, HO3, HB3⟩
     case measure => simp [intOf]; omega
    --]]L2
    ·
     have hm' : m = 16 := by omega
     have HO' : Hid (q9 wr Wk.heap.size 59 u7 ((je C 0).map uv)) := by rw [hm'] at HO; exact HO
     have bm' : (16 : Int) ≤ (m : Int) := by omega
     clear HO hm hm16 hm'
     go_wp2_with fail
     refine qn4 Wk _ i0 C _ _ _ _ _ _ _ _ _ _ _ _ _ _ _ _ _ _ _ _ _ _ _ _ _ _ _ _ _ _ _ _ _ _ _ _ _ _ _ _ _ _ _ _ _ _ _ _ _ _ _ _ _ _ _ _ _ _ _ _ _ _ _ _ _ _ _ _ _ _ _ _ _ _ _ _ _ _ _ _ _ _ _ _ _ _ _ _ _ _ _ _ _ _ _ _ _ _ _ _ _ _ _ _ _ _ _ _ _ _ _ _ _ _ _ _ _ _ _ _ _ _ _ _ _ _ _ _ _ _ _ _ _ _ _ _ _ _ _ _ _ _ _ _ _ _ _ _ _ _ _ _ _ _ _ _ _ _ _ _ _ _ _ _ _ _ _ _ _ _ _ _ _ _ _ _ _ _ _ _ _ _ _ _ _ _ _ _ _ _ _ _ _ _ _ _ _ _ _ _ _ _ _ _ _ _ _ _ _ _ _ _ _ _ _ _ _ _ _ _ _ _ _ _ _ _ _ _ _ _ _ _ _ _ _ _ _ _ _ _ _ _ _ _ _ _ _ _ _ _ _ _ _ _ _ _ _ _ _ _ _ _ _ _ _ _ _ _ _ HI HZ0 HZ1 HZ2 HO' HBr ?_
     clear HO' HBr
     intro n m u7 u11 u12 u52 u53 u54 u55 u56 u57 u58 u59 u60 u61 u62 u63 u64 u65 u66 u67 u68 u69 u70 u71 u72 u73 u74 u75 u76 u77 u78 u79 u80 u81 u82 u83 u84 u85 u86 u87 u88 u89 u90 u91 u92 u93 u94 u95 u96 u97 u98 u99 u100 u101 u102 u103 u104 u105 u106 u107 u108 u109 u110 u111 u112 u113 wr hn' hm80 HO HBr
     have hl := kt C n
     obtain ⟨gw, capw, hv, hgw, hgwl, hcw, hcwm, hcells⟩ := HO.o.form (by rw [zv, hl]; omega)
     have hlm : ((je C n).map uv).length = m := by rw [zv, hl, hm80, hn']
     rw [hlm] at hv hcw
     subst hv
     have HGW : Hid (Wk.heap.size ≤ gw) := hgw
     obtain ⟨L, HL⟩ := zx (je C 64)
     have HCW : Hid (∀ i, i < 80 → wr.cell? ⟨gw, i, none⟩ = some (.int .u64 (U (L.getD i 0)))) := by
      intro i hi
      have e := qb0 hcells i (by rw [hl]; omega)
      rw [hn', ← HL.o] at e; exact e
     have bm80 : (80 : Int) ≤ (m : Int) := by omega
     have HM80 := qa hm80
     have HGL : Hid (gw < wr.heap.size) := hgwl
     have HGS : Hid (gh < wr.heap.size) := by have := HLT.o.1; have := HBr.o.size; show _ < _; omega
     have HRS : Hid (qi wr gh ((S.words.map uv).toArray) 59) := by rw [HS.o]; exact (HBr.o.block gh HLT.o.1).trans HRh.o
     clear hcells hl hlm hn' hm80 hgw hgwl hcw hcwm HO
     obtain ⟨Ws, rfl⟩ := zy wr
     go_wp2_with (first | (at_builtin; refine qaa _ (by rfl) (.tmp 114) (.tmp 115) 196 (by rfl) Ws.heap.size 59 i0 (.int .u64 0) 8 qdn HI.o HZ0.o HZ1.o HZ2.o rfl _ _ (by rfl) (q9.nil _ _ _) ⟨gh, 0, none⟩ 8 8 (S.words.map uv) (by rfl) rfl (by have e := World.news_of_block HRS.o; simpa using e) (qev S) (by simp [maxLen]) (by simp) (zm _) ?_; intro v1 W3 hO2 hG2))
     have HB4 : Hid (zB Ws W3) := (zJ _ _).grown hG2.o (zm _) (fun q hq => by cases hq)
     obtain ⟨gv0, capv0, hv1, hgv1, hgv2, _, _, hcv⟩ := hO2.o.form (by simp [S8.words])
     have HCV0 : Hid (∀ i, i < 8 → W3.cell? ⟨gv0, i, none⟩ = some (.int .u64 (U (S.words.getD i 0)))) := by
      intro i hi
      have hi' : i < S.words.length := hi
      rw [hcv i (by simpa using hi')]; simp [hi']
     have HGV0 : Hid (Ws.heap.size ≤ gv0 ∧ gv0 < W3.heap.size) := ⟨hgv1, hgv2⟩
     have hv1' : v1 = .slice (some ⟨gv0, 0, none⟩) 8 capv0 := hv1
     subst hv1'
     clear hv1 hgv1 hgv2 hcv hO2 hG2
     refine qnT Ws W3 gc gw gv0 capv0 m capw L S _ _ _ _ _ _ _ _ _ _ _ _ _ _ _ _ _ _ _ _ _ _ _ _ _ _ _ _ _ _ _ _ _ _ _ _ _ _ _ _ _ _ _ _ _ _ _ _ _ _ _ _ _ _ _ _ _ _ _ _ _ _ _ _ _ _ _ _ _ _ _ _ _ _ _ _ _ _ _ _ _ _ _ _ _ _ _ _ _ _ _ _ _ _ _ _ _ _ _ _ _ _ _ _ _ _ _ _ _ _ _ _ _ _ _ _ _ _ _ _ _ _ _ _ _ _ _ _ _ _ _ _ _ _ _ _ _ _ _ _ _ _ _ _ _ _ _ _ _ _ _ _ _ _ _ _ _ _ _ _ _ _ _ _ _ _ _ _ _ _ _ _ _ _ _ _ _ _ _ _ _ _ _ _ _ _ _ _ _ _ _ _ _ _ _ _ _ _ _ _ _ _ _ _ _ _ _ _ _ _ _ _ _ _ _ _ _ _ _ _ _ _ _ _ _ _ _ _ _ _ _ _ _ _ _ _ _ _ _ _ _ _ _ _ _ _ _ _ _ _ _ _ _ _ _ _ _ _ _ _ _ _ _ _ _ _ HM80 (qa ((HBr.o.block gc HLT.o.2.1).trans HRc.o)) (qa (by have := HLT.o.2.1; have := HBr.o.size; omega)) HCW HGL HCV0 HGV0 HB4 ?_
     clear HCV0 HGV0 HB4
     intro n T gv capv u15 u16 u17 u18 u117 u118 u119 u120 u121 u122 u123 u124 u125 u126 u127 u128 u129 u130 u131 u132 u133 u134 u135 u136 u137 u138 u139 u140 u141 u142 u143 u144 u145 u146 u147 u148 u149 u150 u151 u152 u153 u154 u155 u156 u157 u158 u159 u160 u161 u162 u163 u164 u165 u166 u167 u168 u169 u170 u171 u172 u173 u174 u175 u176 u177 u178 u179 u180 u181 u182 u183 u184 u185 u186 u187 u188 u189 u190 u191 u192 u193 u194 u195 u196 u197 u198 u199 u200 u201 u202 u203 u204 u205 u206 u207 u208 u209 u210 u211 u212 u213 u214 u215 u216 u217 u218 u219 u220 u221 u222 u223 u224 u225 u226 u227 u228 u229 u230 u231 u232 wr hn' HT' HCV HGV HB4
     have bn80 : (80 : Int) ≤ (n : Int) := by omega
     have HRS5 : Hid (qi wr gh ((S.words.map uv).toArray) 59) := (HB4.o.block gh HGS.o).trans HRS.o
     have HTN : Hid (jl gh Wk wr) := jl.of_below ((HBr.o.trans (HB4.o.mono HBr.o.size)))
     have HGN : Hid (gh ≠ gv) := by have := HGV.o.1; have := HGS.o; show _ ≠ _; omega
     clear hn' HB4
     go_wp2_with fail
     go_loopw [19] (fun i w5 => ∃ j : Nat, j ≤ 8 ∧ i = .int .i64 j ∧ Hid (qi w5 gh (((yj S T j).map uv).toArray) 59) ∧ Hid (∀ i, i < 8 → w5.cell? ⟨gv, i, none⟩ = some (.int .u64 (U (T.words.getD i 0)))) ∧ Hid (jl gh Wk w5)) (fun i _ => 8 - (intOf i).toNat)
     case atStart => exact ⟨0, Zc _, rfl, HRS5, HCV, HTN⟩
     case round =>
      clear HRS5 HCV HTN
      obtain ⟨j, hj, rfl, HR5, HCV, HTN⟩ := hrel
      by_cases hj8 : j < 8
      --[[L5
      ·
       have bj : (j : Int) < 8 := by omega
       have ch := qhG HR5.o j (by rw [qbg]; exact hj8)
       have cv := HCV.o j hj8
       have hfz := frozen_of_row wr gh j _ _ HR5.o
       rw [qkE S T j j (zm _)] at ch
       generalize hx : S.words.getD j 0 = x at ch
       generalize hy : T.words.getD j 0 = y at cv
       have HXY : Hid (S.words.getD j 0 + T.words.getD j 0 = x + y) := by show _ = _; rw [hx, hy]
       clear hx hy
       go_wp2_with fail
       go_region
       go_wp2
       go_roundw
       case rel =>
        refine ⟨j + 1, by omega, by go_num, ?_, fun i hi => qa0 (HCV.o i hi) HGN.o, (HTN.o.setCell rfl _).drew⟩
        have e := Qg HR5.o j (uv (x + y))
        rw [← List.map_set] at e
        rw [qem, HXY.o]
        exact e
       case measure => simp [intOf]; omega
      --]]L5
      ·
       have hj' : j = 8 := by omega
       have bj8 : (8 : Int) ≤ (j : Int) := by omega
       have HRN : Hid (qi wr gh (((ZT PB jV (k + 1)).words.map uv).toArray) 59) := by
        have e := HR5.o
        rw [hj', qfG, HT'.o, HL.o, HC.o, HS.o, ← qbn] at e
        exact e
       clear HR5 hj hj8 hj' HCV
       go_wp2
       go_roundw
       case rel =>
        have hne := HGB.o
        have h1 := HLT.o
        refine ⟨k + 1, A + 128, ?_, ?_, hA128, by go_num, HRN, ?_, ?_, ?_, ?_⟩
        · have := HA.o; have := HN.o; omega
        · show A + 128 = 128 * (k + 1); have := HA.o; omega
        · exact (HTN.o.block gc h1.2.1 (by omega)).trans HRc.o
        ·
         intro i hi
         exact (zo (w := Wk) (HTN.o.block gb h1.2.2 (by omega))).trans (HCb.o i hi)
        · have := HTN.o.size; exact ⟨by omega, by omega, by omega⟩
        · exact HBw.o.trans (HTN.o.below (by have := HGH.o; omega) HBw.o.size)
       case measure => simp [intOf]; omega
  --]]L1
  ·
   have hkN : k = NB := by have := HA.o; have := HN.o; omega
   have bAN : (N : Int) ≤ (A : Int) := by omega
   have hdA2 : decide ((A : Int) < (N : Int)) = false := by simpa using bAN
   have hdA3 : decide (A < N) = false := by simpa using hlt
   obtain ⟨R, HR⟩ := zx (ZT PB jV NB)
   have HRR : Hid (qi Wk gh ((R.words.map uv).toArray) 59) := by rw [HR.o, ← hkN]; exact HRh
   clear hkN HRh HRc HCb hlt hk
   go_wp2_with fail
   go_loopw [20, 21] (fun v i w6 => ∃ j : Nat, j ≤ 64 ∧ i = .int .i64 j ∧ Hid (q9 w6 Wk.heap.size 5 v (((R.words.flatMap jL).take j).map cv)) ∧ Hid (zB Wk w6)) (fun _ i _ => 64 - (intOf i).toNat)
   case atStart => exact ⟨0, Zc _, rfl, q9.nil _ _ _, zJ _ _⟩
   case round =>
    obtain ⟨j, hj, rfl, HO, HBr⟩ := hrel
    by_cases hj64 : j < 64
    ·
     obtain ⟨q, hq⟩ := zy (j / 8)
     obtain ⟨r, hr⟩ := zy (j % 8)
     have e8 : (j : Int) / 8 = (q : Int) := by omega
     have er : (j : Int) % 8 = (r : Int) := by omega
     have bq : (q : Int) < 8 := by omega
     have br : (r : Int) < 8 := by omega
     have bj : (j : Int) < 64 := by omega
     have e : wr.heap[gh]? = some (.cells (R.words.map uv).toArray 59) := (HBr.o.block gh HLT.o.1).trans HRR.o
     have ch := qhG e q (by show q < 8; omega)
     have HFB : Hid (C8 (ZD (R.words.getD q 0) r) = C8 ((R.words.flatMap jL).getD j 0)) := by
      show _ = _
      rw [hq, hr, qoN _ _ (by show j < 64; exact hj64)]
     generalize R.words.getD q 0 = x at ch HFB
     have HBN : Hid (U x / 2 ^ (56 - 8 * r) % 256 = C8 (ZD x r)) := qiQ x (56 - 8 * r)
     have HLN : Hid ((((R.words.flatMap jL).take j).map cv).length = j) := by show _ = _; rw [zv, Zh, qaw]; show min j 64 = j; omega
     clear hq hr e
     go_wp2_with (first | (at_builtin; refine qaa _ (by rfl) (.tmp 253) (.tmp 265) 89 (by rfl) Wk.heap.size 5 i1 (.int .u8 0) 1 YW JI.o JZ0.o JZ1.o JZ2.o rfl _ _ (by rfl) (HO.o.alloc _) ⟨wr.heap.size, 0, none⟩ 1 1 [.int .u8 (U x / 2 ^ (56 - 8 * r) % 256)] (by rfl) rfl (cell_one_new _ _ _) (by intro u hu; simp at hu; subst hu; rfl) (by rw [HLN.o]; unfold maxLen; omega) (by rw [HLN.o]; omega) (by have := HBr.o.size; simp; omega) ?_; intro v1 W3 hO2 hG2))
     have HB3 : Hid (zB Wk W3) := (HBr.o.alloc HBr.o.size _).grown hG2.o (by have := HBr.o.size; simp; omega) (fun q hq => qlQ HO.o hq)
     have HO3 : Hid (q9 W3 Wk.heap.size 5 v1 (((R.words.flatMap jL).take (j + 1)).map cv)) := by
      have e := hO2.o
      rw [HBN.o, HFB.o] at e
      have hjl : j < (R.words.flatMap jL).length := by rw [qaw]; exact hj64
      have e2 : (R.words.flatMap jL).take (j + 1) = (R.words.flatMap jL).take j ++ [(R.words.flatMap jL).getD j 0] := by
       rw [List.take_succ_eq_append_getElem hjl]; simp [List.getD, zO hjl]
      rw [e2, List.map_append]; exact e
     clear HO HBr hO2 hG2 ch e8 er bq br
     go_wp2
     go_roundw
     case rel => exact ⟨j + 1, by omega, by go_num, HO3, HB3⟩
     case measure => simp [intOf]; omega
    ·
     have hj' : j = 64 := by omega
     have bj64 : (64 : Int) ≤ (j : Int) := by omega
     have hfl : (R.words.flatMap jL).length = 64 := qaw _
     have HO' : q9 wr Wk.heap.size 5 u20 ((R.words.flatMap jL).map cv) := by
      have e := HO.o; rw [hj', zP (by rw [hfl]; exact zm _)] at e; exact e
     obtain ⟨go, capo, hv, _, _, _, _, hc⟩ := HO'.form (by rw [zv, hfl]; omega)
     rw [zv, hfl] at hv
     subst hv
     have hcv : (convert 89 9 (.slice (some ⟨go, 0, none⟩) 64 capo)).run Tryz.prog wr = .ok (.string ⟨(R.words.flatMap jL).toArray⟩) wr := by
      have e := run_convert_bytes_back (P := Tryz.prog) wr 89 9 5 ⟨go, 0, none⟩ capo (R.words.flatMap jL) YW (by kernel_rfl) (by kernel_rfl) (fun i hi => by
       rw [Addr.add_mid, Zb, hc i (by rw [zv]; exact hi), Zp, zO hi]
       rfl)
      rw [hfl] at e; exact e
     clear HO HO' hc hj hj64 hj' hfl
     generalize hD : ByteArray.mk (R.words.flatMap jL).toArray = D at hcv
     have HD := qa hD
     clear hD
     go_wp2_with fail
     go_ret
     refine ⟨NB, by rw [← HPB.o, ← HNP.o]; exact HN.o, ?_, HBw.o.trans (HBr.o.mono HBw.o.size)⟩
     rw [← HPB.o, ← HR.o, HD.o]; rfl
end
end Go.Proofs.YtccgfabojbjmjaaGreatDoor
