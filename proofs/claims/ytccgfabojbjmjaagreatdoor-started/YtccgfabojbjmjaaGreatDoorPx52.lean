import Derived.Test.YtccgfabojbjmjaaGreatDoorPx50
import Derived.Test.YtccgfabojbjmjaaGreatDoorPx51
import Derived.Deep.CutBlock
import Derived.Deep.Strs
namespace Go.Proofs.YtccgfabojbjmjaaGreatDoor
open Go.RowKit
section
attribute [local irreducible] lkS lkE lsS padB sgK sgC sgS sdC sdP sdN lvE imV imK imP imG imS imD tuW ldC hdB hashOf
set_option maxRecDepth 100000 in
set_option maxHeartbeats 8000000 in
theorem started_any (sd : ByteArray) (a1 : Option Addr) (n1 cap1 : Nat) (Sx : Nat → ByteArray) (sl : Int) (v o : Nat) (pl : ByteArray) (at_ by_ : Int) (w : World)
  (hos : ∀ i, i < n1 → ∃ x, a1 = some x ∧ x.block < w.heap.size ∧ w.cell? (x.add i) = some (.string (Sx i)))
  (sl0 : -9223372036854775808 ≤ sl) (sl1 : sl ≤ 9223372036854775807) (at0 : -9223372036854775808 ≤ at_) (at1 : at_ ≤ 9223372036854775807) (by0 : -9223372036854775808 ≤ by_) (by1 : by_ ≤ 9223372036854775807)
  (hv : v < 4294967296) (ho : o < 4294967296) (kA pA sA gA : Addr) (hV : Env w kA pA sA gA) :
  Calls Tryz.prog 7 #[.string sd, .slice a1 n1 cap1, .int .i64 sl, .int .u32 v, .int .u32 o, .string pl, .int .i64 at_, .int .i64 by_] w fun e w' => e = .returned (.bool true) ∧ Below w.heap.size w w' := by
 have HV := hide hV
 have HG := hide hV.gl
 have HK := hide hV.tab
 have HO := hide hV.ord
 have HE := hide hV.sen.hE
 have HOS := hide hos
 clear hV hos
 go_enter Tryz.func7, Tryz.ntmps7
 go_wp2_with fail
 refine (awakeK w HG.out).mono ?_
 rintro e W1 ⟨rfl, hB⟩
 have B1 := hide hB
 clear hB
 go_wp2_with fail
 refine (bytesA' sd 32 (by decide) _).mono ?_
 rintro e W2 ⟨rfl, hB⟩
 have B2 := hide (B1.out.trans (hB.mono B1.out.size))
 clear hB B1
 obtain ⟨S, ES⟩ : ∃ S, Hid (S = strOf (padB sd 32)) := ⟨_, hide rfl⟩
 have H32 : Hid (S.size = 32) := by rw [ES.out]; exact pad_size _ _
 rw [← ES.out]
 go_upto_if 51 with fail
 go_cut [5] from 49 to 53 (fun s5 wx => ∃ P : ByteArray, s5 = .string P ∧ P.size ≤ 1000000 ∧ wx = W2)
 case first =>
  by_cases hp : 1000000 < pl.size
  ·
   have hp' : (1000000 : Int) < (pl.size : Int) := by omega
   have hp2 : (1000000 : Int) ≤ (pl.size : Int) := by omega
   go_wp2_with fail
   go_meet
   case rel => exact ⟨_, rfl, by rw [ByteArray.size_extract]; omega, rfl⟩
  ·
   have hp' : (pl.size : Int) ≤ (1000000 : Int) := by omega
   go_wp2_with fail
   go_meet
   case rel => exact ⟨_, rfl, by omega, rfl⟩
 case rest =>
 obtain ⟨P, rfl, hP, rfl⟩ := hcut
 obtain ⟨i0, HI0, HZ0⟩ : ∃ i, Hid (Tryz.prog.info? 9 = some i) ∧ Hid (i.zero = some (.string ⟨#[]⟩) ∧ i.size = 1 ∧ i.bytes = 16) := by
  have e := infoStr
  cases hi : Tryz.prog.info? 9 with
  | none => rw [hi] at e; cases e
  | some i => rw [hi] at e; simp at e; exact ⟨i, rfl, e.1, e.2.1, e.2.2⟩
 go_upto_block 0 with fail
 go_cut [19, 20] from 54 to 71 (fun s19 s20 wr => ∃ xs : List ByteArray, xs.length ≤ 3 ∧ s20 = .int .i64 xs.length ∧ Hid (∀ x ∈ xs, x.size = 32) ∧ Hid (Own wr w.heap.size 9 s19 (xs.map Value.string)) ∧ Hid (Below w.heap.size w wr))
 case first =>
  go_wp2_with fail
  go_loopw [19, 20] (fun s19 s20 wr => ∃ xs : List ByteArray, xs.length ≤ 3 ∧ s20 = .int .i64 xs.length ∧ Hid (∀ x ∈ xs, x.size = 32) ∧ Hid (Own wr w.heap.size 9 s19 (xs.map Value.string)) ∧ Hid (Below w.heap.size w wr)) (fun _ s20 _ => 3 - (intOf s20).toNat)
  case atStart => exact ⟨[], by simp, rfl, hide (fun x hx => by cases hx), hide (Own.nil _ _ _), B2⟩
  case round =>
   clear B2
   obtain ⟨xs, hx3, rfl, X32, HW, HB⟩ := hrel
   obtain ⟨j, Hj⟩ : ∃ j, Hid (j = xs.length) := ⟨_, hide rfl⟩
   rw [← Hj.out]
   by_cases c1 : j < n1
   case neg =>
    have c1' : (n1 : Int) ≤ (j : Int) := by omega
    go_wp2_with fail
    go_meet
    case rel => exact ⟨xs, hx3, by rw [← Hj.out], X32, HW, HB⟩
   have c1' : (j : Int) < (n1 : Int) := by omega
   by_cases c2 : j < 3
   case neg =>
    have c2' : (3 : Int) ≤ (j : Int) := by omega
    go_wp2_with fail
    go_meet
    case rel => exact ⟨xs, hx3, by rw [← Hj.out], X32, HW, HB⟩
   have c2' : (j : Int) < (3 : Int) := by omega
   obtain ⟨x, hx, hxb, hxc⟩ := HOS.out j c1
   subst hx
   have hix := idxStrG x n1 j cap1 c1
   obtain ⟨Y, EY⟩ : ∃ Y, Hid (Y = Sx j) := ⟨_, hide rfl⟩
   have hcl : wr.cell? (x.add j) = some (.string Y) := by rw [EY.out]; exact (HB.out.cell (by rw [addr_blkS]; exact hxb)).trans hxc
   have hsz := HB.out.size
   go_wp2_with fail
   refine (bytesA' Y 32 (by decide) _).mono ?_
   rintro e W3 ⟨rfl, hB⟩
   have HW3 := hide (HW.out.below hB)
   have HB3 := hide (HB.out.trans (hB.mono hsz))
   have hsz3 := HB3.out.size
   obtain ⟨Z, EZ⟩ : ∃ S, Hid (S = strOf (padB Y 32)) := ⟨_, hide rfl⟩
   have Z32 : Hid (Z.size = 32) := by rw [EZ.out]; exact pad_size _ _
   rw [← EZ.out]
   have HLn : Hid ((xs.map Value.string).length = j) := by show _ = _; rw [List.length_map, ← Hj.out]
   clear hB hxc HW HB hix hcl
   go_wp2_with (first | (at_builtin; refine wpList_append_Own _ (by rfl) (.tmp 64) (.tmp 70) 38 (by rfl) w.heap.size 9 i0 (.string ⟨#[]⟩) 16 underStrsO HI0.out HZ0.out.1 HZ0.out.2.1 HZ0.out.2.2 rfl _ _ (by rfl) (HW3.out.alloc _) ⟨W3.heap.size, 0, none⟩ 1 1 [_] (by rfl) rfl (by exact cell_one_new _ _ _) (by intro u hu; simp at hu; rcases hu with rfl; rfl) (by rw [HLn.out]; unfold maxLen; omega) (by rw [HLn.out]; omega) (by simp; omega) ?_; intro v1 W4 hO2 hG2))
   refine ⟨⟨xs ++ [Z], by rw [List.length_append, ← Hj.out]; simp; omega, by rw [List.length_append, ← Hj.out]; simp, ?_, ?_, ?_⟩, by simp [intOf]; omega⟩
   ·
    intro y hy
    rcases List.mem_append.1 hy with h | h
    · exact X32.out y h
    · rw [List.mem_singleton.1 h]; exact Z32.out
   · rw [List.map_append]; exact hO2.out
   · exact (HB3.out.alloc hsz3 _).grown hG2.out (by simp; omega) (fun k hk => own_ge HW3.out hk)
 case rest =>
  obtain ⟨xs, hx3, rfl, X32, HW, HB⟩ := hcut
  obtain ⟨W3, hW3⟩ : ∃ W, W = wc := ⟨_, rfl⟩
  rw [← hW3] at HW HB ⊢
  clear hW3 B2
  obtain ⟨j, Hj⟩ : ∃ j, Hid (j = xs.length) := ⟨_, hide rfl⟩
  rw [← Hj.out]
  have j3 : j ≤ 3 := by rw [Hj.out]; exact hx3
  clear hx3
  obtain ⟨pt, cp, hu19⟩ := HW.out.len
  rw [List.length_map, ← Hj.out] at hu19
  subst hu19
  have hj1 : IntKind.i64.wrap ((j : Int) + 1) = (j : Int) + 1 := by rw [IntKind.wrap_i64]; omega
  go_wp2_with fail
  refine (pickA sl ((j : Int) + 1) _ sl0 sl1 (by omega) (by omega)).mono ?_
  rintro e W4 ⟨m, rfl, hm, hw⟩
  have hw' := hw.symm
  subst hw'
  clear hw
  have hmj : m ≤ j := by omega
  clear hm
  go_wp2_with fail
  refine (signedK S ⟨#[]⟩ H32.out (by unfold maxLen; exact Nat.zero_le _) W3 (HG.out.keep HB.out) (HK.out.below HB.out HK.out.lt) (HO.out.below HB.out HO.out.lt) ((HB.out.cell (World.block_lt_of_cell? w _ HE.out)).trans HE.out)).mono ?_
  rintro e W4 ⟨rfl, hB⟩
  have HW4 := hide (HW.out.below hB)
  have HB4 := hide (HB.out.trans (hB.mono HB.out.size))
  have hsz4 := HB4.out.size
  clear hB HW HB
  obtain ⟨Ky, EK⟩ : ∃ S', Hid (S' = lkS S) := ⟨_, hide rfl⟩
  have K32 : Hid (Ky.size = 32) := by rw [EK.out]; exact lkS_len H32.out
  obtain ⟨U0, EU0⟩ : ∃ S', Hid (S' = lsS S ⟨#[]⟩) := ⟨_, hide rfl⟩
  rw [← EK.out, ← EU0.out]
  have HLn : Hid ((xs.map Value.string).length = j) := by show _ = _; rw [List.length_map, ← Hj.out]
  go_upto_region 15 with (first | (at_builtin; refine wpList_append_Own _ (by rfl) (.tmp 89) (.tmp 90) 38 (by rfl) w.heap.size 9 i0 (.string ⟨#[]⟩) 16 underStrsO HI0.out HZ0.out.1 HZ0.out.2.1 HZ0.out.2.2 rfl _ _ (by rfl) (HW4.out.alloc _) ⟨W4.heap.size, 0, none⟩ 1 1 [_] (by rfl) rfl (by exact cell_one_new _ _ _) (by intro u hu; simp at hu; rcases hu with rfl; rfl) (by rw [HLn.out]; unfold maxLen; omega) (by rw [HLn.out]; omega) (by simp; omega) ?_; intro v1 W5 hO2 hG2))
  have HB5 : Hid (Below w.heap.size w W5) := (HB4.out.alloc hsz4 _).grown hG2.out (by simp; omega) (fun k hk => own_ge HW4.out hk)
  obtain ⟨g, gc, hv1, gB, gL, gc1, gc2, gx⟩ := hO2.out.form (by rw [List.length_append]; simp)
  rw [List.length_append, HLn.out, List.length_singleton] at hv1
  subst hv1
  have HW5a := hide hO2.out
  clear hO2 hG2 HW4 HB4 hsz4 gc1 gc2 gx
  obtain ⟨L, EL⟩ : ∃ L, Hid (L = xs ++ [(⟨#[]⟩ : ByteArray)]) := ⟨_, hide rfl⟩
  have HW5 : Hid (Own W5 w.heap.size 9 (.slice (some ⟨g, 0, none⟩) (j + 1) gc) (L.map Value.string)) := by rw [EL.out, List.map_append]; exact HW5a.out
  have LL : L.length = j + 1 := by rw [EL.out, List.length_append, ← Hj.out]; rfl
  have L32 : Hid (∀ x (h : x < L.length), x ≠ j → L[x].size = 32) := by
   intro x h hx
   have hxj : x < xs.length := by have := Hj.out; omega
   have : L[x] = xs[x] := by
    have e : L[x]? = xs[x]? := by rw [EL.out, List.getElem?_append_left hxj]
    rw [List.getElem?_eq_getElem h, List.getElem?_eq_getElem hxj] at e
    exact Option.some.inj e
   rw [this]; exact X32.out _ (List.getElem_mem hxj)
  have hjw : IntKind.i64.wrap (((j + 1 : Nat) : Int) - 1) = (j : Int) := by rw [IntKind.wrap_i64]; omega
  clear HW5a EL Hj X32 HLn hj1
  go_upto_block 2 with fail
  go_cut [25] from 95 to 107 (fun s25 wr => ∃ L : List ByteArray, L.length = j + 1 ∧ s25 = .int .i64 m ∧ Hid (∀ x (h : x < L.length), x ≠ m → L[x].size = 32) ∧ Hid (Own wr w.heap.size 9 (.slice (some ⟨g, 0, none⟩) (j + 1) gc) (L.map Value.string)) ∧ Hid (Below w.heap.size w wr))
  case first =>
   go_wp2_with fail
   go_loopw [25] (fun s25 wr => ∃ (i : Nat) (L : List ByteArray), m ≤ i ∧ i ≤ j ∧ L.length = j + 1 ∧ s25 = .int .i64 i ∧ Hid (∀ x (h : x < L.length), x ≠ i → L[x].size = 32) ∧ Hid (Own wr w.heap.size 9 (.slice (some ⟨g, 0, none⟩) (j + 1) gc) (L.map Value.string)) ∧ Hid (Below w.heap.size w wr)) (fun s25 _ => (intOf s25).toNat)
   case atStart => exact ⟨j, L, hmj, Nat.le_refl _, LL, rfl, L32, HW5, HB5⟩
   case round =>
    clear HW5 HB5 L32 LL L
    obtain ⟨i, L, hmi, hij, LL, rfl, L32, HW, HB⟩ := hrel
    by_cases c : m < i
    ·
     have c' : (m : Int) < (i : Int) := by omega
     have hL : Hid ((L.map Value.string).length = j + 1) := by show _ = _; rw [List.length_map, LL]
     have hw1 : IntKind.i64.wrap ((i : Int) - 1) = ((i - 1 : Nat) : Int) := by rw [IntKind.wrap_i64]; omega
     have h1 : i - 1 < L.length := by omega
     have hix1 := idxStrO g (j + 1) (i - 1) gc (by omega)
     have hix2 := idxStrO g (j + 1) i gc (by omega)
     obtain ⟨Y, EY⟩ : ∃ Y, Hid (Y = L[i - 1]) := ⟨_, hide rfl⟩
     obtain ⟨_, _, s3, _, _⟩ := HW.out.set1 (i - 1) (by rw [hL.out]; omega) (.string Y)
     obtain ⟨t1, t2, t3, t4, t5⟩ := HW.out.set1 i (by rw [hL.out]; omega) (.string Y)
     rw [List.getElem?_map, List.getElem?_eq_getElem h1, Option.map_some, ← EY.out] at s3
     rw [List.getElem?_map, List.getElem?_eq_getElem (by omega), Option.map_some] at t3
     have T1 := hide t1
     obtain ⟨Q, EQ⟩ : ∃ Y, Hid (Y = L[i]) := ⟨_, hide rfl⟩
     rw [← EQ.out] at t3
     have Y32 : Hid (Y.size = 32) := by rw [EY.out]; exact L32.out (i - 1) h1 (by omega)
     clear t1
     go_wp2_with fail
     refine ⟨⟨i - 1, L.set i Y, by omega, by omega, by rw [List.length_set]; exact LL, rfl, ?_, ?_, ?_⟩, by simp [intOf]; omega⟩
     ·
      intro x h hx
      rw [List.getElem_set]
      split
      · exact Y32.out
      · exact L32.out x (by rw [List.length_set] at h; exact h) (by omega)
     · rw [List.map_set]; exact T1.out
     · exact Below.setCell (p := ⟨g, i, none⟩) HB.out gB _
    ·
     obtain rfl : i = m := by omega
     go_wp2_with fail
     go_meet
     case rel => exact ⟨L, LL, rfl, L32, HW, HB⟩
  case rest =>
   clear HW5 HB5 L32 LL L
   obtain ⟨L, LL, rfl, L32, HW, HB⟩ := hcut
   obtain ⟨W6, hW6⟩ : ∃ W, W = wc := ⟨_, rfl⟩
   rw [← hW6] at HW HB ⊢
   clear hW6
   have hL : Hid ((L.map Value.string).length = j + 1) := by show _ = _; rw [List.length_map, LL]
   have hix := idxStrO g (j + 1) m gc (by omega)
   obtain ⟨t1, t2, t3, t4, t5⟩ := HW.out.set1 m (by rw [hL.out]; omega) (.string Ky)
   rw [List.getElem?_map, List.getElem?_eq_getElem (by omega), Option.map_some] at t3
   obtain ⟨Q, EQ⟩ : ∃ Y, Hid (Y = L[m]) := ⟨_, hide rfl⟩
   rw [← EQ.out] at t3
   have T1 := hide t1
   clear t1
   go_upto_region 20 with fail
   have HB7 : Hid (Below w.heap.size w (W6.setCell ⟨g, m, none⟩ (.string Ky))) := Below.setCell (p := ⟨g, m, none⟩) HB.out gB _
   generalize hW7 : W6.setCell ⟨g, m, none⟩ (.string Ky) = W7 at *
   obtain ⟨M, EM⟩ : ∃ M, Hid (M = L.set m Ky) := ⟨_, hide rfl⟩
   have HW7 : Hid (Own W7 w.heap.size 9 (.slice (some ⟨g, 0, none⟩) (j + 1) gc) (M.map Value.string)) := by rw [EM.out, List.map_set]; exact T1.out
   have lM : Hid (M.length = j + 1) := by show _ = _; rw [EM.out, List.length_set, LL]
   have M32 : Hid (∀ x ∈ M, x.size = 32) := by
    intro x hx
    obtain ⟨y, hy, rfl⟩ := List.mem_iff_getElem.1 hx
    have hy2 : y < L.length := by rw [EM.out, List.length_set] at hy; exact hy
    have e : M[y]? = (L.set m Ky)[y]? := by rw [EM.out]
    rw [List.getElem?_eq_getElem hy, List.getElem?_eq_getElem (by rw [List.length_set]; exact hy2), List.getElem_set] at e
    have e2 := Option.some.inj e
    rw [e2]
    split
    · exact K32.out
    · exact L32.out y hy2 (by omega)
   have Mm : Hid (M.getD m ByteArray.empty = Ky) := by
    show _ = _
    rw [EM.out, List.getD_eq_getElem?_getD, List.getElem?_set_self (by omega)]; rfl
   have S7 : Hid (StrsAt W7 g M) := strsAt_own HW7.out
   have l7 : Hid (g < W7.heap.size) := own_lt HW7.out
   clear hW7 T1 t2 t3 t4 t5 hix EQ L32 HW HB LL hL EM HW7
   have hN1 := latchNew_any M (by rw [lM.out]; omega) M32.out g gc (v : Int) (by omega) (by omega) W7 S7.out l7.out
   rw [lM.out] at hN1
   have HN1 := hide hN1
   clear hN1
   go_wp2_with fail
   refine HN1.out.mono ?_
   rintro e W8 ⟨gx, kx, bx, rx, rfl, hB, hLx, x1, x2, x3, x4⟩
   have S8 : Hid (StrsAt W8 g M) := S7.out.below hB l7.out
   have l8 : Hid (g < W8.heap.size) := Nat.lt_of_lt_of_le l7.out hB.size
   have h7 := HB7.out.size
   have y0 := hB.size
   have HB8 := hide (HB7.out.trans (hB.mono h7))
   have LX8 := hide hLx
   have gxl := lt_row hLx.row
   have bxl := hLx.base.lt
   have rxl := lt_row hLx.map
   have kxl : Hid (∀ x, kx.ownBlock = some x → W7.heap.size ≤ x ∧ x < W8.heap.size) := fun x hx => ⟨x4 x hx, hLx.keys.lt x hx⟩
   clear hB hLx x4 HN1 S7 HB7
   have hN2 := latchNew_any M (by rw [lM.out]; omega) M32.out g gc (v : Int) (by omega) (by omega) W8 S8.out l8.out
   rw [lM.out] at hN2
   have HN2 := hide hN2
   clear hN2
   go_wp2_with fail
   refine HN2.out.mono ?_
   rintro e W9 ⟨gy, ky, by', ry, rfl, hB, hLy, z1, z2, z3, z4⟩
   have S9 : Hid (StrsAt W9 g M) := S8.out.below hB l8.out
   have l9 : Hid (g < W9.heap.size) := Nat.lt_of_lt_of_le l8.out hB.size
   have h8 := HB8.out.size
   have HB9 := hide (HB8.out.trans (hB.mono h8))
   have LX9 := hide (LX8.out.below hB)
   have LY9 := hide hLy
   clear hB hLy z4 HN2 S8 HB8 LX8
   have hm8 : (m : Int) % 256 = m := by omega
   go_wp2_with fail
   obtain ⟨Hd, EHd⟩ : ∃ H, Hid (H = strOf (hdB v m P)) := ⟨_, hide rfl⟩
   have bHd : Hid (bytesOf Hd = hdB v m P) := by show _ = _; rw [EHd.out, bytesOf_strOf]
   have sHd : Hid (Hd.size = 128) := by show _ = _; rw [← bytesOf_length, bHd.out, hdB_len]
   refine (headN v m P hv (by omega) hP Hd EHd.out W9 (HV.out.below HB9.out).tab).mono ?_
   rintro e W10 ⟨rfl, hB⟩
   have S10 : Hid (StrsAt W10 g M) := S9.out.below hB l9.out
   have l10 : Hid (g < W10.heap.size) := Nat.lt_of_lt_of_le l9.out hB.size
   have HB10 := hide (HB9.out.trans (hB.mono HB9.out.size))
   have LX10 := hide (LX9.out.below hB)
   have LY10 := hide (LY9.out.below hB)
   clear hB S9 l9 HB9 LX9 LY9
   obtain ⟨U, EU⟩ : ∃ U, Hid (U = lsS S Hd) := ⟨_, hide rfl⟩
   have U64 : Hid (U.size = 64) := by rw [EU.out]; exact lsS_len H32.out Hd
   go_wp2_with fail
   refine (signedN S Hd Ky U H32.out (by rw [sHd.out]; decide) EK.out EU.out kA pA sA gA w W10 HV.out HB10.out).mono ?_
   rintro e W11 ⟨rfl, hB⟩
   have S11 : Hid (StrsAt W11 g M) := S10.out.below hB l10.out
   have l11 : Hid (g < W11.heap.size) := Nat.lt_of_lt_of_le l10.out hB.size
   have HB11 := hide (HB10.out.trans (hB.mono HB10.out.size))
   have LX11 := hide (LX10.out.below hB)
   have LY11 := hide (LY10.out.below hB)
   clear hB S10 l10 HB10 LX10 LY10
   obtain ⟨T0, ET0⟩ : ∃ T, Hid (T = Hd ++ U) := ⟨_, hide rfl⟩
   have hT0 : Hd ++ U = T0 := ET0.out.symm
   obtain ⟨T, ET⟩ : ∃ T, Hid (T = T0 ++ P) := ⟨_, hide rfl⟩
   have hT : T0 ++ P = T := ET.out.symm
   have hs1 : Hd.size + U.size ≤ 9223372036854775807 := by rw [sHd.out, U64.out]; decide
   have sT0 : T0.size = 192 := by rw [ET0.out, ByteArray.size_append, sHd.out, U64.out]
   have hs2 : T0.size + P.size ≤ 9223372036854775807 := by omega
   have bT : bytesOf T = bytesOf Hd ++ (bytesOf U ++ bytesOf P) := by rw [ET.out, sadd_bytes, ET0.out, sadd_bytes, List.append_assoc]
   have I := hide (img_is T v m Hd U P hv (by omega) (by omega) bHd.out U64.out bT)
   have sT : T.size = 192 + P.size := I.out.sz
   clear bT
   go_wp2_with fail
   refine (pickA at_ (192 + (P.size : Int)) _ at0 at1 (by omega) (by omega)).mono ?_
   rintro e W12 ⟨n, rfl, hn, hw⟩
   have hw' := hw.symm
   subst hw'
   clear hw hs1 hs2 hT0 hT
   go_wp2_with fail
   refine (pickA by_ 255 _ by0 by1 (by omega) (by omega)).mono ?_
   rintro e W12 ⟨c0, rfl, hc0, hw⟩
   have hw' := hw.symm
   subst hw'
   clear hw
   have hw1 : IntKind.i64.wrap (1 + (c0 : Int)) = 1 + (c0 : Int) := by rw [IntKind.wrap_i64]; omega
   have hw2 : (1 + (c0 : Int)) % 256 = 1 + (c0 : Int) := by omega
   obtain ⟨c, Ec⟩ : ∃ c : UInt8, Hid (c = UInt8.ofNat (1 + c0)) := ⟨_, hide rfl⟩
   have Ec8 : Hid (C8 c = 1 + (c0 : Int)) := by show _ = _; rw [Ec.out]; unfold C8; rw [UInt8.toNat_ofNat', Nat.mod_eq_of_lt (by omega)]; omega
   have cne : c ≠ 0 := by
    intro h
    have e := Ec8.out
    rw [h] at e
    unfold C8 at e
    simp at e
    omega
   have hnT : n < (bytesOf T).length := by rw [bytesOf_length]; omega
   obtain ⟨u, Eu⟩ : ∃ u, Hid (u = strOf ((bytesOf T).set n ((bytesOf T)[n] ^^^ c))) := ⟨_, hide rfl⟩
   have bu : bytesOf u = (bytesOf T).set n ((bytesOf T)[n] ^^^ c) := by rw [Eu.out, bytesOf_strOf]
   obtain ⟨d, Ed⟩ : ∃ d, Hid (tuW M (v : Int) n u = d) := ⟨_, hide rfl⟩
   have Eld : Hid (ldC (nums M) (v : Int) u = d) := by
    show _ = _
    rw [← Ed.out]
    exact turned_right I.out.r hnT (u8_xor_ne _ _ cne) bu M M32.out v
   have su : u.size = T.size := size_set bu
   have hTn := turnedK T n c M g gc (v : Int) (by omega) (by omega) hnT W11 S11.out l11.out kA pA sA gA (HV.out.below HB11.out) u bu d Ed.out
   rw [lM.out, Ec8.out] at hTn
   have HTn := hide hTn
   clear hTn bu cne
   go_wp2_with fail
   refine HTn.out.mono ?_
   rintro e W12 ⟨rfl, hB⟩
   have HB12 := hide (HB11.out.trans (hB.mono HB11.out.size))
   have LX12 := hide (LX11.out.below hB)
   have LY12 := hide (LY11.out.below hB)
   clear hB S11 l11 HB11 LX11 LY11 HTn
   have h12 := HB12.out.size
   have hz := zeroVd
   go_wp2_with fail
   refine (load_code gy 121 ky (nums M) (v : Int) by' ry 0 [] u (by unfold maxLen; omega) kA pA sA gA w W12 LY12.out HV.out HB12.out (by omega) (by omega) d Eld.out).mono ?_
   rintro e W13 ⟨n', i', f', z', u', rfl, hZ, hcond⟩
   have HB13 : Hid (Below w.heap.size w W13) := HB12.out.trans (hZ.1.below (by omega) (by omega) (by omega) h12)
   have LX13 := hide (LX12.out.bx3 hZ.1 (N := W8.heap.size) gxl bxl rxl (fun x hx => (kxl.out x hx).2) z1 z2 z3)
   obtain ⟨_, ly, cy, LY⟩ := hZ
   have LY13 := hide LY
   have HC := hide hcond
   clear LY hcond LY12 LX12 HB12 h12
   have h13 := HB13.out.size
   go_upto_region 29 with (first
    | (refine wpList_store_row (by rfl) 47 (.tmp 37) (.tmp 172) (by rfl) W13.heap.size #[.int .i64 d, .int .u32 n', .int .i64 i', .int .i64 f', .int .i64 z'] (by rfl) (by rfl) 47 _ (heap_alloc_new _ _) (by rw [sizeVd]; rfl) rfl (by simp [Value.oneCell']) ?_))
   try rw [put_none']
   generalize hW14 : World.setRow _ _ _ = W14
   have K14 : Below W13.heap.size W13 W14 := by rw [← hW14]; exact below_setRow ((Below.refl _ _).alloc (Nat.le_refl _) _) (Nat.le_refl _) _
   obtain ⟨q37, hq37⟩ : ∃ q, q = W13.heap.size := ⟨_, rfl⟩
   have R37 : Hid (W14.heap[q37]? = some (.cells #[.int .i64 d, .int .u32 n', .int .i64 i', .int .i64 f', .int .i64 z'] 47 (0, 0))) := by rw [← hW14, hq37]; exact setRow_heap _ _ _ _ _ _ (heap_alloc_new _ _)
   rw [← hq37]
   have HB14 := hide (HB13.out.trans (K14.mono h13))
   have LX14 := hide (LX13.out.below K14)
   have cv1 := (LY13.out.below K14).c1
   obtain ⟨r0, r1, r2, r3, r4⟩ := vd_cells R37.out
   clear hW14 K14 hq37 LX13 LY13 HB13 R37 h13
   go_cut [196] from 173 to 195 (fun s196 wx => s196 = .bool false ∧ wx = W14)
   case first =>
    by_cases hd : d = 0
    ·
     clear HC
     subst hd
     go_wp2_with fail
     go_meet
     case rel => exact ⟨rfl, rfl⟩
    ·
     obtain ⟨rfl, rfl, rfl, rfl, rfl⟩ := HC.out hd
     have hdb : (d == 0) = false := by simp [hd]
     clear HC
     go_wp2_with fail
     refine (version_any W14 gy (v : Int) cv1).mono ?_
     rintro e W ⟨rfl, hw⟩
     have hw' := hw.symm
     subst hw'
     clear hw
     go_wp2_with fail
     go_meet
     case rel => exact ⟨rfl, rfl⟩
   case rest =>
   obtain ⟨rfl, hwc⟩ := hcut
   have hwc' := hwc.symm
   subst hwc'
   clear hwc HC r0 r1 r2 r3 r4 cv1 Eld Ed
   have h14 := HB14.out.size
   have hl0 : ldC (nums M) (v : Int) T = 0 := taken I.out M M32.out (by rw [lM.out]; omega) (v : Int) (by omega) (by rw [Mm.out, EK.out, EU.out]; exact verify_self H32.out Hd)
   have Hl0 := hide hl0
   clear hl0
   go_wp2_with fail
   refine (load_yesL gx 121 kx (nums M) (v : Int) bx rx 0 [] T (by unfold maxLen; omega) kA pA sA gA w W14 LX14.out HV.out HB14.out (by omega) (by omega) Hl0.out v m P.size I.out.ev I.out.ek (by rw [I.out.ep])).mono ?_
   rintro e W15 ⟨rfl, hZ⟩
   have HB15 : Hid (Below w.heap.size w W15) := HB14.out.trans (hZ.1.below (by omega) (by omega) (by omega) h14)
   obtain ⟨_, l15, c15, LX⟩ := hZ
   have LX15 := hide LX
   clear LX LX14 HB14 h14
   have h15 := HB15.out.size
   go_upto_region 32 with (first
    | (refine wpList_store_row (by rfl) 47 (.tmp 38) (.tmp 199) (by rfl) W15.heap.size #[.int .i64 0, .int .u32 (v : Int), .int .i64 (m : Int), .int .i64 192, .int .i64 (P.size : Int)] (by rfl) (by rfl) 47 _ (heap_alloc_new _ _) (by rw [sizeVd]; rfl) rfl (by simp [Value.oneCell']) ?_))
   try rw [put_none']
   generalize hW16 : World.setRow _ _ _ = W16
   have K16 : Below W15.heap.size W15 W16 := by rw [← hW16]; exact below_setRow ((Below.refl _ _).alloc (Nat.le_refl _) _) (Nat.le_refl _) _
   obtain ⟨q38, hq38⟩ : ∃ q, q = W15.heap.size := ⟨_, rfl⟩
   have R38 : Hid (W16.heap[q38]? = some (.cells #[.int .i64 0, .int .u32 (v : Int), .int .i64 (m : Int), .int .i64 192, .int .i64 (P.size : Int)] 47 (0, 0))) := by rw [← hW16, hq38]; exact setRow_heap _ _ _ _ _ _ (heap_alloc_new _ _)
   have lq38 : W15.heap.size ≤ q38 := by omega
   rw [← hq38]
   have HB16 := hide (HB15.out.trans (K16.mono h15))
   have LX16 := hide (LX15.out.below K16)
   have cx1 := LX16.out.c1
   obtain ⟨r0, r1, r2, r3, r4⟩ := vd_cells R38.out
   have hgx : gx ≠ q38 := by have := lt_row LX15.out.row; omega
   have hbx : bx ≠ q38 := by have := LX15.out.base.lt; omega
   have hrx : rx ≠ q38 := by have := lt_row LX15.out.map; omega
   clear hW16 K16 hq38 LX15 HB15 h15 lq38
   go_wp2_with fail
   refine (version_any W16 gx (v : Int) cx1).mono ?_
   rintro e W ⟨rfl, hw⟩
   have hw' := hw.symm
   subst hw'
   clear hw r0 r1 r2 r3 r4
   have h16 := HB16.out.size
   go_upto_region 35 with fail
   have hox : (o : Int) % ((v : Int) / 2 + 1) = ((o % (v / 2 + 1) : Nat) : Int) := by push_cast; rfl
   rw [hox]
   have hx1 : o % (v / 2 + 1) < v / 2 + 1 := Nat.mod_lt _ (by omega)
   generalize hx0 : o % (v / 2 + 1) = x at *
   clear hox hx0
   have hxv : x < 4294967296 := by omega
   obtain ⟨G, EG⟩ : ∃ H, Hid (H = strOf (hdB x m P)) := ⟨_, hide rfl⟩
   have bG : Hid (bytesOf G = hdB x m P) := by show _ = _; rw [EG.out, bytesOf_strOf]
   have sG : Hid (G.size = 128) := by show _ = _; rw [← bytesOf_length, bG.out, hdB_len]
   go_wp2_with fail
   refine (headN x m P hxv (by omega) hP G EG.out W16 (HV.out.below HB16.out).tab).mono ?_
   rintro e W17 ⟨rfl, hB⟩
   have HB17 := hide (HB16.out.trans (hB.mono h16))
   have LX17 := hide (LX16.out.below hB)
   have R17 := hide (row_keep' R38.out hB)
   clear hB HB16 LX16 R38 h16 cx1
   obtain ⟨U2, EU2⟩ : ∃ U, Hid (U = lsS S G) := ⟨_, hide rfl⟩
   have U264 : Hid (U2.size = 64) := by rw [EU2.out]; exact lsS_len H32.out G
   go_wp2_with fail
   refine (signedN S G Ky U2 H32.out (by rw [sG.out]; decide) EK.out EU2.out kA pA sA gA w W17 HV.out HB17.out).mono ?_
   rintro e W18 ⟨rfl, hB⟩
   have HB18 := hide (HB17.out.trans (hB.mono HB17.out.size))
   have LX18 := hide (LX17.out.below hB)
   have R18 := hide (row_keep' R17.out hB)
   clear hB HB17 LX17 R17
   have h18 := HB18.out.size
   obtain ⟨Y0, EY0⟩ : ∃ T, Hid (T = G ++ U2) := ⟨_, hide rfl⟩
   have hY0 : G ++ U2 = Y0 := EY0.out.symm
   obtain ⟨Y, EY⟩ : ∃ T, Hid (T = Y0 ++ P) := ⟨_, hide rfl⟩
   have hY : Y0 ++ P = Y := EY.out.symm
   have hs1 : G.size + U2.size ≤ 9223372036854775807 := by rw [sG.out, U264.out]; decide
   have sY0 : Y0.size = 192 := by rw [EY0.out, ByteArray.size_append, sG.out, U264.out]
   have hs2 : Y0.size + P.size ≤ 9223372036854775807 := by omega
   have bY : bytesOf Y = bytesOf G ++ (bytesOf U2 ++ bytesOf P) := by rw [EY.out, sadd_bytes, EY0.out, sadd_bytes, List.append_assoc]
   have J := hide (img_is Y x m G U2 P hxv (by omega) (by omega) bG.out U264.out bY)
   have sY : Hid (Y.size ≤ maxLen) := by have h := J.out.sz; show _ ≤ _; unfold maxLen; omega
   clear bY
   have HQ : Hid (Calls Tryz.prog 22 #[.pointer (some ⟨gx, 0, none⟩), .string Y] W18 fun e w' => ∃ (c2 n2 i2 f2 z2 : Int), e = .returned (.agg #[.int .i64 c2, .int .u32 n2, .int .i64 i2, .int .i64 f2, .int .i64 z2]) ∧ LdZ gx 121 kx (nums M) (v : Int) bx rx W18 w' ∧ (x < v → c2 = 10 ∧ n2 = 0 ∧ i2 = 0 ∧ f2 = 0 ∧ z2 = 0) ∧ (¬ x < v → c2 = 0 ∧ n2 = 0 ∧ i2 = m ∧ f2 = 192 ∧ z2 = P.size)) := by
    by_cases hlt : x < v
    ·
     refine (load_noL gx 121 kx (nums M) (v : Int) bx rx c15 l15 Y sY.out kA pA sA gA w W18 LX18.out HV.out HB18.out (by omega) (by omega) 10 (too_old J.out M M32.out (by rw [lM.out]; omega) (v : Int) (by omega)) (by decide)).mono ?_
     rintro e w' ⟨rfl, hX⟩
     exact ⟨_, _, _, _, _, rfl, LdZ.of hX, fun _ => ⟨rfl, rfl, rfl, rfl, rfl⟩, fun h => absurd hlt h⟩
    ·
     have hx0 : x = 0 := by omega
     have hv0 : v = x := by omega
     have hq : ldC (nums M) (v : Int) Y = 0 := taken J.out M M32.out (by rw [lM.out]; omega) (v : Int) (by omega) (by rw [Mm.out, EK.out, EU2.out]; exact verify_self H32.out G)
     refine (load_yesL gx 121 kx (nums M) (v : Int) bx rx c15 l15 Y sY.out kA pA sA gA w W18 LX18.out HV.out HB18.out (by omega) (by omega) hq x m P.size J.out.ev J.out.ek (by rw [J.out.ep])).mono ?_
     rintro e w' ⟨rfl, hX⟩
     exact ⟨_, _, _, _, _, rfl, by rw [hv0]; exact hX, fun h => absurd h hlt, fun _ => ⟨rfl, by rw [hx0]; rfl, rfl, rfl, rfl⟩⟩
   go_wp2_with fail
   refine HQ.out.mono ?_
   rintro e W19 ⟨c2, n2, i2, f2, z2', rfl, hZ, hlo, hhi⟩
   have HB19 : Hid (Below w.heap.size w W19) := HB18.out.trans (hZ.1.below (by omega) (by omega) (by omega) h18)
   have R19 : Hid (W19.heap[q38]? = _) := (hZ.1.block q38 (lt_row R18.out) (fun e => hgx e.symm) (fun e => hbx e.symm) (fun e => hrx e.symm)).trans R18.out
   obtain ⟨_, l19, c19, LX⟩ := hZ
   have LX19 := hide LX
   have Hlo := hide hlo
   have Hhi := hide hhi
   clear LX LX18 HB18 h18 R18 HQ hlo hhi hs1 hs2 hY0 hY sY0
   have h19 := HB19.out.size
   go_upto_region 38 with (first
    | (refine wpList_store_row (by rfl) 47 (.tmp 44) (.tmp 240) (by rfl) W19.heap.size #[.int .i64 c2, .int .u32 n2, .int .i64 i2, .int .i64 f2, .int .i64 z2'] (by rfl) (by rfl) 47 _ (heap_alloc_new _ _) (by rw [sizeVd]; rfl) rfl (by simp [Value.oneCell']) ?_))
   try rw [put_none']
   generalize hW20 : World.setRow _ _ _ = W20
   have K20 : Below W19.heap.size W19 W20 := by rw [← hW20]; exact below_setRow ((Below.refl _ _).alloc (Nat.le_refl _) _) (Nat.le_refl _) _
   obtain ⟨q44, hq44⟩ : ∃ q, q = W19.heap.size := ⟨_, rfl⟩
   have R44 : Hid (W20.heap[q44]? = some (.cells #[.int .i64 c2, .int .u32 n2, .int .i64 i2, .int .i64 f2, .int .i64 z2'] 47 (0, 0))) := by rw [← hW20, hq44]; exact setRow_heap _ _ _ _ _ _ (heap_alloc_new _ _)
   rw [← hq44]
   have HB20 := hide (HB19.out.trans (K20.mono h19))
   have LX20 := hide (LX19.out.below K20)
   have R20 := hide (row_keep' R19.out K20)
   have hgx2 : gx ≠ q44 := by have := lt_row LX19.out.row; omega
   have hbx2 : bx ≠ q44 := by have := LX19.out.base.lt; omega
   have hrx2 : rx ≠ q44 := by have := lt_row LX19.out.map; omega
   clear hW20 K20 hq44 LX19 HB19 h19 R19
   have h20 := HB20.out.size
   go_wp2_with fail
   refine (load_yesL gx 121 kx (nums M) (v : Int) bx rx c19 l19 T (by unfold maxLen; omega) kA pA sA gA w W20 LX20.out HV.out HB20.out (by omega) (by omega) Hl0.out v m P.size I.out.ev I.out.ek (by rw [I.out.ep])).mono ?_
   rintro e W21 ⟨rfl, hZ⟩
   have HB21 : Hid (Below w.heap.size w W21) := HB20.out.trans (hZ.1.below (by omega) (by omega) (by omega) h20)
   have R21 : Hid (W21.heap[q38]? = _) := (hZ.1.block q38 (lt_row R20.out) (fun e => hgx e.symm) (fun e => hbx e.symm) (fun e => hrx e.symm)).trans R20.out
   have S21 : Hid (W21.heap[q44]? = _) := (hZ.1.block q44 (lt_row R44.out) (fun e => hgx2 e.symm) (fun e => hbx2 e.symm) (fun e => hrx2 e.symm)).trans R44.out
   clear hZ LX20 HB20 h20 R20 R44
   have h21 := HB21.out.size
   go_upto_region 39 with (first
    | (refine wpList_store_row (by rfl) 47 (.tmp 45) (.tmp 243) (by rfl) W21.heap.size #[.int .i64 0, .int .u32 (v : Int), .int .i64 (m : Int), .int .i64 192, .int .i64 (P.size : Int)] (by rfl) (by rfl) 47 _ (heap_alloc_new _ _) (by rw [sizeVd]; rfl) rfl (by simp [Value.oneCell']) ?_))
   try rw [put_none']
   generalize hW22 : World.setRow _ _ _ = W22
   have K22 : Below W21.heap.size W21 W22 := by rw [← hW22]; exact below_setRow ((Below.refl _ _).alloc (Nat.le_refl _) _) (Nat.le_refl _) _
   obtain ⟨q45, hq45⟩ : ∃ q, q = W21.heap.size := ⟨_, rfl⟩
   have R45 : Hid (W22.heap[q45]? = some (.cells #[.int .i64 0, .int .u32 (v : Int), .int .i64 (m : Int), .int .i64 192, .int .i64 (P.size : Int)] 47 (0, 0))) := by rw [← hW22, hq45]; exact setRow_heap _ _ _ _ _ _ (heap_alloc_new _ _)
   rw [← hq45]
   have HB22 := hide (HB21.out.trans (K22.mono h21))
   obtain ⟨r0, r1, r2, r3, r4⟩ := vd_cells R45.out
   obtain ⟨s0, s1, s2, s3, s4⟩ := vd_cells (row_keep' R21.out K22)
   obtain ⟨t0, t1, t2, t3, t4⟩ := vd_cells (row_keep' S21.out K22)
   clear hW22 K22 hq45 HB21 R21 S21 R45 h21
   by_cases hlt : x < v
   ·
    obtain ⟨rfl, rfl, rfl, rfl, rfl⟩ := Hlo.out hlt
    have hlt' : (x : Int) < (v : Int) := by omega
    go_wp2_with fail
    go_returns
    exact ⟨rfl, HB22.out⟩
   ·
    obtain ⟨rfl, rfl, rfl, rfl, rfl⟩ := Hhi.out hlt
    have hlt' : (v : Int) ≤ (x : Int) := by omega
    go_wp2_with fail
    go_returns
    exact ⟨rfl, HB22.out⟩
end
end Go.Proofs.YtccgfabojbjmjaaGreatDoor
namespace Go.Proofs.YtccgfabojbjmjaaGreatDoor
open Go.ChangeShapes Go.WideShapes Go.ChangeAt Go.RowKit
open Go.ChangeMaps (open_string shut_string)
theorem int_inS {n : Int} (h : (Lit.int .i64 n).wf = true) : -9223372036854775808 ≤ n ∧ n ≤ 9223372036854775807 := by
 simp [Lit.wf, IntKind.min, IntKind.max, IntKind.signed, IntKind.bits] at h
 omega
theorem u32_inS {n : Int} (h : (Lit.int .u32 n).wf = true) : ∃ k : Nat, n = (k : Int) ∧ k < 4294967296 := by
 simp [Lit.wf, IntKind.min, IntKind.max, IntKind.signed, IntKind.bits] at h
 exact ⟨n.toNat, by omega, by omega⟩
set_option maxRecDepth 100000 in
theorem started_contract (H : Type) (enc : TypeId × Value → H) (W : World) (base : Nat) (args : Array Value) (ds gs : List (DataW H)) (before : List MemPlace)
  (hval : ∀ (j : Nat) t v, Tryz.f7.params[j]? = some t → args[j]? = some v → Value.okWide Tryz.prog W .any base t v)
  (hW : DataW.Whole enc Tryz.prog Tryz.f7.params.toList Rows.startedSpec.vars false W args.toList ds gs before)
  (hL : laidMetH Tryz.prog Rows.startedRow.laid W) :
  Calls Tryz.prog 7 args W fun e W' => ∃ v, e = .returned v ∧ Rows.startedSpec.post enc Tryz.prog Tryz.f7 false true false false W args v W' := by
 have hW' := hW
 obtain ⟨p, q, hA0, hV, rfl, hfz, hnd⟩ := hW
 have hA : DataW.TrodAll enc Tryz.prog W 0 (fun _ => true) true Tryz.f7.params.toList args.toList ds p := hA0
 rw [Tryz.params7] at hA hval
 obtain ⟨v0, vs0, d0, ds0, p0, q0, hargs, rfl, rfl, h0, r0⟩ := trodAll_cons hA
 obtain ⟨v1, vs1, d1, ds1, p1, q1, hargs1, rfl, rfl, h1, r1⟩ := trodAll_cons r0
 obtain ⟨v2, vs2, d2, ds2, p2, q2, hargs2, rfl, rfl, h2, r2⟩ := trodAll_cons r1
 obtain ⟨v3, vs3, d3, ds3, p3, q3, hargs3, rfl, rfl, h3, r3⟩ := trodAll_cons r2
 obtain ⟨v4, vs4, d4, ds4, p4, q4, hargs4, rfl, rfl, h4, r4⟩ := trodAll_cons r3
 obtain ⟨v5, vs5, d5, ds5, p5, q5, hargs5, rfl, rfl, h5, r5⟩ := trodAll_cons r4
 obtain ⟨v6, vs6, d6, ds6, p6, q6, hargs6, rfl, rfl, h6, r6⟩ := trodAll_cons r5
 obtain ⟨v7, vs7, d7, ds7, p7, q7, hargs7, rfl, rfl, h7, r7⟩ := trodAll_cons r6
 obtain ⟨rfl, rfl, rfl⟩ := trodAll_nil r7
 obtain rfl : args = #[v0, v1, v2, v3, v4, v5, v6, v7] := by cases args; simp_all
 obtain ⟨rfl, rfl⟩ := trodVars_none hV
 obtain ⟨a0, rfl, rfl, rfl, w0⟩ := open_string Tryz.underlying9 (hval 0 9 v0 rfl rfl) h0
 obtain ⟨a1, len1, cap1, rfl⟩ := okWide_slice Tryz.underlying38 (hval 1 38 v1 rfl rfl)
 obtain ⟨a2, rfl, rfl, rfl, w2⟩ := open_int Tryz.underlying3 (hval 2 3 v2 rfl rfl) h2
 obtain ⟨a3, rfl, rfl, rfl, w3⟩ := open_int Tryz.underlying39 (hval 3 39 v3 rfl rfl) h3
 obtain ⟨a4, rfl, rfl, rfl, w4⟩ := open_int Tryz.underlying39 (hval 4 39 v4 rfl rfl) h4
 obtain ⟨a5, rfl, rfl, rfl, w5⟩ := open_string Tryz.underlying9 (hval 5 9 v5 rfl rfl) h5
 obtain ⟨a6, rfl, rfl, rfl, w6⟩ := open_int Tryz.underlying3 (hval 6 3 v6 rfl rfl) h6
 obtain ⟨a7, rfl, rfl, rfl, w7⟩ := open_int Tryz.underlying3 (hval 7 3 v7 rfl rfl) h7
 have k1 := h1
 have lt1 : ∀ x ∈ p1, x.block < W.heap.size := by obtain ⟨m, hm⟩ := k1; exact DataW.trod_lt m _ _ _ hm
 obtain ⟨Sx, hos⟩ : ∃ Sx : Nat → ByteArray, ∀ i, i < len1 → ∃ x, a1 = some x ∧ x.block < W.heap.size ∧ W.cell? (x.add i) = some (.string (Sx i)) := by
  obtain ⟨fuel, hf⟩ := h1
  rcases Deep.open_strs Tryz.underlying38 Tryz.underlying9 (by kernel_rfl) hf with ⟨hcs, _⟩ | ⟨x, l, c, m, Sx, hcs, _, hl, hm, hmm, _, hcell⟩
  ·
   simp [Value.cells] at hcs
   obtain ⟨rfl, rfl, rfl⟩ := hcs
   exact ⟨fun _ => ByteArray.empty, fun i hi => absurd hi (by omega)⟩
  ·
   simp [Value.cells] at hcs
   obtain ⟨rfl, rfl, rfl⟩ := hcs
   refine ⟨Sx, fun i hi => ?_⟩
   have hlm : len1 ≤ m := by rw [hmm]; split <;> omega
   have e := (hcell i (by omega)).1
   refine ⟨_, rfl, ?_, e⟩
   have := World.block_lt_of_cell? W _ e
   rw [addr_blkS] at this; exact this
 clear hA0
 have b2 := int_inS w2
 obtain ⟨n3, rfl, b3⟩ := u32_inS w3
 obtain ⟨n4, rfl, b4⟩ := u32_inS w4
 have b6 := int_inS w6
 have b7 := int_inS w7
 obtain ⟨k, p, s, g, hS⟩ := sents_met hL (by kernel_rfl) (by kernel_rfl) (by kernel_rfl) (by kernel_rfl) (by kernel_rfl)
 have hE : Env W k p s g := ⟨glB_of hL (by kernel_rfl) (by kernel_rfl) (by kernel_rfl) (by kernel_rfl) (by kernel_rfl) (by kernel_rfl), tab_met hL (by kernel_rfl), ord_met hL (by kernel_rfl), hS⟩
 refine (started_any a0 a1 len1 cap1 Sx a2 n3 n4 a5 a6 a7 W hos b2.1 b2.2 b6.1 b6.2 b7.1 b7.2 b3 b4 k p s g hE).mono fun e W' ⟨he, bel⟩ => ?_
 subst he
 exact ⟨_, rfl, _, _, _, [], _, [], hW', trodAll_mk1 (shut_bool Tryz.underlying4 _), (trodAll_cons_mk (shut_string Tryz.underlying9 w0) (trodAll_cons_mk (Below.trod laidOut (by kernel_rfl) (of_decide_eq_true (by kernel_rfl)) k1 bel lt1) (trodAll_cons_mk (shut_int Tryz.underlying3 w2) (trodAll_cons_mk (shut_int Tryz.underlying39 w3) (trodAll_cons_mk (shut_int Tryz.underlying39 w4) (trodAll_cons_mk (shut_string Tryz.underlying9 w5) (trodAll_cons_mk (shut_int Tryz.underlying3 w6) (trodAll_cons_mk (shut_int Tryz.underlying3 w7) trodAll_mk0)))))))), rfl, bel.frame _, fun h => by cases h⟩
theorem started_laid_met (os : Os) : laidMetH Tryz.prog Rows.startedRow.laid ((laidWorldS os).forCall (fun _ _ => 0) ⟨#[], #[.string ByteArray.empty, .slice none 0 0, .int .i64 0, .int .u32 0, .int .u32 0, .string ByteArray.empty, .int .i64 0, .int .i64 0], []⟩).memory :=
 laidMetH_of_parts (laidMet_of_run' 200 (by kernel_rfl) (by kernel_rfl)) (by kernel_rfl)
set_option maxRecDepth 100000 in
theorem started_lifted (os : Os) (started : os.Started) (H : Type) (enc : TypeId × Value → H) (F : Stop.Interp) :
  ReturnsInHanded {} Tryz.checked os 7 .any ((OpenSpec.ofChange Rows.startedSpec).preRow enc Tryz.prog Tryz.f7 Rows.startedRow.domain false Rows.startedRow.laid) (((OpenSpec.ofChange Rows.startedSpec).at F).post enc Tryz.prog Tryz.f7 false true false false) := by
 refine returnsInHanded_of_row (C := Tryz.checked) (s := OpenSpec.ofChange Rows.startedSpec) own started (by kernel_rfl) Tryz.func7
  (witness_row_at (enc := enc) (C := Tryz.checked) false (laidWorldS os) #[.string ByteArray.empty, .slice none 0 0, .int .i64 0, .int .u32 0, .int .u32 0, .string ByteArray.empty, .int .i64 0, .int .i64 0] rfl (by kernel_rfl) (by kernel_rfl) (by kernel_rfl)
   (OpenSpec.preRow_of_cond (x := ([.lit (.string []), .nil, .lit (.int .i64 0), .lit (.int .u32 0), .lit (.int .u32 0), .lit (.string []), .lit (.int .i64 0), .lit (.int .i64 0)], [], [])) 8 (by kernel_rfl) (by kernel_rfl) (fun k hk => by cases hk) (by kernel_rfl) (started_laid_met os))) ?_
 intro W base args ds gs before hval hW _ _ _ hL _ _
 exact started_contract H enc W base args ds gs before hval hW hL
theorem started_said : Rows.StartedSaid :=
 OpenClaim.holds_of_cond 7 Tryz.f7 rfl rfl rfl rfl rfl rfl rfl ⟨rfl, rfl, rfl, rfl, rfl⟩ rfl rfl rfl rfl rfl (by kernel_rfl) Tryz.func7 (by kernel_rfl)
  (of_decide_eq_true (by kernel_rfl)) (by unfold Func.isWrapper; first | (rw [if_pos (by decide +kernel)]; kernel_rfl) | (rw [if_neg (by decide +kernel)]; exact ⟨rfl, rfl⟩))
  (fun os started H enc _ F => by rw [OpenClaim.pre_eq_preRow]; exact started_lifted os started H enc F)
theorem started_plain (f : FuncId) (fn : Func) (hf : Tryz.pinned.checked.prog.funcNamed "latch/latchkeep.Started" = some f) (hfn : Tryz.pinned.checked.prog.funcs[f]? = some fn) :
  true = Tryz.pinned.checked.prog.looks [] ∧ ∀ (j : Nat) t, fn.params[j]? = some t → Tryz.pinned.checked.prog.wantsStandIn t = false := by
 obtain rfl : f = 7 := Option.some.inj ((show Tryz.prog.funcNamed "latch/latchkeep.Started" = some 7 by kernel_rfl).symm.trans hf) |>.symm
 obtain rfl : fn = Tryz.f7 := (Option.some.inj (Tryz.func7.symm.trans hfn)).symm
 refine ⟨by kernel_rfl, fun j t ht => ?_⟩
 rw [Tryz.params7] at ht
 have hm := Array.mem_of_getElem? ht
 simp only [List.mem_toArray, List.mem_cons, List.not_mem_nil, or_false] at hm
 have z1 := (show Tryz.prog.wantsStandIn 9 = false by kernel_rfl)
 have z2 := (show Tryz.prog.wantsStandIn 38 = false by kernel_rfl)
 have z3 := (show Tryz.prog.wantsStandIn 3 = false by kernel_rfl)
 have z4 := (show Tryz.prog.wantsStandIn 39 = false by kernel_rfl)
 rcases hm with rfl | rfl | rfl | rfl | rfl | rfl | rfl | rfl
 · exact z1
 · exact z2
 · exact z3
 · exact z4
 · exact z4
 · exact z1
 · exact z3
 · exact z3
theorem started_card : Rows.StartedCardSaid :=
 Claim7.holds_tied_plain_at .later [] _ _ _ _ started_said (fun _ h => by cases h) (by kernel_rfl) (fun _ h => by cases h) started_row_tie rfl ⟨rfl, rfl⟩ (by kernel_rfl) rfl started_plain (by kernel_rfl)
#print axioms started_card
end Go.Proofs.YtccgfabojbjmjaaGreatDoor
