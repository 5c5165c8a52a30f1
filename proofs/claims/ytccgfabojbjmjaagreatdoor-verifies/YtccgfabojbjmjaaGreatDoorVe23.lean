import Derived.Test.YtccgfabojbjmjaaGreatDoorVe14
import Derived.Deep.CutRange
namespace Go.Proofs.YtccgfabojbjmjaaGreatDoor
open Go.RowKit
def redAt (s : ByteArray) (j : Nat) : List Int := dB 65536 17 ((valLE (bytesOf s) / 16 ^ j % 7237005577332262213973186563042994240857116359379907606001950938285454250989 : Nat) : Int)
theorem row_below' {w w' : World} {g : Nat} {o : Obj} (h : w.heap[g]? = some o) (hb : Below w.heap.size w w') : w'.heap[g]? = some o := (hb.block g (lt_row h)).trans h
theorem put_none (a : Act) (v : Value) : a.put none v = a := rfl
theorem Lrow_val : vB 65536 Lrow = LI := by
 unfold Lrow; rw [vB_dB 65536 (by decide)]; decide +kernel
theorem below_row (N : List Int) (hl : N.length = 17) (hb : ∀ x ∈ N, 0 ≤ x ∧ x < 65536) (R : Array Value) (hR : R = (Lrow.map iv).toArray) (w : World) :
  Calls Tryz.prog 76 #[.agg (N.map iv).toArray, .agg R] w fun e w' => e = .returned (.bool (decide (vB 65536 N < LI))) ∧ Below w.heap.size w w' := by
 have := below_any N Lrow hl Lrow_length hb (dB_lt _ (by decide) _ _) w
 rw [Lrow_val, ← hR] at this
 exact this
theorem redAt_top (s : ByteArray) : ((redAt s (2 * s.size)).map iv).toArray = zS := by
 have h := valLE_lt (bytesOf s)
 rw [bytesOf_length] at h
 unfold redAt
 rw [Nat.pow_mul, show (16 : Nat) ^ 2 = 256 by decide, Nat.div_eq_of_lt h]
 rfl
section
set_option maxRecDepth 100000 in
set_option maxHeartbeats 4000000 in
theorem reduced_any (s : ByteArray) (hs : s.size ≤ 140737488351232) (w : World) :
  Calls Tryz.prog 73 #[.string s] w fun e w' => e = .returned (.agg ((redAt s 0).map iv).toArray) ∧ Below w.heap.size w w' := by
 have hz := zeroS
 go_enter Tryz.func73, Tryz.ntmps73
 go_wp2_with fail
 refine (order_any _).mono ?_
 rintro e W1 ⟨rfl, hB1⟩
 have hsz := hB1.size
 simp only [World.size_alloc] at hB1 hsz
 have HB1 : Hid (Below w.heap.size w W1) := ((Below.refl _ w).alloc (Nat.le_refl _) _).trans (hB1.mono (by omega))
 have HR1 : Hid (W1.heap[w.heap.size]? = some (.cells zS 91 (0, 0))) := (hB1.block _ (by omega)).trans (heap_alloc_new _ _)
 have HLz := hide (ivS_size Lrow_length)
 have HLo := hide (ivS_old Lrow_length)
 have HLa := hide (ivS_all Lrow)
 clear hB1
 obtain ⟨R, HR⟩ : ∃ R, Hid (R = (Lrow.map iv).toArray) := ⟨_, rfl⟩
 rw [← HR.out] at HLz HLo HLa ⊢
 go_wp2_with (first | (refine wpList_store_row (by rfl) 91 (.tmp 3) (.tmp 10) (by rfl) W1.heap.size R (by rfl) (by rfl) 91 _ (heap_alloc_new _ _) HLz.out HLo.out HLa.out ?_))
 obtain ⟨q, hq⟩ : ∃ q, q = W1.heap.size := ⟨_, rfl⟩
 obtain ⟨V0, hV0⟩ : ∃ V0, V0 = (((W1.alloc (.cells zS 91)).setRow W1.heap.size R).alloc (.cells zS 91)) := ⟨_, rfl⟩
 rw [← hV0, ← hq]
 have K0 : Hid (V0.heap[w.heap.size]? = some (.cells zS 91 (0, 0))) := by
  rw [hV0]
  exact (heap_alloc_old _ _ (by simp; omega)).trans ((setRow_other _ _ _ _ (by omega)).trans ((heap_alloc_old _ _ (by omega)).trans HR1.out))
 have K1 : Hid (V0.heap[q]? = some (.cells R 91 (0, 0))) := by
  rw [hV0, hq]
  exact (heap_alloc_old _ _ (by simp)).trans (setRow_heap _ _ _ _ _ _ (heap_alloc_new _ _))
 have K2 : Hid (V0.heap[q + 1]? = some (.cells zS 91 (0, 0))) := by
  have e := heap_alloc_new ((W1.alloc (.cells zS 91)).setRow W1.heap.size R) (.cells zS 91)
  rw [hV0, hq]; show _ = _; simpa using e
 have K3 : Hid (Below w.heap.size w V0) := by
  rw [hV0]
  exact (below_setRow (HB1.out.alloc HB1.out.size _) (by omega) _).alloc (by simp; omega) _
 have hwq : w.heap.size < q := by omega
 clear hV0 hq HR1 HB1 hsz HLo HLa
 go_loopw [5] (fun i wr => ∃ (j : Nat) (z : Int), j ≤ 2 * s.size ∧ i = .int .i64 z ∧ Hid (z = (j : Int) - 1) ∧ Hid (wr.heap[w.heap.size]? = some (.cells zS 91 (0, 0))) ∧ Hid (wr.heap[q]? = some (.cells R 91 (0, 0))) ∧
   Hid (wr.heap[q + 1]? = some (.cells ((redAt s j).map iv).toArray 91 (0, 0))) ∧ Hid (Below w.heap.size w wr)) (fun i _ => (intOf i + 1).toNat)
 case atStart =>
  refine ⟨2 * s.size, _, Nat.le_refl _, rfl, by show _ = _; omega, K0, K1, ?_, K3⟩
  rw [redAt_top]; exact K2
 case round =>
  clear K0 K1 K2 K3 hz
  obtain ⟨j, z, hj, rfl, HZ, H0, H1, H2, HB⟩ := hrel
  by_cases hlt : 0 < j
  ·
   obtain ⟨i, rfl⟩ : ∃ i, j = i + 1 := ⟨j - 1, by omega⟩
   obtain rfl : z = (i : Int) := by have := HZ.out; omega
   obtain ⟨h, hh⟩ : ∃ h, h = i / 2 := ⟨_, rfl⟩
   have e2 : (i : Int) / 2 = (h : Int) := by omega
   have bh : (h : Int) < s.size := by omega
   have bi : (i : Int) < 281474976702464 := by omega
   have hidx := strAt s h (by omega)
   obtain ⟨x, HX⟩ : ∃ x, Hid (x = C8 ((bytesOf s).getD h 0)) := ⟨_, rfl⟩
   rw [← HX.out] at hidx
   have x0 : 0 ≤ x := by rw [HX.out]; exact C8_nonneg _
   have x1 : x < 256 := by rw [HX.out]; exact C8_lt _
   have HH := hide hh
   clear hh hlt
   obtain ⟨f, HF⟩ : ∃ f : Nat, Hid (f = valLE (bytesOf s) / 16 ^ i % 16) := ⟨_, rfl⟩
   have HFX : Hid ((f : Int) = if i % 2 = 0 then x % 16 else x / 16) := by
    show _ = _
    rw [HF.out, valLE_nib, HX.out, ← HH.out]
    unfold C8
    split <;> omega
   have bf : f < 16 := by rw [HF.out]; exact Nat.mod_lt _ (by decide)
   have hcase : (((i : Int) % 2 == 0) = true ∧ x % 16 = (f : Int)) ∨ (((i : Int) % 2 == 0) = false ∧ x / 16 = (f : Int)) := by
    have := HFX.out
    by_cases hp : i % 2 = 0
    ·
     rw [if_pos hp] at this
     exact .inl ⟨by rw [beq_iff_eq]; omega, this.symm⟩
    ·
     rw [if_neg hp] at this
     exact .inr ⟨by rw [beq_eq_false_iff_ne]; omega, this.symm⟩
   clear HFX
   rcases hcase with ⟨hp', hfx⟩ | ⟨hp', hfx⟩
   all_goals (
    obtain ⟨m, HMm⟩ : ∃ m : Nat, Hid (m = valLE (bytesOf s) / 16 ^ (i + 1) % 7237005577332262213973186563042994240857116359379907606001950938285454250989) := ⟨_, rfl⟩
    obtain ⟨D, HD⟩ : ∃ D, Hid (D = redAt s (i + 1)) := ⟨_, rfl⟩
    have HDl : Hid (D.length = 17) := by rw [HD.out]; exact dB_length _ _ _
    have HDb : Hid (∀ x ∈ D, 0 ≤ x ∧ x < 65536) := by rw [HD.out]; exact dB_lt _ (by decide) _ _
    rw [← HD.out] at H2
    go_wp2_with fail
    rw [hfx]
    clear hidx x0 x1 bh e2 hp' hfx
    go_loopw [7] (fun k wr => ∃ c : Nat, c ≤ 17 ∧ k = .int .i64 c ∧ Hid (wr.heap[w.heap.size]? = some (.cells zS 91 (0, 0))) ∧ Hid (wr.heap[q]? = some (.cells R 91 (0, 0))) ∧
     Hid (wr.heap[q + 1]? = some (.cells (((List.range D.length).map fun i => if i < c then 16 * D.getD i 0 else D.getD i 0).map iv).toArray 91 (0, 0))) ∧ Hid (Below w.heap.size w wr)) (fun k _ => 17 - (intOf k).toNat)
    case atStart => exact ⟨0, Nat.zero_le _, rfl, H0, H1, by rw [rowF_zero]; exact H2, HB⟩
    case round =>
     clear H0 H1 H2 HB
     obtain ⟨c, hc, rfl, H0, H1, H2, HB⟩ := hrel
     by_cases hc17 : c < 17
     ·
      have bc : (c : Int) < 17 := by omega
      have c0 := ivs_get H2.out c (by simp [HDl.out]; exact hc17)
      rw [rowF_get D _ c (by rw [HDl.out]; exact hc17)] at c0
      have f0 := frozen_of_row wr (q + 1) c _ _ H2.out
      obtain ⟨y, HY⟩ : ∃ y, Hid (y = D.getD c 0) := ⟨_, rfl⟩
      have hy := HDb.out _ (getD_mem (l := D) (i := c) (by rw [HDl.out]; exact hc17))
      rw [← HY.out] at c0 hy
      obtain ⟨y0, y1⟩ := hy
      go_wp2_with fail
      refine ⟨⟨c + 1, by omega, by go_num, far_row _ _ H0.out (by omega), far_row _ _ H1.out (by omega), ?_, HB.out.setCell (by show _ ≤ _; simp; omega) _⟩, by simp [intOf]; omega⟩
      rw [← rowF_step D _ c (by rw [HDl.out]; exact hc17), List.map_set, ← HY.out]
      exact row_store H2.out c _
     ·
      obtain rfl : c = 17 := by omega
      have bc : (17 : Int) ≤ ((17 : Nat) : Int) := by omega
      obtain ⟨E, HE⟩ : ∃ E, Hid (E = D.map (fun x => 16 * x)) := ⟨_, hide rfl⟩
      have H2' : Hid (wr.heap[q + 1]? = some (.cells (E.map iv).toArray 91 (0, 0))) := by
       have e := H2.out
       rw [show 17 = D.length from HDl.out.symm, rowF_all D, map_range D (fun x => 16 * x), ← HE.out] at e
       exact e
      have HEl : Hid (E.length = 17) := by show _ = _; rw [HE.out, List.length_map, HDl.out]
      have c0 := ivs_get H2'.out 0 (by rw [HEl.out]; decide)
      have f0 := frozen_of_row wr (q + 1) 0 _ _ H2'.out
      obtain ⟨y, HY⟩ : ∃ y, Hid (y = E.getD 0 0) := ⟨_, rfl⟩
      have HEb : Hid (∀ x ∈ E, 0 ≤ x ∧ x < 1048576) := by
       intro x hx
       rw [HE.out] at hx
       obtain ⟨d, hd, rfl⟩ := List.mem_map.1 hx
       have := HDb.out d hd
       show 0 ≤ 16 * d ∧ 16 * d < 1048576
       omega
      have hy := HEb.out _ (getD_mem (l := E) (i := 0) (by rw [HEl.out]; decide))
      rw [← HY.out] at c0 hy
      obtain ⟨y0, y1⟩ := hy
      clear H2
      have hml : m < 7237005577332262213973186563042994240857116359379907606001950938285454250989 := by rw [HMm.out]; exact Nat.mod_lt _ (by decide)
      have hv : Hid (vB 65536 (E.set 0 (y + (f : Int))) = ((16 * m + f : Nat) : Int)) := by
       show _ = _
       rw [HY.out, vB_set0 _ _ (by rw [HEl.out]; decide), HE.out, vB_scale, HD.out]
       unfold redAt
       rw [vB_dB 65536 (by decide), ← HMm.out, show ((65536 : Int) ^ 17) = 7588550360256754183279148073529370729071901715047420004889892225542594864082845696 by decide]
       omega
      have HML := hide hml
      have H3 : Hid ((wr.setCell ⟨q + 1, 0, none⟩ (iv (y + f))).heap[q + 1]? = some (.cells ((E.set 0 (y + f)).map iv).toArray 91 (0, 0))) := by
       rw [List.map_set]; exact row_store H2'.out 0 _
      have HFl : Hid ((E.set 0 (y + (f : Int))).length = 17) := by show _ = _; rw [List.length_set, HEl.out]
      have HFb : Hid (∀ x ∈ E.set 0 (y + (f : Int)), -1099511627776 ≤ x ∧ x ≤ 1099511627776) := by
       intro x hx
       rcases List.mem_or_eq_of_mem_set hx with h | h
       · have := HEb.out x h; omega
       · subst h; omega
      have H4 : Hid ((wr.setCell ⟨q + 1, 0, none⟩ (iv (y + f))).heap[w.heap.size]? = some (.cells zS 91 (0, 0))) := far_row _ _ H0.out (by omega)
      have H5 : Hid ((wr.setCell ⟨q + 1, 0, none⟩ (iv (y + f))).heap[q]? = some (.cells R 91 (0, 0))) := far_row _ _ H1.out (by omega)
      have H6 : Hid (Below w.heap.size w (wr.setCell ⟨q + 1, 0, none⟩ (iv (y + f)))) := HB.out.setCell (by show _ ≤ _; simp; omega) _
      obtain ⟨G, HG⟩ : ∃ G, Hid (G = E.set 0 (y + (f : Int))) := ⟨_, rfl⟩
      rw [← HG.out] at H3 HFl HFb hv
      clear H0 H1 H2' HB hml HEb HEl HE
      have HGz := hide (ivS_size HFl.out)
      go_upto_region 14 with fail
      clear c0 f0 y0 y1 hc17 bc hc
      obtain ⟨W2, hW2⟩ : ∃ W2, W2 = wr.setCell ⟨q + 1, 0, none⟩ (iv (y + f)) := ⟨_, rfl⟩
      rw [← hW2] at H3 H4 H5 H6 ⊢
      clear hW2
      go_wp2_with (first | (refine wpList_load_row (by rfl) 91 (.tmp 4) (by rfl) (q + 1) (by rfl) 91 (G.map iv).toArray (0, 0) _ H3.out underS' rfl HGz.out ?_))
      refine (carried_any G HFl.out HFb.out _).mono ?_
      rintro e W3 ⟨rfl, hB3⟩
      rw [hv.out]
      have H3b := row_below' H3.out hB3
      have H4b : Hid (W3.heap[w.heap.size]? = some (.cells zS 91 (0, 0))) := row_below' H4.out hB3
      have H5b : Hid (W3.heap[q]? = some (.cells R 91 (0, 0))) := row_below' H5.out hB3
      have H6b : Hid (Below w.heap.size w W3) := H6.out.trans (hB3.mono (by have := lt_row H4.out; omega))
      obtain ⟨t0, HT0⟩ : ∃ t0 : Nat, Hid (t0 = 16 * m + f) := ⟨_, rfl⟩
      rw [← HT0.out]
      have HTb : Hid (t0 < 16 * 7237005577332262213973186563042994240857116359379907606001950938285454250989) := by show _ < _; rw [HT0.out]; have := HML.out; omega
      have HNz := hide (ivS_size (dB_length 65536 17 (t0 : Int)))
      have HNo := hide (ivS_olds HFl.out (dB_length 65536 17 (t0 : Int)))
      have HNa := hide (ivS_all (dB 65536 17 (t0 : Int)))
      have H3c := hide H3b
      clear H3 H4 H5 H6 hB3 hv H3b HGz HFb
      go_wp2_with (first | (refine wpList_store_row (by rfl) 91 (.tmp 4) (.tmp 50) (by rfl) (q + 1) ((dB 65536 17 (t0 : Int)).map iv).toArray (by rfl) (by rfl) 91 _ H3c.out HNz.out HNo.out HNa.out ?_))
      obtain ⟨W4, hW4⟩ : ∃ W4, W4 = W3.setRow (q + 1) ((dB 65536 17 (t0 : Int)).map iv).toArray := ⟨_, rfl⟩
      rw [← hW4]
      have J0 : Hid (W4.heap[w.heap.size]? = some (.cells zS 91 (0, 0))) := by rw [hW4]; exact (setRow_other _ _ _ _ (by omega)).trans H4b.out
      have J1 : Hid (W4.heap[q]? = some (.cells R 91 (0, 0))) := by rw [hW4]; exact (setRow_other _ _ _ _ (by omega)).trans H5b.out
      have J2 : Hid (W4.heap[q + 1]? = some (.cells ((dB 65536 17 (t0 : Int)).map iv).toArray 91 (0, 0))) := by rw [hW4]; exact setRow_heap _ _ _ _ _ _ H3c.out
      have J3 : Hid (Below w.heap.size w W4) := by rw [hW4]; exact below_setRow H6b.out (by omega) _
      clear hW4 H3c H4b H5b H6b HNz HNo HNa HFl HG
      rw [put_none]
      go_loopw [] (fun wr => ∃ t : Nat, Hid (t < 16 * 7237005577332262213973186563042994240857116359379907606001950938285454250989) ∧ Hid (t % 7237005577332262213973186563042994240857116359379907606001950938285454250989 = t0 % 7237005577332262213973186563042994240857116359379907606001950938285454250989) ∧
       Hid (wr.heap[w.heap.size]? = some (.cells zS 91 (0, 0))) ∧ Hid (wr.heap[q]? = some (.cells R 91 (0, 0))) ∧
       Hid (wr.heap[q + 1]? = some (.cells ((dB 65536 17 (t : Int)).map iv).toArray 91 (0, 0))) ∧ Hid (Below w.heap.size w wr)) (fun wr => rowVal wr (q + 1))
      case atStart => exact ⟨t0, HTb, rfl, J0, J1, J2, J3⟩
      case round =>
       clear J0 J1 J2 J3 HTb
       obtain ⟨t, HTb, HTm, J0, J1, J2, J3⟩ := hrel
       have HNz := hide (ivS_size (dB_length 65536 17 (t : Int)))
       obtain ⟨N, HN⟩ : ∃ N, Hid (N = dB 65536 17 (t : Int)) := ⟨_, rfl⟩
       rw [← HN.out] at J2 HNz
       have HNl : Hid (N.length = 17) := by rw [HN.out]; exact dB_length _ _ _
       have HNb : Hid (∀ x ∈ N, 0 ≤ x ∧ x < 65536) := by rw [HN.out]; exact dB_lt _ (by decide) _ _
       have HNv : Hid (vB 65536 N = (t : Int)) := by
        show _ = _
        rw [HN.out, vB_dB 65536 (by decide), show ((65536 : Int) ^ 17) = 7588550360256754183279148073529370729071901715047420004889892225542594864082845696 by decide]
        have := HTb.out; omega
       go_wp2_with (first
        | (refine wpList_load_row (by rfl) 91 (.tmp 4) (by rfl) (q + 1) (by rfl) 91 (N.map iv).toArray (0, 0) _ J2.out underS' rfl HNz.out ?_)
        | (refine wpList_load_row (by rfl) 91 (.tmp 3) (by rfl) q (by rfl) 91 R (0, 0) _ J1.out underS' rfl HLz.out ?_))
       refine (below_row N HNl.out HNb.out R HR.out _).mono ?_
       rintro e W5 ⟨rfl, hB5⟩
       rw [HNv.out]
       have Q0 : Hid (W5.heap[w.heap.size]? = some (.cells zS 91 (0, 0))) := row_below' J0.out hB5
       have Q1 : Hid (W5.heap[q]? = some (.cells R 91 (0, 0))) := row_below' J1.out hB5
       have Q2 : Hid (W5.heap[q + 1]? = some (.cells (N.map iv).toArray 91 (0, 0))) := row_below' J2.out hB5
       have Q3 : Hid (Below w.heap.size w W5) := J3.out.trans (hB5.mono (by have := lt_row J0.out; omega))
       have HRV : Hid (rowVal wr (q + 1) = t) := rowVal_eq (by rw [← HN.out]; exact J2.out) (by have := HTb.out; rw [show 65536 ^ 17 = 7588550360256754183279148073529370729071901715047420004889892225542594864082845696 by decide]; omega)
       clear J0 J1 J2 J3 hB5
       by_cases htl : (t : Int) < LI
       ·
        rw [decide_eq_true htl]
        go_wp2_with fail
        refine ⟨⟨i, (i : Int) - 1, by omega, by go_num, rfl, Q0, Q1, ?_, Q3⟩, by simp [intOf]⟩
        have e : redAt s i = N := by
         rw [HN.out]
         exact congrArg (fun k : Nat => dB 65536 17 (k : Int)) (red_last _ i _ m f t0 t HMm.out HF.out HT0.out HTm.out (Int.ofNat_lt.1 htl))
        rw [e]; exact Q2
       ·
        rw [decide_eq_false htl]
        go_wp2_with fail
        have htl' := hide htl
        clear htl
        go_loopw [9] (fun k wr => ∃ c : Nat, c ≤ 17 ∧ k = .int .i64 c ∧ Hid (wr.heap[w.heap.size]? = some (.cells zS 91 (0, 0))) ∧ Hid (wr.heap[q]? = some (.cells R 91 (0, 0))) ∧
         Hid (wr.heap[q + 1]? = some (.cells (((List.range N.length).map fun i => if i < c then N.getD i 0 - Lrow.getD i 0 else N.getD i 0).map iv).toArray 91 (0, 0))) ∧ Hid (Below w.heap.size w wr)) (fun k _ => 17 - (intOf k).toNat)
        case atStart => exact ⟨0, Nat.zero_le _, rfl, Q0, Q1, by rw [rowF_zero]; exact Q2, Q3⟩
        case round =>
         clear Q0 Q1 Q2 Q3
         obtain ⟨c, hc, rfl, Q0, Q1, Q2, Q3⟩ := hrel
         by_cases hc17 : c < 17
         ·
          have bc : (c : Int) < 17 := by omega
          have c0 := ivs_get Q2.out c (by simp [HNl.out]; exact hc17)
          rw [rowF_get N _ c (by rw [HNl.out]; exact hc17)] at c0
          have f0 := frozen_of_row wr (q + 1) c _ _ Q2.out
          have c1 := ivs_get (by rw [← HR.out]; exact Q1.out) c (by rw [Lrow_length]; exact hc17)
          obtain ⟨y, HY⟩ : ∃ y, Hid (y = N.getD c 0) := ⟨_, rfl⟩
          obtain ⟨z, HZ⟩ : ∃ z, Hid (z = Lrow.getD c 0) := ⟨_, rfl⟩
          have hy := HNb.out _ (getD_mem (l := N) (i := c) (by rw [HNl.out]; exact hc17))
          have hz := dB_lt 65536 (by decide) 17 LI _ (getD_mem (l := Lrow) (i := c) (by rw [Lrow_length]; exact hc17))
          rw [← HY.out] at c0 hy
          rw [← HZ.out] at c1 hz
          obtain ⟨y0, y1⟩ := hy
          obtain ⟨z0, z1⟩ := hz
          go_wp2_with fail
          go_region
          go_wp2_with fail
          refine ⟨⟨c + 1, by omega, by go_num, far_row _ _ Q0.out (by omega), far_row _ _ Q1.out (by omega), ?_, (Q3.out.setCell (by show _ ≤ _; simp; omega) _).drew⟩, by simp [intOf]; omega⟩
          rw [← rowF_step N _ c (by rw [HNl.out]; exact hc17), List.map_set, ← HY.out, ← HZ.out]
          exact row_store Q2.out c _
         ·
          obtain rfl : c = 17 := by omega
          have bc : (17 : Int) ≤ ((17 : Nat) : Int) := by omega
          obtain ⟨E, HE⟩ : ∃ E, Hid (E = (List.range N.length).map fun i => N.getD i 0 - Lrow.getD i 0) := ⟨_, hide rfl⟩
          have Q2' : Hid (wr.heap[q + 1]? = some (.cells (E.map iv).toArray 91 (0, 0))) := by
           have e := Q2.out
           rw [show 17 = N.length from HNl.out.symm, rowF_all N, ← HE.out] at e
           exact e
          have HEl : Hid (E.length = 17) := by show _ = _; rw [HE.out, List.length_map, List.length_range, HNl.out]
          have HEb : Hid (∀ x ∈ E, -1099511627776 ≤ x ∧ x ≤ 1099511627776) := by
           intro x hx
           rw [HE.out] at hx
           obtain ⟨d, hd, rfl⟩ := List.mem_map.1 hx
           have hd' := List.mem_range.1 hd
           have a1 := HNb.out _ (getD_mem (l := N) (i := d) hd')
           have a2 := dB_lt 65536 (by decide) 17 LI _ (getD_mem (l := Lrow) (i := d) (by rw [Lrow_length]; rw [HNl.out] at hd'; exact hd'))
           show -1099511627776 ≤ N.getD d 0 - Lrow.getD d 0 ∧ N.getD d 0 - Lrow.getD d 0 ≤ 1099511627776
           generalize N.getD d 0 = a at *
           generalize Lrow.getD d 0 = b at *
           omega
          have HEv : Hid (vB 65536 E = ((t - 7237005577332262213973186563042994240857116359379907606001950938285454250989 : Nat) : Int)) := by
           show _ = _
           rw [HE.out, vB_sub _ _ _ (by rw [HNl.out, Lrow_length]), HNv.out, Lrow_val]
           have hl : (7237005577332262213973186563042994240857116359379907606001950938285454250989 : Int) ≤ (t : Int) := htl'.out
           show (t : Int) - 7237005577332262213973186563042994240857116359379907606001950938285454250989 = _
           omega
          have HEz := hide (ivS_size HEl.out)
          clear Q2 hc17 hc
          go_wp2_with (first
           | (refine wpList_load_row (by rfl) 91 (.tmp 4) (by rfl) (q + 1) (by rfl) 91 (E.map iv).toArray (0, 0) _ Q2'.out underS' rfl HEz.out ?_))
          refine (carried_any E HEl.out HEb.out _).mono ?_
          rintro e W6 ⟨rfl, hB6⟩
          rw [HEv.out]
          obtain ⟨t1, HT1⟩ : ∃ t1, Hid (t1 = t - 7237005577332262213973186563042994240857116359379907606001950938285454250989) := ⟨_, rfl⟩
          rw [← HT1.out]
          have P0 : Hid (W6.heap[w.heap.size]? = some (.cells zS 91 (0, 0))) := row_below' Q0.out hB6
          have P1 : Hid (W6.heap[q]? = some (.cells R 91 (0, 0))) := row_below' Q1.out hB6
          have P2 : Hid (W6.heap[q + 1]? = some (.cells (E.map iv).toArray 91 (0, 0))) := row_below' Q2'.out hB6
          have P3 : Hid (Below w.heap.size w W6) := Q3.out.trans (hB6.mono (by have := lt_row Q0.out; omega))
          have HMz := hide (ivS_size (dB_length 65536 17 (t1 : Int)))
          have HMo := hide (ivS_olds HEl.out (dB_length 65536 17 (t1 : Int)))
          have HMa := hide (ivS_all (dB 65536 17 (t1 : Int)))
          clear Q0 Q1 Q2' Q3 hB6 HEz HEb HEv
          go_wp2_with (first | (refine wpList_store_row (by rfl) 91 (.tmp 4) (.tmp 69) (by rfl) (q + 1) ((dB 65536 17 (t1 : Int)).map iv).toArray (by rfl) (by rfl) 91 _ P2.out HMz.out HMo.out HMa.out ?_))
          have S2 := setRow_heap W6 (q + 1) _ ((dB 65536 17 (t1 : Int)).map iv).toArray _ _ P2.out
          have hge : 7237005577332262213973186563042994240857116359379907606001950938285454250989 ≤ t := by
           have hl : (7237005577332262213973186563042994240857116359379907606001950938285454250989 : Int) ≤ (t : Int) := htl'.out
           omega
          have ht1 := HT1.out
          have htb := HTb.out
          rw [put_none]
          go_roundw
          case rel =>
           refine ⟨t1, by show _ < _; omega, ?_, (setRow_other _ _ _ _ (by omega)).trans P0.out, (setRow_other _ _ _ _ (by omega)).trans P1.out, S2, below_setRow P3.out (by omega) _⟩
           show _ = _
           rw [← HTm.out, show t = t1 + 7237005577332262213973186563042994240857116359379907606001950938285454250989 by omega, Nat.add_mod_right]
          case measure =>
           show rowVal _ _ < rowVal _ _
           rw [HRV.out, rowVal_eq S2 (by rw [show 65536 ^ 17 = 7588550360256754183279148073529370729071901715047420004889892225542594864082845696 by decide]; omega)]
           omega)
  ·
   obtain rfl : j = 0 := by omega
   have hz0 : z = -1 := by have := HZ.out; omega
   subst hz0
   have HSz := hide (ivS_size (show (redAt s 0).length = 17 from dB_length _ _ _))
   have HSo := hide (ivS_old (show (redAt s 0).length = 17 from dB_length _ _ _))
   have HSa := hide (ivS_all (redAt s 0))
   clear HZ hj hlt
   obtain ⟨C, HC⟩ : ∃ C, Hid (C = ((redAt s 0).map iv).toArray) := ⟨_, rfl⟩
   rw [← HC.out] at H2 HSz HSo HSa
   go_wp2_with (first
    | (refine wpList_load_row (by rfl) 91 (.tmp 4) (by rfl) (q + 1) (by rfl) 91 C (0, 0) _ H2.out underS' rfl HSz.out ?_)
    | (refine wpList_store_row (by rfl) 91 (.tmp 2) (.tmp 70) (by rfl) w.heap.size C (by rfl) (by rfl) 91 _ H0.out HSz.out HSo.out HSa.out ?_))
   refine bodyPost_ret (v := .agg C) (results_cell_row Tryz.results73 _ _ w.heap.size 91 C (0, 0) _ (by rfl) (setRow_heap _ _ _ _ _ _ H0.out) underS' rfl HSz.out) rfl ⟨by rw [HC.out], below_setRow HB.out (Nat.le_refl _) _⟩
end
end Go.Proofs.YtccgfabojbjmjaaGreatDoor
