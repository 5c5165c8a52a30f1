import Derived.Test.YtcnbhpghcjcejaaDoorAbc
import Derived.Test.YtcnbhpghcjcejaaDoorSame
import Derived.Test.YtcnbhpghcjcejaaDoorOpRead
import Derived.Test.YtcnbhpghcjcejaaDoorHashesW
import Derived.Deep.RegionHeld3
import Derived.Deep.DrawnRows
import Derived.BigRegion
import Derived.Deep.QuietTactic
import Derived.BigQuiet
/- The walk of latchlaw.Streams. -/
namespace Go.Proofs.YtcnbhpghcjcejaaDoor
open Go.RowKit
/-- Two hashers in a list of pointers, two texts in a list of strings. -/
structure St (w : World) (gx ga g0 g1 : Nat) (s0 s1 : ByteArray) (l0 l1 : List UInt8) : Prop where
  x : w.heap[gx]? = some (.cells #[.pointer (some ⟨g0, 0, none⟩), .pointer (some ⟨g1, 0, none⟩)] 25 (0, 0))
  al : w.heap[ga]? = some (.cells #[.string s0, .string s1] 9 (0, 0))
  h0 : Has w g0 53 (H0.puts l0)
  h1 : Has w g1 53 (H0.puts l1)
theorem Has.below {w w' : World} {b B : Nat} {T : TypeId} {H : HS} (h : Has w b T H) (hb : Below B w w') (hB : b < B) : Has w' b T H := ⟨(hb.block b hB).trans h.heap, h.len⟩
theorem St.below {w w' : World} {B gx ga g0 g1 : Nat} {s0 s1 : ByteArray} {l0 l1 : List UInt8} (h : St w gx ga g0 g1 s0 s1 l0 l1) (hb : Below B w w') (hx : gx < B) (ha : ga < B) (h0 : g0 < B) (h1 : g1 < B) : St w' gx ga g0 g1 s0 s1 l0 l1 :=
  ⟨(hb.block gx hx).trans h.x, (hb.block ga ha).trans h.al, h.h0.below hb h0, h.h1.below hb h1⟩
theorem bytesOf_append (a b : ByteArray) : bytesOf (a ++ b) = bytesOf a ++ bytesOf b := by simp [bytesOf]
theorem St.store0 {V : World} {gx ga g0 g1 : Nat} {s0 s1 : ByteArray} {l0 l1 : List UInt8} (h : St V gx ga g0 g1 s0 s1 l0 l1) (t : ByteArray) (hx : gx ≠ ga) (h0 : g0 ≠ ga) (h1 : g1 ≠ ga) : St (V.setCell ⟨ga, 0, none⟩ (.string t)).drew gx ga g0 g1 t s1 l0 l1 :=
  ⟨row_store_far _ _ h.x hx, by show (V.setCell _ _).heap[ga]? = _; rw [heap_setCell_same V ga 0 _ _ _ h.al]; rfl, ⟨row_store_far _ _ h.h0.heap h0, h.h0.len⟩, ⟨row_store_far _ _ h.h1.heap h1, h.h1.len⟩⟩
theorem St.store1 {V : World} {gx ga g0 g1 : Nat} {s0 s1 : ByteArray} {l0 l1 : List UInt8} (h : St V gx ga g0 g1 s0 s1 l0 l1) (t : ByteArray) (hx : gx ≠ ga) (h0 : g0 ≠ ga) (h1 : g1 ≠ ga) : St (V.setCell ⟨ga, 1, none⟩ (.string t)).drew gx ga g0 g1 s0 t l0 l1 :=
  ⟨row_store_far _ _ h.x hx, by show (V.setCell _ _).heap[ga]? = _; rw [heap_setCell_same V ga 1 _ _ _ h.al]; rfl, ⟨row_store_far _ _ h.h0.heap h0, h.h0.len⟩, ⟨row_store_far _ _ h.h1.heap h1, h.h1.len⟩⟩
set_option maxRecDepth 100000 in
set_option maxHeartbeats 8000000 in
theorem streams_any (ad : Option Addr) (len cap : Nat) (kd on : Nat → Int) (st : Nat → ByteArray) (w : World) (hK : Tab w) (hlen : len ≤ 1048576) (htot : tot st len ≤ 1048576)
    (hr : ∀ i, i < len → (-9223372036854775808 ≤ kd i ∧ kd i ≤ 9223372036854775807) ∧ (-9223372036854775808 ≤ on i ∧ on i ≤ 9223372036854775807))
    (hc : ∀ i, i < len → ∃ b off, ad = some ⟨b, off, none⟩ ∧ b < w.heap.size ∧ w.cell? ⟨b, off + i * 3, none⟩ = some (.int .i64 (kd i)) ∧ w.cell? ⟨b, off + i * 3 + 1, none⟩ = some (.int .i64 (on i)) ∧ w.cell? ⟨b, off + i * 3 + 2, none⟩ = some (.string (st i))) :
    Calls Tryd.prog 4 #[.slice ad len cap] w fun e w' => e = .returned (.bool true) ∧ Below w.heap.size w w' := by
  have HK := hide hK
  have HC := hide hc
  have HR := hide hr
  have HT := hide htot
  clear hK hc hr htot
  go_enter Tryd.func4, Tryd.ntmps4
  go_wp2_with fail
  refine (newHasher_any w).mono ?_
  rintro e W1 ⟨g0, rfl, hg0, hA0, hB1⟩
  have HA0 := hide hA0
  have HB1 := hide hB1
  have HG0 : Hid (w.heap.size ≤ g0 ∧ g0 < W1.heap.size) := ⟨hg0, hA0.lt⟩
  clear hA0 hB1 hg0
  go_wp2_with fail
  refine (newHasher_any W1).mono ?_
  rintro e W2 ⟨g1, rfl, hg1, hA1, hB2⟩
  have HA0' : Hid (Has W2 g0 53 H0) := HA0.out.below hB2 HG0.out.2
  have HA1 := hide hA1
  have HB2 : Hid (Below w.heap.size w W2) := HB1.out.trans (hB2.mono HB1.out.size)
  have HG1 : Hid (w.heap.size ≤ g0 ∧ g0 < g1 ∧ g1 < W2.heap.size) := ⟨HG0.out.1, by have := HG0.out.2; omega, hA1.lt⟩
  clear hA1 hB2 hg1 HA0 HB1 HG0
  go_wp2_with fail
  obtain ⟨gx, hgx⟩ : ∃ gx, gx = W2.heap.size := ⟨_, rfl⟩
  rw [← hgx]
  obtain ⟨ga, hga⟩ : ∃ ga, ga = gx + 1 := ⟨_, rfl⟩
  rw [← hga]
  obtain ⟨W3, hW3⟩ : ∃ W3, W3 = (W2.alloc (.cells #[.pointer (some ⟨g0, 0, none⟩), .pointer (some ⟨g1, 0, none⟩)] 25)).alloc (.cells #[.string ⟨#[]⟩, .string ⟨#[]⟩] 9) := ⟨_, rfl⟩
  rw [← hW3]
  have hB3 : Below W2.heap.size W2 W3 := by rw [hW3]; exact ((Below.refl _ _).alloc (Nat.le_refl _) _).alloc (by simp) _
  have HST : Hid (St W3 gx ga g0 g1 ⟨#[]⟩ ⟨#[]⟩ (bytesOf ⟨#[]⟩) (bytesOf ⟨#[]⟩)) := by
    refine ⟨?_, ?_, HA0'.out.below hB3 (by have := HG1.out; omega), HA1.out.below hB3 (by have := HG1.out; omega)⟩
    · rw [hW3, hgx]; exact heap_alloc2_old _ _ _
    · rw [hW3, hga, hgx]; exact heap_alloc2_new _ _ _
  have HBW : Hid (Below w.heap.size w W3 ∧ gx < W3.heap.size ∧ ga < W3.heap.size) := ⟨HB2.out.trans (hB3.mono HB2.out.size), by rw [hW3, hgx]; simp; omega, by rw [hW3, hga, hgx]; simp⟩
  have HG : Hid (w.heap.size ≤ g0 ∧ g0 < g1 ∧ g1 < gx ∧ gx < ga) := ⟨HG1.out.1, HG1.out.2.1, by have := HG1.out.2.2; omega, by omega⟩
  clear hgx hga hW3 hB3 HA0' HA1 HB2 HG1
  go_loopw [5] (fun iv wr => ∃ (i : Nat) (s0 s1 : ByteArray), i ≤ len + 2 ∧ iv = .int .i64 i ∧ Hid (St wr gx ga g0 g1 s0 s1 (bytesOf s0) (bytesOf s1)) ∧ Hid (s0.size + s1.size ≤ tot st (min i len)) ∧ Hid (Below w.heap.size w wr ∧ gx < wr.heap.size ∧ ga < wr.heap.size)) (fun iv _ => len + 2 - (intOf iv).toNat)
  case atStart => exact ⟨0, ⟨#[]⟩, ⟨#[]⟩, Nat.zero_le _, rfl, HST, Nat.zero_le _, HBW⟩
  case round =>
    clear HST HBW
    obtain ⟨i, s0, s1, hi, rfl, HST, HSZ, HBW⟩ := hrel
    by_cases hle : i ≤ len + 1
    · by_cases hlt : i < len
      · obtain ⟨b, off, rfl, hbw, hc0, hc1, hc2⟩ := HC.out i hlt
        obtain ⟨⟨k0, k1⟩, o0, o1⟩ := HR.out i hlt
        have bi : (i : Int) < (len : Int) := by omega
        have d0 : wr.cell? ⟨b, off + i * 3, none⟩ = some (.int .i64 (kd i)) := (HBW.out.1.cell (by exact hbw)).trans hc0
        have d1 : wr.cell? ⟨b, off + i * 3 + 1, none⟩ = some (.int .i64 (on i)) := (HBW.out.1.cell (by exact hbw)).trans hc1
        have d2 : wr.cell? ⟨b, off + i * 3 + 2, none⟩ = some (.string (st i)) := (HBW.out.1.cell (by exact hbw)).trans hc2
        have hbr : b < wr.heap.size := Nat.lt_of_lt_of_le hbw HBW.out.1.size
        clear hc0 hc1 hc2
        generalize hkd : kd i = kk at *
        generalize hon : on i = oo at *
        generalize hst : st i = ss at *
        have HSS := hide hst
        clear hkd hon hst
        by_cases hpar : oo.tmod 2 = 0
        · have hp1 : (oo.tmod 2 != 0) = false := by simpa using hpar
          clear hpar
          by_cases hk1 : kk = 1
          · have q1 : (kk == 1) = true := by simpa using hk1
            clear hk1 k0 k1
            have hcx : wr.cell? ⟨gx, 0, none⟩ = some (.pointer (some ⟨g0, 0, none⟩)) := cell_of_row wr gx 0 _ _ _ HST.out.x
            have hca : wr.cell? ⟨ga, 0, none⟩ = some (.string s0) := cell_of_row wr ga 0 _ _ _ HST.out.al
            have hgxl : gx < wr.heap.size := HBW.out.2.1
            have hgal : ga < wr.heap.size := HBW.out.2.2
            have HS1 : Hid (St (wr.alloc (.cells #[.int .i64 kk, .int .i64 oo, .string ss] 30)) gx ga g0 g1 s0 s1 (bytesOf s0) (bytesOf s1)) := HST.out.below ((Below.refl _ _).alloc (Nat.le_refl _) _) HBW.out.2.1 HBW.out.2.2 (by have := HG.out; omega) (by have := HG.out; omega)
            have HB1 : Hid (Below w.heap.size w (wr.alloc (.cells #[.int .i64 kk, .int .i64 oo, .string ss] 30))) := HBW.out.1.alloc HBW.out.1.size _
            have HSM : Hid (ss.size ≤ maxLen) := by have := HT.out; have h2 := tot_le st (show i + 1 ≤ len by omega); have h3 : tot st (i + 1) = tot st i + (st i).size := rfl; rw [HSS.out] at h3; show _ ≤ _; unfold maxLen; omega
            have hsum : s0.size + ss.size ≤ 1048576 := by have := HSZ.out; have h2 := tot_le st (show i + 1 ≤ len by omega); have h3 : tot st (i + 1) = tot st i + (st i).size := rfl; rw [HSS.out] at h3; rw [Nat.min_eq_left (by omega : i ≤ len)] at this; have := HT.out; omega
            clear HST
            go_wp2_with fail
            go_region_held3 (fun w' => w'.cell? ⟨gx, 0, none⟩ = some (.pointer (some ⟨g0, 0, none⟩)) ∧ w'.cell? ⟨wr.heap.size, 2, none⟩ = some (.string ss)) (first | exact ⟨m1, m2⟩ | go_keep)
              (first | (go_at_call 9; refine (faceWrite_any g0 53 _ ss (wr.alloc (.cells #[.int .i64 kk, .int .i64 oo, .string ss] 30)).drew ⟨HS1.out.h0.heap, HS1.out.h0.len⟩ (HK.out.below HB1.out.drew HK.out.lt) (by have := HG.out; have := HK.out.lt; omega) HSM.out).mono ?_; rintro e V1 ⟨rfl, hA, hT⟩; have HA := hide hA; have HTT := hide hT; have m1 : V1.cell? ⟨gx, 0, none⟩ = some (.pointer (some ⟨g0, 0, none⟩)) := (World.cell?_of_block (w := (wr.alloc (.cells #[.int .i64 kk, .int .i64 oo, .string ss] 30)).drew) (HTT.out.block gx (by show gx < (wr.alloc (.cells #[.int .i64 kk, .int .i64 oo, .string ss] 30)).heap.size; simp; omega) (by have := HG.out; omega))).trans (cell_of_row _ gx 0 _ _ _ HS1.out.x); have m2 : V1.cell? ⟨wr.heap.size, 2, none⟩ = some (.string ss) := (World.cell?_of_block (w := (wr.alloc (.cells #[.int .i64 kk, .int .i64 oo, .string ss] 30)).drew) (HTT.out.block wr.heap.size (by show wr.heap.size < (wr.alloc (.cells #[.int .i64 kk, .int .i64 oo, .string ss] 30)).heap.size; simp) (by have := HG.out; omega))).trans (cell_of_row _ wr.heap.size 2 _ _ _ (heap_alloc_new wr _)); clear hA hT))
            have HS2 : Hid (St V1 gx ga g0 g1 s0 s1 (bytesOf s0 ++ bytesOf ss) (bytesOf s1)) := by
              have hg := HG.out
              have hsz : (wr.alloc (.cells #[.int .i64 kk, .int .i64 oo, .string ss] 30)).drew.heap.size = wr.heap.size + 1 := by show (wr.alloc _).heap.size = _; simp
              exact ⟨(HTT.out.block gx (by omega) (by omega)).trans HS1.out.x, (HTT.out.block ga (by omega) (by omega)).trans HS1.out.al, by rw [HS.puts_append]; exact HA.out, ⟨(HTT.out.block g1 (by omega) (by omega)).trans HS1.out.h1.heap, HS1.out.h1.len⟩⟩
            have HB2 : Hid (Below w.heap.size w V1) := (HB1.out.drew).trans (HTT.out.below HG.out.1 HB1.out.size)
            have HZ2 : Hid (wr.heap.size + 1 ≤ V1.heap.size) := by have := HTT.out.size; show _ ≤ _; refine Nat.le_trans ?_ this; show _ ≤ (wr.alloc _).heap.size; simp
            have hca2 : V1.cell? ⟨ga, 0, none⟩ = some (.string s0) := cell_of_row V1 ga 0 _ _ _ HS2.out.al
            have hfr2 : V1.frozen? ⟨ga, 0, none⟩ = false := frozen_of_row V1 ga 0 _ _ HS2.out.al
            clear HS1 HB1 hca hcx HA HTT m1
            go_wp2_with fail
            go_region
            have HS3 : Hid (St (V1.setCell ⟨ga, 0, none⟩ (.string (s0 ++ ss))).drew gx ga g0 g1 (s0 ++ ss) s1 (bytesOf (s0 ++ ss)) (bytesOf s1)) := by
              have hg := HG.out
              rw [bytesOf_append]; exact HS2.out.store0 _ (by omega) (by omega) (by omega)
            have HB3 : Hid (Below w.heap.size w (V1.setCell ⟨ga, 0, none⟩ (.string (s0 ++ ss))).drew) := (HB2.out.setCell (by have := HG.out; show _ ≤ ga; omega) _).drew
            obtain ⟨V2, HV2⟩ : ∃ V2, V2 = (V1.setCell ⟨ga, 0, none⟩ (.string (s0 ++ ss))).drew := ⟨_, rfl⟩
            have HZ3 : Hid (V2.heap.size = V1.heap.size) := by rw [HV2]; show (V1.setCell _ _).heap.size = _; simp [World.setCell]
            rw [← HV2] at HS3 HB3 ⊢
            clear HV2 hca2 hfr2 m2 HS2 HB2
            go_wp2_with fail
            go_roundw
            case rel => exact ⟨i + 1, (s0 ++ ss), s1, by omega, by go_num, HS3, by have := HSZ.out; rw [Nat.min_eq_left (by omega : i ≤ len)] at this; rw [Nat.min_eq_left (by omega : i + 1 ≤ len)]; show _ ≤ tot st i + (st i).size; rw [HSS.out, ByteArray.size_append]; omega, ⟨HB3.out, by have := HZ2.out; have := HZ3.out; omega, by have := HZ2.out; have := HZ3.out; omega⟩⟩
            case measure => simp [intOf]; omega
          · have q1 : (kk == 1) = false := by simpa using hk1
            by_cases hk2 : kk = 2
            · have q2 : (kk == 2) = true := by simpa using hk2
              clear hk1 hk2 k0 k1
              have hcx : wr.cell? ⟨gx, 0, none⟩ = some (.pointer (some ⟨g0, 0, none⟩)) := cell_of_row wr gx 0 _ _ _ HST.out.x
              have hca : wr.cell? ⟨ga, 0, none⟩ = some (.string s0) := cell_of_row wr ga 0 _ _ _ HST.out.al
              have hgxl : gx < wr.heap.size := HBW.out.2.1
              have hgal : ga < wr.heap.size := HBW.out.2.2
              have HS1 : Hid (St (wr.alloc (.cells #[.int .i64 kk, .int .i64 oo, .string ss] 30)) gx ga g0 g1 s0 s1 (bytesOf s0) (bytesOf s1)) := HST.out.below ((Below.refl _ _).alloc (Nat.le_refl _) _) HBW.out.2.1 HBW.out.2.2 (by have := HG.out; omega) (by have := HG.out; omega)
              have HB1 : Hid (Below w.heap.size w (wr.alloc (.cells #[.int .i64 kk, .int .i64 oo, .string ss] 30))) := HBW.out.1.alloc HBW.out.1.size _
              have HSK : Hid (s0.size ≤ 140737488351232) := by have := HSZ.out; have h2 := tot_le st (Nat.min_le_right i len); have := HT.out; show _ ≤ _; omega
              clear HST
              go_wp2_with fail
              refine (faceSum_any g0 53 _ (wr.alloc (.cells #[.int .i64 kk, .int .i64 oo, .string ss] 30)) HS1.out.h0 (HK.out.below HB1.out HK.out.lt)).mono ?_
              rintro e V1 ⟨rfl, hB2⟩
              have HS2 : Hid (St V1 gx ga g0 g1 s0 s1 (bytesOf s0) (bytesOf s1)) := HS1.out.below hB2 (by simp; omega) (by simp; omega) (by have := HG.out; simp; omega) (by have := HG.out; simp; omega)
              have HB2 : Hid (Below w.heap.size w V1) := HB1.out.trans (hB2.mono HB1.out.size)
              have HZ2 : Hid (gx < V1.heap.size ∧ ga < V1.heap.size) := by have := hB2.size; simp at this; exact ⟨by omega, by omega⟩
              have hca2 : V1.cell? ⟨ga, 0, none⟩ = some (.string s0) := cell_of_row V1 ga 0 _ _ _ HS2.out.al
              clear hB2 HS1 HB1 hca hcx
              rw [show (H0.puts (bytesOf s0)).sum = hashOf (bytesOf s0) from rfl]
              obtain ⟨D, HD⟩ : ∃ D, Hid (D = strOf (hashOf (bytesOf s0))) := ⟨_, rfl⟩
              rw [← HD.out]
              go_wp2_with fail
              refine (refHash_same s0 V1 HSK.out).mono ?_
              rintro e V2 ⟨rfl, hB3⟩
              have HS3 : Hid (St V2 gx ga g0 g1 s0 s1 (bytesOf s0) (bytesOf s1)) := HS2.out.below hB3 HZ2.out.1 HZ2.out.2 (by have := HG.out; have := HZ2.out; omega) (by have := HG.out; have := HZ2.out; omega)
              have HB3 : Hid (Below w.heap.size w V2 ∧ gx < V2.heap.size ∧ ga < V2.heap.size) := ⟨HB2.out.trans (hB3.mono HB2.out.size), by have := hB3.size; have := HZ2.out; omega, by have := hB3.size; have := HZ2.out; omega⟩
              clear hB3 HS2 HB2 HZ2 hca2
              rw [← HD.out]
              go_wp2_with fail
              go_roundw
              case rel => exact ⟨i + 1, s0, s1, by omega, by go_num, HS3, by have := HSZ.out; rw [Nat.min_eq_left (by omega : i ≤ len)] at this; rw [Nat.min_eq_left (by omega : i + 1 ≤ len)]; show _ ≤ tot st i + (st i).size; omega, HB3⟩
              case measure => simp [intOf]; omega
            · have q2 : (kk == 2) = false := by simpa using hk2
              clear hk1 hk2 k0 k1
              have hcx : wr.cell? ⟨gx, 0, none⟩ = some (.pointer (some ⟨g0, 0, none⟩)) := cell_of_row wr gx 0 _ _ _ HST.out.x
              have hca : wr.cell? ⟨ga, 0, none⟩ = some (.string s0) := cell_of_row wr ga 0 _ _ _ HST.out.al
              have hgxl : gx < wr.heap.size := HBW.out.2.1
              have hgal : ga < wr.heap.size := HBW.out.2.2
              have HS1 : Hid (St (wr.alloc (.cells #[.int .i64 kk, .int .i64 oo, .string ss] 30)) gx ga g0 g1 s0 s1 (bytesOf s0) (bytesOf s1)) := HST.out.below ((Below.refl _ _).alloc (Nat.le_refl _) _) HBW.out.2.1 HBW.out.2.2 (by have := HG.out; omega) (by have := HG.out; omega)
              have HB1 : Hid (Below w.heap.size w (wr.alloc (.cells #[.int .i64 kk, .int .i64 oo, .string ss] 30))) := HBW.out.1.alloc HBW.out.1.size _
              clear HST
              go_wp2_with fail
              go_roundw
              case rel => exact ⟨i + 1, s0, s1, by omega, by go_num, HS1, by have := HSZ.out; rw [Nat.min_eq_left (by omega : i ≤ len)] at this; rw [Nat.min_eq_left (by omega : i + 1 ≤ len)]; show _ ≤ tot st i + (st i).size; omega, ⟨HB1.out, by simp; omega, by simp; omega⟩⟩
              case measure => simp [intOf]; omega
        · have hp1 : (oo.tmod 2 != 0) = true := by simpa using hpar
          clear hpar
          by_cases hk1 : kk = 1
          · have q1 : (kk == 1) = true := by simpa using hk1
            clear hk1 k0 k1
            have hcx : wr.cell? ⟨gx, 1, none⟩ = some (.pointer (some ⟨g1, 0, none⟩)) := cell_of_row wr gx 1 _ _ _ HST.out.x
            have hca : wr.cell? ⟨ga, 1, none⟩ = some (.string s1) := cell_of_row wr ga 1 _ _ _ HST.out.al
            have hgxl : gx < wr.heap.size := HBW.out.2.1
            have hgal : ga < wr.heap.size := HBW.out.2.2
            have HS1 : Hid (St (wr.alloc (.cells #[.int .i64 kk, .int .i64 oo, .string ss] 30)) gx ga g0 g1 s0 s1 (bytesOf s0) (bytesOf s1)) := HST.out.below ((Below.refl _ _).alloc (Nat.le_refl _) _) HBW.out.2.1 HBW.out.2.2 (by have := HG.out; omega) (by have := HG.out; omega)
            have HB1 : Hid (Below w.heap.size w (wr.alloc (.cells #[.int .i64 kk, .int .i64 oo, .string ss] 30))) := HBW.out.1.alloc HBW.out.1.size _
            have HSM : Hid (ss.size ≤ maxLen) := by have := HT.out; have h2 := tot_le st (show i + 1 ≤ len by omega); have h3 : tot st (i + 1) = tot st i + (st i).size := rfl; rw [HSS.out] at h3; show _ ≤ _; unfold maxLen; omega
            have hsum : s1.size + ss.size ≤ 1048576 := by have := HSZ.out; have h2 := tot_le st (show i + 1 ≤ len by omega); have h3 : tot st (i + 1) = tot st i + (st i).size := rfl; rw [HSS.out] at h3; rw [Nat.min_eq_left (by omega : i ≤ len)] at this; have := HT.out; omega
            clear HST
            go_wp2_with fail
            go_region_held3 (fun w' => w'.cell? ⟨gx, 1, none⟩ = some (.pointer (some ⟨g1, 0, none⟩)) ∧ w'.cell? ⟨wr.heap.size, 2, none⟩ = some (.string ss)) (first | exact ⟨m1, m2⟩ | go_keep)
              (first | (go_at_call 9; refine (faceWrite_any g1 53 _ ss (wr.alloc (.cells #[.int .i64 kk, .int .i64 oo, .string ss] 30)).drew ⟨HS1.out.h1.heap, HS1.out.h1.len⟩ (HK.out.below HB1.out.drew HK.out.lt) (by have := HG.out; have := HK.out.lt; omega) HSM.out).mono ?_; rintro e V1 ⟨rfl, hA, hT⟩; have HA := hide hA; have HTT := hide hT; have m1 : V1.cell? ⟨gx, 1, none⟩ = some (.pointer (some ⟨g1, 0, none⟩)) := (World.cell?_of_block (w := (wr.alloc (.cells #[.int .i64 kk, .int .i64 oo, .string ss] 30)).drew) (HTT.out.block gx (by show gx < (wr.alloc (.cells #[.int .i64 kk, .int .i64 oo, .string ss] 30)).heap.size; simp; omega) (by have := HG.out; omega))).trans (cell_of_row _ gx 1 _ _ _ HS1.out.x); have m2 : V1.cell? ⟨wr.heap.size, 2, none⟩ = some (.string ss) := (World.cell?_of_block (w := (wr.alloc (.cells #[.int .i64 kk, .int .i64 oo, .string ss] 30)).drew) (HTT.out.block wr.heap.size (by show wr.heap.size < (wr.alloc (.cells #[.int .i64 kk, .int .i64 oo, .string ss] 30)).heap.size; simp) (by have := HG.out; omega))).trans (cell_of_row _ wr.heap.size 2 _ _ _ (heap_alloc_new wr _)); clear hA hT))
            have HS2 : Hid (St V1 gx ga g0 g1 s0 s1 (bytesOf s0) (bytesOf s1 ++ bytesOf ss)) := by
              have hg := HG.out
              have hsz : (wr.alloc (.cells #[.int .i64 kk, .int .i64 oo, .string ss] 30)).drew.heap.size = wr.heap.size + 1 := by show (wr.alloc _).heap.size = _; simp
              exact ⟨(HTT.out.block gx (by omega) (by omega)).trans HS1.out.x, (HTT.out.block ga (by omega) (by omega)).trans HS1.out.al, ⟨(HTT.out.block g0 (by omega) (by omega)).trans HS1.out.h0.heap, HS1.out.h0.len⟩, by rw [HS.puts_append]; exact HA.out⟩
            have HB2 : Hid (Below w.heap.size w V1) := (HB1.out.drew).trans (HTT.out.below (by have := HG.out; omega) HB1.out.size)
            have HZ2 : Hid (wr.heap.size + 1 ≤ V1.heap.size) := by have := HTT.out.size; show _ ≤ _; refine Nat.le_trans ?_ this; show _ ≤ (wr.alloc _).heap.size; simp
            have hca2 : V1.cell? ⟨ga, 1, none⟩ = some (.string s1) := cell_of_row V1 ga 1 _ _ _ HS2.out.al
            have hfr2 : V1.frozen? ⟨ga, 1, none⟩ = false := frozen_of_row V1 ga 1 _ _ HS2.out.al
            clear HS1 HB1 hca hcx HA HTT m1
            go_wp2_with fail
            go_region
            have HS3 : Hid (St (V1.setCell ⟨ga, 1, none⟩ (.string (s1 ++ ss))).drew gx ga g0 g1 s0 (s1 ++ ss) (bytesOf s0) (bytesOf (s1 ++ ss))) := by
              have hg := HG.out
              rw [bytesOf_append]; exact HS2.out.store1 _ (by omega) (by omega) (by omega)
            have HB3 : Hid (Below w.heap.size w (V1.setCell ⟨ga, 1, none⟩ (.string (s1 ++ ss))).drew) := (HB2.out.setCell (by have := HG.out; show _ ≤ ga; omega) _).drew
            obtain ⟨V2, HV2⟩ : ∃ V2, V2 = (V1.setCell ⟨ga, 1, none⟩ (.string (s1 ++ ss))).drew := ⟨_, rfl⟩
            have HZ3 : Hid (V2.heap.size = V1.heap.size) := by rw [HV2]; show (V1.setCell _ _).heap.size = _; simp [World.setCell]
            rw [← HV2] at HS3 HB3 ⊢
            clear HV2 hca2 hfr2 m2 HS2 HB2
            go_wp2_with fail
            go_roundw
            case rel => exact ⟨i + 1, s0, (s1 ++ ss), by omega, by go_num, HS3, by have := HSZ.out; rw [Nat.min_eq_left (by omega : i ≤ len)] at this; rw [Nat.min_eq_left (by omega : i + 1 ≤ len)]; show _ ≤ tot st i + (st i).size; rw [HSS.out, ByteArray.size_append]; omega, ⟨HB3.out, by have := HZ2.out; have := HZ3.out; omega, by have := HZ2.out; have := HZ3.out; omega⟩⟩
            case measure => simp [intOf]; omega
          · have q1 : (kk == 1) = false := by simpa using hk1
            by_cases hk2 : kk = 2
            · have q2 : (kk == 2) = true := by simpa using hk2
              clear hk1 hk2 k0 k1
              have hcx : wr.cell? ⟨gx, 1, none⟩ = some (.pointer (some ⟨g1, 0, none⟩)) := cell_of_row wr gx 1 _ _ _ HST.out.x
              have hca : wr.cell? ⟨ga, 1, none⟩ = some (.string s1) := cell_of_row wr ga 1 _ _ _ HST.out.al
              have hgxl : gx < wr.heap.size := HBW.out.2.1
              have hgal : ga < wr.heap.size := HBW.out.2.2
              have HS1 : Hid (St (wr.alloc (.cells #[.int .i64 kk, .int .i64 oo, .string ss] 30)) gx ga g0 g1 s0 s1 (bytesOf s0) (bytesOf s1)) := HST.out.below ((Below.refl _ _).alloc (Nat.le_refl _) _) HBW.out.2.1 HBW.out.2.2 (by have := HG.out; omega) (by have := HG.out; omega)
              have HB1 : Hid (Below w.heap.size w (wr.alloc (.cells #[.int .i64 kk, .int .i64 oo, .string ss] 30))) := HBW.out.1.alloc HBW.out.1.size _
              have HSK : Hid (s1.size ≤ 140737488351232) := by have := HSZ.out; have h2 := tot_le st (Nat.min_le_right i len); have := HT.out; show _ ≤ _; omega
              clear HST
              go_wp2_with fail
              refine (faceSum_any g1 53 _ (wr.alloc (.cells #[.int .i64 kk, .int .i64 oo, .string ss] 30)) HS1.out.h1 (HK.out.below HB1.out HK.out.lt)).mono ?_
              rintro e V1 ⟨rfl, hB2⟩
              have HS2 : Hid (St V1 gx ga g0 g1 s0 s1 (bytesOf s0) (bytesOf s1)) := HS1.out.below hB2 (by simp; omega) (by simp; omega) (by have := HG.out; simp; omega) (by have := HG.out; simp; omega)
              have HB2 : Hid (Below w.heap.size w V1) := HB1.out.trans (hB2.mono HB1.out.size)
              have HZ2 : Hid (gx < V1.heap.size ∧ ga < V1.heap.size) := by have := hB2.size; simp at this; exact ⟨by omega, by omega⟩
              have hca2 : V1.cell? ⟨ga, 1, none⟩ = some (.string s1) := cell_of_row V1 ga 1 _ _ _ HS2.out.al
              clear hB2 HS1 HB1 hca hcx
              rw [show (H0.puts (bytesOf s1)).sum = hashOf (bytesOf s1) from rfl]
              obtain ⟨D, HD⟩ : ∃ D, Hid (D = strOf (hashOf (bytesOf s1))) := ⟨_, rfl⟩
              rw [← HD.out]
              go_wp2_with fail
              refine (refHash_same s1 V1 HSK.out).mono ?_
              rintro e V2 ⟨rfl, hB3⟩
              have HS3 : Hid (St V2 gx ga g0 g1 s0 s1 (bytesOf s0) (bytesOf s1)) := HS2.out.below hB3 HZ2.out.1 HZ2.out.2 (by have := HG.out; have := HZ2.out; omega) (by have := HG.out; have := HZ2.out; omega)
              have HB3 : Hid (Below w.heap.size w V2 ∧ gx < V2.heap.size ∧ ga < V2.heap.size) := ⟨HB2.out.trans (hB3.mono HB2.out.size), by have := hB3.size; have := HZ2.out; omega, by have := hB3.size; have := HZ2.out; omega⟩
              clear hB3 HS2 HB2 HZ2 hca2
              rw [← HD.out]
              go_wp2_with fail
              go_roundw
              case rel => exact ⟨i + 1, s0, s1, by omega, by go_num, HS3, by have := HSZ.out; rw [Nat.min_eq_left (by omega : i ≤ len)] at this; rw [Nat.min_eq_left (by omega : i + 1 ≤ len)]; show _ ≤ tot st i + (st i).size; omega, HB3⟩
              case measure => simp [intOf]; omega
            · have q2 : (kk == 2) = false := by simpa using hk2
              clear hk1 hk2 k0 k1
              have hcx : wr.cell? ⟨gx, 1, none⟩ = some (.pointer (some ⟨g1, 0, none⟩)) := cell_of_row wr gx 1 _ _ _ HST.out.x
              have hca : wr.cell? ⟨ga, 1, none⟩ = some (.string s1) := cell_of_row wr ga 1 _ _ _ HST.out.al
              have hgxl : gx < wr.heap.size := HBW.out.2.1
              have hgal : ga < wr.heap.size := HBW.out.2.2
              have HS1 : Hid (St (wr.alloc (.cells #[.int .i64 kk, .int .i64 oo, .string ss] 30)) gx ga g0 g1 s0 s1 (bytesOf s0) (bytesOf s1)) := HST.out.below ((Below.refl _ _).alloc (Nat.le_refl _) _) HBW.out.2.1 HBW.out.2.2 (by have := HG.out; omega) (by have := HG.out; omega)
              have HB1 : Hid (Below w.heap.size w (wr.alloc (.cells #[.int .i64 kk, .int .i64 oo, .string ss] 30))) := HBW.out.1.alloc HBW.out.1.size _
              clear HST
              go_wp2_with fail
              go_roundw
              case rel => exact ⟨i + 1, s0, s1, by omega, by go_num, HS1, by have := HSZ.out; rw [Nat.min_eq_left (by omega : i ≤ len)] at this; rw [Nat.min_eq_left (by omega : i + 1 ≤ len)]; show _ ≤ tot st i + (st i).size; omega, ⟨HB1.out, by simp; omega, by simp; omega⟩⟩
              case measure => simp [intOf]; omega
      · have bi : (len : Int) ≤ (i : Int) := by omega
        clear HC HR
        by_cases hev : i % 2 = 0
        · have hI : (i : Int) % 2 = 0 := by omega
          have hcx : wr.cell? ⟨gx, 0, none⟩ = some (.pointer (some ⟨g0, 0, none⟩)) := cell_of_row wr gx 0 _ _ _ HST.out.x
          have hca : wr.cell? ⟨ga, 0, none⟩ = some (.string s0) := cell_of_row wr ga 0 _ _ _ HST.out.al
          have hgxl : gx < wr.heap.size := HBW.out.2.1
          have hgal : ga < wr.heap.size := HBW.out.2.2
          have HS1 : Hid (St (wr.alloc (.cells #[.int .i64 2, .int .i64 0, .string ⟨#[]⟩] 30)) gx ga g0 g1 s0 s1 (bytesOf s0) (bytesOf s1)) := HST.out.below ((Below.refl _ _).alloc (Nat.le_refl _) _) HBW.out.2.1 HBW.out.2.2 (by have := HG.out; omega) (by have := HG.out; omega)
          have HB1 : Hid (Below w.heap.size w (wr.alloc (.cells #[.int .i64 2, .int .i64 0, .string ⟨#[]⟩] 30))) := HBW.out.1.alloc HBW.out.1.size _
          have HSK : Hid (s0.size ≤ 140737488351232) := by have := HSZ.out; have h2 := tot_le st (Nat.min_le_right i len); have := HT.out; show _ ≤ _; omega
          clear HST
          go_wp2_with fail
          refine (faceSum_any g0 53 _ (wr.alloc (.cells #[.int .i64 2, .int .i64 0, .string ⟨#[]⟩] 30)) HS1.out.h0 (HK.out.below HB1.out HK.out.lt)).mono ?_
          rintro e V1 ⟨rfl, hB2⟩
          have HS2 : Hid (St V1 gx ga g0 g1 s0 s1 (bytesOf s0) (bytesOf s1)) := HS1.out.below hB2 (by simp; omega) (by simp; omega) (by have := HG.out; simp; omega) (by have := HG.out; simp; omega)
          have HB2 : Hid (Below w.heap.size w V1) := HB1.out.trans (hB2.mono HB1.out.size)
          have HZ2 : Hid (gx < V1.heap.size ∧ ga < V1.heap.size) := by have := hB2.size; simp at this; exact ⟨by omega, by omega⟩
          have hca2 : V1.cell? ⟨ga, 0, none⟩ = some (.string s0) := cell_of_row V1 ga 0 _ _ _ HS2.out.al
          clear hB2 HS1 HB1 hca hcx
          rw [show (H0.puts (bytesOf s0)).sum = hashOf (bytesOf s0) from rfl]
          obtain ⟨D, HD⟩ : ∃ D, Hid (D = strOf (hashOf (bytesOf s0))) := ⟨_, rfl⟩
          rw [← HD.out]
          go_wp2_with fail
          refine (refHash_same s0 V1 HSK.out).mono ?_
          rintro e V2 ⟨rfl, hB3⟩
          have HS3 : Hid (St V2 gx ga g0 g1 s0 s1 (bytesOf s0) (bytesOf s1)) := HS2.out.below hB3 HZ2.out.1 HZ2.out.2 (by have := HG.out; have := HZ2.out; omega) (by have := HG.out; have := HZ2.out; omega)
          have HB3 : Hid (Below w.heap.size w V2 ∧ gx < V2.heap.size ∧ ga < V2.heap.size) := ⟨HB2.out.trans (hB3.mono HB2.out.size), by have := hB3.size; have := HZ2.out; omega, by have := hB3.size; have := HZ2.out; omega⟩
          clear hB3 HS2 HB2 HZ2 hca2
          rw [← HD.out]
          go_wp2_with fail
          go_roundw
          case rel => exact ⟨i + 1, s0, s1, by omega, by go_num, HS3, by have := HSZ.out; rw [Nat.min_eq_right (by omega : len ≤ i)] at this; rw [Nat.min_eq_right (by omega : len ≤ i + 1)]; exact this, HB3⟩
          case measure => simp [intOf]; omega
        · have hI : (i : Int) % 2 = 1 := by omega
          have hcx : wr.cell? ⟨gx, 1, none⟩ = some (.pointer (some ⟨g1, 0, none⟩)) := cell_of_row wr gx 1 _ _ _ HST.out.x
          have hca : wr.cell? ⟨ga, 1, none⟩ = some (.string s1) := cell_of_row wr ga 1 _ _ _ HST.out.al
          have hgxl : gx < wr.heap.size := HBW.out.2.1
          have hgal : ga < wr.heap.size := HBW.out.2.2
          have HS1 : Hid (St (wr.alloc (.cells #[.int .i64 2, .int .i64 1, .string ⟨#[]⟩] 30)) gx ga g0 g1 s0 s1 (bytesOf s0) (bytesOf s1)) := HST.out.below ((Below.refl _ _).alloc (Nat.le_refl _) _) HBW.out.2.1 HBW.out.2.2 (by have := HG.out; omega) (by have := HG.out; omega)
          have HB1 : Hid (Below w.heap.size w (wr.alloc (.cells #[.int .i64 2, .int .i64 1, .string ⟨#[]⟩] 30))) := HBW.out.1.alloc HBW.out.1.size _
          have HSK : Hid (s1.size ≤ 140737488351232) := by have := HSZ.out; have h2 := tot_le st (Nat.min_le_right i len); have := HT.out; show _ ≤ _; omega
          clear HST
          go_wp2_with fail
          refine (faceSum_any g1 53 _ (wr.alloc (.cells #[.int .i64 2, .int .i64 1, .string ⟨#[]⟩] 30)) HS1.out.h1 (HK.out.below HB1.out HK.out.lt)).mono ?_
          rintro e V1 ⟨rfl, hB2⟩
          have HS2 : Hid (St V1 gx ga g0 g1 s0 s1 (bytesOf s0) (bytesOf s1)) := HS1.out.below hB2 (by simp; omega) (by simp; omega) (by have := HG.out; simp; omega) (by have := HG.out; simp; omega)
          have HB2 : Hid (Below w.heap.size w V1) := HB1.out.trans (hB2.mono HB1.out.size)
          have HZ2 : Hid (gx < V1.heap.size ∧ ga < V1.heap.size) := by have := hB2.size; simp at this; exact ⟨by omega, by omega⟩
          have hca2 : V1.cell? ⟨ga, 1, none⟩ = some (.string s1) := cell_of_row V1 ga 1 _ _ _ HS2.out.al
          clear hB2 HS1 HB1 hca hcx
          rw [show (H0.puts (bytesOf s1)).sum = hashOf (bytesOf s1) from rfl]
          obtain ⟨D, HD⟩ : ∃ D, Hid (D = strOf (hashOf (bytesOf s1))) := ⟨_, rfl⟩
          rw [← HD.out]
          go_wp2_with fail
          refine (refHash_same s1 V1 HSK.out).mono ?_
          rintro e V2 ⟨rfl, hB3⟩
          have HS3 : Hid (St V2 gx ga g0 g1 s0 s1 (bytesOf s0) (bytesOf s1)) := HS2.out.below hB3 HZ2.out.1 HZ2.out.2 (by have := HG.out; have := HZ2.out; omega) (by have := HG.out; have := HZ2.out; omega)
          have HB3 : Hid (Below w.heap.size w V2 ∧ gx < V2.heap.size ∧ ga < V2.heap.size) := ⟨HB2.out.trans (hB3.mono HB2.out.size), by have := hB3.size; have := HZ2.out; omega, by have := hB3.size; have := HZ2.out; omega⟩
          clear hB3 HS2 HB2 HZ2 hca2
          rw [← HD.out]
          go_wp2_with fail
          go_roundw
          case rel => exact ⟨i + 1, s0, s1, by omega, by go_num, HS3, by have := HSZ.out; rw [Nat.min_eq_right (by omega : len ≤ i)] at this; rw [Nat.min_eq_right (by omega : len ≤ i + 1)]; exact this, HB3⟩
          case measure => simp [intOf]; omega
    · have hil : i = len + 2 := by omega
      clear HC HR
      have HSK : Hid (s0.size ≤ 140737488351232 ∧ s1.size ≤ 140737488351232) := by have := HSZ.out; have h2 := tot_le st (Nat.min_le_right i len); have := HT.out; exact ⟨by omega, by omega⟩
      have hc0 : wr.cell? ⟨gx, 0, none⟩ = some (.pointer (some ⟨g0, 0, none⟩)) := cell_of_row wr gx 0 _ _ _ HST.out.x
      go_wp2_with fail
      refine (faceSum_any g0 53 _ wr HST.out.h0 (HK.out.below HBW.out.1 HK.out.lt)).mono ?_
      rintro e V1 ⟨rfl, hB2⟩
      have HS2 : Hid (St V1 gx ga g0 g1 s0 s1 (bytesOf s0) (bytesOf s1)) := HST.out.below hB2 HBW.out.2.1 HBW.out.2.2 (by have := HG.out; have := HBW.out; omega) (by have := HG.out; have := HBW.out; omega)
      have HB2 : Hid (Below w.heap.size w V1 ∧ gx < V1.heap.size ∧ ga < V1.heap.size) := ⟨HBW.out.1.trans (hB2.mono HBW.out.1.size), by have := hB2.size; have := HBW.out; omega, by have := hB2.size; have := HBW.out; omega⟩
      clear hB2 HST HBW hc0
      rw [show (H0.puts (bytesOf s0)).sum = hashOf (bytesOf s0) from rfl]
      obtain ⟨D0, HD0⟩ : ∃ D, Hid (D = strOf (hashOf (bytesOf s0))) := ⟨_, rfl⟩
      rw [← HD0.out]
      have hc1 : V1.cell? ⟨gx, 1, none⟩ = some (.pointer (some ⟨g1, 0, none⟩)) := cell_of_row V1 gx 1 _ _ _ HS2.out.x
      go_wp2_with fail
      refine (faceSum_any g1 53 _ V1 HS2.out.h1 (HK.out.below HB2.out.1 HK.out.lt)).mono ?_
      rintro e V2 ⟨rfl, hB3⟩
      have HS3 : Hid (St V2 gx ga g0 g1 s0 s1 (bytesOf s0) (bytesOf s1)) := HS2.out.below hB3 HB2.out.2.1 HB2.out.2.2 (by have := HG.out; have := HB2.out; omega) (by have := HG.out; have := HB2.out; omega)
      have HB3 : Hid (Below w.heap.size w V2 ∧ gx < V2.heap.size ∧ ga < V2.heap.size) := ⟨HB2.out.1.trans (hB3.mono HB2.out.1.size), by have := hB3.size; have := HB2.out; omega, by have := hB3.size; have := HB2.out; omega⟩
      clear hB3 HS2 HB2 hc1
      rw [show (H0.puts (bytesOf s1)).sum = hashOf (bytesOf s1) from rfl]
      obtain ⟨D1, HD1⟩ : ∃ D, Hid (D = strOf (hashOf (bytesOf s1))) := ⟨_, rfl⟩
      rw [← HD1.out]
      have hc2 : V2.cell? ⟨ga, 0, none⟩ = some (.string s0) := cell_of_row V2 ga 0 _ _ _ HS3.out.al
      go_wp2_with fail
      refine (refHash_same s0 V2 HSK.out.1).mono ?_
      rintro e V3 ⟨rfl, hB4⟩
      have HS4 : Hid (St V3 gx ga g0 g1 s0 s1 (bytesOf s0) (bytesOf s1)) := HS3.out.below hB4 HB3.out.2.1 HB3.out.2.2 (by have := HG.out; have := HB3.out; omega) (by have := HG.out; have := HB3.out; omega)
      have HB4 : Hid (Below w.heap.size w V3 ∧ gx < V3.heap.size ∧ ga < V3.heap.size) := ⟨HB3.out.1.trans (hB4.mono HB3.out.1.size), by have := hB4.size; have := HB3.out; omega, by have := hB4.size; have := HB3.out; omega⟩
      clear hB4 HS3 HB3 hc2
      rw [← HD0.out]
      have hc3 : V3.cell? ⟨ga, 1, none⟩ = some (.string s1) := cell_of_row V3 ga 1 _ _ _ HS4.out.al
      go_wp2_with fail
      refine (refHash_same s1 V3 HSK.out.2).mono ?_
      rintro e V4 ⟨rfl, hB5⟩
      have HB5 : Hid (Below w.heap.size w V4) := HB4.out.1.trans (hB5.mono HB4.out.1.size)
      clear hB5 HS4 HB4 hc3
      rw [← HD1.out]
      go_wp2_with fail
      go_ret
      exact ⟨rfl, HB5.out⟩
end Go.Proofs.YtcnbhpghcjcejaaDoor
