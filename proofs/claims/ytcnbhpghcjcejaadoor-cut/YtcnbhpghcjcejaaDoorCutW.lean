import Derived.Test.YtcnbhpghcjcejaaDoorAbc
/- The walk of latchkeep.Cut. -/
namespace Go.Proofs.YtcnbhpghcjcejaaDoor
open Go.RowKit

set_option maxHeartbeats 400000 in
theorem pick_any (c n : Int) (w : World) (c0 : -9223372036854775808 ≤ c) (c1 : c ≤ 9223372036854775807) (n0 : 0 < n) (n1 : n ≤ 9223372036854775807) :
    Calls Tryd.prog 11 #[.int .i64 c, .int .i64 n] w fun e w' => ∃ m : Nat, e = .returned (.int .i64 m) ∧ (m : Int) < n ∧ w' = w := by
  by_cases hc : c < 0
  · have e0 : -((c + 1).tmod n) = (-(c + 1)) % n := by rw [← Int.neg_tmod, Int.tmod_eq_emod_of_nonneg (by omega)]
    have p0 := Int.emod_nonneg (-(c + 1)) (by omega : n ≠ 0)
    have p1 := Int.emod_lt_of_pos (-(c + 1)) n0
    have HE : Hid (-((c + 1).tmod n) = (((-(c + 1)) % n).toNat : Int) ∧ (((-(c + 1)) % n).toNat : Int) < n) := ⟨by rw [e0]; exact (Int.toNat_of_nonneg p0).symm, by rw [Int.toNat_of_nonneg p0]; exact p1⟩
    clear e0 p0 p1
    go_enter Tryd.func11, Tryd.ntmps11
    go_wp2
    go_ret
    exact ⟨((-(c + 1)) % n).toNat, ret_i64 HE.out.1, HE.out.2, rfl⟩
  · have p0 := Int.emod_nonneg c (by omega : n ≠ 0)
    have p1 := Int.emod_lt_of_pos c n0
    have HE : Hid (c % n = ((c % n).toNat : Int) ∧ ((c % n).toNat : Int) < n) := ⟨(Int.toNat_of_nonneg p0).symm, by rw [Int.toNat_of_nonneg p0]; exact p1⟩
    clear p0 p1
    go_enter Tryd.func11, Tryd.ntmps11
    go_wp2
    go_ret
    exact ⟨(c % n).toNat, ret_i64 HE.out.1, HE.out.2, rfl⟩

theorem bytesOf_take (s : ByteArray) (n : Nat) : bytesOf (s.extract 0 n) = (bytesOf s).take n := by
  unfold bytesOf
  simp only [ByteArray.data_extract, Array.toList_extract, List.extract_eq_take_drop, List.drop_zero, Nat.sub_zero]
theorem take_take_drop (l : List UInt8) (m n : Nat) : l.take m ++ (l.drop m).take n = l.take (m + n) := List.take_add.symm
theorem addr_add_block (a : Addr) (n : Nat) : (a.add n).block = a.block := by unfold Addr.add; split <;> rfl
theorem strOf_size (l : List UInt8) : (strOf l).size = l.length := rfl
theorem abc8 : (strOf abcBytes).extract 0 8 = ⟨#[221, 175, 53, 161, 147, 97, 122, 186]⟩ := by decide +kernel

set_option maxRecDepth 100000 in
set_option maxHeartbeats 4000000 in
theorem cut_any (s : ByteArray) (ad : Option Addr) (len cap : Nat) (zs : List Int) (w : World) (hK : Tab w) (hs : s.size ≤ 140737488351232) (hlen : len ≤ 9223372036854775807)
    (hz : ∀ i, i < len → -9223372036854775808 ≤ zs.getD i 0 ∧ zs.getD i 0 ≤ 9223372036854775807)
    (hc : ∀ i, i < len → ∃ a : Addr, ad = some a ∧ a.block < w.heap.size ∧ w.cell? (a.add i) = some (.int .i64 (zs.getD i 0))) :
    Calls Tryd.prog 5 #[.string s, .slice ad len cap] w fun e w' => e = .returned (.bool true) ∧ Below w.heap.size w w' := by
  have HK := hide hK
  have HC := hide hc
  have HZ := hide hz
  have HSM : Hid (s.size ≤ maxLen) := by show _ ≤ _; unfold maxLen; omega
  clear hK hc hz
  go_enter Tryd.func5, Tryd.ntmps5
  go_wp2_with fail
  refine (newHasher_any w).mono ?_
  rintro e W1 ⟨g, rfl, hg, hA1, hB1⟩
  have HA1 := hide hA1
  have HB1 := hide hB1
  have HG : Hid (w.heap.size ≤ g) := hg
  have HK1 : Hid (Tab W1) := HK.out.below hB1 HK.out.lt
  clear hA1 hB1 hg
  go_wp2_with fail
  refine (hash_any s W1 HK1.out HSM.out).mono ?_
  rintro e W2 ⟨rfl, hB2⟩
  have HA2 : Hid (Has W2 g 53 H0) := ⟨(hB2.block g HA1.out.lt).trans HA1.out.heap, H0_len⟩
  have HB2 : Hid (Below w.heap.size w W2) := HB1.out.trans (hB2.mono HB1.out.size)
  have HK2 : Hid (Tab W2) := HK1.out.below hB2 HK1.out.lt
  clear hB2 HA1 HB1 HK1
  obtain ⟨X1, HX1⟩ : ∃ X1, Hid (X1 = strOf (hashOf (bytesOf s))) := ⟨_, rfl⟩
  rw [← HX1.out]
  have hX1 : X1.size = 64 := by rw [HX1.out, strOf_size, hashOf_length]
  go_wp2_with fail
  refine (hash_any ⟨#[]⟩ W2 HK2.out (by decide)).mono ?_
  rintro e W3 ⟨rfl, hB3⟩
  have HA3 : Hid (Has W3 g 53 H0) := ⟨(hB3.block g HA2.out.lt).trans HA2.out.heap, H0_len⟩
  have HB3 : Hid (Below w.heap.size w W3) := HB2.out.trans (hB3.mono HB2.out.size)
  have HK3 : Hid (Tab W3) := HK2.out.below hB3 HK2.out.lt
  clear hB3 HA2 HB2 HK2
  obtain ⟨X2, HX2⟩ : ∃ X2, Hid (X2 = strOf (hashOf [])) := ⟨_, rfl⟩
  rw [show bytesOf ⟨#[]⟩ = [] from rfl, ← HX2.out]
  have hX2 : X2.size = 64 := by rw [HX2.out, strOf_size, hashOf_length]
  go_wp2_with fail
  refine (hash_any ⟨#[97, 98, 99]⟩ W3 HK3.out (by decide)).mono ?_
  rintro e W4 ⟨rfl, hB4⟩
  have HA4 : Hid (Has W4 g 53 H0) := ⟨(hB4.block g HA3.out.lt).trans HA3.out.heap, H0_len⟩
  have HB4 : Hid (Below w.heap.size w W4) := HB3.out.trans (hB4.mono HB3.out.size)
  have HK4 : Hid (Tab W4) := HK3.out.below hB4 HK3.out.lt
  clear hB4 HA3 HB3 HK3
  rw [show bytesOf ⟨#[97, 98, 99]⟩ = [97, 98, 99] from rfl, hash_abc]
  obtain ⟨X3, HX3⟩ : ∃ X3, Hid (X3 = strOf abcBytes) := ⟨_, rfl⟩
  rw [← HX3.out]
  have hX3 : X3.size = 64 := by rw [HX3.out]; rfl
  have hX3a : X3.extract 0 8 = ⟨#[221, 175, 53, 161, 147, 97, 122, 186]⟩ := by rw [HX3.out]; exact abc8
  go_wp2_with fail
  refine (faceSum_any g 53 H0 W4 HA4.out HK4.out).mono ?_
  rintro e W5 ⟨rfl, hB5⟩
  have HA5 : Hid (Has W5 g 53 (H0.puts ((bytesOf s).take 0))) := ⟨(hB5.block g HA4.out.lt).trans HA4.out.heap, H0_len⟩
  have HB5 : Hid (Below w.heap.size w W5) := HB4.out.trans (hB5.mono HB4.out.size)
  clear hB5 HA4 HB4 HK4
  rw [show H0.sum = hashOf [] from rfl, ← HX2.out]
  go_wp2_with fail
  go_loopw [10, 11] (fun v i wr => ∃ (t : ByteArray) (k m : Nat), v = .string t ∧ i = .int .i64 k ∧ k ≤ len ∧ t.size ≤ s.size ∧ Hid (m ≤ s.size ∧ t.size = s.size - m ∧ bytesOf t = (bytesOf s).drop m) ∧ Hid (Has wr g 53 (H0.puts ((bytesOf s).take m))) ∧ Hid (Below w.heap.size w wr)) (fun _ i _ => len - (intOf i).toNat)
  case atStart => exact ⟨s, 0, 0, rfl, rfl, Nat.zero_le _, Nat.le_refl _, ⟨Nat.zero_le _, rfl, rfl⟩, HA5, HB5⟩
  case round =>
    clear HA5 HB5 hX1 hX2 hX3 hX3a HX3
    obtain ⟨t, k, m, rfl, rfl, hk, hts, HM, HA, HB⟩ := hrel
    have HKr : Hid (Tab wr) := HK.out.below HB.out HK.out.lt
    by_cases hlt : k < len
    · obtain ⟨a, rfl, hab, hca⟩ := HC.out k hlt
      have hcz := HZ.out k hlt
      have hcell : wr.cell? (a.add k) = some (.int .i64 (zs.getD k 0)) := (HB.out.cell (by rw [addr_add_block]; exact hab)).trans hca
      clear hca
      generalize zs.getD k 0 = c at hcz hcell
      obtain ⟨cz0, cz1⟩ := hcz
      go_wp2_with fail
      refine (pick_any c _ wr cz0 cz1 (by omega) (by omega)).mono ?_
      rintro e w' ⟨n, rfl, hn, rfl⟩
      have hn' : n ≤ t.size := by omega
      have hni : (n : Int) ≤ (t.size : Int) := by omega
      clear hn hcell cz0 cz1
      obtain ⟨p, hp⟩ : ∃ p, p = t.extract 0 n := ⟨_, rfl⟩
      obtain ⟨q, hq⟩ : ∃ q, q = t.extract n t.size := ⟨_, rfl⟩
      have hpb : bytesOf p = (bytesOf t).take n := by rw [hp]; exact bytesOf_take t n
      have hqb : bytesOf q = (bytesOf t).drop n := by rw [hq]; exact bytesOf_extract t n
      have hqs : q.size = t.size - n := by rw [hq]; exact extract_size t n
      have hps : p.size ≤ maxLen := by
        have := bytesOf_length p; rw [hpb, List.length_take, bytesOf_length] at this
        unfold maxLen; omega
      have HP := hide hp
      have HQ := hide hq
      have HPS := hide hps
      -- what has been written, and its hash
      have HW : Hid ((H0.puts ((bytesOf s).take m)).puts (bytesOf p) = H0.puts ((bytesOf s).take (m + n))) := by
        show _ = _
        rw [← HS.puts_append, hpb, HM.out.2.2, take_take_drop]
      have HM2 : Hid (m + n ≤ s.size ∧ q.size = s.size - (m + n) ∧ bytesOf q = (bytesOf s).drop (m + n)) := by
        have := HM.out.1; have h2 := HM.out.2.1
        exact ⟨by omega, by omega, by rw [hqb, HM.out.2.2, List.drop_drop]⟩
      have hq2 : (q.size : Int) ≤ (s.size : Int) := by omega
      have HR : Hid (s.size - (t.size - n) = m + n) := by
        have := HM.out.1; have h2 := HM.out.2.1
        show _ = _; omega
      have HRS : Hid ((s.extract 0 (m + n)).size ≤ maxLen) := by
        have := bytesOf_length (s.extract 0 (m + n)); rw [bytesOf_take, List.length_take, bytesOf_length] at this
        show _ ≤ _; unfold maxLen; omega
      clear hp hq hps hpb hqb hqs
      go_wp2_with fail
      rw [← HP.out]
      refine (faceWrite_any g 53 _ p w' HA.out HKr.out (by have := HG.out; have := HK.out.lt; omega) HPS.out).mono ?_
      rintro e V1 ⟨rfl, hA1, hT1⟩
      rw [HW.out] at hA1
      have HA1 := hide hA1
      have HB1 : Hid (Below w.heap.size w V1) := HB.out.trans (hT1.below HG.out HB.out.size)
      have HK1 : Hid (Tab V1) := HK.out.below HB1.out HK.out.lt
      clear hA1 hT1 HA HB HKr HP HPS HW
      go_wp2_with fail
      refine (faceSum_any g 53 _ V1 HA1.out HK1.out).mono ?_
      rintro e V2 ⟨rfl, hB2⟩
      have HA2 : Hid (Has V2 g 53 (H0.puts ((bytesOf s).take (m + n)))) := ⟨(hB2.block g HA1.out.lt).trans HA1.out.heap, HA1.out.len⟩
      have HB2 : Hid (Below w.heap.size w V2) := HB1.out.trans (hB2.mono HB1.out.size)
      have HK2 : Hid (Tab V2) := HK.out.below HB2.out HK.out.lt
      clear hB2 HA1 HB1 HK1
      rw [show (H0.puts ((bytesOf s).take (m + n))).sum = hashOf ((bytesOf s).take (m + n)) from rfl]
      obtain ⟨D, HD⟩ : ∃ D, Hid (D = strOf (hashOf ((bytesOf s).take (m + n)))) := ⟨_, rfl⟩
      rw [← HD.out]
      go_wp2_with fail
      rw [HR.out, ← HQ.out]
      refine (hash_any (s.extract 0 (m + n)) V2 HK2.out HRS.out).mono ?_
      rintro e V3 ⟨rfl, hB3⟩
      have HA3 : Hid (Has V3 g 53 (H0.puts ((bytesOf s).take (m + n)))) := ⟨(hB3.block g HA2.out.lt).trans HA2.out.heap, HA2.out.len⟩
      have HB3 : Hid (Below w.heap.size w V3) := HB2.out.trans (hB3.mono HB2.out.size)
      clear hB3 HA2 HB2 HK2
      rw [bytesOf_take, ← HD.out]
      go_wp2_with fail
      go_roundw
      case rel => exact ⟨q, k + 1, m + n, rfl, by go_num, by omega, by omega, HM2, HA3, HB3⟩
      case measure => simp [intOf]; omega
    · have hk' : (len : Int) ≤ (k : Int) := by omega
      have HTS : Hid (t.size ≤ maxLen) := by show _ ≤ _; unfold maxLen; omega
      clear hlt
      go_wp2_with fail
      refine (faceWrite_any g 53 _ t wr HA.out HKr.out (by have := HG.out; have := HK.out.lt; omega) HTS.out).mono ?_
      rintro e V1 ⟨rfl, hA1, hT1⟩
      rw [← HS.puts_append, HM.out.2.2, List.take_append_drop] at hA1
      have HA1 := hide hA1
      have HB1 : Hid (Below w.heap.size w V1) := HB.out.trans (hT1.below HG.out HB.out.size)
      have HK1 : Hid (Tab V1) := HK.out.below HB1.out HK.out.lt
      clear hA1 hT1 HA HB HKr
      go_wp2_with fail
      refine (faceSum_any g 53 _ V1 HA1.out HK1.out).mono ?_
      rintro e V2 ⟨rfl, hB2⟩
      have HA2 : Hid (Has V2 g 53 (H0.puts (bytesOf s))) := ⟨(hB2.block g HA1.out.lt).trans HA1.out.heap, HA1.out.len⟩
      have HB2 : Hid (Below w.heap.size w V2) := HB1.out.trans (hB2.mono HB1.out.size)
      have HK2 : Hid (Tab V2) := HK.out.below HB2.out HK.out.lt
      clear hB2 HA1 HB1 HK1
      rw [show (H0.puts (bytesOf s)).sum = hashOf (bytesOf s) from rfl, ← HX1.out]
      go_wp2_with fail
      refine (faceSum_any g 53 _ V2 HA2.out HK2.out).mono ?_
      rintro e V3 ⟨rfl, hB3⟩
      have HB3 : Hid (Below w.heap.size w V3) := HB2.out.trans (hB3.mono HB2.out.size)
      clear hB3 HA2 HB2 HK2
      rw [show (H0.puts (bytesOf s)).sum = hashOf (bytesOf s) from rfl, ← HX1.out]
      go_wp2_with fail
      go_ret
      exact ⟨rfl, HB3.out⟩
end Go.Proofs.YtcnbhpghcjcejaaDoor
