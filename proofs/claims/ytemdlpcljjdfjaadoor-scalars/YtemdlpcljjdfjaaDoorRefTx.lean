import Derived.Test.YtemdlpcljjdfjaaDoorRefFO
import Derived.Test.YtemdlpcljjdfjaaDoorRedFace
/- The document's answer: text. -/
namespace Go.Proofs.YtemdlpcljjdfjaaDoor
open Go.RowKit
theorem leB_zero : leB 0 32 = List.replicate 32 0 := by decide +kernel
theorem z32_le : z32 = ((leB 0 32).map cv).toArray := by rw [leB_zero]; rfl
theorem make32 (w : World) : (Instr.makeSlice 51 (.int .i64 32) (.int .i64 32)).run Tryd.prog w = .ok (.slice (some ⟨w.heap.size, 0, none⟩) 32 32) (w.alloc (.cells z32 5)) := by kernel_rfl
/-- A code: the number, and the mark. -/
def codeN (y : Nat) (odd : Bool) : Nat := if odd then y + 57896044618658097711785492504343953926634992332820282019728792003956564819968 else y
section
attribute [local irreducible] fA
set_option maxRecDepth 100000 in
set_option maxHeartbeats 400000 in
theorem textA (a : Nat) (odd : Bool) (ha : a < P) (w : World) :
    Calls Tryd.prog 63 #[.agg (fA a), .bool odd] w fun e w' => e = .returned (.string (strOf (leB (codeN a odd) 32))) ∧ Below w.heap.size w w' := by
  have hmk := make32
  have Ha := hide ha
  clear ha
  go_enter Tryd.func63, Tryd.ntmps63
  go_wp2_with fail
  go_loopw [6] (fun iV wr => ∃ (i : Nat), i ≤ 255 ∧ iV = .int .i64 i ∧ Hid (wr.heap[w.heap.size]? = some (.cells (fA a) 76 (0, 0))) ∧ Hid (wr.heap[w.heap.size + 1]? = some (.cells ((leB (a % 2 ^ i) 32).map cv).toArray 5 (0, 0))) ∧ Hid (Below w.heap.size w wr)) (fun i _ => 255 - (intOf i).toNat)
  case atStart => exact ⟨0, Nat.zero_le _, rfl, at2_0 _ _ _, by rw [Nat.pow_zero, Nat.mod_one, ← z32_le]; exact at2_1 _ _ _, by show Below _ _ _; go_grown⟩
  case round =>
    clear hmk
    obtain ⟨i, hi, rfl, H0, H1, HB⟩ := hrel
    by_cases hlt : i < 255
    · have bi : (i : Int) < 255 := by omega
      obtain ⟨q, hq⟩ : ∃ q, q = i / 8 := ⟨_, rfl⟩
      obtain ⟨r, hr⟩ : ∃ r, r = i % 8 := ⟨_, rfl⟩
      obtain ⟨j, hj⟩ : ∃ j, j = i / 26 := ⟨_, rfl⟩
      obtain ⟨t, ht⟩ : ∃ t, t = i % 26 := ⟨_, rfl⟩
      have e8 : (i : Int) / 8 = (q : Int) := by omega
      have er : (i : Int) % 8 = (r : Int) := by omega
      have e26 : (i : Int) / 26 = (j : Int) := by omega
      have et : (i : Int) % 26 = (t : Int) := by omega
      have bq : (q : Int) < 32 := by omega
      have br : (r : Int) < 8 := by omega
      have bj : (j : Int) < 10 := by omega
      have bt : (t : Int) < 26 := by omega
      have c1 := ivs_get (l := fd a) (T := 76) (fr := (0, 0)) (by have e := H0.out; unfold fA at e; exact e) j (by rw [fd_length]; omega)
      have hdg := fd_lt a _ (getD_mem (l := fd a) (i := j) (by rw [fd_length]; omega))
      obtain ⟨x, HX⟩ : ∃ x, Hid (x = (fd a).getD j 0) := ⟨_, rfl⟩
      rw [← HX.out] at c1 hdg
      obtain ⟨x0, x1⟩ := hdg
      have HBit : Hid (x / 2 ^ t % 2 = ((a / 2 ^ i % 2 : Nat) : Int)) := by
        show _ = _
        have e := fd_bitOf a i hlt
        rw [← hj, ← ht, ← HX.out, Int.natCast_pow] at e
        exact e
      have hnn : 0 ≤ x / 2 ^ t := Int.ediv_nonneg x0 (Int.le_of_lt (Int.pow_pos (by decide)))
      have hcase : (((x / 2 ^ t).tmod 2 == 1) = true ∧ a / 2 ^ i % 2 = 1) ∨ (((x / 2 ^ t).tmod 2 == 1) = false ∧ ¬ a / 2 ^ i % 2 = 1) := by
        rw [Int.tmod_eq_emod_of_nonneg hnn, HBit.out]
        by_cases hp : a / 2 ^ i % 2 = 1
        · exact .inl ⟨by rw [hp]; rfl, hp⟩
        · exact .inr ⟨by rw [beq_eq_false_iff_ne]; omega, hp⟩
      clear hnn
      rcases hcase with ⟨hb, hp⟩ | ⟨hb, hp⟩
      · have hE : a % 2 ^ (i + 1) = a % 2 ^ i + 2 ^ i := by rw [mod_bit, if_pos hp]
        obtain ⟨m, HM⟩ : ∃ m, Hid (m = a % 2 ^ i) := ⟨_, rfl⟩
        have hml : m < 2 ^ i := by rw [HM.out]; exact Nat.mod_lt _ (Nat.pow_pos (by decide))
        rw [← HM.out] at hE H1
        have hlow := leB_low m i hml
        have hp8 := pow8_le i
        have hby := byteLE_nat m (i / 8)
        rw [← hq, ← hr] at hlow
        rw [← hr] at hp8
        rw [← hq] at hby
        have c2 := cvs_get H1.out q (by rw [leB_length]; omega)
        rw [leB_getD m 32 q (by omega)] at c2
        have f2 := frozen_of_row wr (w.heap.size + 1) q _ _ H1.out
        obtain ⟨c, HC⟩ : ∃ c, Hid (c = byteLE m q) := ⟨_, rfl⟩
        rw [← HC.out] at c2 hby
        obtain ⟨y, HY⟩ : ∃ y, Hid (y = C8 c) := ⟨_, rfl⟩
        have hyv : y = (c.toNat : Int) := HY.out
        have hcl : c.toNat < 2 ^ r := by rw [hby]; exact Nat.lt_of_le_of_lt (Nat.mod_le _ _) hlow
        rw [show cv c = .int .u8 (C8 c) from rfl, ← HY.out] at c2
        have ep : ((2 ^ r : Nat) : Int) = (2 : Int) ^ r := Int.natCast_pow 2 r
        have hsh : IntKind.u8.wrap (2 ^ r) = 2 ^ r := by
          rw [← ep, IntKind.wrap_u8]; generalize 2 ^ r = p at *; omega
        have hsh1 : IntKind.u8.wrap (1 * 2 ^ r) = 2 ^ r := by rw [Int.one_mul]; exact hsh
        have hadd : IntKind.u8.wrap (y + 2 ^ r) = y + 2 ^ r := by
          rw [← ep, IntKind.wrap_u8, hyv]; generalize 2 ^ r = p at *; omega
        have HR : Hid (((leB m 32).map cv).set q (.int .u8 (y + 2 ^ r)) = (leB (a % 2 ^ (i + 1)) 32).map cv) := by
          show _ = _
          have hcn : (UInt8.ofNat (c.toNat + 2 ^ r)).toNat = c.toNat + 2 ^ r := by
            rw [UInt8.toNat_ofNat']; generalize 2 ^ r = p at *; omega
          have e := leB_bit m i hml (by omega) (UInt8.ofNat (c.toNat + 2 ^ r)) (by rw [hcn, HC.out, hq, hr])
          rw [hE, ← e, List.map_set, ← hq]
          congr 1
          show Value.int .u8 (y + 2 ^ r) = Value.int .u8 (C8 _)
          unfold C8
          rw [hcn, hyv, ← ep]; rfl
        clear hE hp hq hr hj ht hlow hp8 hml ep hyv hcl hby
        go_wp2_with fail
        go_region
        go_wp2_with fail
        refine ⟨⟨i + 1, by omega, by go_num, far_drew _ _ H0.out (by omega), ?_, (HB.out.setCell (by show _ ≤ _; simp) _).drew⟩, by simp [intOf]; omega⟩
        rw [← HR.out]
        exact row_store H1.out q _
      · have hE : a % 2 ^ (i + 1) = a % 2 ^ i := by rw [mod_bit, if_neg hp, Nat.add_zero]
        have HE := hide hE
        clear hE hp hq hr hj ht
        go_wp2_with fail
        exact ⟨⟨i + 1, by omega, by go_num, H0, by rw [HE.out]; exact H1, HB⟩, by simp [intOf]; omega⟩
    · obtain rfl : i = 255 := by omega
      have bi : (255 : Int) ≤ ((255 : Nat) : Int) := by omega
      have ham : a % 2 ^ 255 = a := Nat.mod_eq_of_lt (Nat.lt_of_lt_of_le Ha.out (by decide))
      rw [ham] at H1
      clear hlt hi ham
      cases odd
      · have hcv : (convert 51 9 (.slice (some ⟨w.heap.size + 1, 0, none⟩) 32 32)).run Tryd.prog wr = .ok (.string (strOf (leB a 32))) wr := conv32 _ _ (leB a 32) (leB_length _ _) _ H1.out
        obtain ⟨T, HT⟩ : ∃ T, Hid (T = strOf (leB a 32)) := ⟨_, rfl⟩
        rw [← HT.out] at hcv
        go_wp2_with fail
        go_ret
        exact ⟨by rw [HT.out]; rfl, HB.out⟩
      · have c2 := cvs_get H1.out 31 (by rw [leB_length]; decide)
        rw [leB_getD a 32 31 (by decide)] at c2
        have f2 := frozen_of_row wr (w.heap.size + 1) 31 _ _ H1.out
        obtain ⟨c, HC⟩ : ∃ c, Hid (c = byteLE a 31) := ⟨_, rfl⟩
        have hcl : c.toNat < 128 := by
          have h := Ha.out
          rw [P_val] at h
          rw [HC.out, byteLE_nat, show (256 : Nat) ^ 31 = 452312848583266388373324160190187140051835877600158453279131187530910662656 from by decide]
          omega
        rw [← HC.out] at c2
        obtain ⟨y, HY⟩ : ∃ y, Hid (y = C8 c) := ⟨_, rfl⟩
        have hyv : y = (c.toNat : Int) := HY.out
        rw [show cv c = .int .u8 (C8 c) from rfl, ← HY.out] at c2
        have hadd : IntKind.u8.wrap (y + 128) = y + 128 := by rw [IntKind.wrap_u8, hyv]; omega
        obtain ⟨W2, hW2⟩ : ∃ W, W = wr.setCell ⟨w.heap.size + 1, 31, none⟩ (.int .u8 (y + 128)) := ⟨_, rfl⟩
        have HR : Hid (W2.heap[w.heap.size + 1]? = some (.cells ((leB (codeN a true) 32).map cv).toArray 5 (0, 0))) := by
          have hcn : (UInt8.ofNat (c.toNat + 128)).toNat = c.toNat + 128 := by rw [UInt8.toNat_ofNat']; omega
          have e := leB_bit a 255 (Nat.lt_of_lt_of_le Ha.out (by decide)) (by decide) (UInt8.ofNat (c.toNat + 128)) (by rw [hcn, HC.out])
          have e2 : codeN a true = a + 2 ^ 255 := rfl
          show _ = _
          rw [e2, ← e, List.map_set, hW2]
          have e3 : cv (UInt8.ofNat (c.toNat + 128)) = .int .u8 (y + 128) := by
            show Value.int .u8 (C8 _) = _
            unfold C8
            rw [hcn, hyv]; rfl
          rw [e3]
          exact row_store H1.out 31 _
        have HB2 : Hid (Below w.heap.size w W2) := by rw [hW2]; exact HB.out.setCell (by show _ ≤ _; simp) _
        have hcv : (convert 51 9 (.slice (some ⟨w.heap.size + 1, 0, none⟩) 32 32)).run Tryd.prog W2 = .ok (.string (strOf (leB (codeN a true) 32))) W2 := conv32 _ _ (leB (codeN a true) 32) (leB_length _ _) _ HR.out
        obtain ⟨T, HT⟩ : ∃ T, Hid (T = strOf (leB (codeN a true) 32)) := ⟨_, rfl⟩
        rw [← HT.out, hW2] at hcv
        clear hcl hyv HR
        go_wp2_with fail
        go_ret
        exact ⟨by rw [HT.out]; rfl, by rw [← hW2]; exact HB2.out⟩
end
end Go.Proofs.YtemdlpcljjdfjaaDoor
