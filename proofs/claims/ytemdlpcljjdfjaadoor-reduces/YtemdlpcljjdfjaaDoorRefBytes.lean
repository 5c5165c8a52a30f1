import Derived.Test.YtemdlpcljjdfjaaDoorRefRed
import Derived.Test.YtemdlpcljjdfjaaDoorOwnStep
import Derived.OwnWalk
/- The document's answer: (S).bytes; latchref.Reduce. -/
namespace Go.Proofs.YtemdlpcljjdfjaaDoor
open Go.RowKit
theorem underSlB : Tryd.prog.underlying 51 = some (.slice 5) := by kernel_rfl
theorem infoB : (Tryd.prog.info? 5).map (fun i => (i.zero, i.size, i.bytes)) = some (some (.int .u8 0), 1, 1) := by kernel_rfl
/-- Two bytes of each of the first k digits. -/
def twoB (D : List Int) (k : Nat) : List UInt8 := (D.take k).flatMap fun x => [UInt8.ofNat (x % 256).toNat, UInt8.ofNat (x / 256).toNat]
theorem twoB_step (D : List Int) (k : Nat) (h : k < D.length) : twoB D (k + 1) = twoB D k ++ [UInt8.ofNat (D.getD k 0 % 256).toNat, UInt8.ofNat (D.getD k 0 / 256).toNat] := by
  unfold twoB
  rw [List.take_succ_eq_append_getElem h, List.flatMap_append]
  simp [List.getD, List.getElem?_eq_getElem h]
theorem twoB_length (D : List Int) (k : Nat) (h : k ≤ D.length) : (twoB D k).length = 2 * k := by
  induction k with
  | zero => rfl
  | succ k ih => rw [twoB_step D k (by omega), List.length_append, ih (by omega)]; simp; omega
theorem byteLo {x : Int} (x0 : 0 ≤ x) (_x1 : x < 65536) : IntKind.u8.wrap (x.tmod 256) = C8 (UInt8.ofNat (x % 256).toNat) := by
  have e : x.tmod 256 = x % 256 := Int.tmod_eq_emod_of_nonneg x0
  have e2 : IntKind.u8.wrap (x.tmod 256) = x.tmod 256 % 256 := by simp [IntKind.wrap, IntKind.bits, IntKind.signed]
  rw [e2, e]; unfold C8; rw [UInt8.toNat_ofNat']; omega
theorem byteHi {x : Int} (x0 : 0 ≤ x) (x1 : x < 65536) : IntKind.u8.wrap (IntKind.i64.wrap (x.tdiv 256)) = C8 (UInt8.ofNat (x / 256).toNat) := by
  have e : x.tdiv 256 = x / 256 := Int.tdiv_eq_ediv_of_nonneg x0
  have e1 : IntKind.i64.wrap (x / 256) = x / 256 := by rw [IntKind.wrap_i64]; omega
  have e2 : IntKind.u8.wrap (x / 256) = x / 256 % 256 := by simp [IntKind.wrap, IntKind.bits, IntKind.signed]
  rw [e, e1, e2]; unfold C8; rw [UInt8.toNat_ofNat']; omega
section
set_option maxRecDepth 100000 in
set_option maxHeartbeats 400000 in
theorem sbytes_any (D : List Int) (hl : D.length = 17) (hb : ∀ x ∈ D, 0 ≤ x ∧ x < 65536) (w : World) :
    Calls Tryd.prog 41 #[.agg (D.map iv).toArray] w fun e w' => e = .returned (.string (strOf (twoB D 16))) ∧ Below w.heap.size w w' := by
  obtain ⟨i0, hi, hz0, hz1, hz2⟩ := info_parts infoB
  have HI := hide hi
  have HZ0 := hide hz0
  have HZ1 := hide hz1
  have HZ2 := hide hz2
  have HL := hide hl
  have HB := hide hb
  clear hi hz0 hz1 hz2 hl hb
  obtain ⟨M, HM⟩ : ∃ M, Hid (M = (D.map iv).toArray) := ⟨_, rfl⟩
  rw [← HM.out]
  go_enter Tryd.func41, Tryd.ntmps41
  go_wp2_with fail
  go_loopw [3, 4] (fun v i wr => ∃ k : Nat, k ≤ 16 ∧ i = .int .i64 k ∧ Hid (wr.heap[w.heap.size]? = some (.cells M 84 (0, 0))) ∧ Hid (Own wr (w.heap.size + 1) 5 v ((twoB D k).map cv)) ∧ Hid (Below w.heap.size w wr)) (fun _ i _ => 16 - (intOf i).toNat)
  case atStart => exact ⟨0, Nat.zero_le _, rfl, heap_alloc_new _ _, Own.nil _ _ _, (Below.refl _ _).alloc (Nat.le_refl _) _⟩
  case round =>
    obtain ⟨k, hk, rfl, H0, HO, HBl⟩ := hrel
    by_cases hlt : k < 16
    · have bk : (k : Int) < 17 := by omega
      have bk' : (k : Int) < 16 := by omega
      have c0 := ivs_get (by rw [← HM.out]; exact H0.out) k (by rw [HL.out]; omega)
      obtain ⟨x, HX⟩ : ∃ x, Hid (x = D.getD k 0) := ⟨_, rfl⟩
      have hx := HB.out _ (getD_mem (l := D) (i := k) (by rw [HL.out]; omega))
      rw [← HX.out] at c0 hx
      obtain ⟨x0, x1⟩ := hx
      have HLn : Hid (((twoB D k).map cv).length = 2 * k) := by show _ = _; rw [List.length_map, twoB_length _ _ (by rw [HL.out]; omega)]
      have HSl : Hid (w.heap.size + 1 ≤ wr.heap.size) := lt_row H0.out
      go_wp2_with fail
      go_region_held3 (fun w' => w'.cell? ⟨w.heap.size, k, none⟩ = some (iv x))
        (first | exact (World.cell?_of_block (w := _) (hG2.out.block w.heap.size (by have := HSl.out; simp; omega) (by intro hh; have := own_ge HO.out hh.symm; omega))).trans ((World.cell?_alloc_lt _ _ _ (by exact HSl.out)).trans c0) | exact ((World.cell?_alloc_lt _ _ _ (by exact HSl.out)).trans c0) | go_keep)
        (first | (refine step_append_Own _ (by rfl) (.tmp 9) (.tmp 20) 51 (by rfl) (w.heap.size + 1) 5 i0 (.int .u8 0) 1 underSlB HI.out HZ0.out HZ1.out HZ2.out rfl _ ((twoB D k).map cv) (by rfl) (Own.alloc (by exact HO.out) _) ⟨wr.heap.size, 0, none⟩ 2 2 [_, _] (by rfl) rfl (by exact cell_two_new _ _ _ _) (by intro u hu; simp at hu; rcases hu with rfl | rfl <;> rfl) (by rw [HLn.out]; unfold maxLen; omega) (by rw [HLn.out]; omega) (by have := HSl.out; simp; omega) ?_; intro v1 W3 hO2 hG2 HK3))
      have HB3 : Hid (Below w.heap.size w W3) := (HBl.out.alloc HBl.out.size _).drew.grown hG2.out (by have := HSl.out; simp; omega) (fun q hq => by have := own_ge HO.out hq; omega)
      have HO3 : Hid (Own W3 (w.heap.size + 1) 5 v1 ((twoB D (k + 1)).map cv)) := by
        have e := hO2.out
        rw [byteLo x0 x1, byteHi x0 x1, HX.out] at e
        rw [twoB_step D k (by rw [HL.out]; omega), List.map_append]
        exact e
      have H03 : Hid (W3.heap[w.heap.size]? = some (.cells M 84 (0, 0))) :=
        (hG2.out.block w.heap.size (by have := HSl.out; simp; omega) (by intro hh; have := own_ge HO.out hh.symm; omega)).trans ((heap_alloc_old _ _ (by have := HSl.out; omega)).trans H0.out)
      clear HO H0 HBl hO2 hG2 HK3 c0
      go_wp2_with fail
      refine ⟨⟨k + 1, by omega, by go_num, H03, HO3, HB3⟩, by simp [intOf]; omega⟩
    · have hk16 : k = 16 := by omega
      have bk : (16 : Int) ≤ (k : Int) := by omega
      have HO' : Own wr (w.heap.size + 1) 5 u3 ((twoB D 16).map cv) := by
        have e := HO.out; rw [hk16] at e; exact e
      have hfl : (twoB D 16).length = 32 := twoB_length _ _ (by rw [HL.out]; decide)
      obtain ⟨go, capo, hv, _, _, _, _, hc⟩ := HO'.form (by rw [List.length_map, hfl]; omega)
      rw [List.length_map, hfl] at hv
      subst hv
      have hcv : (convert 51 9 (.slice (some ⟨go, 0, none⟩) 32 capo)).run Tryd.prog wr = .ok (.string (strOf (twoB D 16))) wr := by
        have e := run_convert_bytes_back (P := Tryd.prog) wr 51 9 5 ⟨go, 0, none⟩ capo (twoB D 16) underSlB (by kernel_rfl) (by kernel_rfl) (fun i hi => by
          rw [Addr.add_mid, Nat.zero_add, hc i (by rw [List.length_map]; exact hi), List.getElem?_map, List.getElem?_eq_getElem hi]
          rfl)
        rw [hfl] at e; exact e
      clear HO HO' hc hk hlt hk16 hfl
      generalize hD : strOf (twoB D 16) = T at hcv
      have HD := hide hD
      clear hD
      go_wp2_with fail
      go_ret
      exact ⟨by rw [HD.out]; rfl, HBl.out⟩
end
end Go.Proofs.YtemdlpcljjdfjaaDoor
