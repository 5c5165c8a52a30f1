import Derived.Test.YtemdlpcljjdfjaaDoorRed
import Derived.Test.YtemdlpcljjdfjaaDoorTxt
import Derived.Deep.DeepHandedRow
/- latch.Reduce. -/
namespace Go.Proofs.YtemdlpcljjdfjaaDoor
open Go.RowKit
theorem sizeU8 : (Tryd.prog.info? 5).map (·.size) = some 1 := by kernel_rfl
theorem underU8 : Tryd.prog.underlying 5 = some (.int .u8) := by kernel_rfl
theorem underStr : Tryd.prog.underlying 9 = some .string := by kernel_rfl
theorem underSl8 : Tryd.prog.underlying 51 = some (.slice 5) := by kernel_rfl
/-- 'code[:]' of 32 bytes in a block. -/
theorem slice32_all (b o : Nat) (w : World) :
    (Instr.sliceAt 47 (.pointer (some ⟨b, o, none⟩)) none none none).run Tryd.prog w = .ok (.slice (some ⟨b, o, none⟩) 32 32) w := by
  cases hq : Tryd.prog.info? 5 with
  | none => have := sizeU8; rw [hq] at this; cases this
  | some i =>
    simp [Instr.sliceAt, Instr.sureAddr, run_underlying under32, Instr.sliceBounds, sizeOf, typeInfo, hq, Addr.add]
theorem conv32 (w : World) (q : Nat) (l : List UInt8) (hl : l.length = 32) (T : TypeId) (h : w.heap[q]? = some (.cells (l.map cv).toArray T (0, 0))) :
    (convert 51 9 (.slice (some ⟨q, 0, none⟩) 32 32)).run Tryd.prog w = .ok (.string (strOf l)) w := by
  have e := run_convert_bytes_back (P := Tryd.prog) w 51 9 5 ⟨q, 0, none⟩ 32 l underSl8 underU8 underStr (fun i hi => by
    rw [Addr.add_mid, Nat.zero_add, cell_of_row w q i _ T _ h]
    simp [hi, C8])
  rw [hl] at e
  exact e
theorem array64 (b cap : Nat) (w : World) : (Instr.arrayAt 90 (.slice (some ⟨b, 0, none⟩) 64 cap)).run Tryd.prog w = .ok (.pointer (some ⟨b, 0, none⟩)) w := by
  simp [Instr.arrayAt, run_underlying under64]
section
attribute [local irreducible] wd V
set_option maxRecDepth 100000 in
set_option maxHeartbeats 400000 in
theorem latchReduce_any (s : ByteArray) (w : World) (hO : OrdAt w) :
    Calls Tryd.prog 19 #[.string s] w fun e w' => (s.size = 64 → e = .returned (.tuple #[.string (strOf (leB (valLE (bytesOf s) % Lord) 32)), .int .i64 0])) ∧ (s.size ≠ 64 → e = .returned (.tuple #[.string ⟨#[]⟩, .int .i64 1])) ∧ Below w.heap.size w w' := by
  have hz := zero32
  have HO := hide hO
  clear hO
  by_cases h64 : s.size = 64
  · have hbne : ((s.size : Int) != 64) = false := by rw [h64]; rfl
    obtain ⟨cap, W1, hcv, hR, hB, hS⟩ := conv_bytes 9 51 5 underStr underSl8 underU8 s w
    have HR := hide hR
    have HB := hide hB
    have H64 := hide h64
    have hlen : ((bytesOf s).map cv).length = 64 := by rw [List.length_map, bytesOf_length, h64]
    have HSz : Hid ((Tryd.prog.info? 90).map (·.size) = some ((bytesOf s).map cv).length) := by rw [hlen]; exact size64
    rw [h64] at hcv
    obtain ⟨M, HM⟩ : ∃ M, Hid (M = (bytesOf s).map cv) := ⟨_, rfl⟩
    rw [← HM.out] at HSz HR
    clear hR hB hlen
    have harr := array64 w.heap.size cap W1
    go_enter Tryd.func19, Tryd.ntmps19
    go_wp2_with (first | (refine wpList_load_mid (by rfl) 90 (.tmp 10) (by rfl) w.heap.size 0 (by rfl) M _ HR.out under64 rfl HSz.out ?_))
    refine (reduce_list (bytesOf s) H64.out M HM.out W1 (HO.out.below HB.out HO.out.lt)).mono ?_
    rintro e Wr ⟨rfl, hBr⟩
    go_wp2_with fail
    refine (bytes_wd (valLE (bytesOf s) % Lord) Wr).mono ?_
    rintro e W2 ⟨rfl, hB2⟩
    obtain ⟨L, HL⟩ : ∃ L, Hid (L = leB (valLE (bytesOf s) % Lord) 32) := ⟨_, rfl⟩
    rw [← HL.out]
    have hLl : L.length = 32 := by rw [HL.out, leB_length]
    have HSz2 : Hid ((Tryd.prog.info? 47).map (·.size) = some (L.map cv).toArray.size) := by show _ = _; rw [size32]; simp [hLl]
    have HOo : Hid (z32.size = (L.map cv).toArray.size) := by show _ = _; simp [hLl]; rfl
    have HA : Hid ((L.map cv).toArray.all (·.oneCell') = true) := all_oneCell_toArray (bytes_cell _)
    have HB2 : Hid (Below w.heap.size w W2) := (HB.out.trans (hBr.mono HB.out.size)).trans (hB2.mono (HB.out.trans (hBr.mono HB.out.size)).size)
    have hsl := fun q => slice32_all q 0
    have hcv2 : (convert 51 9 (.slice (some ⟨W2.heap.size, 0, none⟩) 32 32)).run Tryd.prog ((W2.alloc (.cells z32 47)).setRow W2.heap.size (L.map cv).toArray) = .ok (.string (strOf L)) ((W2.alloc (.cells z32 47)).setRow W2.heap.size (L.map cv).toArray) :=
      conv32 _ _ L hLl 47 (setRow_heap _ _ _ _ _ _ (heap_alloc_new _ _))
    clear hB2 hLl hcv hBr
    generalize hC : (L.map cv).toArray = C at *
    clear hC
    go_wp2_with (first | (refine wpList_store_row (by rfl) 47 (.tmp 4) (.tmp 13) (by rfl) W2.heap.size C (by rfl) (by rfl) 47 _ (heap_alloc_new _ _) HSz2.out HOo.out HA.out ?_))
    go_returns
    exact ⟨fun _ => by rw [← HL.out]; rfl, fun h => absurd H64.out h, below_setRow (HB2.out.alloc HB2.out.size _) HB2.out.size _⟩
  · have hbne : ((s.size : Int) != 64) = true := by rw [bne_iff_ne]; omega
    have H64 := hide h64
    clear h64
    go_enter Tryd.func19, Tryd.ntmps19
    go_wp2_with fail
    go_returns
    exact ⟨fun h => absurd h H64.out, fun _ => rfl, Below.refl _ _⟩
end
end Go.Proofs.YtemdlpcljjdfjaaDoor
