import Derived.Test.YtcnbhpghcjcejaaDoorTop
/- The face: Hash, NewHasher, Write, Sum of package latch. -/
namespace Go.Proofs.YtcnbhpghcjcejaaDoor
open Go.RowKit
def strOf (l : List UInt8) : ByteArray := ⟨l.toArray⟩
theorem bytesOf_strOf (l : List UInt8) : bytesOf (strOf l) = l := by simp [bytesOf, strOf]
theorem underU8 : Tryd.prog.underlying 5 = some (.int .u8) := by kernel_rfl
theorem underStr : Tryd.prog.underlying 9 = some .string := by kernel_rfl
theorem conv64 (w : World) (q : Nat) (l : List UInt8) (hl : l.length = 64) (T : TypeId) (h : w.heap[q]? = some (.cells (l.map cv).toArray T (0, 0))) :
    (convert 39 9 (.slice (some ⟨q, 0, none⟩) 64 64)).run Tryd.prog w = .ok (.string (strOf l)) w := by
  have e := run_convert_bytes_back (P := Tryd.prog) w 39 9 5 ⟨q, 0, none⟩ 64 l sizeSl39 underU8 underStr (fun i hi => by
    rw [Addr.add_mid, Nat.zero_add, cell_of_row w q i _ T _ h]
    simp [hi, C8])
  rw [hl] at e
  exact e
section
set_option maxRecDepth 100000 in
set_option maxHeartbeats 4000000 in
theorem hash_any (s : ByteArray) (w : World) (hK : Tab w) (hs : s.size ≤ maxLen) :
    Calls Tryd.prog 6 #[.string s] w fun e w' => e = .returned (.string (strOf (hashOf (bytesOf s)))) ∧ Below w.heap.size w w' := by
  have hz := zero64
  have HK : Hid (Tab w) := hK
  clear hK
  go_enter Tryd.func6, Tryd.ntmps6
  go_wp2_with fail
  refine (of_any s w HK.out hs).mono ?_
  rintro e W1 ⟨rfl, hB1⟩
  obtain ⟨L, HL⟩ : ∃ L, Hid (L = hashOf (bytesOf s)) := ⟨_, rfl⟩
  rw [← HL.out]
  have hLl : L.length = 64 := by rw [HL.out, hashOf_length]
  have HSz : Hid ((Tryd.prog.info? 37).map (·.size) = some (L.map cv).toArray.size) := by show _ = _; rw [size64]; simp [hLl]
  have HO : Hid (z64.size = (L.map cv).toArray.size) := by show _ = _; simp [hLl]; rfl
  have HA : Hid ((L.map cv).toArray.all (·.oneCell') = true) := all_oneCell_toArray (cvs_cell _)
  have HB1 := hide hB1
  have hsl := fun q => slice64_all q 0
  have hcv : (convert 39 9 (.slice (some ⟨W1.heap.size, 0, none⟩) 64 64)).run Tryd.prog ((W1.alloc (.cells z64 37)).setRow W1.heap.size (L.map cv).toArray) = .ok (.string (strOf L)) ((W1.alloc (.cells z64 37)).setRow W1.heap.size (L.map cv).toArray) :=
    conv64 _ _ L hLl 37 (setRow_heap _ _ _ _ _ _ (heap_alloc_new _ _))
  clear hB1 hLl
  generalize hC : (L.map cv).toArray = C at *
  clear hC
  go_wp2_with (first | (refine wpList_store_row (by rfl) 37 (.tmp 3) (.tmp 5) (by rfl) W1.heap.size C (by rfl) (by rfl) 37 _ (heap_alloc_new _ _) HSz.out HO.out HA.out ?_))
  go_ret
  exact ⟨by rw [← HL.out]; rfl, below_setRow (HB1.out.alloc HB1.out.size _) HB1.out.size _⟩
theorem built53 : Tryd.prog.built 53 [(0, .agg r0)] = some r0 := by kernel_rfl
set_option maxRecDepth 100000 in
set_option maxHeartbeats 4000000 in
theorem newHasher_any (w : World) :
    Calls Tryd.prog 8 #[] w fun e w' => ∃ g, e = .returned (.pointer (some ⟨g, 0, none⟩)) ∧ w.heap.size ≤ g ∧ Has w' g 53 H0 ∧ Below w.heap.size w w' := by
  go_enter Tryd.func8, Tryd.ntmps8
  go_wp2_with fail
  refine (new_any w).mono ?_
  rintro e W1 ⟨rfl, hB1⟩
  have HB1 := hide hB1
  clear hB1
  rename_i hk
  refine hk _ _ ?_
  refine wpList_build_to (by rfl) 53 _ (by rfl) r0 (by rw [Array.toList_map]; exact built53) ?_
  go_wp2_with fail
  go_ret
  exact ⟨W1.heap.size, rfl, HB1.out.size, ⟨heap_alloc_new _ _, H0_len⟩, HB1.out.alloc HB1.out.size _⟩

set_option maxHeartbeats 4000000 in
theorem faceWrite_any (b : Nat) (T : TypeId) (H : HS) (s : ByteArray) (w : World) (h : Has w b T H) (hK : Tab w) (hb0 : 0 ≠ b) (hs : s.size ≤ maxLen) :
    Calls Tryd.prog 9 #[.pointer (some ⟨b, 0, none⟩), .string s] w fun e w' => e = .returned (.tuple #[]) ∧ Has w' b T (H.puts (bytesOf s)) ∧ Turn b w w' := by
  have HH := hide h
  have HK := hide hK
  clear h hK
  go_enter Tryd.func9, Tryd.ntmps9
  go_wp2_with fail
  refine (write_any b T H s w HH.out HK.out hb0 hs).mono ?_
  rintro e W1 ⟨rfl, hA, hT⟩
  have HA := hide hA
  have HT := hide hT
  clear hA hT
  go_wp2_with fail
  go_end0
  exact ⟨rfl, HA.out, HT.out⟩

set_option maxRecDepth 100000 in
set_option maxHeartbeats 4000000 in
theorem faceSum_any (b : Nat) (T : TypeId) (H : HS) (w : World) (h : Has w b T H) (hK : Tab w) :
    Calls Tryd.prog 10 #[.pointer (some ⟨b, 0, none⟩)] w fun e w' => e = .returned (.string (strOf H.sum)) ∧ Below w.heap.size w w' := by
  have hz := zero64
  have HH := hide h
  have HK : Hid (Tab w) := hK
  clear hK h
  go_enter Tryd.func10, Tryd.ntmps10
  go_wp2_with fail
  refine (sum_any b T H w HH.out HK.out).mono ?_
  rintro e W1 ⟨rfl, hB1⟩
  obtain ⟨L, HL⟩ : ∃ L, Hid (L = H.sum) := ⟨_, rfl⟩
  rw [← HL.out]
  have hLl : L.length = 64 := by rw [HL.out, HS.sum_length]
  have HSz : Hid ((Tryd.prog.info? 37).map (·.size) = some (L.map cv).toArray.size) := by show _ = _; rw [size64]; simp [hLl]
  have HO : Hid (z64.size = (L.map cv).toArray.size) := by show _ = _; simp [hLl]; rfl
  have HA : Hid ((L.map cv).toArray.all (·.oneCell') = true) := all_oneCell_toArray (cvs_cell _)
  have HB1 := hide hB1
  have hsl := fun q => slice64_all q 0
  have hcv : (convert 39 9 (.slice (some ⟨W1.heap.size, 0, none⟩) 64 64)).run Tryd.prog ((W1.alloc (.cells z64 37)).setRow W1.heap.size (L.map cv).toArray) = .ok (.string (strOf L)) ((W1.alloc (.cells z64 37)).setRow W1.heap.size (L.map cv).toArray) :=
    conv64 _ _ L hLl 37 (setRow_heap _ _ _ _ _ _ (heap_alloc_new _ _))
  clear hB1 hLl
  generalize hC : (L.map cv).toArray = C at *
  clear hC
  go_wp2_with (first | (refine wpList_store_row (by rfl) 37 (.tmp 3) (.tmp 7) (by rfl) W1.heap.size C (by rfl) (by rfl) 37 _ (heap_alloc_new _ _) HSz.out HO.out HA.out ?_))
  go_ret
  exact ⟨by rw [← HL.out]; rfl, below_setRow (HB1.out.alloc HB1.out.size _) HB1.out.size _⟩
end
end Go.Proofs.YtcnbhpghcjcejaaDoor
