import Derived.Test.YtccgfabojbjmjaaGreatDoorPx20
namespace Go.Proofs.YtccgfabojbjmjaaGreatDoor
open Go.RowKit
theorem U_shl3 (a : BitVec 64) : IntKind.u64.wrap (U a * (8 : Int)) = U (a <<< 3) := U_shl a 3
theorem U_shr61 (a : BitVec 64) : U a / (2305843009213693952 : Int) = U (a >>> 61) := U_shr a 61
theorem take_set_snoc (l : List UInt8) (f : Nat) (c : UInt8) (h : f < l.length) : (l.set f c).take (f + 1) = l.take f ++ [c] := by
 rw [List.take_succ_eq_append_getElem (by simpa using h), List.take_set_of_le (Nat.le_refl _)]
 simp
theorem HS.marked_row (H : HS) (h : H.blk.length = 128) :
  (H.row.set (8 + H.filled) (cv 128)).take (8 + H.filled + 1) ++ (List.replicate (127 - H.filled) (0 : UInt8)).map cv ++ (H.row.set (8 + H.filled) (cv 128)).drop (8 + H.filled + 1 + (127 - H.filled)) = H.marked.row := by
 have hf := H.filled_lt
 rw [H.set_blk H.filled (by omega) 128]
 have e := HS.row_splice { H with blk := H.blk.set H.filled 128 } (H.filled + 1) (List.replicate (127 - H.filled) 0) (by simp [h]; omega)
 rw [List.length_replicate] at e
 rw [Nat.add_assoc 8 H.filled 1, e]
 unfold HS.marked
 congr 2
 unfold splice
 rw [List.drop_eq_nil_of_le (by simp [h]; omega), List.append_nil, take_set_snoc _ _ _ (by omega)]
 simp
theorem clear_all {b : Nat} {T : TypeId} {J : HS} {w W : World} (h : Has W b T J) (ht : Turn b w W) :
  ∃ W4, (Builtin.clear_ #[89] 0 #[.slice (some ⟨b, 8, none⟩) 128 128]).run Tryz.prog W = .ok (.tuple #[]) W4 ∧ Hid (Has W4 b T { J with blk := List.replicate 128 0 }) ∧ Hid (Turn b w W4) := by
 refine ⟨_, run_clear_bytes _ 0 b 8 128 128 _ T (by omega) h.heap (by rw [J.row_length h.len]; omega), ⟨?_, by simp⟩, ht.trans ⟨rfl, rfl, rfl, by simp, fun k _ hk => setRow_other _ b k _ hk⟩⟩
 have e := J.row_splice 0 (List.replicate 128 0) (by simp [h.len])
 rw [List.length_replicate] at e
 have e2 : splice J.blk 0 (List.replicate 128 0) = List.replicate 128 0 := by
  unfold splice; rw [List.drop_eq_nil_of_le (by rw [h.len]; simp)]; simp
 rw [e2] at e
 rw [setRow_heap _ b _ _ T (0, 0) h.heap, ← e]
theorem has_lay {b off : Nat} {T : TypeId} {J : HS} {V1 : World} {x : BitVec 64} (hJ : J.blk.length = 128) (ho : off + 8 ≤ 128) (h : V1.heap[b]? = some (.cells (lay J.row (8 + off) x 8).toArray T (0, 0))) :
  Has V1 b T { J with blk := layB J.blk off x 8 } := by
 rw [lay_row J off x 8 (by omega)] at h
 exact ⟨h, by show (layB J.blk off x 8).length = 128; rw [layB_length]; exact hJ⟩
theorem has_hi {b off : Nat} {T : TypeId} {J : HS} {V1 : World} {x z : BitVec 64} (h : Has V1 b T { J with blk := layB J.blk off x 8 }) (hz : J.hi = z) : V1.cell? ⟨b, 136, none⟩ = some (.int .u64 (U z)) := by
 rw [h.cell 136, HS.row_hi _ h.len, ← hz]; rfl
theorem has_lo {b off : Nat} {T : TypeId} {J : HS} {V1 : World} {x z : BitVec 64} (h : Has V1 b T { J with blk := layB J.blk off x 8 }) (hz : J.lo = z) : V1.cell? ⟨b, 137, none⟩ = some (.int .u64 (U z)) := by
 rw [h.cell 137, HS.row_lo _ h.len, ← hz]; rfl
theorem Turn.drewed {b : Nat} {V V1 : World} (h : Turn b V.drew V1) : Turn b V V1 := ⟨h.os, h.tape, h.output, h.size, h.block⟩
section
attribute [local go_sem] U_and U_or U_xor U_not U_add U_add_one
attribute [local go_sem ↓] Go.wp_at_zero Go.wp_at_succ
set_option maxRecDepth 100000 in
set_option maxHeartbeats 4000000 in
theorem putEnd_any (b : Nat) (T : TypeId) (H : HS) (w : World) (h : Has w b T H) (hK : Tab w) (hb0 : 9 ≠ b) :
  Calls Tryz.prog 128 #[.pointer (some ⟨b, 0, none⟩)] w fun e w' => e = .returned (.tuple #[]) ∧ Has w' b T H.ended ∧ Turn b w w' := by
 have HH : Hid (Has w b T H) := h
 have HK : Hid (Tab w) := hK
 clear h hK
 obtain ⟨f, hf⟩ : ∃ f, f = H.filled := ⟨_, rfl⟩
 have hf1 : f < 128 := by rw [hf]; exact H.filled_lt
 have HF : Hid (f = H.filled) := hf
 have bf : (f : Int) < 128 := by omega
 clear hf
 obtain ⟨v0, hv0⟩ : ∃ v0, w.cell? ⟨b, 8 + f, none⟩ = some v0 := ⟨_, (HH.out.cell (8 + f)).trans (H.row_blk f (by rw [HH.out.len]; exact hf1))⟩
 have hfz := HH.out.frozen (8 + f)
 -- the world behind the mark and the first clear
 obtain ⟨W2, hcl, hcl2, hA2, hT2⟩ : ∃ W2, (f < 127 → (Builtin.clear_ #[89] 0 #[.slice (some ⟨b, 8 + (f + 1), none⟩) (127 - f) (127 - f)]).run Tryz.prog (w.setCell ⟨b, 8 + f, none⟩ (.int .u8 128)) = .ok (.tuple #[]) W2) ∧
   (f = 127 → w.setCell ⟨b, 8 + f, none⟩ (.int .u8 128) = W2) ∧ (Hid (Has W2 b T H.marked)) ∧ Hid (Turn b w W2) := by
  have hr1 : (w.setCell ⟨b, 8 + f, none⟩ (.int .u8 128)).heap[b]? = some (.cells (H.row.set (8 + f) (cv 128)).toArray T (0, 0)) := row_store HH.out.heap _ _
  have ht1 : Turn b w (w.setCell ⟨b, 8 + f, none⟩ (.int .u8 128)) := (Turn.refl b w).setCell (p := ⟨b, 8 + f, none⟩) rfl _
  have hlen : (H.row.set (8 + f) (cv 128)).length = 138 := by rw [List.length_set]; exact H.row_length HH.out.len
  have hm := H.marked_row HH.out.len
  rw [← HF.out] at hm
  by_cases h127 : f < 127
  ·
   refine ⟨_, fun _ => run_clear_bytes _ 0 b (8 + (f + 1)) (127 - f) (127 - f) _ T (by omega) hr1 (by rw [hlen]; omega), fun h => absurd h127 (by omega), ⟨?_, H.marked_length HH.out.len⟩, ?_⟩
   · rw [setRow_heap _ b _ _ T (0, 0) hr1, ← hm]; rfl
   · exact ht1.trans ⟨rfl, rfl, rfl, by simp, fun k _ hk => setRow_other _ b k _ hk⟩
  ·
   refine ⟨_, fun h => absurd h h127, fun _ => rfl, ⟨?_, H.marked_length HH.out.len⟩, ht1⟩
   have h0 : 127 - f = 0 := by omega
   rw [h0] at hm
   simp only [List.replicate_zero, List.map_nil, List.append_nil, Nat.add_zero, List.take_append_drop] at hm
   rw [hr1, ← hm]
 go_enter Tryz.func128, Tryz.ntmps128
 go_wp2_with fail
 refine (filled_any b T H w HH.out).mono ?_
 rintro e w' ⟨rfl, rfl⟩
 rw [← HF.out]
 rcases (show f < 112 ∨ (112 ≤ f ∧ f < 127) ∨ f = 127 by omega) with h112 | ⟨h112, h127⟩ | h127
 ·
  have hsl := slice128 b 8 ((f : Int) + 1) (f + 1) (by omega) (by omega)
  have hcl' := hcl (by omega)
  have HR : Hid (H.roomed = H.marked) := by show _ = _; unfold HS.roomed; rw [if_neg (by rw [← HF.out]; omega)]
  have i1 : (f : Int) < 112 := by omega
  clear hcl hcl2 h112
  go_wp2_with fail
  obtain ⟨V, hV⟩ : ∃ V, V = W2 := ⟨_, rfl⟩
  rw [← hV]
  have hA : Hid (Has V b T H.roomed) := by rw [hV, HR.out]; exact hA2.out
  have hT : Hid (Turn b w' V) := by rw [hV]; exact hT2.out
  clear hV
  have hc6 := hA.out.cell 136
  rw [HS.row_hi _ hA.out.len] at hc6
  have hc7 := hA.out.cell 137
  rw [HS.row_lo _ hA.out.len] at hc7
  have hq6 : H.roomed.hi = H.hi := by unfold HS.hi; rw [H.roomed_n]
  have hq7 : H.roomed.lo = H.lo := by unfold HS.lo; rw [H.roomed_n]
  rw [hq6] at hc6
  rw [hq7] at hc7
  have HQ6 : Hid (H.roomed.hi = H.hi) := hq6
  have HQ7 : Hid (H.roomed.lo = H.lo) := hq7
  clear hq6 hq7
  have s1 := slice128 b 8 112 112 rfl (by omega)
  have s2 := slice128 b 8 120 120 rfl (by omega)
  have x1 := U_shl3 H.hi
  have x2 := U_shr61 H.lo
  have x3 := U_shl3 H.lo
  clear HR
  obtain ⟨x, hx⟩ : ∃ x, x = H.hi <<< 3 ||| H.lo >>> 61 := ⟨_, rfl⟩
  have x4 := U_or (H.hi <<< 3) (H.lo >>> 61)
  rw [← hx] at x4
  have HX : Hid (x = H.hi3) := hx
  obtain ⟨y, hy⟩ : ∃ y, y = H.lo <<< 3 := ⟨_, rfl⟩
  rw [← hy] at x3
  have HY : Hid (y = H.lo3) := hy
  clear hx hy
  go_region_held3 (fun w' => w'.cell? ⟨b, 136, none⟩ = some (.int .u64 (U H.hi)) ∧ w'.cell? ⟨b, 137, none⟩ = some (.int .u64 (U H.lo))) (first | exact ⟨k6, k7⟩ | go_keep)
   (first | (go_at_call 129; refine (putWord_any b 120 16 16 T H.roomed.row x V.drew (by omega) (by omega) hA.out.heap (by rw [HS.row_length _ hA.out.len]; omega)).mono ?_; rintro e V1 ⟨rfl, hrow1, hturn1⟩; have hA1 := hide (has_lay (off := 112) hA.out.len (by omega) hrow1); have hT1 : Hid (Turn b w' V1) := hT.out.trans hturn1.drewed; have k6 : V1.cell? ⟨b, 136, none⟩ = some (.int .u64 (U H.hi)) := has_hi hA1.out HQ6.out; have k7 : V1.cell? ⟨b, 137, none⟩ = some (.int .u64 (U H.lo)) := has_lo hA1.out HQ7.out; clear hrow1 hturn1))
  clear hA hT hc6 hc7
  go_wp2_with fail
  go_region_held3 (fun w' => w'.cell? ⟨b, 137, none⟩ = some (.int .u64 (U H.lo))) (first | exact m7 | go_keep)
   (first | (go_at_call 129; refine (putWord_any b 128 8 8 T _ y V1.drew (by omega) (by omega) hA1.out.heap (by rw [HS.row_length _ hA1.out.len]; omega)).mono ?_; rintro e V2 ⟨rfl, hrow2, hturn2⟩; have hA2' := hide (has_lay (off := 120) hA1.out.len (by omega) hrow2); have hT2' : Hid (Turn b w' V2) := hT1.out.trans hturn2.drewed; have m7 : V2.cell? ⟨b, 137, none⟩ = some (.int .u64 (U H.lo)) := has_lo hA2'.out HQ7.out; clear hrow2 hturn2))
  clear hA1 hT1 k6 k7
  go_wp2_with fail
  refine (mixBlock_any b T _ V2 hA2'.out (HK.out.turn hT2'.out hb0) hb0).mono ?_
  rintro e V3 ⟨rfl, hA3, hT3⟩
  have HE := hide hA3
  have HT3 := hide (hT2'.out.trans hT3)
  clear hA3 hT3
  go_wp2_with fail
  go_end0
  refine ⟨rfl, ?_, HT3.out⟩
  have e := HE.out
  rw [HX.out, HY.out] at e
  exact e
 ·
  have hsl := slice128 b 8 ((f : Int) + 1) (f + 1) (by omega) (by omega)
  have hcl' := hcl (by omega)
  have HR : Hid (H.roomed = { H.marked.mix with blk := List.replicate 128 0 }) := by show _ = _; unfold HS.roomed; rw [if_pos (by rw [← HF.out]; omega)]
  have i1 : (112 : Int) ≤ (f : Int) := by omega
  have hsl2 := slice128_all b 8
  clear hcl hcl2 h112
  go_wp2_with fail
  refine (mixBlock_any b T H.marked W2 hA2.out (HK.out.turn hT2.out hb0) hb0).mono ?_
  rintro e W3 ⟨rfl, hA3, hT3⟩
  obtain ⟨W4, hcl4, hA4, hT4⟩ := clear_all hA3 (hT2.out.trans hT3)
  clear hA3 hT3 hcl' hsl
  go_wp2_with fail
  obtain ⟨V, hV⟩ : ∃ V, V = W4 := ⟨_, rfl⟩
  rw [← hV]
  have hA : Hid (Has V b T H.roomed) := by rw [hV, HR.out]; exact hA4.out
  have hT : Hid (Turn b w' V) := by rw [hV]; exact hT4.out
  clear hV
  have hc6 := hA.out.cell 136
  rw [HS.row_hi _ hA.out.len] at hc6
  have hc7 := hA.out.cell 137
  rw [HS.row_lo _ hA.out.len] at hc7
  have hq6 : H.roomed.hi = H.hi := by unfold HS.hi; rw [H.roomed_n]
  have hq7 : H.roomed.lo = H.lo := by unfold HS.lo; rw [H.roomed_n]
  rw [hq6] at hc6
  rw [hq7] at hc7
  have HQ6 : Hid (H.roomed.hi = H.hi) := hq6
  have HQ7 : Hid (H.roomed.lo = H.lo) := hq7
  clear hq6 hq7
  have s1 := slice128 b 8 112 112 rfl (by omega)
  have s2 := slice128 b 8 120 120 rfl (by omega)
  have x1 := U_shl3 H.hi
  have x2 := U_shr61 H.lo
  have x3 := U_shl3 H.lo
  clear HR
  obtain ⟨x, hx⟩ : ∃ x, x = H.hi <<< 3 ||| H.lo >>> 61 := ⟨_, rfl⟩
  have x4 := U_or (H.hi <<< 3) (H.lo >>> 61)
  rw [← hx] at x4
  have HX : Hid (x = H.hi3) := hx
  obtain ⟨y, hy⟩ : ∃ y, y = H.lo <<< 3 := ⟨_, rfl⟩
  rw [← hy] at x3
  have HY : Hid (y = H.lo3) := hy
  clear hx hy
  go_region_held3 (fun w' => w'.cell? ⟨b, 136, none⟩ = some (.int .u64 (U H.hi)) ∧ w'.cell? ⟨b, 137, none⟩ = some (.int .u64 (U H.lo))) (first | exact ⟨k6, k7⟩ | go_keep)
   (first | (go_at_call 129; refine (putWord_any b 120 16 16 T H.roomed.row x V.drew (by omega) (by omega) hA.out.heap (by rw [HS.row_length _ hA.out.len]; omega)).mono ?_; rintro e V1 ⟨rfl, hrow1, hturn1⟩; have hA1 := hide (has_lay (off := 112) hA.out.len (by omega) hrow1); have hT1 : Hid (Turn b w' V1) := hT.out.trans hturn1.drewed; have k6 : V1.cell? ⟨b, 136, none⟩ = some (.int .u64 (U H.hi)) := has_hi hA1.out HQ6.out; have k7 : V1.cell? ⟨b, 137, none⟩ = some (.int .u64 (U H.lo)) := has_lo hA1.out HQ7.out; clear hrow1 hturn1))
  clear hA hT hc6 hc7
  go_wp2_with fail
  go_region_held3 (fun w' => w'.cell? ⟨b, 137, none⟩ = some (.int .u64 (U H.lo))) (first | exact m7 | go_keep)
   (first | (go_at_call 129; refine (putWord_any b 128 8 8 T _ y V1.drew (by omega) (by omega) hA1.out.heap (by rw [HS.row_length _ hA1.out.len]; omega)).mono ?_; rintro e V2 ⟨rfl, hrow2, hturn2⟩; have hA2' := hide (has_lay (off := 120) hA1.out.len (by omega) hrow2); have hT2' : Hid (Turn b w' V2) := hT1.out.trans hturn2.drewed; have m7 : V2.cell? ⟨b, 137, none⟩ = some (.int .u64 (U H.lo)) := has_lo hA2'.out HQ7.out; clear hrow2 hturn2))
  clear hA1 hT1 k6 k7
  go_wp2_with fail
  refine (mixBlock_any b T _ V2 hA2'.out (HK.out.turn hT2'.out hb0) hb0).mono ?_
  rintro e V3 ⟨rfl, hA3, hT3⟩
  have HE := hide hA3
  have HT3 := hide (hT2'.out.trans hT3)
  clear hA3 hT3
  go_wp2_with fail
  go_end0
  refine ⟨rfl, ?_, HT3.out⟩
  have e := HE.out
  rw [HX.out, HY.out] at e
  exact e
 ·
  have hsl : ∀ w, (Instr.sliceAt 164 (.pointer (some ⟨b, 8, none⟩)) (some (.int .i64 ((f : Int) + 1))) none none).run Tryz.prog w = .ok (.slice (some ⟨b, 8, none⟩) 0 0) w := by subst h127; exact slice128_end b 8
  have hcl' := fun w => run_clear_none w 0 (some ⟨b, 8, none⟩) 0
  have HR : Hid (H.roomed = { H.marked.mix with blk := List.replicate 128 0 }) := by show _ = _; unfold HS.roomed; rw [if_pos (by rw [← HF.out]; omega)]
  have i1 : (112 : Int) ≤ (f : Int) := by omega
  have hsl2 := slice128_all b 8
  have HW : Hid (w'.setCell ⟨b, 8 + f, none⟩ (.int .u8 128) = W2) := hcl2 h127
  clear hcl hcl2 h127
  go_wp2_with fail
  rw [HW.out]
  refine (mixBlock_any b T H.marked W2 hA2.out (HK.out.turn hT2.out hb0) hb0).mono ?_
  rintro e W3 ⟨rfl, hA3, hT3⟩
  obtain ⟨W4, hcl4, hA4, hT4⟩ := clear_all hA3 (hT2.out.trans hT3)
  clear hA3 hT3 hcl' hsl
  go_wp2_with fail
  obtain ⟨V, hV⟩ : ∃ V, V = W4 := ⟨_, rfl⟩
  rw [← hV]
  have hA : Hid (Has V b T H.roomed) := by rw [hV, HR.out]; exact hA4.out
  have hT : Hid (Turn b w' V) := by rw [hV]; exact hT4.out
  clear hV
  have hc6 := hA.out.cell 136
  rw [HS.row_hi _ hA.out.len] at hc6
  have hc7 := hA.out.cell 137
  rw [HS.row_lo _ hA.out.len] at hc7
  have hq6 : H.roomed.hi = H.hi := by unfold HS.hi; rw [H.roomed_n]
  have hq7 : H.roomed.lo = H.lo := by unfold HS.lo; rw [H.roomed_n]
  rw [hq6] at hc6
  rw [hq7] at hc7
  have HQ6 : Hid (H.roomed.hi = H.hi) := hq6
  have HQ7 : Hid (H.roomed.lo = H.lo) := hq7
  clear hq6 hq7
  have s1 := slice128 b 8 112 112 rfl (by omega)
  have s2 := slice128 b 8 120 120 rfl (by omega)
  have x1 := U_shl3 H.hi
  have x2 := U_shr61 H.lo
  have x3 := U_shl3 H.lo
  clear HR
  obtain ⟨x, hx⟩ : ∃ x, x = H.hi <<< 3 ||| H.lo >>> 61 := ⟨_, rfl⟩
  have x4 := U_or (H.hi <<< 3) (H.lo >>> 61)
  rw [← hx] at x4
  have HX : Hid (x = H.hi3) := hx
  obtain ⟨y, hy⟩ : ∃ y, y = H.lo <<< 3 := ⟨_, rfl⟩
  rw [← hy] at x3
  have HY : Hid (y = H.lo3) := hy
  clear hx hy
  go_region_held3 (fun w' => w'.cell? ⟨b, 136, none⟩ = some (.int .u64 (U H.hi)) ∧ w'.cell? ⟨b, 137, none⟩ = some (.int .u64 (U H.lo))) (first | exact ⟨k6, k7⟩ | go_keep)
   (first | (go_at_call 129; refine (putWord_any b 120 16 16 T H.roomed.row x V.drew (by omega) (by omega) hA.out.heap (by rw [HS.row_length _ hA.out.len]; omega)).mono ?_; rintro e V1 ⟨rfl, hrow1, hturn1⟩; have hA1 := hide (has_lay (off := 112) hA.out.len (by omega) hrow1); have hT1 : Hid (Turn b w' V1) := hT.out.trans hturn1.drewed; have k6 : V1.cell? ⟨b, 136, none⟩ = some (.int .u64 (U H.hi)) := has_hi hA1.out HQ6.out; have k7 : V1.cell? ⟨b, 137, none⟩ = some (.int .u64 (U H.lo)) := has_lo hA1.out HQ7.out; clear hrow1 hturn1))
  clear hA hT hc6 hc7
  go_wp2_with fail
  go_region_held3 (fun w' => w'.cell? ⟨b, 137, none⟩ = some (.int .u64 (U H.lo))) (first | exact m7 | go_keep)
   (first | (go_at_call 129; refine (putWord_any b 128 8 8 T _ y V1.drew (by omega) (by omega) hA1.out.heap (by rw [HS.row_length _ hA1.out.len]; omega)).mono ?_; rintro e V2 ⟨rfl, hrow2, hturn2⟩; have hA2' := hide (has_lay (off := 120) hA1.out.len (by omega) hrow2); have hT2' : Hid (Turn b w' V2) := hT1.out.trans hturn2.drewed; have m7 : V2.cell? ⟨b, 137, none⟩ = some (.int .u64 (U H.lo)) := has_lo hA2'.out HQ7.out; clear hrow2 hturn2))
  clear hA1 hT1 k6 k7
  go_wp2_with fail
  refine (mixBlock_any b T _ V2 hA2'.out (HK.out.turn hT2'.out hb0) hb0).mono ?_
  rintro e V3 ⟨rfl, hA3, hT3⟩
  have HE := hide hA3
  have HT3 := hide (hT2'.out.trans hT3)
  clear hA3 hT3
  go_wp2_with fail
  go_end0
  refine ⟨rfl, ?_, HT3.out⟩
  have e := HE.out
  rw [HX.out, HY.out] at e
  exact e
end
end Go.Proofs.YtccgfabojbjmjaaGreatDoor
