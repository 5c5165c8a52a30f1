import Derived.Test.YtccgfabojbjmjaaGreatDoorSg22
import Derived.Deep.QuietTactic
import Derived.BigQuiet
namespace Go.Proofs.YtccgfabojbjmjaaGreatDoor
open Go.RowKit
theorem U_shl3 (a : BitVec 64) : IntKind.u64.wrap (U a * (8 : Int)) = U (a <<< 3) := U_shl a 3
theorem U_shr61 (a : BitVec 64) : U a / (2305843009213693952 : Int) = U (a >>> 61) := U_shr a 61
theorem take_set_snoc (l : List UInt8) (f : Nat) (c : UInt8) (h : f < l.length) : (l.set f c).take (f + 1) = l.take f ++ [c] := by
 rw [List.take_succ_eq_append_getElem (by simpa using h), List.take_set_of_le (Nat.le_refl _)]
 simp
theorem HS.marked_row (H : HS) (h : H.blk.length = 128) :
  (H.row.set (8 + H.filled) (cv 128)).take (8 + H.filled + 1) ++ (List.replicate (127 - H.filled) (0 : UInt8)).map cv ++ (H.row.set (8 + H.filled) (cv 128)).drop (8 + H.filled + 1 + (127 - H.filled)) = H.marked.row := by
 have hf := H.filled_lt
 rw [H.set_blk H.filled (by omega) 128]
 have e := HS.row_splice { H with blk := H.blk.set H.filled 128 } (H.filled + 1) (List.replicate (127 - H.filled) 0) (by simp [h]; omega)
 rw [List.length_replicate] at e
 rw [Nat.add_assoc 8 H.filled 1, e]
 unfold HS.marked
 congr 2
 unfold splice
 rw [List.drop_eq_nil_of_le (by simp [h]; omega), List.append_nil, take_set_snoc _ _ _ (by omega)]
 simp
theorem clear_all {b : Nat} {T : TypeId} {J : HS} {w W : World} (h : Has W b T J) (ht : qcv b w W) :
  ∃ W4, (Builtin.clear_ #[89] 0 #[.slice (some ⟨b, 8, none⟩) 128 128]).run Tryz.prog W = .ok (.tuple #[]) W4 ∧ Hid (Has W4 b T { J with blk := List.replicate 128 0 }) ∧ Hid (qcv b w W4) := by
 refine ⟨_, qdP _ 0 b 8 128 128 _ T (by omega) h.heap (by rw [J.row_length h.len]; omega), ⟨?_, by simp⟩, ht.trans ⟨rfl, rfl, rfl, by simp, fun k _ hk => setRow_other _ b k _ hk⟩⟩
 have e := J.row_splice 0 (List.replicate 128 0) (by simp [h.len])
 rw [List.length_replicate] at e
 have e2 : splice J.blk 0 (List.replicate 128 0) = List.replicate 128 0 := by
  unfold splice; rw [List.drop_eq_nil_of_le (by rw [h.len]; simp)]; simp
 rw [e2] at e
 rw [setRow_heap _ b _ _ T (0, 0) h.heap, ← e]
theorem has_lay {b off : Nat} {T : TypeId} {J : HS} {V1 : World} {x : BitVec 64} (hJ : J.blk.length = 128) (ho : off + 8 ≤ 128) (h : V1.heap[b]? = some (.cells (lay J.row (8 + off) x 8).toArray T (0, 0))) :
  Has V1 b T { J with blk := layB J.blk off x 8 } := by
 rw [lay_row J off x 8 (by omega)] at h
 exact ⟨h, by show (layB J.blk off x 8).length = 128; rw [qeg]; exact hJ⟩
theorem has_hi {b off : Nat} {T : TypeId} {J : HS} {V1 : World} {x z : BitVec 64} (h : Has V1 b T { J with blk := layB J.blk off x 8 }) (hz : J.hi = z) : V1.cell? ⟨b, 136, none⟩ = some (.int .u64 (U z)) := by
 rw [h.cell 136, HS.row_hi _ h.len, ← hz]; rfl
theorem has_lo {b off : Nat} {T : TypeId} {J : HS} {V1 : World} {x z : BitVec 64} (h : Has V1 b T { J with blk := layB J.blk off x 8 }) (hz : J.lo = z) : V1.cell? ⟨b, 137, none⟩ = some (.int .u64 (U z)) := by
 rw [h.cell 137, HS.row_lo _ h.len, ← hz]; rfl
theorem qcv.drewed {b : Nat} {V V1 : World} (h : qcv b V.drew V1) : qcv b V V1 := ⟨h.os, h.tape, h.output, h.size, h.block⟩
section
attribute [local go_sem] U_and U_or qej U_not U_add qbC
attribute [local go_sem ↓] Go.wp_at_zero Go.wp_at_succ
set_option maxRecDepth 100000 in
set_option maxHeartbeats 4000000 in
theorem putEnd_any (b : Nat) (T : TypeId) (H : HS) (w : World) (h : Has w b T H) (hK : Tab w) (hb0 : 9 ≠ b) :
  Calls Tryz.prog 128 #[.pointer (some ⟨b, 0, none⟩)] w fun e w' => e = .returned (.tuple #[]) ∧ Has w' b T H.ended ∧ qcv b w w' := by
 have HH : Hid (Has w b T H) := h
 have HK : Hid (Tab w) := hK
 clear h hK
 obtain ⟨f, hf⟩ : ∃ f, f = H.filled := ⟨_, rfl⟩
 have hf1 : f < 128 := by rw [hf]; exact H.filled_lt
 have HF : Hid (f = H.filled) := hf
 have bf : (f : Int) < 128 := by omega
 clear hf
 obtain ⟨v0, hv0⟩ : ∃ v0, w.cell? ⟨b, 8 + f, none⟩ = some v0 := ⟨_, (HH.out.cell (8 + f)).trans (H.row_blk f (by rw [HH.out.len]; exact hf1))⟩
 have hfz := HH.out.frozen (8 + f)
 -- the world behind the mark and the first clear
 obtain ⟨W2, hcl, hcl2, hA2, hT2⟩ : ∃ W2, (f < 127 → (Builtin.clear_ #[89] 0 #[.slice (some ⟨b, 8 + (f + 1), none⟩) (127 - f) (127 - f)]).run Tryz.prog (w.setCell ⟨b, 8 + f, none⟩ (.int .u8 128)) = .ok (.tuple #[]) W2) ∧
   (f = 127 → w.setCell ⟨b, 8 + f, none⟩ (.int .u8 128) = W2) ∧ (Hid (Has W2 b T H.marked)) ∧ Hid (qcv b w W2) := by
  have hr1 : (w.setCell ⟨b, 8 + f, none⟩ (.int .u8 128)).heap[b]? = some (.cells (H.row.set (8 + f) (cv 128)).toArray T (0, 0)) := qaA HH.out.heap _ _
  have ht1 : qcv b w (w.setCell ⟨b, 8 + f, none⟩ (.int .u8 128)) := (qcv.refl b w).setCell (p := ⟨b, 8 + f, none⟩) rfl _
  have hlen : (H.row.set (8 + f) (cv 128)).length = 138 := by rw [List.length_set]; exact H.row_length HH.out.len
  have hm := H.marked_row HH.out.len
  rw [← HF.out] at hm
  by_cases h127 : f < 127
  ·
   refine ⟨_, fun _ => qdP _ 0 b (8 + (f + 1)) (127 - f) (127 - f) _ T (by omega) hr1 (by rw [hlen]; omega), fun h => absurd h127 (by omega), ⟨?_, H.marked_length HH.out.len⟩, ?_⟩
   · rw [setRow_heap _ b _ _ T (0, 0) hr1, ← hm]; rfl
   · exact ht1.trans ⟨rfl, rfl, rfl, by simp, fun k _ hk => setRow_other _ b k _ hk⟩
  ·
   refine ⟨_, fun h => absurd h h127, fun _ => rfl, ⟨?_, H.marked_length HH.out.len⟩, ht1⟩
   have h0 : 127 - f = 0 := by omega
   rw [h0] at hm
   simp only [List.replicate_zero, List.map_nil, List.append_nil, Nat.add_zero, List.take_append_drop] at hm
   rw [hr1, ← hm]
 go_enter Tryz.func128, Tryz.ntmps128
 go_wp2_with fail
 refine (filled_any b T H w HH.out).mono ?_
 rintro e w' ⟨rfl, rfl⟩
 rw [← HF.out]
 rcases (show f < 112 ∨ (112 ≤ f ∧ f < 127) ∨ f = 127 by omega) with h112 | ⟨h112, h127⟩ | h127
 ·
  have hsl := qco b 8 ((f : Int) + 1) (f + 1) (by omega) (by omega)
  have hcl' := hcl (by omega)
  have HR : Hid (H.roomed = H.marked) := by show _ = _; unfold HS.roomed; rw [if_neg (by rw [← HF.out]; omega)]
  have i1 : (f : Int) < 112 := by omega
  clear hcl hcl2 h112
  go_wp2_with fail
  obtain ⟨V, hV⟩ : ∃ V, V = W2 := ⟨_, rfl⟩
  rw [← hV]
  have hA : Hid (Has V b T H.roomed) := by rw [hV, HR.out]; exact hA2.out
  have hT : Hid (qcv b w' V) := by rw [hV]; exact hT2.out
  clear hV
  have hc6 := hA.out.cell 136
  rw [HS.row_hi _ hA.out.len] at hc6
  have hc7 := hA.out.cell 137
  rw [HS.row_lo _ hA.out.len] at hc7
  have hq6 : H.roomed.hi = H.hi := by unfold HS.hi; rw [H.roomed_n]
  have hq7 : H.roomed.lo = H.lo := by unfold HS.lo; rw [H.roomed_n]
  rw [hq6] at hc6
  rw [hq7] at hc7
  have HQ6 : Hid (H.roomed.hi = H.hi) := hq6
  have HQ7 : Hid (H.roomed.lo = H.lo) := hq7
  clear hq6 hq7
  have s1 := qco b 8 112 112 rfl (by omega)
  have s2 := qco b 8 120 120 rfl (by omega)
  have x1 := U_shl3 H.hi
  have x2 := U_shr61 H.lo
  have x3 := U_shl3 H.lo
  clear HR
  obtain ⟨x, hx⟩ : ∃ x, x = H.hi <<< 3 ||| H.lo >>> 61 := ⟨_, rfl⟩
  have x4 := U_or (H.hi <<< 3) (H.lo >>> 61)
  rw [← hx] at x4
  have HX : Hid (x = H.hi3) := hx
  obtain ⟨y, hy⟩ : ∃ y, y = H.lo <<< 3 := ⟨_, rfl⟩
  rw [← hy] at x3
  have HY : Hid (y = H.lo3) := hy
  clear hx hy
  go_region_held3 (fun w' => w'.cell? ⟨b, 136, none⟩ = some (.int .u64 (U H.hi)) ∧ w'.cell? ⟨b, 137, none⟩ = some (.int .u64 (U H.lo))) (first | exact ⟨k6, k7⟩ | go_keep)
   (first | (go_at_call 129; refine (qb1 b 120 16 16 T H.roomed.row x V.drew (by omega) (by omega) hA.out.heap (by rw [HS.row_length _ hA.out.len]; omega)).mono ?_; rintro e V1 ⟨rfl, hrow1, hturn1⟩; have hA1 := qaf (has_lay (off := 112) hA.out.len (by omega) hrow1); have hT1 : Hid (qcv b w' V1) := hT.out.trans hturn1.drewed; have k6 : V1.cell? ⟨b, 136, none⟩ = some (.int .u64 (U H.hi)) := has_hi hA1.out HQ6.out; have k7 : V1.cell? ⟨b, 137, none⟩ = some (.int .u64 (U H.lo)) := has_lo hA1.out HQ7.out; clear hrow1 hturn1))
  clear hA hT hc6 hc7
  go_wp2_with fail
  go_region_held3 (fun w' => w'.cell? ⟨b, 137, none⟩ = some (.int .u64 (U H.lo))) (first | exact m7 | go_keep)
   (first | (go_at_call 129; refine (qb1 b 128 8 8 T _ y V1.drew (by omega) (by omega) hA1.out.heap (by rw [HS.row_length _ hA1.out.len]; omega)).mono ?_; rintro e V2 ⟨rfl, hrow2, hturn2⟩; have hA2' := qaf (has_lay (off := 120) hA1.out.len (by omega) hrow2); have hT2' : Hid (qcv b w' V2) := hT1.out.trans hturn2.drewed; have m7 : V2.cell? ⟨b, 137, none⟩ = some (.int .u64 (U H.lo)) := has_lo hA2'.out HQ7.out; clear hrow2 hturn2))
  clear hA1 hT1 k6 k7
  go_wp2_with fail
  refine (qb2 b T _ V2 hA2'.out (HK.out.turn hT2'.out hb0) hb0).mono ?_
  rintro e V3 ⟨rfl, hA3, hT3⟩
  have HE := qaf hA3
  have HT3 := qaf (hT2'.out.trans hT3)
  clear hA3 hT3
  go_wp2_with fail
  go_end0
  refine ⟨rfl, ?_, HT3.out⟩
  have e := HE.out
  rw [HX.out, HY.out] at e
  exact e
 ·
  have hsl := qco b 8 ((f : Int) + 1) (f + 1) (by omega) (by omega)
  have hcl' := hcl (by omega)
  have HR : Hid (H.roomed = { H.marked.mix with blk := List.replicate 128 0 }) := by show _ = _; unfold HS.roomed; rw [if_pos (by rw [← HF.out]; omega)]
  have i1 : (112 : Int) ≤ (f : Int) := by omega
  have hsl2 := slice128_all b 8
  clear hcl hcl2 h112
  go_wp2_with fail
  refine (qb2 b T H.marked W2 hA2.out (HK.out.turn hT2.out hb0) hb0).mono ?_
  rintro e W3 ⟨rfl, hA3, hT3⟩
  obtain ⟨W4, hcl4, hA4, hT4⟩ := clear_all hA3 (hT2.out.trans hT3)
  clear hA3 hT3 hcl' hsl
  go_wp2_with fail
  obtain ⟨V, hV⟩ : ∃ V, V = W4 := ⟨_, rfl⟩
  rw [← hV]
  have hA : Hid (Has V b T H.roomed) := by rw [hV, HR.out]; exact hA4.out
  have hT : Hid (qcv b w' V) := by rw [hV]; exact hT4.out
  clear hV
  have hc6 := hA.out.cell 136
  rw [HS.row_hi _ hA.out.len] at hc6
  have hc7 := hA.out.cell 137
  rw [HS.row_lo _ hA.out.len] at hc7
  have hq6 : H.roomed.hi = H.hi := by unfold HS.hi; rw [H.roomed_n]
  have hq7 : H.roomed.lo = H.lo := by unfold HS.lo; rw [H.roomed_n]
  rw [hq6] at hc6
  rw [hq7] at hc7
  have HQ6 : Hid (H.roomed.hi = H.hi) := hq6
  have HQ7 : Hid (H.roomed.lo = H.lo) := hq7
  clear hq6 hq7
  have s1 := qco b 8 112 112 rfl (by omega)
  have s2 := qco b 8 120 120 rfl (by omega)
  have x1 := U_shl3 H.hi
  have x2 := U_shr61 H.lo
  have x3 := U_shl3 H.lo
  clear HR
  obtain ⟨x, hx⟩ : ∃ x, x = H.hi <<< 3 ||| H.lo >>> 61 := ⟨_, rfl⟩
  have x4 := U_or (H.hi <<< 3) (H.lo >>> 61)
  rw [← hx] at x4
  have HX : Hid (x = H.hi3) := hx
  obtain ⟨y, hy⟩ : ∃ y, y = H.lo <<< 3 := ⟨_, rfl⟩
  rw [← hy] at x3
  have HY : Hid (y = H.lo3) := hy
  clear hx hy
  go_region_held3 (fun w' => w'.cell? ⟨b, 136, none⟩ = some (.int .u64 (U H.hi)) ∧ w'.cell? ⟨b, 137, none⟩ = some (.int .u64 (U H.lo))) (first | exact ⟨k6, k7⟩ | go_keep)
   (first | (go_at_call 129; refine (qb1 b 120 16 16 T H.roomed.row x V.drew (by omega) (by omega) hA.out.heap (by rw [HS.row_length _ hA.out.len]; omega)).mono ?_; rintro e V1 ⟨rfl, hrow1, hturn1⟩; have hA1 := qaf (has_lay (off := 112) hA.out.len (by omega) hrow1); have hT1 : Hid (qcv b w' V1) := hT.out.trans hturn1.drewed; have k6 : V1.cell? ⟨b, 136, none⟩ = some (.int .u64 (U H.hi)) := has_hi hA1.out HQ6.out; have k7 : V1.cell? ⟨b, 137, none⟩ = some (.int .u64 (U H.lo)) := has_lo hA1.out HQ7.out; clear hrow1 hturn1))
  clear hA hT hc6 hc7
  go_wp2_with fail
  go_region_held3 (fun w' => w'.cell? ⟨b, 137, none⟩ = some (.int .u64 (U H.lo))) (first | exact m7 | go_keep)
   (first | (go_at_call 129; refine (qb1 b 128 8 8 T _ y V1.drew (by omega) (by omega) hA1.out.heap (by rw [HS.row_length _ hA1.out.len]; omega)).mono ?_; rintro e V2 ⟨rfl, hrow2, hturn2⟩; have hA2' := qaf (has_lay (off := 120) hA1.out.len (by omega) hrow2); have hT2' : Hid (qcv b w' V2) := hT1.out.trans hturn2.drewed; have m7 : V2.cell? ⟨b, 137, none⟩ = some (.int .u64 (U H.lo)) := has_lo hA2'.out HQ7.out; clear hrow2 hturn2))
  clear hA1 hT1 k6 k7
  go_wp2_with fail
  refine (qb2 b T _ V2 hA2'.out (HK.out.turn hT2'.out hb0) hb0).mono ?_
  rintro e V3 ⟨rfl, hA3, hT3⟩
  have HE := qaf hA3
  have HT3 := qaf (hT2'.out.trans hT3)
  clear hA3 hT3
  go_wp2_with fail
  go_end0
  refine ⟨rfl, ?_, HT3.out⟩
  have e := HE.out
  rw [HX.out, HY.out] at e
  exact e
 ·
  have hsl : ∀ w, (Instr.sliceAt 164 (.pointer (some ⟨b, 8, none⟩)) (some (.int .i64 ((f : Int) + 1))) none none).run Tryz.prog w = .ok (.slice (some ⟨b, 8, none⟩) 0 0) w := by subst h127; exact slice128_end b 8
  have hcl' := fun w => run_clear_none w 0 (some ⟨b, 8, none⟩) 0
  have HR : Hid (H.roomed = { H.marked.mix with blk := List.replicate 128 0 }) := by show _ = _; unfold HS.roomed; rw [if_pos (by rw [← HF.out]; omega)]
  have i1 : (112 : Int) ≤ (f : Int) := by omega
  have hsl2 := slice128_all b 8
  have HW : Hid (w'.setCell ⟨b, 8 + f, none⟩ (.int .u8 128) = W2) := hcl2 h127
  clear hcl hcl2 h127
  go_wp2_with fail
  rw [HW.out]
  refine (qb2 b T H.marked W2 hA2.out (HK.out.turn hT2.out hb0) hb0).mono ?_
  rintro e W3 ⟨rfl, hA3, hT3⟩
  obtain ⟨W4, hcl4, hA4, hT4⟩ := clear_all hA3 (hT2.out.trans hT3)
  clear hA3 hT3 hcl' hsl
  go_wp2_with fail
  obtain ⟨V, hV⟩ : ∃ V, V = W4 := ⟨_, rfl⟩
  rw [← hV]
  have hA : Hid (Has V b T H.roomed) := by rw [hV, HR.out]; exact hA4.out
  have hT : Hid (qcv b w' V) := by rw [hV]; exact hT4.out
  clear hV
  have hc6 := hA.out.cell 136
  rw [HS.row_hi _ hA.out.len] at hc6
  have hc7 := hA.out.cell 137
  rw [HS.row_lo _ hA.out.len] at hc7
  have hq6 : H.roomed.hi = H.hi := by unfold HS.hi; rw [H.roomed_n]
  have hq7 : H.roomed.lo = H.lo := by unfold HS.lo; rw [H.roomed_n]
  rw [hq6] at hc6
  rw [hq7] at hc7
  have HQ6 : Hid (H.roomed.hi = H.hi) := hq6
  have HQ7 : Hid (H.roomed.lo = H.lo) := hq7
  clear hq6 hq7
  have s1 := qco b 8 112 112 rfl (by omega)
  have s2 := qco b 8 120 120 rfl (by omega)
  have x1 := U_shl3 H.hi
  have x2 := U_shr61 H.lo
  have x3 := U_shl3 H.lo
  clear HR
  obtain ⟨x, hx⟩ : ∃ x, x = H.hi <<< 3 ||| H.lo >>> 61 := ⟨_, rfl⟩
  have x4 := U_or (H.hi <<< 3) (H.lo >>> 61)
  rw [← hx] at x4
  have HX : Hid (x = H.hi3) := hx
  obtain ⟨y, hy⟩ : ∃ y, y = H.lo <<< 3 := ⟨_, rfl⟩
  rw [← hy] at x3
  have HY : Hid (y = H.lo3) := hy
  clear hx hy
  go_region_held3 (fun w' => w'.cell? ⟨b, 136, none⟩ = some (.int .u64 (U H.hi)) ∧ w'.cell? ⟨b, 137, none⟩ = some (.int .u64 (U H.lo))) (first | exact ⟨k6, k7⟩ | go_keep)
   (first | (go_at_call 129; refine (qb1 b 120 16 16 T H.roomed.row x V.drew (by omega) (by omega) hA.out.heap (by rw [HS.row_length _ hA.out.len]; omega)).mono ?_; rintro e V1 ⟨rfl, hrow1, hturn1⟩; have hA1 := qaf (has_lay (off := 112) hA.out.len (by omega) hrow1); have hT1 : Hid (qcv b w' V1) := hT.out.trans hturn1.drewed; have k6 : V1.cell? ⟨b, 136, none⟩ = some (.int .u64 (U H.hi)) := has_hi hA1.out HQ6.out; have k7 : V1.cell? ⟨b, 137, none⟩ = some (.int .u64 (U H.lo)) := has_lo hA1.out HQ7.out; clear hrow1 hturn1))
  clear hA hT hc6 hc7
  go_wp2_with fail
  go_region_held3 (fun w' => w'.cell? ⟨b, 137, none⟩ = some (.int .u64 (U H.lo))) (first | exact m7 | go_keep)
   (first | (go_at_call 129; refine (qb1 b 128 8 8 T _ y V1.drew (by omega) (by omega) hA1.out.heap (by rw [HS.row_length _ hA1.out.len]; omega)).mono ?_; rintro e V2 ⟨rfl, hrow2, hturn2⟩; have hA2' := qaf (has_lay (off := 120) hA1.out.len (by omega) hrow2); have hT2' : Hid (qcv b w' V2) := hT1.out.trans hturn2.drewed; have m7 : V2.cell? ⟨b, 137, none⟩ = some (.int .u64 (U H.lo)) := has_lo hA2'.out HQ7.out; clear hrow2 hturn2))
  clear hA1 hT1 k6 k7
  go_wp2_with fail
  refine (qb2 b T _ V2 hA2'.out (HK.out.turn hT2'.out hb0) hb0).mono ?_
  rintro e V3 ⟨rfl, hA3, hT3⟩
  have HE := qaf hA3
  have HT3 := qaf (hT2'.out.trans hT3)
  clear hA3 hT3
  go_wp2_with fail
  go_end0
  refine ⟨rfl, ?_, HT3.out⟩
  have e := HE.out
  rw [HX.out, HY.out] at e
  exact e
end
section
attribute [local go_sem] U_and U_or qej U_not U_add qbC
set_option maxRecDepth 100000 in
set_option maxHeartbeats 400000 in
theorem refRight_any (x : BitVec 64) (k : Int) (n : Nat) (hk : k = n) (h0 : 0 < n) (h1 : n < 64) (w : World) :
  Calls Tryz.prog 105 #[.int .u64 (U x), .int .i64 k] w fun e w' => e = .returned (.int .u64 (U (x.rotateRight n))) ∧ ∃ q, w' = w.drewN q := by
 subst hk
 have b0 : (0 : Int) ≤ (n : Int) := by omega
 have b1 : (n : Int) < 64 := by omega
 have b2 : (0 : Int) ≤ 64 - (n : Int) := by omega
 go_enter Tryz.func105, Tryz.ntmps105
 have HF : Hid (bits BinOp.or IntKind.u64 (U x / 2 ^ n) (IntKind.u64.wrap (U x * 2 ^ (64 - n))) = U (x.rotateRight n)) := by
  show _ = _
  rw [U_shl, U_shr, U_or, BitVec.or_comm, rot_eq x n h1]
 go_wp2
 go_quiet (fail)
 go_wp2
 go_ret
 exact ⟨congrArg (fun v => Ending.returned (.int .u64 v)) HF.out, nq, rfl⟩
end
theorem shl_or_byte (x : BitVec 64) (c : UInt8) : x <<< 8 + BitVec.ofNat 64 c.toNat = x <<< 8 ||| BitVec.ofNat 64 c.toNat := by
 apply BitVec.add_eq_or_of_and_eq_zero
 apply BitVec.eq_of_getLsbD_eq
 intro i hi
 rw [BitVec.getLsbD_and, BitVec.getLsbD_shiftLeft, BitVec.getLsbD_ofNat]
 by_cases h8 : i < 8
 · simp [h8]
 ·
  have hc : c.toNat < 2 ^ i := Nat.lt_of_lt_of_le c.toNat_lt (Nat.pow_le_pow_right (by omega) (by omega))
  rw [Nat.testBit_lt_two_pow hc]; simp
theorem mul256 (x : BitVec 64) (c : UInt8) : IntKind.u64.wrap (IntKind.u64.wrap (256 * U x) + IntKind.u64.wrap (C8 c)) = U (x <<< 8 ||| BitVec.ofNat 64 c.toNat) := by
 rw [Int.mul_comm 256 (U x), U_shl8, wrap_C8, U_add, shl_or_byte]
section
attribute [local go_sem] U_and U_or qej U_not U_add qbC
set_option maxRecDepth 100000 in
set_option maxHeartbeats 400000 in
theorem refWord_any (b off cap : Nat) (f : Nat → UInt8) (w : World)
  (hc : ∀ i, i < 8 → w.cell? ⟨b, off + i, none⟩ = some (.int .u8 (C8 (f i)))) :
  Calls Tryz.prog 104 #[.slice (some ⟨b, off, none⟩) 8 cap] w fun e w' => e = .returned (.int .u64 (U (be f 8))) ∧ w' = w := by
 go_enter Tryz.func104, Tryz.ntmps104
 go_wp2
 go_loop [3, 4] (fun v i => ∃ k : Nat, k ≤ 8 ∧ i = .int .i64 k ∧ v = .int .u64 (U (be f k))) (fun _ i => 8 - (intOf i).toNat)
 case atStart => exact ⟨0, Nat.zero_le _, rfl, rfl⟩
 case round =>
  obtain ⟨k, hk, rfl, rfl⟩ := hrel
  by_cases hlt : k < 8
  ·
   have hcell := hc k hlt
   clear hc
   have HE : Hid (IntKind.u64.wrap (IntKind.u64.wrap (256 * U (be f k)) + IntKind.u64.wrap (C8 (f k))) = U (be f (k + 1))) := mul256 _ _
   go_wp2
   go_round
   case rel => exact ⟨k + 1, by omega, by go_num, congrArg (Value.int .u64) HE.out⟩
   case measure => simp [intOf]; omega
  ·
   clear hc
   obtain rfl : k = 8 := by omega
   go_wp2
   go_ret
   exact ⟨rfl, rfl⟩
set_option maxRecDepth 100000 in
set_option maxHeartbeats 4000000 in
theorem refRounds_any (w : World) :
  Calls Tryz.prog 102 #[] w fun e w' => ∃ g, e = .returned (.slice (some ⟨g, 0, none⟩) 80 80) ∧ w.heap.size ≤ g ∧ w'.heap[g]? = some (.cells (kws.map uv).toArray 59 (0, 0)) ∧ Below w.heap.size w w' := by
 go_enter Tryz.func102, Tryz.ntmps102
 go_wp2_with fail
 go_ret
 refine ⟨w.heap.size, rfl, Nat.le_refl _, (heap_alloc_new w _).trans ?_, (Below.refl _ _).alloc (Nat.le_refl _) _⟩
 kernel_rfl
end
end Go.Proofs.YtccgfabojbjmjaaGreatDoor
