import Derived.Test.YtccgfabojbjmjaaGreatDoorPx41
namespace Go.Proofs.YtccgfabojbjmjaaGreatDoor
open Go.RowKit
section
theorem eq_es (a b : Addr) (w : World) (ha : ∃ c t, w.heap[a.block]? = some (.cells c t (0, 0))) (hb : ∃ c t, w.heap[b.block]? = some (.cells c t (0, 0))) :
  (binOp .eql 66 (.iface 282 (.pointer (some a))) (.iface 282 (.pointer (some b)))).run Tryz.prog w = .ok (.bool (decide (a = b))) w := by
 obtain ⟨i, hi, hcmp⟩ := Option.map_eq_some_iff.1 isCompE
 obtain ⟨j, hj, hjs⟩ := Option.map_eq_some_iff.1 isSizeE
 by_cases h : a = b
 ·
  subst h
  rw [decide_eq_true rfl]
  exact run_eql_iface_ptr_same (P := Tryz.prog) w a Tryz.underlying66 Tryz.underlying282 hi hcmp hj
 ·
  rw [decide_eq_false h]
  obtain ⟨ca, ta, ha⟩ := ha
  obtain ⟨cb, tb, hb⟩ := hb
  exact run_eql_iface_ptr_other (P := Tryz.prog) w Tryz.underlying66 Tryz.underlying282 hi hcmp hj (by rw [hjs]; decide) h ha hb
theorem blk_keep {a : Addr} {w w' : World} (h : ∃ c t, w.heap[a.block]? = some (.cells c t (0, 0))) (hb : Below w.heap.size w w') : ∃ c t, w'.heap[a.block]? = some (.cells c t (0, 0)) := by
 obtain ⟨c, t, e⟩ := h
 exact ⟨c, t, (hb.block _ (lt_row e)).trans e⟩
set_option maxRecDepth 100000 in
set_option maxHeartbeats 1600000 in
theorem isL_es1 (p1 : ByteArray) (a b : Addr) (w : World) (ha : ∃ c t, w.heap[a.block]? = some (.cells c t (0, 0))) (hb : ∃ c t, w.heap[b.block]? = some (.cells c t (0, 0))) :
  Calls Tryz.prog 101 #[atE p1 (esI a), esI b, .bool true] w fun e w' => e = .returned (.bool (decide (a = b))) ∧ Below w.heap.size w w' := by
 have HA := hide ha
 have HB := hide hb
 clear ha hb
 have nI := noIsAt
 have uA := hasUnwrapAt
 have nE := noIsEs
 have uE := noUnEs
 have vE := noUnsEs
 have hty := fun (v u : Value) (W : World) => run_eql_iface_types (P := Tryz.prog) 173 282 v u Tryz.underlying66 (by decide) W
 unfold atE
 rw [show esI b = .iface 282 (.pointer (some b)) from rfl]
 go_enter Tryz.func101, Tryz.ntmps101
 go_wp2_with fail
 have B2 : Hid (Below w.heap.size w w) := Below.refl _ _
 refine wp_loop_rounds 2 ?_
 rw [rounds_succ]
 go_wp2_with fail
 refine (unwrap_any p1 (esI a) _).mono ?_
 rintro e W1 ⟨rfl, hB⟩
 have B1 := kTr B2 hB
 clear hB B2
 unfold esI
 go_wp2_with fail
 have hq := eq_es a b W1 (blk_keep HA.out B1.out) (blk_keep HB.out B1.out)
 rw [rounds_succ]
 clear hty
 by_cases h : a = b
 ·
  rw [decide_eq_true h] at hq
  have H := hide h
  clear h
  go_wp2_with fail
  go_ret
  exact ⟨by rw [decide_eq_true H.out]; rfl, B1.out⟩
 ·
  rw [decide_eq_false h] at hq
  have H := hide h
  clear h
  go_wp2_with fail
  go_ret
  exact ⟨by rw [decide_eq_false H.out]; rfl, B1.out⟩
set_option maxRecDepth 100000 in
set_option maxHeartbeats 1600000 in
theorem is_es1 (p1 : ByteArray) (a b : Addr) (w : World) (ha : ∃ c t, w.heap[a.block]? = some (.cells c t (0, 0))) (hb : ∃ c t, w.heap[b.block]? = some (.cells c t (0, 0))) :
  Calls Tryz.prog 60 #[atE p1 (esI a), esI b] w fun e w' => e = .returned (.bool (decide (a = b))) ∧ Below w.heap.size w w' := by
 have HA := hide ha
 have HB := hide hb
 clear ha hb
 have ht := typeOf_any
 have hcm := cmp_es
 obtain ⟨E, HE⟩ : ∃ E, Hid (E = Value.agg #[.string p1, esI a]) := ⟨_, rfl⟩
 rw [show atE p1 (esI a) = .iface 173 E by rw [HE.out]; rfl, show esI b = .iface 282 (.pointer (some b)) from rfl]
 go_enter Tryz.func60, Tryz.ntmps60
 go_wp2_with fail
 rw [HE.out]
 refine (isL_es1 p1 a b w HA.out HB.out).mono ?_
 rintro e W ⟨rfl, hB⟩
 have BW := hide hB
 clear hB
 go_wp2_with fail
 go_ret
 exact ⟨rfl, BW.out⟩
set_option maxRecDepth 100000 in
set_option maxHeartbeats 1600000 in
theorem isL_es2 (p2 p1 : ByteArray) (a b : Addr) (w : World) (ha : ∃ c t, w.heap[a.block]? = some (.cells c t (0, 0))) (hb : ∃ c t, w.heap[b.block]? = some (.cells c t (0, 0))) :
  Calls Tryz.prog 101 #[atE p2 (atE p1 (esI a)), esI b, .bool true] w fun e w' => e = .returned (.bool (decide (a = b))) ∧ Below w.heap.size w w' := by
 have HA := hide ha
 have HB := hide hb
 clear ha hb
 have nI := noIsAt
 have uA := hasUnwrapAt
 have nE := noIsEs
 have uE := noUnEs
 have vE := noUnsEs
 have hty := fun (v u : Value) (W : World) => run_eql_iface_types (P := Tryz.prog) 173 282 v u Tryz.underlying66 (by decide) W
 unfold atE
 rw [show esI b = .iface 282 (.pointer (some b)) from rfl]
 go_enter Tryz.func101, Tryz.ntmps101
 go_wp2_with fail
 have B3 : Hid (Below w.heap.size w w) := Below.refl _ _
 refine wp_loop_rounds 3 ?_
 rw [rounds_succ]
 obtain ⟨E2, HE2⟩ : ∃ E, Hid (E = Value.agg #[.string p1, esI a]) := ⟨_, rfl⟩
 rw [← HE2.out]
 go_wp2_with fail
 refine (unwrap_any p2 (.iface 173 E2) _).mono ?_
 rintro e W2 ⟨rfl, hB⟩
 have B2 := kTr B3 hB
 clear hB B3
 rw [HE2.out]
 clear HE2 E2
 go_wp2_with fail
 rw [rounds_succ]
 go_wp2_with fail
 refine (unwrap_any p1 (esI a) _).mono ?_
 rintro e W1 ⟨rfl, hB⟩
 have B1 := kTr B2 hB
 clear hB B2
 unfold esI
 go_wp2_with fail
 have hq := eq_es a b W1 (blk_keep HA.out B1.out) (blk_keep HB.out B1.out)
 rw [rounds_succ]
 clear hty
 by_cases h : a = b
 ·
  rw [decide_eq_true h] at hq
  have H := hide h
  clear h
  go_wp2_with fail
  go_ret
  exact ⟨by rw [decide_eq_true H.out]; rfl, B1.out⟩
 ·
  rw [decide_eq_false h] at hq
  have H := hide h
  clear h
  go_wp2_with fail
  go_ret
  exact ⟨by rw [decide_eq_false H.out]; rfl, B1.out⟩
set_option maxRecDepth 100000 in
set_option maxHeartbeats 1600000 in
theorem is_es2 (p2 p1 : ByteArray) (a b : Addr) (w : World) (ha : ∃ c t, w.heap[a.block]? = some (.cells c t (0, 0))) (hb : ∃ c t, w.heap[b.block]? = some (.cells c t (0, 0))) :
  Calls Tryz.prog 60 #[atE p2 (atE p1 (esI a)), esI b] w fun e w' => e = .returned (.bool (decide (a = b))) ∧ Below w.heap.size w w' := by
 have HA := hide ha
 have HB := hide hb
 clear ha hb
 have ht := typeOf_any
 have hcm := cmp_es
 obtain ⟨E, HE⟩ : ∃ E, Hid (E = Value.agg #[.string p2, atE p1 (esI a)]) := ⟨_, rfl⟩
 rw [show atE p2 (atE p1 (esI a)) = .iface 173 E by rw [HE.out]; rfl, show esI b = .iface 282 (.pointer (some b)) from rfl]
 go_enter Tryz.func60, Tryz.ntmps60
 go_wp2_with fail
 rw [HE.out]
 refine (isL_es2 p2 p1 a b w HA.out HB.out).mono ?_
 rintro e W ⟨rfl, hB⟩
 have BW := hide hB
 clear hB
 go_wp2_with fail
 go_ret
 exact ⟨rfl, BW.out⟩
structure SentP (w : World) (g : Nat) (a : Addr) : Prop where
 c : w.cell? ⟨g, 0, none⟩ = some (esI a)
 b : ∃ c t, w.heap[a.block]? = some (.cells c t (0, 0))
theorem SentP.below {w w' : World} {g : Nat} {a : Addr} (h : SentP w g a) (hb : Below w.heap.size w w') : SentP w' g a :=
 ⟨(hb.cell (World.block_lt_of_cell? w _ h.c)).trans h.c, blk_keep h.b hb⟩
structure Sents (w : World) (k p s g : Addr) : Prop where
 hE : w.cell? ⟨3, 0, none⟩ = some (rtV 66)
 fk : SentP w 0 k
 fp : SentP w 1 p
 fs : SentP w 2 s
 fg : SentP w 4 g
 kp : p ≠ k
 ks : s ≠ k
 ps : s ≠ p
 gk : g ≠ k
 gp : g ≠ p
 gs : g ≠ s
theorem SentP.bex {w w' : World} {g b : Nat} {a : Addr} (h : SentP w g a) (hx : Bex b w w') (hg : g ≠ b) (ha : a.block ≠ b) : SentP w' g a := by
 obtain ⟨c, t, e⟩ := h.b
 exact ⟨(World.cell?_of_block (hx.block g (World.block_lt_of_cell? w _ h.c) hg)).trans h.c, c, t, (hx.block _ (lt_row e) ha).trans e⟩
theorem Sents.below {w w' : World} {k p s g : Addr} (h : Sents w k p s g) (hb : Below w.heap.size w w') : Sents w' k p s g :=
 ⟨(hb.cell (World.block_lt_of_cell? w _ h.hE)).trans h.hE, h.fk.below hb, h.fp.below hb, h.fs.below hb, h.fg.below hb, h.kp, h.ks, h.ps, h.gk, h.gp, h.gs⟩
def esC (k p s a : Addr) : Int := if a = k then 12 else if a = p then 2 else if a = s then 3 else 4
set_option maxRecDepth 100000 in
set_option maxHeartbeats 1600000 in
theorem codeOf_es1 (p1 : ByteArray) (a : Addr) (w : World) (k p s g : Addr) (hS : Sents w k p s g) (ha : ∃ c t, w.heap[a.block]? = some (.cells c t (0, 0))) :
  Calls Tryz.prog 30 #[atE p1 (esI a)] w fun e w' => e = .returned (.int .i64 (esC k p s a)) ∧ Below w.heap.size w w' := by
 have h1 := zeroSz
 have h2 := zeroIm
 have HS := hide hS
 have HA := hide ha
 clear hS ha
 obtain ⟨E, HE⟩ : ∃ E, Hid (E = Value.agg #[.string p1, esI a]) := ⟨_, rfl⟩
 have HW : Hid (atE p1 (esI a) = .iface 173 E) := by show _ = _; rw [HE.out]; rfl
 rw [HW.out]
 go_enter Tryz.func30, Tryz.ntmps30
 go_upto_region 5 with fail
 generalize hW0 : World.alloc _ _ = W0
 have B0 : Hid (Below w.heap.size w W0) := by rw [← hW0]; show Below _ _ _; go_grown
 clear hW0
 go_wp2_with fail
 refine (as_no_sz E w.heap.size W0 (HS.out.below B0.out).hE (fun q W => by rw [← HW.out]; exact asL_sz_es1 p1 a w.heap.size q W)).mono ?_
 rintro e W1 ⟨rfl, hB⟩
 have B1 := kTr B0 hB
 clear hB B0
 go_wp2_with fail
 refine (as_no_im E (w.heap.size + 1) W1 (HS.out.below B1.out).hE (fun q W => by rw [← HW.out]; exact asL_im_es1 p1 a (w.heap.size + 1) q W)).mono ?_
 rintro e W2 ⟨rfl, hB⟩
 have B2 := kTr B1 hB
 clear hB B1
 have S2 := hide (HS.out.below B2.out)
 have ck := S2.out.fk.c
 go_wp2_with fail
 rw [← HW.out]
 refine (is_es1 p1 a k W2 (blk_keep HA.out B2.out) S2.out.fk.b).mono ?_
 rintro e W3 ⟨rfl, hB⟩
 have B3 := kTr B2 hB
 clear hB B2 ck S2
 rw [HW.out]
 by_cases hk : a = k
 ·
  rw [decide_eq_true hk]
  have EC : Hid (esC k p s a = 12) := by show _ = _; unfold esC; rw [if_pos hk]
  clear hk
  go_wp2_with fail
  go_ret
  exact ⟨by rw [EC.out]; rfl, B3.out⟩
 rw [decide_eq_false hk]
 have Hk := hide hk
 clear hk
 have S3 := hide (HS.out.below B3.out)
 have cp := S3.out.fp.c
 go_wp2_with fail
 rw [← HW.out]
 refine (is_es1 p1 a p W3 (blk_keep HA.out B3.out) S3.out.fp.b).mono ?_
 rintro e W4 ⟨rfl, hB⟩
 have B4 := kTr B3 hB
 clear hB B3 cp S3
 rw [HW.out]
 by_cases hp : a = p
 ·
  rw [decide_eq_true hp]
  have EC : Hid (esC k p s a = 2) := by show _ = _; unfold esC; rw [if_neg Hk.out, if_pos hp]
  clear hp
  go_wp2_with fail
  go_ret
  exact ⟨by rw [EC.out]; rfl, B4.out⟩
 rw [decide_eq_false hp]
 have Hp := hide hp
 clear hp
 have S4 := hide (HS.out.below B4.out)
 have cs := S4.out.fs.c
 go_wp2_with fail
 rw [← HW.out]
 refine (is_es1 p1 a s W4 (blk_keep HA.out B4.out) S4.out.fs.b).mono ?_
 rintro e W5 ⟨rfl, hB⟩
 have B5 := kTr B4 hB
 clear hB B4 cs S4
 rw [HW.out]
 by_cases hs : a = s
 ·
  rw [decide_eq_true hs]
  have EC : Hid (esC k p s a = 3) := by show _ = _; unfold esC; rw [if_neg Hk.out, if_neg Hp.out, if_pos hs]
  clear hs
  go_wp2_with fail
  go_ret
  exact ⟨by rw [EC.out]; rfl, B5.out⟩
 rw [decide_eq_false hs]
 have EC : Hid (esC k p s a = 4) := by show _ = _; unfold esC; rw [if_neg Hk.out, if_neg Hp.out, if_neg hs]
 clear hs
 go_wp2_with fail
 go_ret
 exact ⟨by rw [EC.out]; rfl, B5.out⟩
set_option maxRecDepth 100000 in
set_option maxHeartbeats 1600000 in
theorem codeOf_es2 (p2 p1 : ByteArray) (a : Addr) (w : World) (k p s g : Addr) (hS : Sents w k p s g) (ha : ∃ c t, w.heap[a.block]? = some (.cells c t (0, 0))) :
  Calls Tryz.prog 30 #[atE p2 (atE p1 (esI a))] w fun e w' => e = .returned (.int .i64 (esC k p s a)) ∧ Below w.heap.size w w' := by
 have h1 := zeroSz
 have h2 := zeroIm
 have HS := hide hS
 have HA := hide ha
 clear hS ha
 obtain ⟨E, HE⟩ : ∃ E, Hid (E = Value.agg #[.string p2, atE p1 (esI a)]) := ⟨_, rfl⟩
 have HW : Hid (atE p2 (atE p1 (esI a)) = .iface 173 E) := by show _ = _; rw [HE.out]; rfl
 rw [HW.out]
 go_enter Tryz.func30, Tryz.ntmps30
 go_upto_region 5 with fail
 generalize hW0 : World.alloc _ _ = W0
 have B0 : Hid (Below w.heap.size w W0) := by rw [← hW0]; show Below _ _ _; go_grown
 clear hW0
 go_wp2_with fail
 refine (as_no_sz E w.heap.size W0 (HS.out.below B0.out).hE (fun q W => by rw [← HW.out]; exact asL_sz_es2 p2 p1 a w.heap.size q W)).mono ?_
 rintro e W1 ⟨rfl, hB⟩
 have B1 := kTr B0 hB
 clear hB B0
 go_wp2_with fail
 refine (as_no_im E (w.heap.size + 1) W1 (HS.out.below B1.out).hE (fun q W => by rw [← HW.out]; exact asL_im_es2 p2 p1 a (w.heap.size + 1) q W)).mono ?_
 rintro e W2 ⟨rfl, hB⟩
 have B2 := kTr B1 hB
 clear hB B1
 have S2 := hide (HS.out.below B2.out)
 have ck := S2.out.fk.c
 go_wp2_with fail
 rw [← HW.out]
 refine (is_es2 p2 p1 a k W2 (blk_keep HA.out B2.out) S2.out.fk.b).mono ?_
 rintro e W3 ⟨rfl, hB⟩
 have B3 := kTr B2 hB
 clear hB B2 ck S2
 rw [HW.out]
 by_cases hk : a = k
 ·
  rw [decide_eq_true hk]
  have EC : Hid (esC k p s a = 12) := by show _ = _; unfold esC; rw [if_pos hk]
  clear hk
  go_wp2_with fail
  go_ret
  exact ⟨by rw [EC.out]; rfl, B3.out⟩
 rw [decide_eq_false hk]
 have Hk := hide hk
 clear hk
 have S3 := hide (HS.out.below B3.out)
 have cp := S3.out.fp.c
 go_wp2_with fail
 rw [← HW.out]
 refine (is_es2 p2 p1 a p W3 (blk_keep HA.out B3.out) S3.out.fp.b).mono ?_
 rintro e W4 ⟨rfl, hB⟩
 have B4 := kTr B3 hB
 clear hB B3 cp S3
 rw [HW.out]
 by_cases hp : a = p
 ·
  rw [decide_eq_true hp]
  have EC : Hid (esC k p s a = 2) := by show _ = _; unfold esC; rw [if_neg Hk.out, if_pos hp]
  clear hp
  go_wp2_with fail
  go_ret
  exact ⟨by rw [EC.out]; rfl, B4.out⟩
 rw [decide_eq_false hp]
 have Hp := hide hp
 clear hp
 have S4 := hide (HS.out.below B4.out)
 have cs := S4.out.fs.c
 go_wp2_with fail
 rw [← HW.out]
 refine (is_es2 p2 p1 a s W4 (blk_keep HA.out B4.out) S4.out.fs.b).mono ?_
 rintro e W5 ⟨rfl, hB⟩
 have B5 := kTr B4 hB
 clear hB B4 cs S4
 rw [HW.out]
 by_cases hs : a = s
 ·
  rw [decide_eq_true hs]
  have EC : Hid (esC k p s a = 3) := by show _ = _; unfold esC; rw [if_neg Hk.out, if_neg Hp.out, if_pos hs]
  clear hs
  go_wp2_with fail
  go_ret
  exact ⟨by rw [EC.out]; rfl, B5.out⟩
 rw [decide_eq_false hs]
 have EC : Hid (esC k p s a = 4) := by show _ = _; unfold esC; rw [if_neg Hk.out, if_neg Hp.out, if_neg hs]
 clear hs
 go_wp2_with fail
 go_ret
 exact ⟨by rw [EC.out]; rfl, B5.out⟩
set_option maxRecDepth 100000 in
set_option maxHeartbeats 1600000 in
theorem codeOf_im2 (p2 p1 : ByteArray) (c : Int) (hc : c ≠ 0) (w : World) (hE : w.cell? ⟨3, 0, none⟩ = some (rtV 66)) :
  Calls Tryz.prog 30 #[atE p2 (atE p1 (imI c))] w fun e w' => e = .returned (.int .i64 c) ∧ Below w.heap.size w w' := by
 have h1 := zeroSz
 have h2 := zeroIm
 have HE0 := hide hE
 clear hE
 obtain ⟨E, HE⟩ : ∃ E, Hid (E = Value.agg #[.string p2, atE p1 (imI c)]) := ⟨_, rfl⟩
 have HW : Hid (atE p2 (atE p1 (imI c)) = .iface 173 E) := by show _ = _; rw [HE.out]; rfl
 rw [HW.out]
 go_enter Tryz.func30, Tryz.ntmps30
 go_upto_region 5 with fail
 generalize hW0 : World.alloc _ _ = W0
 have B0 : Hid (Below w.heap.size w W0) := by rw [← hW0]; show Below _ _ _; go_grown
 have RI : Hid (W0.heap[w.heap.size + 1]? = some (.cells #[.int .i64 0] 136 (0, 0))) := by rw [← hW0]; exact heap_alloc2_new _ _ _
 have E0 : Hid (W0.cell? ⟨3, 0, none⟩ = some (rtV 66)) := (B0.out.cell (World.block_lt_of_cell? w _ HE0.out)).trans HE0.out
 clear hW0
 go_wp2_with fail
 refine (as_no_sz E w.heap.size W0 E0.out (fun q W => by rw [← HW.out]; exact asL_sz_im2 p2 p1 c w.heap.size q W)).mono ?_
 rintro e W1 ⟨rfl, hB⟩
 have RI := hide (row_keep' RI.out hB)
 have E1 : Hid (W1.cell? ⟨3, 0, none⟩ = some (rtV 66)) := (hB.cell (World.block_lt_of_cell? W0 _ E0.out)).trans E0.out
 have B1 := kTr B0 hB
 clear hB B0 E0
 go_wp2_with fail
 rw [← HW.out]
 refine (as_yes_im2 p2 p1 c (w.heap.size + 1) W1 E1.out RI.out).mono ?_
 rintro e W2 ⟨rfl, hB, hR⟩
 have B2 : Hid (Below w.heap.size w W2) := B1.out.trans (hB.mono (by omega))
 have ci := cell_of_row W2 (w.heap.size + 1) 0 _ _ _ hR
 have hne : (c != 0) = true := by rw [bne_iff_ne]; exact hc
 clear hB B1 hR E1
 rw [HW.out]
 go_wp2_with fail
 go_ret
 exact ⟨rfl, B2.out⟩
end
def BaseAny (w : World) (b : Nat) : Prop := BaseNew w b ∨ BaseDone w b
theorem BaseAny.keep {w v : World} {b : Nat} (h : BaseAny w b) (hb : v.heap[b]? = w.heap[b]?) : BaseAny v b := h.elim (fun h => Or.inl (h.keep hb)) (fun h => Or.inr (h.keep hb))
theorem BaseAny.lt {w : World} {b : Nat} (h : BaseAny w b) : b < w.heap.size := h.elim (fun h => h.lt) (fun h => h.lt)
theorem basePowAny (b : Nat) (w : World) (hG : GlB w) (h7 : 13 ≤ b) (hN : BaseAny w b) :
  Calls Tryz.prog 90 #[.pointer (some ⟨b, 0, none⟩)] w fun e w' => e = .returned (.agg (psA (pwN bpP) 4)) ∧ Bex b w w' ∧ BaseDone w' b := by
 rcases hN with h | h
 · exact basePowNew b w hG h7 h
 · exact basePowDone b w h
theorem baseTimesAny (b n : Nat) (w : World) (hG : GlB w) (h7 : 13 ≤ b) (hN : BaseAny w b) :
  Calls Tryz.prog 57 #[.pointer (some ⟨b, 0, none⟩), .agg (num4A n)] w fun e w' => e = .returned (.agg (pA (mlP (pwN bpP) n 64))) ∧ Bex b w w' ∧ BaseDone w' b := by
 rcases hN with h | h
 · exact baseTimesNew b n w hG h7 h
 · exact baseTimesDone b n w hG h7 h
section
attribute [local irreducible] num4A nL pA psA psL pL bA bpP dcP dcB
set_option maxRecDepth 100000 in
set_option maxHeartbeats 4000000 in
theorem powersOfAny (b m : Nat) (hm : m < 115792089237316195423570985008687907853269984665640564039457584007913129639936) (w : World) (hG : GlB w) (h7 : 13 ≤ b) (hN : BaseAny w b) :
  Calls Tryz.prog 114 #[.pointer (some ⟨b, 0, none⟩), .agg (bA m)] w fun e w' => e = .returned (.tuple #[.agg (psA (pofF m) 4), .bool (dcB m)]) ∧ Bex b w w' ∧ BaseAny w' b := by
 have hz := zeroPw
 have hzp := zeroP
 have HG := hide hG
 have HN := hide hN
 have lb := hN.lt
 have HM := hide hm
 have heq := eqCode m bcN hm bcN_lt
 clear hG hN hm
 go_enter Tryz.func114, Tryz.ntmps114
 go_upto_region 1 with fail
 generalize hW0 : World.alloc _ _ = W0
 have B0 : Hid (Below w.heap.size w W0) := by rw [← hW0]; show Below _ _ _; go_grown
 have R3 : Hid (W0.heap[w.heap.size]? = some (.cells (bA m) 62 (0, 0))) := by rw [← hW0]; exact (heap_alloc_old _ _ (by simp)).trans (heap_alloc_new _ _)
 have RZ : Hid (W0.heap[w.heap.size + 1]? = some (.cells (psA noPt 4) 84 (0, 0))) := by rw [← hW0]; exact heap_alloc2_new _ _ _
 clear hW0
 have N0 := hide (HN.out.keep (B0.out.block b lb))
 have G0 := hide (HG.out.keep B0.out)
 obtain ⟨TT, frr, hgc⟩ := G0.out.gc
 have HC := hide hgc
 clear hgc
 by_cases hB : m = bcN
 ·
  have hd : decide (m = bcN) = true := decide_eq_true hB
  rw [hd] at heq
  have HE := hide hB
  clear hd hB
  go_wp2_with (first
   | (refine wpList_load_row (by rfl) 62 (.tmp 3) (by rfl) w.heap.size (by rfl) 62 (bA m) (0, 0) _ R3.out underCode rfl (bA_size _) ?_)
   | (refine wpList_load_row (by rfl) 62 (.global 7) (by rfl) 7 (by rfl) TT (bA bcN) frr _ HC.out underCode rfl (bA_size _) ?_))
  refine (basePowAny b _ G0.out h7 N0.out).mono ?_
  rintro e W1 ⟨rfl, hX, hD⟩
  have RZ1 : Hid (W1.heap[w.heap.size + 1]? = some (.cells (psA noPt 4) 84 (0, 0))) := (hX.block _ (lt_row RZ.out) (by omega)).trans RZ.out
  have X1 := hide ((Bex.of (b := b) B0.out).trans hX)
  have D1 := hide hD
  clear hX hD
  go_wp2_with (first
   | (refine wpList_store_row (by rfl) 84 (.tmp 4) (.tmp 12) (by rfl) (w.heap.size + 1) (psA (pwN bpP) 4) (by rfl) (by rfl) 84 _ RZ1.out (sizePw _) (psA_old _ _ _) (psA_all _ _) ?_))
  refine bodyPost_ret (v := .tuple #[.agg (psA (pwN bpP) 4), .bool true]) (results_cell_tmp_row Tryz.results114 _ _ (w.heap.size + 1) 84 _ (0, 0) _ (by rfl) (setRow_heap _ _ _ _ _ _ RZ1.out) underPw4 rfl (sizePw _)) rfl ⟨by rw [HE.out, pofF_B, dcB_B], X1.out.setRow (by omega) _, Or.inr (D1.out.keep (setRow_other _ _ _ _ (by omega)))⟩
 ·
  have hd : decide (m = bcN) = false := decide_eq_false hB
  rw [hd] at heq
  clear hd hB
  go_wp2_with (first
   | (refine wpList_load_row (by rfl) 62 (.tmp 3) (by rfl) w.heap.size (by rfl) 62 (bA m) (0, 0) _ R3.out underCode rfl (bA_size _) ?_)
   | (refine wpList_load_row (by rfl) 62 (.global 7) (by rfl) 7 (by rfl) TT (bA bcN) frr _ HC.out underCode rfl (bA_size _) ?_))
  refine (decodeA m HM.out _ G0.out.gl).mono ?_
  rintro e W1 ⟨rfl, hB1⟩
  have RZ1 : Hid (W1.heap[w.heap.size + 1]? = some (.cells (psA noPt 4) 84 (0, 0))) := row_keep' RZ.out hB1
  have B1 := kTr B0 hB1
  clear hB1
  obtain ⟨p, Ep⟩ : ∃ p, Hid (p = dcP m) := ⟨_, hide rfl⟩
  obtain ⟨ok, Eok⟩ : ∃ p, Hid (p = dcB m) := ⟨_, hide rfl⟩
  rw [← Ep.out, ← Eok.out]
  have Hpo : Hid p.Ok := by rw [Ep.out]; exact dcP_ok m
  go_upto_region 4 with (first
   | (refine wpList_store_row (by rfl) 82 (.tmp 6) (.tmp 16) (by rfl) W1.heap.size (pA p) (by rfl) (by rfl) 82 _ (heap_alloc_new _ _) (pA_size _) (pA_old _ _) (pA_all _) ?_))
  try rw [put_none']
  obtain ⟨g, hg⟩ : ∃ s, s = W1.heap.size := ⟨_, rfl⟩
  generalize hW2 : World.setRow _ _ _ = W2
  have lz := lt_row RZ1.out
  have R6 : Hid (W2.heap[g]? = some (.cells (pA p) 82 (0, 0))) := by rw [← hW2, hg]; exact setRow_heap _ _ _ _ _ _ (heap_alloc_new _ _)
  have RZ2 : Hid (W2.heap[w.heap.size + 1]? = some (.cells (psA noPt 4) 84 (0, 0))) := by rw [← hW2]; exact (setRow_other _ _ _ _ (by omega)).trans ((heap_alloc_old _ _ lz).trans RZ1.out)
  have B2 : Hid (Below w.heap.size w W2) := by rw [← hW2]; exact below_setRow (B1.out.alloc B1.out.size _) B1.out.size _
  rw [← hg]
  clear hW2 hg
  cases ok
  case false =>
   go_wp2_with (first
    | (refine wpList_build_to' (by rfl) 84 _ (by rfl) (psA noPt 4) [] (by kernel_rfl) builtPw0 ?_)
    | (refine wpList_store_row (by rfl) 84 (.tmp 4) (.tmp 20) (by rfl) (w.heap.size + 1) (psA noPt 4) (by rfl) (by rfl) 84 _ RZ2.out (sizePw _) (psA_old _ _ _) (psA_all _ _) ?_))
   refine bodyPost_ret (v := .tuple #[.agg (psA noPt 4), .bool false]) (results_cell_tmp_row Tryz.results114 _ _ (w.heap.size + 1) 84 _ (0, 0) _ (by rfl) (setRow_heap _ _ _ _ _ _ RZ2.out) underPw4 rfl (sizePw _)) rfl ⟨?_, (Bex.of (b := b) B2.out).setRow (by omega) _, HN.out.keep ((setRow_other _ _ _ _ (by omega)).trans (B2.out.block b lb))⟩
   rw [← Eok.out, pofF_no Eok.out.symm]
  case true =>
   go_wp2_with (first
    | (refine wpList_load_row (by rfl) 82 (.tmp 6) (by rfl) g (by rfl) 82 (pA p) (0, 0) _ R6.out Tryz.underlying82 rfl (pA_size _) ?_))
   refine (ptPowA p Hpo.out _).mono ?_
   rintro e W3 ⟨rfl, hB3⟩
   have RZ3 : Hid (W3.heap[w.heap.size + 1]? = some (.cells (psA noPt 4) 84 (0, 0))) := row_keep' RZ2.out hB3
   have B3 := kTr B2 hB3
   clear hB3
   go_wp2_with (first
    | (refine wpList_store_row (by rfl) 84 (.tmp 4) (.tmp 22) (by rfl) (w.heap.size + 1) (psA (pwN p) 4) (by rfl) (by rfl) 84 _ RZ3.out (sizePw _) (psA_old _ _ _) (psA_all _ _) ?_))
   refine bodyPost_ret (v := .tuple #[.agg (psA (pwN p) 4), .bool true]) (results_cell_tmp_row Tryz.results114 _ _ (w.heap.size + 1) 84 _ (0, 0) _ (by rfl) (setRow_heap _ _ _ _ _ _ RZ3.out) underPw4 rfl (sizePw _)) rfl ⟨?_, (Bex.of (b := b) B3.out).setRow (by omega) _, HN.out.keep ((setRow_other _ _ _ _ (by omega)).trans (B3.out.block b lb))⟩
   rw [← Eok.out, pofF_yes Eok.out.symm, ← Ep.out]
end
def pubL (b m : Nat) (f : Nat → Pt) : List Value := .pointer (some ⟨b, 0, none⟩) :: ((leB m 32).map cv ++ psL f 4)
def pubA (b m : Nat) (f : Nat → Pt) : Array Value := (pubL b m f).toArray
def pubZ : Array Value := (Value.pointer none :: ((leB 0 32).map cv ++ psL noPt 4)).toArray
theorem pubL_len (b m : Nat) (f : Nat → Pt) : (pubL b m f).length = 97 := by simp [pubL, leB_length, psL_len]
theorem pubA_len (b m : Nat) (f : Nat → Pt) : (pubA b m f).size = 97 := by simp [pubA, pubL_len]
theorem pubZ_len : pubZ.size = 97 := by simp [pubZ, leB_length, psL_len]
theorem sizePub : (Tryz.prog.info? 153).map (·.size) = some 97 := by kernel_rfl
theorem pubA_size (b m : Nat) (f : Nat → Pt) : (Tryz.prog.info? 153).map (·.size) = some (pubA b m f).size := by rw [pubA_len]; exact sizePub
theorem pubZ_size : (Tryz.prog.info? 153).map (·.size) = some pubZ.size := by rw [pubZ_len]; exact sizePub
theorem pubA_old (b m : Nat) (f : Nat → Pt) : pubZ.size = (pubA b m f).size := by rw [pubA_len, pubZ_len]
theorem psL_all (f : Nat → Pt) (n : Nat) : ∀ v ∈ psL f n, v.oneCell' = true := by
 have h := psA_all f n
 rw [Array.all_eq_true_iff_forall_mem] at h
 intro v hv
 exact h v (by rw [← psA_L] at hv; exact Array.mem_toList_iff.1 hv)
theorem pubA_all (b m : Nat) (f : Nat → Pt) : (pubA b m f).all (·.oneCell') = true := by
 refine all_oneCell_toArray ?_
 intro v hv
 unfold pubL at hv
 rcases List.mem_cons.1 hv with rfl | hv
 · rfl
 rcases List.mem_append.1 hv with hv | hv
 · exact bytes_cell _ v hv
 · exact psL_all f 4 v hv
theorem pubZ_all : pubZ.all (·.oneCell') = true := by
 refine all_oneCell_toArray ?_
 intro v hv
 rcases List.mem_cons.1 hv with rfl | hv
 · rfl
 rcases List.mem_append.1 hv with hv | hv
 · exact bytes_cell _ v hv
 · exact psL_all noPt 4 v hv
theorem zeroPub (w : World) : (zeroValue 153).run Tryz.prog w = .ok (.agg pubZ) w := by kernel_rfl
theorem builtPub0 : Tryz.prog.built 153 [] = some pubZ := by kernel_rfl
theorem builtPub (b m : Nat) (f : Nat → Pt) : Tryz.prog.built 153 [(0, .pointer (some ⟨b, 0, none⟩)), (1, .agg (bA m)), (2, .agg (psA f 4))] = some (pubA b m f) := by kernel_rfl
theorem builtAt (s : ByteArray) (a : Addr) : Tryz.prog.built 173 [(0, .string s), (1, esI a)] = some #[.string s, esI a] := by kernel_rfl
def keyTxt : ByteArray := ⟨#[116, 104, 101, 32, 107, 101, 121]⟩
theorem hrunLoadG {a : Act} {o : Oper} (g : Nat) (ho : o.op = .load 66 (.global g)) (v : Value) (w : World) (h : w.cell? ⟨g, 0, none⟩ = some v) :
  (execOp a.eval o).run Tryz.prog w = .ok (.value v) w := by
 unfold execOp
 simp only [ho]
 go_simp
def pubV (b m : Nat) : Array Value := if dcB m = true then pubA b m (pofF m) else pubZ
def pubE (p : Addr) (m : Nat) : Value := if dcB m = true then .nilIface else atE keyTxt (esI p)
section
attribute [local irreducible] num4A nL pA psA psL pL bA bpP dcP dcB pubA pubZ pubL
set_option maxRecDepth 100000 in
set_option maxHeartbeats 4000000 in
theorem publicOfA (b m : Nat) (hm : m < 115792089237316195423570985008687907853269984665640564039457584007913129639936) (p : Addr) (w : World) (hG : GlB w) (h7 : 13 ≤ b) (hN : BaseAny w b) (hP : SentP w 1 p) (hpb : p.block ≠ b) :
  Calls Tryz.prog 74 #[.pointer (some ⟨b, 0, none⟩), .agg (bA m)] w fun e w' => e = .returned (.tuple #[.agg (pubV b m), pubE p m]) ∧ Bex b w w' ∧ BaseAny w' b := by
 have hz := zeroPub
 have hzp := zeroPw
 have HG := hide hG
 have HN := hide hN
 have lb := hN.lt
 have HM := hide hm
 have HP := hide hP
 clear hG hN hm hP
 go_enter Tryz.func74, Tryz.ntmps74
 go_upto_region 1 with fail
 generalize hW0 : World.alloc _ _ = W0
 have B0 : Hid (Below w.heap.size w W0) := by rw [← hW0]; show Below _ _ _; go_grown
 have R3 : Hid (W0.heap[w.heap.size]? = some (.cells (bA m) 62 (0, 0))) := by rw [← hW0]; exact (heap_alloc_old _ _ (by simp)).trans (heap_alloc_new _ _)
 have Z4 : Hid (W0.heap[w.heap.size + 1]? = some (.cells pubZ 153 (0, 0))) := by rw [← hW0]; exact heap_alloc2_new _ _ _
 clear hW0
 have N0 := hide (HN.out.keep (B0.out.block b lb))
 have G0 := hide (HG.out.keep B0.out)
 have P0 := hide (HP.out.below B0.out)
 clear HN HG
 go_wp2_with (first
  | (refine wpList_load_row (by rfl) 62 (.tmp 3) (by rfl) w.heap.size (by rfl) 62 (bA m) (0, 0) _ R3.out underCode rfl (bA_size _) ?_))
 refine (powersOfAny b m HM.out W0 G0.out h7 N0.out).mono ?_
 rintro e W1 ⟨rfl, hX, hA⟩
 have X1 := hide ((Bex.of (b := b) B0.out).trans hX)
 have A1 := hide hA
 have R3 : Hid (W1.heap[w.heap.size]? = some (.cells (bA m) 62 (0, 0))) := (hX.block _ (lt_row R3.out) (by omega)).trans R3.out
 have Z4 : Hid (W1.heap[w.heap.size + 1]? = some (.cells pubZ 153 (0, 0))) := (hX.block _ (lt_row Z4.out) (by omega)).trans Z4.out
 have P1 := hide (P0.out.bex hX (by omega) hpb)
 clear hX hA N0 G0 P0 B0
 obtain ⟨ok, Eok⟩ : ∃ p, Hid (p = dcB m) := ⟨_, hide rfl⟩
 obtain ⟨F, EF⟩ : ∃ p, Hid (p = pofF m) := ⟨_, hide rfl⟩
 rw [← Eok.out, ← EF.out]
 go_upto_region 2 with (first
  | (refine wpList_store_row (by rfl) 84 (.tmp 6) (.tmp 12) (by rfl) W1.heap.size (psA F 4) (by rfl) (by rfl) 84 _ (heap_alloc_new _ _) (sizePw _) (psA_old _ _ _) (psA_all _ _) ?_))
 try rw [put_none']
 obtain ⟨g6, hg6⟩ : ∃ s, s = W1.heap.size := ⟨_, rfl⟩
 generalize hW2 : World.setRow _ _ _ = W2
 have lz := lt_row Z4.out
 have hg46 : w.heap.size + 1 < g6 := by rw [hg6]; exact lz
 have K2 : Hid (Below W1.heap.size W1 W2) := by rw [← hW2]; exact below_setRow ((Below.refl _ _).alloc (Nat.le_refl _) _) (Nat.le_refl _) _
 have R6 : Hid (W2.heap[g6]? = some (.cells (psA F 4) 84 (0, 0))) := by rw [← hW2, hg6]; exact setRow_heap _ _ _ _ _ _ (heap_alloc_new _ _)
 have R3 := hide (row_keep' R3.out K2.out)
 have Z4 := hide (row_keep' Z4.out K2.out)
 have P2 := hide (P1.out.below K2.out)
 have X2 := hide (X1.out.trans (Bex.of K2.out))
 have A2 := hide (A1.out.keep (K2.out.block b A1.out.lt))
 have gp : Hid (1 < w.heap.size) := World.block_lt_of_cell? w _ HP.out.c
 rw [← hg6]
 clear hW2 hg6 K2 X1 A1 P1 HP lz
 cases ok
 case false =>
  have hgp := gp.out
  go_upto_region 3 with fail
  refine wp_region_held_drew (S := fun w' => w'.cell? ⟨1, 0, none⟩ = some (esI p)) (by kernel_rfl) P2.out.c (fun hHeld => ?_)
  have KV1 : Hid (Below W2.heap.size W2 W2.drew) := (Below.refl _ _).drew
  obtain ⟨V1, hV1⟩ : ∃ V, V = W2.drew := ⟨_, rfl⟩
  rw [← hV1] at hHeld KV1 ⊢
  clear hV1
  refine wpAnyH_take (i := 0) (oi := ⟨some 16, .build 153 #[], 153, "public.go:23", #[], none⟩) (v := .agg pubZ) rfl (by kernel_rfl) (by kernel_rfl) (by kernel_rfl) (fun _ _ _ h => h) (yld_build' (by rfl) _ _ rfl _ _ (by kernel_rfl) builtPub0) hHeld ?_
  simp only [zaP, zsT, zsZ, zsS]
  refine wpAnyH_take (i := 1) (oi := ⟨some 17, .load 66 (.global 1), 66, "public.go:23", #[], none⟩) (v := esI p) rfl (by kernel_rfl) (by kernel_rfl) (by kernel_rfl) (fun _ _ _ h => h) (Or.inl ⟨by rfl, fun v h => hrunLoadG _ rfl _ v h⟩) hHeld ?_
  simp only [zaP, zsT, zsZ, zsS]
  refine wpAnyH_take (i := 2) (oi := ⟨some 18, .build 173 #[(0, .const (.string { data := #[116, 104, 101, 32, 107, 101, 121] })), (1, .tmp 17)], 173, "public.go:23", #[zeD 1], none⟩) (v := .agg #[.string keyTxt, esI p]) rfl (by kernel_rfl) (by kernel_rfl) (by kernel_rfl) (fun _ _ _ h => h) (yld_build' (by rfl) _ _ rfl _ _ (by kernel_rfl) (builtAt keyTxt p)) hHeld ?_
  simp only [zaP, zsT, zsZ, zsS]
  refine wpAnyH_take (i := 3) (oi := ⟨some 19, .makeInterface 173 (.tmp 18), 66, "public.go:23", #[zeD 2, ⟨4, .gcOnly .lateStores⟩], none⟩) (v := atE keyTxt (esI p)) rfl (by kernel_rfl) (by kernel_rfl) (by kernel_rfl) (fun _ _ _ h => h) (Or.inl ⟨by rfl, fun w _ => by unfold atE; go_simp⟩) hHeld ?_
  simp only [zaP, zsT, zsZ, zsS]
  refine wpAnyH_ready (rs := [4]) (by kernel_rfl) (by simp) ?_
  refine AllReadyH.cons (o := ⟨none, .store 153 (.tmp 4) (.tmp 16), 0, "public.go:23", #[zeD 0, zeP 0, ⟨1, .textOnly .lateStores⟩, ⟨2, .textOnly .lateStores⟩, ⟨3, .textOnly .lateStores⟩], none⟩) rfl (fun K hK => ?_) ?_
  ·
   have Z4 := hide (row_below Z4.out KV1.out (lt_row Z4.out))
   refine step_store_row _ (by rfl) 153 (.tmp 4) (.tmp 16) (by rfl) ((w.heap.size + 1)) (pubZ) (by rfl) (by rfl) 153 _ Z4.out pubZ_size rfl pubZ_all ?_
   rw [put_none']
   obtain ⟨V2, hV2⟩ : ∃ V, V = World.setRow V1 (w.heap.size + 1) (pubZ) := ⟨_, rfl⟩
   have Z4 : Hid (V2.heap[(w.heap.size + 1)]? = some (.cells (pubZ) 153 (0, 0))) := by rw [hV2]; exact setRow_heap _ _ _ _ _ _ Z4.out
   have KV2 : Hid (Bex b w V2 ∧ BaseAny V2 b) := by rw [hV2]; exact ⟨(X2.out.trans (Bex.of KV1.out)).setRow (by omega) _, (A2.out.keep (KV1.out.block b A2.out.lt)).keep (setRow_other _ _ _ _ (by omega))⟩
   have SS : Hid _ := hide ((show (World.setRow _ (w.heap.size + 1) pubZ).cell? ⟨1, 0, none⟩ = some (esI p) from (World.cell?_of_block (setRow_other _ _ _ _ (by show 1 ≠ _; omega))).trans (P2.out.below KV1.out).c))
   rw [← hV2] at SS
   rw [← hV2]
   clear hV2
   refine hK.out _ _ ?_ (fun hHeld => ?_)
   · exact SS.out
   clear hK K
   try simp only [zaP, zsT, zsZ, zsS]
   refine wpAnyH_take (i := 5) (oi := ⟨some 5, .assign (.tmp 19), 66, "public.go:23", #[zeD 3, zeC 4, zeP 0, zeP 1, zeP 2, zeP 3, zeP 4], none⟩) (v := atE keyTxt (esI p)) rfl (by kernel_rfl) (by kernel_rfl) (by kernel_rfl) (fun _ _ _ h => h) (Or.inl ⟨by rfl, fun w _ => by go_simp⟩) hHeld ?_
   simp only [zaP, zsT, zsZ, zsS]
   refine wpAnyH_done (by kernel_rfl) ?_ _
   go_wp2_with fail
   refine bodyPost_ret (v := .tuple #[.agg pubZ, atE keyTxt (esI p)]) (results_cell_tmp_row Tryz.results74 _ _ (w.heap.size + 1) 153 _ (0, 0) _ (by rfl) Z4.out Tryz.underlying153 rfl pubZ_size) rfl ⟨?_, KV2.out⟩
   unfold pubV pubE
   rw [← Eok.out, if_neg (by decide), if_neg (by decide)]
  exact AllReadyH.nil
 case true =>
  go_wp2_with (first
   | (refine wpList_load_row (by rfl) 62 (.tmp 3) (by rfl) w.heap.size (by rfl) 62 (bA m) (0, 0) _ R3.out underCode rfl (bA_size _) ?_)
   | (refine wpList_load_row (by rfl) 84 (.tmp 6) (by rfl) g6 (by rfl) 84 (psA F 4) (0, 0) _ R6.out underPw4 rfl (sizePw _) ?_)
   | (refine wpList_build_to' (by rfl) 153 _ (by rfl) (pubA b m F) [(0, .pointer (some ⟨b, 0, none⟩)), (1, .agg (bA m)), (2, .agg (psA F 4))] (by kernel_rfl) (builtPub b m F) ?_)
   | (refine wpList_store_row (by rfl) 153 (.tmp 4) (.tmp 23) (by rfl) (w.heap.size + 1) (pubA b m F) (by rfl) (by rfl) 153 _ Z4.out (pubA_size _ _ _) (pubA_old _ _ _) (pubA_all _ _ _) ?_))
  refine bodyPost_ret (v := .tuple #[.agg (pubA b m F), .nilIface]) (results_cell_tmp_row Tryz.results74 _ _ (w.heap.size + 1) 153 _ (0, 0) _ (by rfl) (setRow_heap _ _ _ _ _ _ Z4.out) Tryz.underlying153 rfl (pubA_size _ _ _)) rfl ⟨?_, X2.out.setRow (by omega) _, A2.out.keep (setRow_other _ _ _ _ (by omega))⟩
  unfold pubV pubE
  rw [← Eok.out, if_pos rfl, if_pos rfl, EF.out]
end
abbrev oPubVer10 : Oper := ⟨some 10, .alloc 82, 0, "public.go:40", #[], none⟩
abbrev oPubVer11 : Oper := ⟨none, .store 82 (.tmp 10) (.tmp 38), 0, "public.go:40", #[zeD 10, zeD 9, zeC 9, zeP 0, zeP 1, zeP 2, zeP 3, zeP 4, zeP 5, zeP 6, zeP 7, zeP 8, zeP 9, zeP 10], none⟩
theorem hrunLoad1 {a : Act} {o : Oper} (x : Operand) (ho : o.op = .load 58 x) (ad : Addr) (hx : a.eval x = .pointer (some ad)) (v : Value) (w : World) (h : w.cell? ad = some v) :
  (execOp a.eval o).run Tryz.prog w = .ok (.value v) w := by
 unfold execOp
 simp only [ho, hx]
 go_simp
theorem hrunBaseTmV {a : Act} {o : Oper} (x y : Operand) (ho : o.op = .call { callee := .value (.func 57), args := #[x, y], argTypes := #[58, 60] }) (v1 v2 : Value) (hx : a.eval x = v1) (hy : a.eval y = v2) (w : World) :
  (execOp a.eval o).run Tryz.prog w = .ok (.enter 57 #[v1, v2]) w := by
 unfold execOp
 simp only [ho]
 subst hx hy
 go_simp
theorem hrunPtNeg {a : Act} {o : Oper} (x : Operand) (ho : o.op = .call { callee := .value (.func 116), args := #[x], argTypes := #[82] }) (v1 : Value) (hx : a.eval x = v1) (w : World) :
  (execOp a.eval o).run Tryz.prog w = .ok (.enter 116 #[v1]) w := by
 unfold execOp
 simp only [ho]
 subst hx
 go_simp
theorem hrunAllocPt {a : Act} {o : Oper} (ho : o.op = .alloc 82) (w : World) :
  (execOp a.eval o).run Tryz.prog w = .ok (.value (.pointer (some ⟨w.heap.size, 0, none⟩))) (w.alloc (.cells (pA p0) 82)) := by
 have hz := zeroP
 unfold execOp
 simp only [ho]
 go_simp
theorem hrunNeq {a : Act} {o : Oper} (x y : Operand) (ho : o.op = .binOp .neq 62 x y 62) (m n : Nat) (hm : m < 115792089237316195423570985008687907853269984665640564039457584007913129639936) (hn : n < 115792089237316195423570985008687907853269984665640564039457584007913129639936) (hx : a.eval x = .agg (bA m)) (hy : a.eval y = .agg (bA n)) (w : World) :
  (execOp a.eval o).run Tryz.prog w = .ok (.value (.bool (!decide (m = n)))) w := by
 have e := eqCode m n hm hn
 unfold execOp
 simp only [ho, hx, hy]
 go_simp
theorem yldCode {ops : Array Oper} {S : World → Prop} {op : Oper} {a : Act} (hw : Region.wanted op (yielded ops a.tmps) = true) (x : Operand) (ho : op.op = .load 62 x)
  (b o n : Nat) (hx : a.eval x = .pointer (some ⟨b, o, none⟩)) (hS : ∀ w, S w → w.rangeAt b o (bL n)) : YieldsIf Tryz.prog ops S op (.agg (bA n)) a :=
 yld_load hw _ x ho b o hx (bL n) (bA n) rfl _ hS underCode rfl (by show _ = some (bL n).length; rw [sizeCode]; simp [bL, leB_length])
theorem ptCodeN (p : Pt) (hp : p.Ok) (c : Nat) (hc : c = cdN p) (w : World) :
  Calls Tryz.prog 58 #[.agg (pA p)] w fun e w' => e = .returned (.agg (bA c)) ∧ Below w.heap.size w w' := by rw [hc]; exact ptCodeA p hp w
theorem pub_c0 {w : World} {g b m : Nat} {f : Nat → Pt} {T : TypeId} {fr : Nat × Nat} (h : w.heap[g]? = some (.cells (pubA b m f) T fr)) : w.cell? ⟨g, 0, none⟩ = some (.pointer (some ⟨b, 0, none⟩)) := by rw [cell_of_row w g 0 _ T _ h]; rfl
theorem pub_r1 {w : World} {g b m : Nat} {f : Nat → Pt} {T : TypeId} {fr : Nat × Nat} (h : w.heap[g]? = some (.cells (pubA b m f) T fr)) : w.rangeAt g 1 (bL m) := by
 intro j v hv
 rw [cell_of_row w g (1 + j) _ T _ h, pubA, List.getElem?_toArray, pubL, Nat.add_comm 1 j, List.getElem?_cons_succ, List.getElem?_append_left (by
  rcases Nat.lt_or_ge j ((leB m 32).map cv).length with k | k
  · exact k
  ·
   have e : (bL m)[j]? = none := List.getElem?_eq_none k
   rw [e] at hv; cases hv)]
 exact hv
theorem pub_r33 {w : World} {g b m : Nat} {f : Nat → Pt} {T : TypeId} {fr : Nat × Nat} (h : w.heap[g]? = some (.cells (pubA b m f) T fr)) : w.rangeAt g 33 (psL f 4) := by
 intro j v hv
 have l32 : ((leB m 32).map cv).length = 32 := by rw [List.length_map, leB_length]
 rw [cell_of_row w g (33 + j) _ T _ h, pubA, List.getElem?_toArray, pubL, show 33 + j = (32 + j) + 1 by omega, List.getElem?_cons_succ, List.getElem?_append_right (by rw [l32]; omega), l32, show 32 + j - 32 = j by omega]
 exact hv
theorem arrCode (b o cap : Nat) (w : World) : (Instr.arrayAt 62 (.slice (some ⟨b, o, none⟩) 32 cap)).run Tryz.prog w = .ok (.pointer (some ⟨b, o, none⟩)) w := by
 simp [Instr.arrayAt, run_underlying underCode]
theorem arr32o (b o cap : Nat) (w : World) : (Instr.arrayAt 61 (.slice (some ⟨b, o, none⟩) 32 cap)).run Tryz.prog w = .ok (.pointer (some ⟨b, o, none⟩)) w := by
 simp [Instr.arrayAt, run_underlying under32]
theorem range_bex {b g o : Nat} {w w' : World} {l : List Value} (h : w.rangeAt g o l) (hx : Bex b w w') (hg : g < w.heap.size) (hb : g ≠ b) : w'.rangeAt g o l := fun j v hv => (World.cell?_of_block (hx.block g hg hb)).trans (h j v hv)
theorem row_half (L : List UInt8) (_ : L.length = 64) {w : World} {b : Nat} {T : TypeId} {fr : Nat × Nat} (hr : w.heap[b]? = some (.cells (L.map cv).toArray T fr)) : w.rangeAt b 0 ((L.take 32).map cv) ∧ w.rangeAt b 32 ((L.drop 32).map cv) := by
 constructor
 ·
  intro j v hv
  rw [Nat.zero_add, cell_of_row w b j _ T _ hr, List.getElem?_toArray]
  rw [List.getElem?_map, List.getElem?_take] at hv
  rw [List.getElem?_map]
  by_cases c : j < 32
  · rw [if_pos c] at hv; exact hv
  · rw [if_neg c] at hv; cases hv
 ·
  intro j v hv
  rw [cell_of_row w b (32 + j) _ T _ hr, List.getElem?_toArray, List.getElem?_map]
  rw [List.getElem?_map, List.getElem?_drop] at hv
  exact hv
theorem half_bA (l : List UInt8) (h : l.length = 32) : (l.map cv).toArray = bA (valLE l) := by
 rw [bA_def, leB_valLE l h]
def sTxt : ByteArray := ⟨#[116, 104, 101, 32, 115, 105, 103, 110, 97, 116, 117, 114, 101, 39, 115, 32, 83]⟩
def sgTxt : ByteArray := ⟨#[116, 104, 101, 32, 115, 105, 103, 110, 97, 116, 117, 114, 101]⟩
noncomputable def pvK (m : Nat) (msg : ByteArray) (L : List UInt8) : Nat := valLE (hashOf (L.take 32 ++ (leB m 32 ++ bytesOf msg))) % Lord
noncomputable def pvC (m : Nat) (msg : ByteArray) (L : List UInt8) : Nat := cdN (addP (mlP (pwN bpP) (valLE (L.drop 32)) 64) (negP (mlP (pofF m) (pvK m msg L) 64)))
noncomputable def pvE (sA gA : Addr) (m : Nat) (msg : ByteArray) (L : List UInt8) : Value :=
 if valLE (L.drop 32) < Lord then (if pvC m msg L = valLE (L.take 32) then .nilIface else atE sgTxt (esI gA)) else atE sTxt (esI sA)
theorem addP_ok (p q : Pt) : (addP p q).Ok := partsP_ok _ _ _ _
theorem codeN_ltP {y : Nat} (hy : y < P) (odd : Bool) : codeN y odd < 115792089237316195423570985008687907853269984665640564039457584007913129639936 := by
 unfold codeN; rw [P_val] at hy; cases odd <;> simp <;> omega
theorem valLE_lt32P (l : List UInt8) (h : l.length = 32) : valLE l < 115792089237316195423570985008687907853269984665640564039457584007913129639936 := by
 have := valLE_lt l
 rw [h] at this
 exact Nat.lt_of_lt_of_le this (by decide)
theorem cdN_lt (p : Pt) : cdN p < 115792089237316195423570985008687907853269984665640564039457584007913129639936 := by
 unfold cdN
 exact codeN_ltP (mP_lt _ _) _
section
attribute [local irreducible] num4A nL pA psA psL pL bA bL bpP dcP dcB pubA pubZ pubL
set_option maxRecDepth 100000 in
set_option maxHeartbeats 4000000 in
theorem pubVerify (b m : Nat) (msg : ByteArray) (L : List UInt8) (hL : L.length = 64) (hmsg : msg.size ≤ maxLen) (hd : dcB m = true) (sA gA : Addr) (w : World) (hG : GlB w) (hK : Tab w) (hO : OrdAt w) (h7 : 13 ≤ b) (hN : BaseAny w b)
  (hS : SentP w 2 sA) (hGs : SentP w 4 gA) (hgb : gA.block ≠ b) :
  Calls Tryz.prog 75 #[.agg (pubA b m (pofF m)), .string msg, .agg (L.map cv).toArray] w fun e w' => e = .returned (pvE sA gA m msg L) ∧ Bex b w w' ∧ BaseAny w' b := by
 have hzc := zeroCode
 have hz4 := zero4W
 have HG := hide hG
 have HK := hide hK
 have HO := hide hO
 have HN := hide hN
 have HSs := hide hS
 have HGs := hide hGs
 have Hm := hide hmsg
 have HL := hide hL
 have HF : Hid (∀ i, i < 4 → (pofF m i).Ok) := fun i hi => pofF_ok m hd i hi
 have lb := hN.lt
 clear hG hK hO hN hS hGs hmsg hL hd
 obtain ⟨F, EF⟩ : ∃ F, Hid (F = pofF m) := ⟨_, hide rfl⟩
 rw [← EF.out] at HF ⊢
 obtain ⟨M, EM⟩ : ∃ M, Hid (M = (L.map cv).toArray) := ⟨_, hide rfl⟩
 rw [← EM.out]
 obtain ⟨R, ER⟩ : ∃ R, Hid (R = valLE (L.take 32)) := ⟨_, hide rfl⟩
 obtain ⟨s, ES⟩ : ∃ R, Hid (R = valLE (L.drop 32)) := ⟨_, hide rfl⟩
 have l1 : (L.take 32).length = 32 := by rw [List.length_take, HL.out]; rfl
 have l2 : (L.drop 32).length = 32 := by rw [List.length_drop, HL.out]
 have EB1 : Hid (((L.take 32).map cv).toArray = bA R) := by show _ = _; rw [ER.out]; exact half_bA _ l1
 have EB2 : Hid (((L.drop 32).map cv).toArray = bA s) := by show _ = _; rw [ES.out]; exact half_bA _ l2
 have HR : Hid (R < 115792089237316195423570985008687907853269984665640564039457584007913129639936) := by rw [ER.out]; exact valLE_lt32P _ l1
 have Hs : Hid (s < 115792089237316195423570985008687907853269984665640564039457584007913129639936) := by rw [ES.out]; exact valLE_lt32P _ l2
 have ELe : Hid (L.take 32 = leB R 32) := by show _ = _; rw [ER.out]; exact (leB_valLE _ l1).symm
 obtain ⟨M1, EM1⟩ : ∃ M, Hid (M = (L.take 32).map cv) := ⟨_, hide rfl⟩
 obtain ⟨M2, EM2⟩ : ∃ M, Hid (M = (L.drop 32).map cv) := ⟨_, hide rfl⟩
 have HM1 : Hid ((Tryz.prog.info? 62).map (·.size) = some M1.length) := by show _ = _; rw [sizeCode, EM1.out, List.length_map, l1]
 have HM2 : Hid ((Tryz.prog.info? 61).map (·.size) = some M2.length) := by show _ = _; rw [size32, EM2.out, List.length_map, l2]
 have EB1' : M1.toArray = bA R := by rw [EM1.out]; exact EB1.out
 have EB2' : M2.toArray = bA s := by rw [EM2.out]; exact EB2.out
 clear l1 l2
 go_enter Tryz.func75, Tryz.ntmps75
 go_upto_region 1 with fail
 generalize hW0 : World.alloc _ _ = W0
 have RP : Hid (W0.heap[w.heap.size]? = some (.cells (pubA b m F) 153 (0, 0))) := by rw [← hW0]; exact heap_alloc2_old _ _ _
 have RL : Hid (W0.heap[w.heap.size + 1]? = some (.cells (L.map cv).toArray 102 (0, 0))) := by rw [← hW0, ← EM.out]; exact heap_alloc2_new _ _ _
 have B0 : Hid (Below w.heap.size w W0) := by rw [← hW0]; show Below _ _ _; go_grown
 clear hW0
 obtain ⟨hr1, hr2⟩ := row_half L HL.out RL.out
 rw [← EM1.out] at hr1
 rw [← EM2.out] at hr2
 have Hr1 := hide hr1
 have Hr2 := hide hr2
 clear hr1 hr2
 have hs1 := slice64_to
 have hs2 := slice64_from
 have ha1 := arrCode
 have ha2 := arr32o
 go_upto_region 2 with (first
  | (refine wpList_load_mid (by rfl) 62 (.tmp 12) (by rfl) (w.heap.size + 1) 0 (by rfl) M1 _ Hr1.out underCode rfl HM1.out ?_; rw [EB1'])
  | (refine wpList_store_row (by rfl) 62 (.tmp 7) (.tmp 13) (by rfl) W0.heap.size (bA R) (by rfl) (by rfl) 62 _ (heap_alloc_new _ _) (bA_size _) (bA_old _ _) (bA_all _) ?_))
 try rw [put_none']
 obtain ⟨g7, hg7⟩ : ∃ s, s = W0.heap.size := ⟨_, rfl⟩
 generalize hW1 : World.setRow _ _ _ = W1
 have hg71 : w.heap.size + 1 < g7 := by rw [hg7]; exact lt_row RL.out
 have K1 : Hid (Below W0.heap.size W0 W1) := by rw [← hW1]; exact below_setRow ((Below.refl _ _).alloc (Nat.le_refl _) _) (Nat.le_refl _) _
 have R7 : Hid (W1.heap[g7]? = some (.cells (bA R) 62 (0, 0))) := by rw [← hW1, hg7]; exact setRow_heap _ _ _ _ _ _ (heap_alloc_new _ _)
 have RP := hide (row_keep' RP.out K1.out)
 have Hr2 := hide (range_below Hr2.out K1.out (lt_row RL.out))
 have B1 : Hid (Below w.heap.size w W1) := B0.out.trans (K1.out.mono B0.out.size)
 rw [← hg7]
 clear hW1 hg7 K1 Hr1 B0 RL
 go_wp2_with (first
  | (refine wpList_load_mid (by rfl) 61 (.tmp 15) (by rfl) (w.heap.size + 1) 32 (by rfl) M2 _ Hr2.out under32 rfl HM2.out ?_; rw [EB2']))
 refine (ofBytesN s Hs.out W1).mono ?_
 rintro e W2 ⟨rfl, hB⟩
 have RP := hide (row_keep' RP.out hB)
 have R7 := hide (row_keep' R7.out hB)
 have B2 := kTr B1 hB
 clear hB B1 Hr2 hs1 hs2 ha1 ha2
 go_upto_region 3 with (first
  | (refine wpList_store_row (by rfl) 60 (.tmp 8) (.tmp 17) (by rfl) W2.heap.size (num4A s) (by rfl) (by rfl) 60 _ (heap_alloc_new _ _) (size4W _) (n4W _ _) (num4A_all _) ?_))
 try rw [put_none']
 obtain ⟨g8, hg8⟩ : ∃ s, s = W2.heap.size := ⟨_, rfl⟩
 generalize hW3 : World.setRow _ _ _ = W3
 have hg87 : g7 < g8 := by rw [hg8]; exact lt_row R7.out
 have K3 : Hid (Below W2.heap.size W2 W3) := by rw [← hW3]; exact below_setRow ((Below.refl _ _).alloc (Nat.le_refl _) _) (Nat.le_refl _) _
 have R8 : Hid (W3.heap[g8]? = some (.cells (num4A s) 60 (0, 0))) := by rw [← hW3, hg8]; exact setRow_heap _ _ _ _ _ _ (heap_alloc_new _ _)
 have RP := hide (row_keep' RP.out K3.out)
 have R7 := hide (row_keep' R7.out K3.out)
 have B3 : Hid (Below w.heap.size w W3) := B2.out.trans (K3.out.mono B2.out.size)
 rw [← hg8]
 clear hW3 hg8 K3 B2
 go_wp2_with (first
  | (refine wpList_load_row (by rfl) 60 (.tmp 8) (by rfl) g8 (by rfl) 60 (num4A s) (0, 0) _ R8.out under4 rfl (size4W _) ?_))
 refine (isA s Hs.out W3 (HO.out.below B3.out HO.out.lt)).mono ?_
 rintro e W4 ⟨rfl, hB⟩
 have RP := hide (row_keep' RP.out hB)
 have R7 := hide (row_keep' R7.out hB)
 have R8 := hide (row_keep' R8.out hB)
 have B4 := kTr B3 hB
 clear hB B3
 by_cases hlt : s < Lord
 case neg =>
  rw [decide_eq_false hlt]
  have cS := (HSs.out.below B4.out).c
  have EE : Hid (pvE sA gA m msg L = atE sTxt (esI sA)) := by show _ = _; unfold pvE; rw [← ES.out, if_neg hlt]
  clear hlt
  have hbA := builtAt sTxt sA
  go_wp2_with (first
   | (refine wpList_build_to' (by rfl) 173 _ (by rfl) #[.string sTxt, esI sA] [(0, .string sTxt), (1, esI sA)] (by kernel_rfl) hbA ?_))
  go_returns
  exact ⟨by rw [EE.out]; rfl, Bex.of B4.out, HN.out.keep (B4.out.block b lb)⟩
 case pos =>
 rw [decide_eq_true hlt]
 have Hlt := hide hlt
 clear hlt
 have r1 := hide (pub_r1 RP.out)
 have bS : Hid ((Tryz.prog.info? 62).map (·.size) = some (bL m).length) := by show _ = _; rw [sizeCode]; simp [bL, leB_length]
 have bLA : (bL m).toArray = bA m := bL_A m
 go_wp2_with (first
  | (refine wpList_load_row (by rfl) 62 (.tmp 7) (by rfl) g7 (by rfl) 62 (bA R) (0, 0) _ R7.out underCode rfl (bA_size _) ?_)
  | (refine wpList_load_mid (by rfl) 62 (.tmp 25) (by rfl) w.heap.size 1 (by rfl) (bL m) _ r1.out underCode rfl bS.out ?_))
 refine (challengeA R m msg Hm.out W4 (HK.out.below B4.out HK.out.lt) (HO.out.below B4.out HO.out.lt)).mono ?_
 rintro e W4b ⟨rfl, hB⟩
 have RP := hide (row_keep' RP.out hB)
 have R7 := hide (row_keep' R7.out hB)
 have R8 := hide (row_keep' R8.out hB)
 have B4b := kTr B4 hB
 clear hB B4 r1 bS bLA
 obtain ⟨k, Ek⟩ : ∃ x, Hid (x = pvK m msg L) := ⟨_, hide rfl⟩
 rw [show valLE (hashOf (leB R 32 ++ (leB m 32 ++ bytesOf msg))) % Lord = k by rw [Ek.out]; unfold pvK; rw [ELe.out]]
 go_upto_region 6 with (first
  | (refine wpList_store_row (by rfl) 60 (.tmp 9) (.tmp 28) (by rfl) W4b.heap.size (num4A k) (by rfl) (by rfl) 60 _ (heap_alloc_new _ _) (size4W _) (n4W _ _) (num4A_all _) ?_))
 try rw [put_none']
 obtain ⟨g9, hg9⟩ : ∃ s, s = W4b.heap.size := ⟨_, rfl⟩
 generalize hW5 : World.setRow _ _ _ = W5
 have hg98 : g8 < g9 := by rw [hg9]; exact lt_row R8.out
 have K5 : Hid (Below W4b.heap.size W4b W5) := by rw [← hW5]; exact below_setRow ((Below.refl _ _).alloc (Nat.le_refl _) _) (Nat.le_refl _) _
 have R9 : Hid (W5.heap[g9]? = some (.cells (num4A k) 60 (0, 0))) := by rw [← hW5, hg9]; exact setRow_heap _ _ _ _ _ _ (heap_alloc_new _ _)
 have RP := hide (row_keep' RP.out K5.out)
 have R7 := hide (row_keep' R7.out K5.out)
 have R8 := hide (row_keep' R8.out K5.out)
 have B5 : Hid (Below w.heap.size w W5) := B4b.out.trans (K5.out.mono B4b.out.size)
 rw [← hg9]
 clear hW5 hg9 K5 B4b
 have G5 := hide (HG.out.keep B5.out)
 have A5 := hide (HN.out.keep (B5.out.block b lb))
 have S5 := hide (HGs.out.below B5.out)
 have X5 := hide (Bex.of (b := b) B5.out)
 have l3 := lt_row RP.out
 have l8 := lt_row R8.out
 have l9 := lt_row R9.out
 have l7 := lt_row R7.out
 clear HG HN HK HO HSs
 have sat6 : ∀ {V : World}, Bex b W5 V → V.cell? ⟨w.heap.size, 0, none⟩ = some (.pointer (some ⟨b, 0, none⟩)) ∧ V.rangeAt g8 0 (nL s) ∧ V.rangeAt w.heap.size 33 (psL F 4) ∧ V.rangeAt g9 0 (nL k) := fun hx =>
  ⟨(World.cell?_of_block (hx.block _ l3 (by show w.heap.size ≠ b; omega))).trans (pub_c0 RP.out), range_bex (rangeN R8.out) hx l8 (by omega), range_bex (pub_r33 RP.out) hx l3 (by omega), range_bex (rangeN R9.out) hx l9 (by omega)⟩
 have satset6 : ∀ {V : World} {g : Nat} {cs : Array Value}, Bex b W5 V → W5.heap.size ≤ g → (V.setRow g cs).cell? ⟨w.heap.size, 0, none⟩ = some (.pointer (some ⟨b, 0, none⟩)) ∧ (V.setRow g cs).rangeAt g8 0 (nL s) ∧ (V.setRow g cs).rangeAt w.heap.size 33 (psL F 4) ∧ (V.setRow g cs).rangeAt g9 0 (nL k) := fun hx hg =>
  ⟨(World.cell?_of_block (setRow_other _ _ _ _ (by show w.heap.size ≠ _; omega))).trans (sat6 hx).1, range_set (sat6 hx).2.1 (by omega), range_set (sat6 hx).2.2.1 (by omega), range_set (sat6 hx).2.2.2 (by omega)⟩
 go_cut [10] from 29 to 38 (fun s' wx => ∃ g, s' = .pointer (some ⟨g, 0, none⟩) ∧ Hid (wx.heap[g]? = some (.cells (pA (addP (mlP (pwN bpP) s 64) (negP (mlP F k 64)))) 82 (0, 0))) ∧ Hid (Bex b W5 wx ∧ BaseAny wx b) ∧ Hid (W5.heap.size ≤ g))
 case first =>
  refine wp_region_held_drew (S := fun w' => w'.cell? ⟨w.heap.size, 0, none⟩ = some (.pointer (some ⟨b, 0, none⟩)) ∧ w'.rangeAt g8 0 (nL s) ∧ w'.rangeAt w.heap.size 33 (psL F 4) ∧ w'.rangeAt g9 0 (nL k)) (by kernel_rfl) ⟨pub_c0 RP.out, rangeN R8.out, pub_r33 RP.out, rangeN R9.out⟩ (fun hHeld => ?_)
  have KV1 : Hid (Bex b W5 W5.drew ∧ BaseAny W5.drew b) := ⟨(Bex.of (Below.refl _ _)).drew, A5.out.keep rfl⟩
  obtain ⟨V1, hV1⟩ : ∃ V, V = W5.drew := ⟨_, rfl⟩
  rw [← hV1] at hHeld KV1 ⊢
  clear hV1
  refine wpAnyH_take (i := 0) (oi := ⟨some 29, .fieldAddr 153 (.tmp 3) 0, 0, "public.go:40", #[], none⟩) (v := .pointer (some ⟨w.heap.size, 0, none⟩)) rfl (by kernel_rfl) (by kernel_rfl) (by kernel_rfl) (fun _ _ _ h => h) (Or.inl ⟨by rfl, fun w _ => by go_simp⟩) hHeld ?_
  simp only [zaP, zsT, zsZ, zsS]
  refine wpAnyH_take (i := 1) (oi := ⟨some 30, .load 58 (.tmp 29), 58, "public.go:40", #[zeD 0], none⟩) (v := .pointer (some ⟨b, 0, none⟩)) rfl (by kernel_rfl) (by kernel_rfl) (by kernel_rfl) (fun _ _ _ h => h) (Or.inl ⟨by rfl, fun v h => hrunLoad1 _ rfl _ rfl _ v h.1⟩) hHeld ?_
  simp only [zaP, zsT, zsZ, zsS]
  refine wpAnyH_take (i := 2) (oi := ⟨some 31, .load 60 (.tmp 8), 60, "public.go:40", #[], none⟩) (v := .agg (num4A s)) rfl (by kernel_rfl) (by kernel_rfl) (by kernel_rfl) (fun _ _ _ h => h) (yldU (by rfl) _ rfl g8 0 s rfl (fun w h => h.2.1)) hHeld ?_
  simp only [zaP, zsT, zsZ, zsS]
  refine wpAnyH_take (i := 4) (oi := ⟨some 33, .fieldAddr 153 (.tmp 3) 2, 0, "public.go:40", #[], none⟩) (v := .pointer (some ⟨w.heap.size, 33, none⟩)) rfl (by kernel_rfl) (by kernel_rfl) (by kernel_rfl) (fun _ _ _ h => h) (Or.inl ⟨by rfl, fun w _ => by go_simp⟩) hHeld ?_
  simp only [zaP, zsT, zsZ, zsS]
  refine wpAnyH_take (i := 5) (oi := ⟨some 34, .load 84 (.tmp 33), 84, "public.go:40", #[zeD 4], none⟩) (v := .agg (psA F 4)) rfl (by kernel_rfl) (by kernel_rfl) (by kernel_rfl) (fun _ _ _ h => h) (yldPw (by rfl) _ rfl (w.heap.size) 33 F rfl (fun w h => h.2.2.1)) hHeld ?_
  simp only [zaP, zsT, zsZ, zsS]
  refine wpAnyH_take (i := 6) (oi := ⟨some 35, .load 60 (.tmp 9), 60, "public.go:40", #[], none⟩) (v := .agg (num4A k)) rfl (by kernel_rfl) (by kernel_rfl) (by kernel_rfl) (fun _ _ _ h => h) (yldU (by rfl) _ rfl g9 0 k rfl (fun w h => h.2.2.2)) hHeld ?_
  simp only [zaP, zsT, zsZ, zsS]
  refine wpAnyH_ready (rs := [3, 10]) (by kernel_rfl) (by simp) ?_
  refine AllReadyH.cons (o := ⟨some 32, .call ⟨.value (.func 57), #[.tmp 30, .tmp 31], #[58, 60]⟩, 82, "public.go:40", #[zeD 1, zeD 2], none⟩) rfl (fun K hK => ?_) ?_
  ·
   refine step_callTo (by rfl) _ _ (hrunBaseTmV _ _ rfl (.pointer (some ⟨b, 0, none⟩)) (.agg (num4A s)) rfl rfl V1) _ (fun V => Bex b V1 V ∧ BaseDone V b) (baseTimesAny b s V1 (G5.out.keepX KV1.out.1 h7) h7 KV1.out.2) (fun V2 HBx => ?_)
   have KV2 : Hid (Bex b W5 V2 ∧ BaseAny V2 b) := ⟨KV1.out.1.trans HBx.1, Or.inr HBx.2⟩
   clear HBx
   refine hK.out _ _ ?_ (fun hHeld => ?_)
   · exact sat6 KV2.out.1
   clear hK K
   try simp only [zaP, zsT, zsZ, zsS]
   refine wpAnyH_ready (rs := [7, 10]) (by kernel_rfl) (by simp) ?_
   refine AllReadyH.cons (o := ⟨some 36, .call ⟨.value (.func 91), #[.tmp 34, .tmp 35], #[84, 60]⟩, 82, "public.go:40", #[zeD 5, zeD 6, zeC 3], none⟩) rfl (fun K hK => ?_) ?_
   ·
    refine step_callTo (by rfl) _ _ (hrunPtTimes _ _ rfl (.agg (psA F 4)) (.agg (num4A k)) rfl rfl V2) _ _ (ptTimesA F HF.out k V2 (G5.out.keepX KV2.out.1 h7).gl) (fun V3 HBx => ?_)
    have KV3 : Hid (Bex b W5 V3 ∧ BaseAny V3 b) := ⟨KV2.out.1.trans (Bex.of HBx), KV2.out.2.keep (HBx.block b KV2.out.2.lt)⟩
    clear HBx
    refine hK.out _ _ ?_ (fun hHeld => ?_)
    · exact sat6 KV3.out.1
    clear hK K
    try simp only [zaP, zsT, zsZ, zsS]
    refine wpAnyH_ready (rs := [8, 10]) (by kernel_rfl) (by simp) ?_
    refine AllReadyH.cons (o := ⟨some 37, .call ⟨.value (.func 116), #[.tmp 36], #[82]⟩, 82, "public.go:40", #[zeD 7, zeC 7], none⟩) rfl (fun K hK => ?_) ?_
    ·
     refine step_callTo (by rfl) _ _ (hrunPtNeg _ rfl (.agg (pA (mlP F k 64))) rfl V3) _ _ (ptNegA (mlP F k 64) (mlP_ok _ k 64) V3) (fun V4 HBx => ?_)
     have KV4 : Hid (Bex b W5 V4 ∧ BaseAny V4 b) := ⟨KV3.out.1.trans (Bex.of HBx), KV3.out.2.keep (HBx.block b KV3.out.2.lt)⟩
     clear HBx
     refine hK.out _ _ ?_ (fun hHeld => ?_)
     · exact sat6 KV4.out.1
     clear hK K
     try simp only [zaP, zsT, zsZ, zsS]
     refine wpAnyH_ready (rs := [9, 10]) (by kernel_rfl) (by simp) ?_
     refine AllReadyH.cons (o := ⟨some 38, .call ⟨.value (.func 79), #[.tmp 32, .tmp 37], #[82, 82]⟩, 82, "public.go:40", #[zeD 3, zeD 8, zeC 8], none⟩) rfl (fun K hK => ?_) ?_
     ·
      refine step_callTo (by rfl) _ _ (hrunPtAdd _ _ rfl (.agg (pA (mlP (pwN bpP) s 64))) (.agg (pA (negP (mlP F k 64)))) rfl rfl V4) _ _ (ptAddG (mlP (pwN bpP) s 64) (negP (mlP F k 64)) (mlP_ok _ s 64) (negP_ok (mlP_ok _ k 64)) V4 (G5.out.keepX KV4.out.1 h7).gl) (fun V5 HBx => ?_)
      have KV5 : Hid (Bex b W5 V5 ∧ BaseAny V5 b) := ⟨KV4.out.1.trans (Bex.of HBx), KV4.out.2.keep (HBx.block b KV4.out.2.lt)⟩
      clear HBx
      refine hK.out _ _ ?_ (fun hHeld => ?_)
      · exact sat6 KV5.out.1
      clear hK K
      try simp only [zaP, zsT, zsZ, zsS]
      refine wpAnyH_ready (rs := [10]) (by kernel_rfl) (by simp) ?_
      refine AllReadyH.cons (o := oPubVer10) rfl (fun K hK => ?_) AllReadyH.nil
      refine step_runTo (w' := V5.alloc (.cells (pA p0) 82)) (by rfl) (.pointer (some ⟨V5.heap.size, 0, none⟩)) (hrunAllocPt rfl V5) ?_
      obtain ⟨gg6, hgg6⟩ : ∃ g, g = V5.heap.size := ⟨_, rfl⟩
      have ZN : Hid ((V5.alloc (.cells (pA p0) 82)).heap[gg6]? = some (.cells (pA p0) 82 (0, 0))) := by rw [hgg6]; exact heap_alloc_new _ _
      have KV6 : Hid (Bex b W5 (V5.alloc (.cells (pA p0) 82)) ∧ BaseAny (V5.alloc (.cells (pA p0) 82)) b) := ⟨KV5.out.1.trans (Bex.of ((Below.refl _ _).alloc (Nat.le_refl _) _)), KV5.out.2.keep (heap_alloc_old _ _ KV5.out.2.lt)⟩
      have GG : Hid (W5.heap.size ≤ gg6) := by rw [hgg6]; exact KV5.out.1.size
      rw [← hgg6]
      obtain ⟨V6, hV6⟩ : ∃ V, V = V5.alloc (.cells (pA p0) 82) := ⟨_, rfl⟩
      rw [← hV6] at ZN KV6 ⊢
      clear hV6 hgg6
      refine hK.out _ _ ?_ (fun hHeld => ?_)
      · exact sat6 KV6.out.1
      clear hK K
      try simp only [zaP, zsT, zsZ, zsS]
      refine wpAnyH_ready (rs := [11]) (by kernel_rfl) (by simp) ?_
      refine AllReadyH.cons (o := oPubVer11) rfl (fun K hK => ?_) AllReadyH.nil
      refine step_store_row _ (by rfl) 82 (.tmp 10) (.tmp 38) (by rfl) (gg6) (pA (addP (mlP (pwN bpP) s 64) (negP (mlP F k 64)))) (by rfl) (by rfl) 82 _ ZN.out (pA_size _) (pA_old _ _) (pA_all _) ?_
      rw [put_none']
      refine hK.out _ _ ?_ (fun hHeld => ?_)
      · exact satset6 KV6.out.1 GG.out
      clear hK K
      try simp only [zaP, zsT, zsZ, zsS]
      refine wpAnyH_done (by kernel_rfl) ?_ _
      go_wp2_with fail
      go_meet
      case rel => exact ⟨gg6, rfl, hide (setRow_heap _ _ _ _ _ _ ZN.out), hide ⟨KV6.out.1.setRow GG.out _, KV6.out.2.keep (setRow_other _ _ _ _ (by have := GG.out; omega))⟩, GG⟩
     refine AllReadyH.cons (o := oPubVer10) rfl (fun K hK => ?_) ?_
     ·
      refine step_runTo (w' := V4.alloc (.cells (pA p0) 82)) (by rfl) (.pointer (some ⟨V4.heap.size, 0, none⟩)) (hrunAllocPt rfl V4) ?_
      obtain ⟨gg8, hgg8⟩ : ∃ g, g = V4.heap.size := ⟨_, rfl⟩
      have ZN : Hid ((V4.alloc (.cells (pA p0) 82)).heap[gg8]? = some (.cells (pA p0) 82 (0, 0))) := by rw [hgg8]; exact heap_alloc_new _ _
      have KV8 : Hid (Bex b W5 (V4.alloc (.cells (pA p0) 82)) ∧ BaseAny (V4.alloc (.cells (pA p0) 82)) b) := ⟨KV4.out.1.trans (Bex.of ((Below.refl _ _).alloc (Nat.le_refl _) _)), KV4.out.2.keep (heap_alloc_old _ _ KV4.out.2.lt)⟩
      have GG : Hid (W5.heap.size ≤ gg8) := by rw [hgg8]; exact KV4.out.1.size
      rw [← hgg8]
      obtain ⟨V8, hV8⟩ : ∃ V, V = V4.alloc (.cells (pA p0) 82) := ⟨_, rfl⟩
      rw [← hV8] at ZN KV8 ⊢
      clear hV8 hgg8
      refine hK.out _ _ ?_ (fun hHeld => ?_)
      · exact sat6 KV8.out.1
      clear hK K
      try simp only [zaP, zsT, zsZ, zsS]
      refine wpAnyH_ready (rs := [9]) (by kernel_rfl) (by simp) ?_
      refine AllReadyH.cons (o := ⟨some 38, .call ⟨.value (.func 79), #[.tmp 32, .tmp 37], #[82, 82]⟩, 82, "public.go:40", #[zeD 3, zeD 8, zeC 8], none⟩) rfl (fun K hK => ?_) AllReadyH.nil
      refine step_callTo (by rfl) _ _ (hrunPtAdd _ _ rfl (.agg (pA (mlP (pwN bpP) s 64))) (.agg (pA (negP (mlP F k 64)))) rfl rfl V8) _ _ (ptAddG (mlP (pwN bpP) s 64) (negP (mlP F k 64)) (mlP_ok _ s 64) (negP_ok (mlP_ok _ k 64)) V8 (G5.out.keepX KV8.out.1 h7).gl) (fun V9 HBx => ?_)
      have KV9 : Hid (Bex b W5 V9 ∧ BaseAny V9 b) := ⟨KV8.out.1.trans (Bex.of HBx), KV8.out.2.keep (HBx.block b KV8.out.2.lt)⟩
      have ZN : Hid (V9.heap[gg8]? = _) := row_keep' ZN.out HBx
      clear HBx
      refine hK.out _ _ ?_ (fun hHeld => ?_)
      · exact sat6 KV9.out.1
      clear hK K
      try simp only [zaP, zsT, zsZ, zsS]
      refine wpAnyH_ready (rs := [11]) (by kernel_rfl) (by simp) ?_
      refine AllReadyH.cons (o := oPubVer11) rfl (fun K hK => ?_) AllReadyH.nil
      refine step_store_row _ (by rfl) 82 (.tmp 10) (.tmp 38) (by rfl) (gg8) (pA (addP (mlP (pwN bpP) s 64) (negP (mlP F k 64)))) (by rfl) (by rfl) 82 _ ZN.out (pA_size _) (pA_old _ _) (pA_all _) ?_
      rw [put_none']
      refine hK.out _ _ ?_ (fun hHeld => ?_)
      · exact satset6 KV9.out.1 GG.out
      clear hK K
      try simp only [zaP, zsT, zsZ, zsS]
      refine wpAnyH_done (by kernel_rfl) ?_ _
      go_wp2_with fail
      go_meet
      case rel => exact ⟨gg8, rfl, hide (setRow_heap _ _ _ _ _ _ ZN.out), hide ⟨KV9.out.1.setRow GG.out _, KV9.out.2.keep (setRow_other _ _ _ _ (by have := GG.out; omega))⟩, GG⟩
     exact AllReadyH.nil
    refine AllReadyH.cons (o := oPubVer10) rfl (fun K hK => ?_) ?_
    ·
     refine step_runTo (w' := V3.alloc (.cells (pA p0) 82)) (by rfl) (.pointer (some ⟨V3.heap.size, 0, none⟩)) (hrunAllocPt rfl V3) ?_
     obtain ⟨gg11, hgg11⟩ : ∃ g, g = V3.heap.size := ⟨_, rfl⟩
     have ZN : Hid ((V3.alloc (.cells (pA p0) 82)).heap[gg11]? = some (.cells (pA p0) 82 (0, 0))) := by rw [hgg11]; exact heap_alloc_new _ _
     have KV11 : Hid (Bex b W5 (V3.alloc (.cells (pA p0) 82)) ∧ BaseAny (V3.alloc (.cells (pA p0) 82)) b) := ⟨KV3.out.1.trans (Bex.of ((Below.refl _ _).alloc (Nat.le_refl _) _)), KV3.out.2.keep (heap_alloc_old _ _ KV3.out.2.lt)⟩
     have GG : Hid (W5.heap.size ≤ gg11) := by rw [hgg11]; exact KV3.out.1.size
     rw [← hgg11]
     obtain ⟨V11, hV11⟩ : ∃ V, V = V3.alloc (.cells (pA p0) 82) := ⟨_, rfl⟩
     rw [← hV11] at ZN KV11 ⊢
     clear hV11 hgg11
     refine hK.out _ _ ?_ (fun hHeld => ?_)
     · exact sat6 KV11.out.1
     clear hK K
     try simp only [zaP, zsT, zsZ, zsS]
     refine wpAnyH_ready (rs := [8]) (by kernel_rfl) (by simp) ?_
     refine AllReadyH.cons (o := ⟨some 37, .call ⟨.value (.func 116), #[.tmp 36], #[82]⟩, 82, "public.go:40", #[zeD 7, zeC 7], none⟩) rfl (fun K hK => ?_) AllReadyH.nil
     refine step_callTo (by rfl) _ _ (hrunPtNeg _ rfl (.agg (pA (mlP F k 64))) rfl V11) _ _ (ptNegA (mlP F k 64) (mlP_ok _ k 64) V11) (fun V12 HBx => ?_)
     have KV12 : Hid (Bex b W5 V12 ∧ BaseAny V12 b) := ⟨KV11.out.1.trans (Bex.of HBx), KV11.out.2.keep (HBx.block b KV11.out.2.lt)⟩
     have ZN : Hid (V12.heap[gg11]? = _) := row_keep' ZN.out HBx
     clear HBx
     refine hK.out _ _ ?_ (fun hHeld => ?_)
     · exact sat6 KV12.out.1
     clear hK K
     try simp only [zaP, zsT, zsZ, zsS]
     refine wpAnyH_ready (rs := [9]) (by kernel_rfl) (by simp) ?_
     refine AllReadyH.cons (o := ⟨some 38, .call ⟨.value (.func 79), #[.tmp 32, .tmp 37], #[82, 82]⟩, 82, "public.go:40", #[zeD 3, zeD 8, zeC 8], none⟩) rfl (fun K hK => ?_) AllReadyH.nil
     refine step_callTo (by rfl) _ _ (hrunPtAdd _ _ rfl (.agg (pA (mlP (pwN bpP) s 64))) (.agg (pA (negP (mlP F k 64)))) rfl rfl V12) _ _ (ptAddG (mlP (pwN bpP) s 64) (negP (mlP F k 64)) (mlP_ok _ s 64) (negP_ok (mlP_ok _ k 64)) V12 (G5.out.keepX KV12.out.1 h7).gl) (fun V13 HBx => ?_)
     have KV13 : Hid (Bex b W5 V13 ∧ BaseAny V13 b) := ⟨KV12.out.1.trans (Bex.of HBx), KV12.out.2.keep (HBx.block b KV12.out.2.lt)⟩
     have ZN : Hid (V13.heap[gg11]? = _) := row_keep' ZN.out HBx
     clear HBx
     refine hK.out _ _ ?_ (fun hHeld => ?_)
     · exact sat6 KV13.out.1
     clear hK K
     try simp only [zaP, zsT, zsZ, zsS]
     refine wpAnyH_ready (rs := [11]) (by kernel_rfl) (by simp) ?_
     refine AllReadyH.cons (o := oPubVer11) rfl (fun K hK => ?_) AllReadyH.nil
     refine step_store_row _ (by rfl) 82 (.tmp 10) (.tmp 38) (by rfl) (gg11) (pA (addP (mlP (pwN bpP) s 64) (negP (mlP F k 64)))) (by rfl) (by rfl) 82 _ ZN.out (pA_size _) (pA_old _ _) (pA_all _) ?_
     rw [put_none']
     refine hK.out _ _ ?_ (fun hHeld => ?_)
     · exact satset6 KV13.out.1 GG.out
     clear hK K
     try simp only [zaP, zsT, zsZ, zsS]
     refine wpAnyH_done (by kernel_rfl) ?_ _
     go_wp2_with fail
     go_meet
     case rel => exact ⟨gg11, rfl, hide (setRow_heap _ _ _ _ _ _ ZN.out), hide ⟨KV13.out.1.setRow GG.out _, KV13.out.2.keep (setRow_other _ _ _ _ (by have := GG.out; omega))⟩, GG⟩
    exact AllReadyH.nil
   refine AllReadyH.cons (o := oPubVer10) rfl (fun K hK => ?_) ?_
   ·
    refine step_runTo (w' := V2.alloc (.cells (pA p0) 82)) (by rfl) (.pointer (some ⟨V2.heap.size, 0, none⟩)) (hrunAllocPt rfl V2) ?_
    obtain ⟨gg15, hgg15⟩ : ∃ g, g = V2.heap.size := ⟨_, rfl⟩
    have ZN : Hid ((V2.alloc (.cells (pA p0) 82)).heap[gg15]? = some (.cells (pA p0) 82 (0, 0))) := by rw [hgg15]; exact heap_alloc_new _ _
    have KV15 : Hid (Bex b W5 (V2.alloc (.cells (pA p0) 82)) ∧ BaseAny (V2.alloc (.cells (pA p0) 82)) b) := ⟨KV2.out.1.trans (Bex.of ((Below.refl _ _).alloc (Nat.le_refl _) _)), KV2.out.2.keep (heap_alloc_old _ _ KV2.out.2.lt)⟩
    have GG : Hid (W5.heap.size ≤ gg15) := by rw [hgg15]; exact KV2.out.1.size
    rw [← hgg15]
    obtain ⟨V15, hV15⟩ : ∃ V, V = V2.alloc (.cells (pA p0) 82) := ⟨_, rfl⟩
    rw [← hV15] at ZN KV15 ⊢
    clear hV15 hgg15
    refine hK.out _ _ ?_ (fun hHeld => ?_)
    · exact sat6 KV15.out.1
    clear hK K
    try simp only [zaP, zsT, zsZ, zsS]
    refine wpAnyH_ready (rs := [7]) (by kernel_rfl) (by simp) ?_
    refine AllReadyH.cons (o := ⟨some 36, .call ⟨.value (.func 91), #[.tmp 34, .tmp 35], #[84, 60]⟩, 82, "public.go:40", #[zeD 5, zeD 6, zeC 3], none⟩) rfl (fun K hK => ?_) AllReadyH.nil
    refine step_callTo (by rfl) _ _ (hrunPtTimes _ _ rfl (.agg (psA F 4)) (.agg (num4A k)) rfl rfl V15) _ _ (ptTimesA F HF.out k V15 (G5.out.keepX KV15.out.1 h7).gl) (fun V16 HBx => ?_)
    have KV16 : Hid (Bex b W5 V16 ∧ BaseAny V16 b) := ⟨KV15.out.1.trans (Bex.of HBx), KV15.out.2.keep (HBx.block b KV15.out.2.lt)⟩
    have ZN : Hid (V16.heap[gg15]? = _) := row_keep' ZN.out HBx
    clear HBx
    refine hK.out _ _ ?_ (fun hHeld => ?_)
    · exact sat6 KV16.out.1
    clear hK K
    try simp only [zaP, zsT, zsZ, zsS]
    refine wpAnyH_ready (rs := [8]) (by kernel_rfl) (by simp) ?_
    refine AllReadyH.cons (o := ⟨some 37, .call ⟨.value (.func 116), #[.tmp 36], #[82]⟩, 82, "public.go:40", #[zeD 7, zeC 7], none⟩) rfl (fun K hK => ?_) AllReadyH.nil
    refine step_callTo (by rfl) _ _ (hrunPtNeg _ rfl (.agg (pA (mlP F k 64))) rfl V16) _ _ (ptNegA (mlP F k 64) (mlP_ok _ k 64) V16) (fun V17 HBx => ?_)
    have KV17 : Hid (Bex b W5 V17 ∧ BaseAny V17 b) := ⟨KV16.out.1.trans (Bex.of HBx), KV16.out.2.keep (HBx.block b KV16.out.2.lt)⟩
    have ZN : Hid (V17.heap[gg15]? = _) := row_keep' ZN.out HBx
    clear HBx
    refine hK.out _ _ ?_ (fun hHeld => ?_)
    · exact sat6 KV17.out.1
    clear hK K
    try simp only [zaP, zsT, zsZ, zsS]
    refine wpAnyH_ready (rs := [9]) (by kernel_rfl) (by simp) ?_
    refine AllReadyH.cons (o := ⟨some 38, .call ⟨.value (.func 79), #[.tmp 32, .tmp 37], #[82, 82]⟩, 82, "public.go:40", #[zeD 3, zeD 8, zeC 8], none⟩) rfl (fun K hK => ?_) AllReadyH.nil
    refine step_callTo (by rfl) _ _ (hrunPtAdd _ _ rfl (.agg (pA (mlP (pwN bpP) s 64))) (.agg (pA (negP (mlP F k 64)))) rfl rfl V17) _ _ (ptAddG (mlP (pwN bpP) s 64) (negP (mlP F k 64)) (mlP_ok _ s 64) (negP_ok (mlP_ok _ k 64)) V17 (G5.out.keepX KV17.out.1 h7).gl) (fun V18 HBx => ?_)
    have KV18 : Hid (Bex b W5 V18 ∧ BaseAny V18 b) := ⟨KV17.out.1.trans (Bex.of HBx), KV17.out.2.keep (HBx.block b KV17.out.2.lt)⟩
    have ZN : Hid (V18.heap[gg15]? = _) := row_keep' ZN.out HBx
    clear HBx
    refine hK.out _ _ ?_ (fun hHeld => ?_)
    · exact sat6 KV18.out.1
    clear hK K
    try simp only [zaP, zsT, zsZ, zsS]
    refine wpAnyH_ready (rs := [11]) (by kernel_rfl) (by simp) ?_
    refine AllReadyH.cons (o := oPubVer11) rfl (fun K hK => ?_) AllReadyH.nil
    refine step_store_row _ (by rfl) 82 (.tmp 10) (.tmp 38) (by rfl) (gg15) (pA (addP (mlP (pwN bpP) s 64) (negP (mlP F k 64)))) (by rfl) (by rfl) 82 _ ZN.out (pA_size _) (pA_old _ _) (pA_all _) ?_
    rw [put_none']
    refine hK.out _ _ ?_ (fun hHeld => ?_)
    · exact satset6 KV18.out.1 GG.out
    clear hK K
    try simp only [zaP, zsT, zsZ, zsS]
    refine wpAnyH_done (by kernel_rfl) ?_ _
    go_wp2_with fail
    go_meet
    case rel => exact ⟨gg15, rfl, hide (setRow_heap _ _ _ _ _ _ ZN.out), hide ⟨KV18.out.1.setRow GG.out _, KV18.out.2.keep (setRow_other _ _ _ _ (by have := GG.out; omega))⟩, GG⟩
   exact AllReadyH.nil
  refine AllReadyH.cons (o := oPubVer10) rfl (fun K hK => ?_) ?_
  ·
   refine step_runTo (w' := V1.alloc (.cells (pA p0) 82)) (by rfl) (.pointer (some ⟨V1.heap.size, 0, none⟩)) (hrunAllocPt rfl V1) ?_
   obtain ⟨gg20, hgg20⟩ : ∃ g, g = V1.heap.size := ⟨_, rfl⟩
   have ZN : Hid ((V1.alloc (.cells (pA p0) 82)).heap[gg20]? = some (.cells (pA p0) 82 (0, 0))) := by rw [hgg20]; exact heap_alloc_new _ _
   have KV20 : Hid (Bex b W5 (V1.alloc (.cells (pA p0) 82)) ∧ BaseAny (V1.alloc (.cells (pA p0) 82)) b) := ⟨KV1.out.1.trans (Bex.of ((Below.refl _ _).alloc (Nat.le_refl _) _)), KV1.out.2.keep (heap_alloc_old _ _ KV1.out.2.lt)⟩
   have GG : Hid (W5.heap.size ≤ gg20) := by rw [hgg20]; exact KV1.out.1.size
   rw [← hgg20]
   obtain ⟨V20, hV20⟩ : ∃ V, V = V1.alloc (.cells (pA p0) 82) := ⟨_, rfl⟩
   rw [← hV20] at ZN KV20 ⊢
   clear hV20 hgg20
   refine hK.out _ _ ?_ (fun hHeld => ?_)
   · exact sat6 KV20.out.1
   clear hK K
   try simp only [zaP, zsT, zsZ, zsS]
   refine wpAnyH_ready (rs := [3]) (by kernel_rfl) (by simp) ?_
   refine AllReadyH.cons (o := ⟨some 32, .call ⟨.value (.func 57), #[.tmp 30, .tmp 31], #[58, 60]⟩, 82, "public.go:40", #[zeD 1, zeD 2], none⟩) rfl (fun K hK => ?_) AllReadyH.nil
   refine step_callTo (by rfl) _ _ (hrunBaseTmV _ _ rfl (.pointer (some ⟨b, 0, none⟩)) (.agg (num4A s)) rfl rfl V20) _ (fun V => Bex b V20 V ∧ BaseDone V b) (baseTimesAny b s V20 (G5.out.keepX KV20.out.1 h7) h7 KV20.out.2) (fun V21 HBx => ?_)
   have KV21 : Hid (Bex b W5 V21 ∧ BaseAny V21 b) := ⟨KV20.out.1.trans HBx.1, Or.inr HBx.2⟩
   have ZN : Hid (V21.heap[gg20]? = _) := (HBx.1.block _ (lt_row ZN.out) (by have := GG.out; omega)).trans ZN.out
   clear HBx
   refine hK.out _ _ ?_ (fun hHeld => ?_)
   · exact sat6 KV21.out.1
   clear hK K
   try simp only [zaP, zsT, zsZ, zsS]
   refine wpAnyH_ready (rs := [7]) (by kernel_rfl) (by simp) ?_
   refine AllReadyH.cons (o := ⟨some 36, .call ⟨.value (.func 91), #[.tmp 34, .tmp 35], #[84, 60]⟩, 82, "public.go:40", #[zeD 5, zeD 6, zeC 3], none⟩) rfl (fun K hK => ?_) AllReadyH.nil
   refine step_callTo (by rfl) _ _ (hrunPtTimes _ _ rfl (.agg (psA F 4)) (.agg (num4A k)) rfl rfl V21) _ _ (ptTimesA F HF.out k V21 (G5.out.keepX KV21.out.1 h7).gl) (fun V22 HBx => ?_)
   have KV22 : Hid (Bex b W5 V22 ∧ BaseAny V22 b) := ⟨KV21.out.1.trans (Bex.of HBx), KV21.out.2.keep (HBx.block b KV21.out.2.lt)⟩
   have ZN : Hid (V22.heap[gg20]? = _) := row_keep' ZN.out HBx
   clear HBx
   refine hK.out _ _ ?_ (fun hHeld => ?_)
   · exact sat6 KV22.out.1
   clear hK K
   try simp only [zaP, zsT, zsZ, zsS]
   refine wpAnyH_ready (rs := [8]) (by kernel_rfl) (by simp) ?_
   refine AllReadyH.cons (o := ⟨some 37, .call ⟨.value (.func 116), #[.tmp 36], #[82]⟩, 82, "public.go:40", #[zeD 7, zeC 7], none⟩) rfl (fun K hK => ?_) AllReadyH.nil
   refine step_callTo (by rfl) _ _ (hrunPtNeg _ rfl (.agg (pA (mlP F k 64))) rfl V22) _ _ (ptNegA (mlP F k 64) (mlP_ok _ k 64) V22) (fun V23 HBx => ?_)
   have KV23 : Hid (Bex b W5 V23 ∧ BaseAny V23 b) := ⟨KV22.out.1.trans (Bex.of HBx), KV22.out.2.keep (HBx.block b KV22.out.2.lt)⟩
   have ZN : Hid (V23.heap[gg20]? = _) := row_keep' ZN.out HBx
   clear HBx
   refine hK.out _ _ ?_ (fun hHeld => ?_)
   · exact sat6 KV23.out.1
   clear hK K
   try simp only [zaP, zsT, zsZ, zsS]
   refine wpAnyH_ready (rs := [9]) (by kernel_rfl) (by simp) ?_
   refine AllReadyH.cons (o := ⟨some 38, .call ⟨.value (.func 79), #[.tmp 32, .tmp 37], #[82, 82]⟩, 82, "public.go:40", #[zeD 3, zeD 8, zeC 8], none⟩) rfl (fun K hK => ?_) AllReadyH.nil
   refine step_callTo (by rfl) _ _ (hrunPtAdd _ _ rfl (.agg (pA (mlP (pwN bpP) s 64))) (.agg (pA (negP (mlP F k 64)))) rfl rfl V23) _ _ (ptAddG (mlP (pwN bpP) s 64) (negP (mlP F k 64)) (mlP_ok _ s 64) (negP_ok (mlP_ok _ k 64)) V23 (G5.out.keepX KV23.out.1 h7).gl) (fun V24 HBx => ?_)
   have KV24 : Hid (Bex b W5 V24 ∧ BaseAny V24 b) := ⟨KV23.out.1.trans (Bex.of HBx), KV23.out.2.keep (HBx.block b KV23.out.2.lt)⟩
   have ZN : Hid (V24.heap[gg20]? = _) := row_keep' ZN.out HBx
   clear HBx
   refine hK.out _ _ ?_ (fun hHeld => ?_)
   · exact sat6 KV24.out.1
   clear hK K
   try simp only [zaP, zsT, zsZ, zsS]
   refine wpAnyH_ready (rs := [11]) (by kernel_rfl) (by simp) ?_
   refine AllReadyH.cons (o := oPubVer11) rfl (fun K hK => ?_) AllReadyH.nil
   refine step_store_row _ (by rfl) 82 (.tmp 10) (.tmp 38) (by rfl) (gg20) (pA (addP (mlP (pwN bpP) s 64) (negP (mlP F k 64)))) (by rfl) (by rfl) 82 _ ZN.out (pA_size _) (pA_old _ _) (pA_all _) ?_
   rw [put_none']
   refine hK.out _ _ ?_ (fun hHeld => ?_)
   · exact satset6 KV24.out.1 GG.out
   clear hK K
   try simp only [zaP, zsT, zsZ, zsS]
   refine wpAnyH_done (by kernel_rfl) ?_ _
   go_wp2_with fail
   go_meet
   case rel => exact ⟨gg20, rfl, hide (setRow_heap _ _ _ _ _ _ ZN.out), hide ⟨KV24.out.1.setRow GG.out _, KV24.out.2.keep (setRow_other _ _ _ _ (by have := GG.out; omega))⟩, GG⟩
  exact AllReadyH.nil
 case rest =>
  obtain ⟨g10, rfl, R10, X6, HGe⟩ := hcut
  obtain ⟨W6, hW6⟩ : ∃ W, W = wc := ⟨_, rfl⟩
  rw [← hW6] at R10 X6 ⊢
  clear hW6
  have R7 : Hid (W6.heap[g7]? = some (.cells (bA R) 62 (0, 0))) := (X6.out.1.block _ l7 (by omega)).trans R7.out
  have S6 := hide (S5.out.bex X6.out.1 (by omega) hgb)
  have X6b := hide (X5.out.trans X6.out.1)
  have A6 := hide X6.out.2
  clear X6 sat6 satset6 R8 R9 RP S5 X5 A5 G5
  obtain ⟨q, Eq⟩ : ∃ x, Hid (x = addP (mlP (pwN bpP) s 64) (negP (mlP F k 64))) := ⟨_, hide rfl⟩
  have Hq : Hid q.Ok := by rw [Eq.out]; exact addP_ok _ _
  rw [← Eq.out] at R10
  obtain ⟨c, Ec⟩ : ∃ x, Hid (x = cdN q) := ⟨_, hide rfl⟩
  have Hc : Hid (c < 115792089237316195423570985008687907853269984665640564039457584007913129639936) := by rw [Ec.out]; exact cdN_lt _
  have EC : Hid (c = pvC m msg L) := by show _ = _; rw [Ec.out, Eq.out, ES.out, EF.out, Ek.out]; rfl
  go_upto_region 7 with fail
  refine wp_region_held_drew (S := fun w' => w'.rangeAt g10 0 (pL q) ∧ w'.rangeAt g7 0 (bL R)) (by kernel_rfl) ⟨rangePt R10.out, rangeB R7.out⟩ (fun hHeld => ?_)
  have KV1 : Hid (Below W6.heap.size W6 W6.drew) := (Below.refl _ _).drew
  obtain ⟨V1, hV1⟩ : ∃ V, V = W6.drew := ⟨_, rfl⟩
  rw [← hV1] at hHeld KV1 ⊢
  clear hV1
  refine wpAnyH_take (i := 0) (oi := ⟨some 39, .load 82 (.tmp 10), 82, "public.go:41", #[], none⟩) (v := .agg (pA q)) rfl (by kernel_rfl) (by kernel_rfl) (by kernel_rfl) (fun _ _ _ h => h) (yldP (by rfl) _ rfl g10 0 q rfl (fun w h => h.1)) hHeld ?_
  simp only [zaP, zsT, zsZ, zsS]
  refine wpAnyH_take (i := 2) (oi := ⟨some 41, .load 62 (.tmp 7), 62, "public.go:41", #[], none⟩) (v := .agg (bA R)) rfl (by kernel_rfl) (by kernel_rfl) (by kernel_rfl) (fun _ _ _ h => h) (yldCode (by rfl) _ rfl g7 0 R rfl (fun w h => h.2)) hHeld ?_
  simp only [zaP, zsT, zsZ, zsS]
  refine wpAnyH_ready (rs := [1]) (by kernel_rfl) (by simp) ?_
  refine AllReadyH.cons (o := ⟨some 40, .call ⟨.value (.func 58), #[.tmp 39], #[82]⟩, 62, "public.go:41", #[zeD 0], none⟩) rfl (fun K hK => ?_) AllReadyH.nil
  refine step_callTo (by rfl) _ _ (hrunPtCode _ rfl (.agg (pA q)) rfl V1) _ _ (ptCodeN q Hq.out c Ec.out V1) (fun V2 HBx => ?_)
  have KV2 := kTr KV1 HBx
  clear HBx
  refine hK.out _ _ ?_ (fun hHeld => ?_)
  · exact ⟨range_below (rangePt R10.out) KV2.out (lt_row R10.out), range_below (rangeB R7.out) KV2.out (lt_row R7.out)⟩
  clear hK K
  try simp only [zaP, zsT, zsZ, zsS]
  refine wpAnyH_take (i := 3) (oi := ⟨some 42, .binOp .neq 62 (.tmp 40) (.tmp 41) 62, 4, "public.go:41", #[zeD 1, zeD 2], none⟩) (v := .bool (!decide (c = R))) rfl (by kernel_rfl) (by kernel_rfl) (by kernel_rfl) (fun _ _ _ h => h) (Or.inl ⟨by rfl, fun v _ => hrunNeq _ _ rfl c R Hc.out HR.out rfl rfl v⟩) hHeld ?_
  simp only [zaP, zsT, zsZ, zsS]
  refine wpAnyH_done (by kernel_rfl) ?_ _
  have KF : Hid (Below W6.heap.size W6 V2) := KV2
  obtain ⟨W7, hW7⟩ : ∃ W, W = V2 := ⟨_, rfl⟩
  rw [← hW7] at KF ⊢
  clear hW7
  have X7 := hide (X6b.out.trans (Bex.of KF.out))
  have A7 := hide (A6.out.keep (KF.out.block b A6.out.lt))
  by_cases hc : c = R
  ·
   rw [decide_eq_true hc]
   have EE : Hid (pvE sA gA m msg L = .nilIface) := by show _ = _; unfold pvE; rw [← ES.out, if_pos Hlt.out, ← EC.out, ← ER.out, if_pos hc]
   clear hc
   go_wp2_with fail
   go_returns
   exact ⟨by rw [EE.out]; rfl, X7.out, A7.out⟩
  ·
   rw [decide_eq_false hc]
   have EE : Hid (pvE sA gA m msg L = atE sgTxt (esI gA)) := by show _ = _; unfold pvE; rw [← ES.out, if_pos Hlt.out, ← EC.out, ← ER.out, if_neg hc]
   clear hc
   have cG := (S6.out.below KF.out).c
   have hbA := builtAt sgTxt gA
   go_wp2_with (first
    | (refine wpList_build_to' (by rfl) 173 _ (by rfl) #[.string sgTxt, esI gA] [(0, .string sgTxt), (1, esI gA)] (by kernel_rfl) hbA ?_))
   go_returns
   exact ⟨by rw [EE.out]; rfl, X7.out, A7.out⟩
end
end Go.Proofs.YtccgfabojbjmjaaGreatDoor
