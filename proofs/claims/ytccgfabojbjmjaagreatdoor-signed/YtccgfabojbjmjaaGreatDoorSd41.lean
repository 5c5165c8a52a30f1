import Derived.Test.YtccgfabojbjmjaaGreatDoorSd40
namespace Go.Proofs.YtccgfabojbjmjaaGreatDoor
open Go.RowKit
section
theorem eq_es (a b : Addr) (w : World) (ha : ∃ c t, w.heap[a.block]? = some (.cells c t (0, 0))) (hb : ∃ c t, w.heap[b.block]? = some (.cells c t (0, 0))) :
  (binOp .eql 66 (.iface 282 (.pointer (some a))) (.iface 282 (.pointer (some b)))).run Tryz.prog w = .ok (.bool (decide (a = b))) w := by
 obtain ⟨i, hi, hcmp⟩ := Option.map_eq_some_iff.1 isCompE
 obtain ⟨j, hj, hjs⟩ := Option.map_eq_some_iff.1 isSizeE
 by_cases h : a = b
 ·
  subst h
  rw [decide_eq_true rfl]
  exact run_eql_iface_ptr_same (P := Tryz.prog) w a Tryz.underlying66 Tryz.underlying282 hi hcmp hj
 ·
  rw [decide_eq_false h]
  obtain ⟨ca, ta, ha⟩ := ha
  obtain ⟨cb, tb, hb⟩ := hb
  exact run_eql_iface_ptr_other (P := Tryz.prog) w Tryz.underlying66 Tryz.underlying282 hi hcmp hj (by rw [hjs]; decide) h ha hb
theorem blk_keep {a : Addr} {w w' : World} (h : ∃ c t, w.heap[a.block]? = some (.cells c t (0, 0))) (hb : Below w.heap.size w w') : ∃ c t, w'.heap[a.block]? = some (.cells c t (0, 0)) := by
 obtain ⟨c, t, e⟩ := h
 exact ⟨c, t, (hb.block _ (lt_row e)).trans e⟩
set_option maxRecDepth 100000 in
set_option maxHeartbeats 1600000 in
theorem isL_es1 (p1 : ByteArray) (a b : Addr) (w : World) (ha : ∃ c t, w.heap[a.block]? = some (.cells c t (0, 0))) (hb : ∃ c t, w.heap[b.block]? = some (.cells c t (0, 0))) :
  Calls Tryz.prog 101 #[atE p1 (esI a), esI b, .bool true] w fun e w' => e = .returned (.bool (decide (a = b))) ∧ Below w.heap.size w w' := by
 have HA := hide ha
 have HB := hide hb
 clear ha hb
 have nI := noIsAt
 have uA := hasUnwrapAt
 have nE := noIsEs
 have uE := noUnEs
 have vE := noUnsEs
 have hty := fun (v u : Value) (W : World) => run_eql_iface_types (P := Tryz.prog) 173 282 v u Tryz.underlying66 (by decide) W
 unfold atE
 rw [show esI b = .iface 282 (.pointer (some b)) from rfl]
 go_enter Tryz.func101, Tryz.ntmps101
 go_wp2_with fail
 have B2 : Hid (Below w.heap.size w w) := Below.refl _ _
 refine wp_loop_rounds 2 ?_
 rw [rounds_succ]
 go_wp2_with fail
 refine (unwrap_any p1 (esI a) _).mono ?_
 rintro e W1 ⟨rfl, hB⟩
 have B1 := kTr B2 hB
 clear hB B2
 unfold esI
 go_wp2_with fail
 have hq := eq_es a b W1 (blk_keep HA.out B1.out) (blk_keep HB.out B1.out)
 rw [rounds_succ]
 clear hty
 by_cases h : a = b
 ·
  rw [decide_eq_true h] at hq
  have H := hide h
  clear h
  go_wp2_with fail
  go_ret
  exact ⟨by rw [decide_eq_true H.out]; rfl, B1.out⟩
 ·
  rw [decide_eq_false h] at hq
  have H := hide h
  clear h
  go_wp2_with fail
  go_ret
  exact ⟨by rw [decide_eq_false H.out]; rfl, B1.out⟩
set_option maxRecDepth 100000 in
set_option maxHeartbeats 1600000 in
theorem is_es1 (p1 : ByteArray) (a b : Addr) (w : World) (ha : ∃ c t, w.heap[a.block]? = some (.cells c t (0, 0))) (hb : ∃ c t, w.heap[b.block]? = some (.cells c t (0, 0))) :
  Calls Tryz.prog 60 #[atE p1 (esI a), esI b] w fun e w' => e = .returned (.bool (decide (a = b))) ∧ Below w.heap.size w w' := by
 have HA := hide ha
 have HB := hide hb
 clear ha hb
 have ht := typeOf_any
 have hcm := cmp_es
 obtain ⟨E, HE⟩ : ∃ E, Hid (E = Value.agg #[.string p1, esI a]) := ⟨_, rfl⟩
 rw [show atE p1 (esI a) = .iface 173 E by rw [HE.out]; rfl, show esI b = .iface 282 (.pointer (some b)) from rfl]
 go_enter Tryz.func60, Tryz.ntmps60
 go_wp2_with fail
 rw [HE.out]
 refine (isL_es1 p1 a b w HA.out HB.out).mono ?_
 rintro e W ⟨rfl, hB⟩
 have BW := hide hB
 clear hB
 go_wp2_with fail
 go_ret
 exact ⟨rfl, BW.out⟩
structure SentP (w : World) (g : Nat) (a : Addr) : Prop where
 c : w.cell? ⟨g, 0, none⟩ = some (esI a)
 b : ∃ c t, w.heap[a.block]? = some (.cells c t (0, 0))
theorem SentP.below {w w' : World} {g : Nat} {a : Addr} (h : SentP w g a) (hb : Below w.heap.size w w') : SentP w' g a :=
 ⟨(hb.cell (World.block_lt_of_cell? w _ h.c)).trans h.c, blk_keep h.b hb⟩
structure Sents (w : World) (k p s g : Addr) : Prop where
 hE : w.cell? ⟨3, 0, none⟩ = some (rtV 66)
 fk : SentP w 0 k
 fp : SentP w 1 p
 fs : SentP w 2 s
 fg : SentP w 4 g
 kp : p ≠ k
 ks : s ≠ k
 ps : s ≠ p
 gk : g ≠ k
 gp : g ≠ p
 gs : g ≠ s
theorem SentP.bex {w w' : World} {g b : Nat} {a : Addr} (h : SentP w g a) (hx : Bex b w w') (hg : g ≠ b) (ha : a.block ≠ b) : SentP w' g a := by
 obtain ⟨c, t, e⟩ := h.b
 exact ⟨(World.cell?_of_block (hx.block g (World.block_lt_of_cell? w _ h.c) hg)).trans h.c, c, t, (hx.block _ (lt_row e) ha).trans e⟩
theorem Sents.below {w w' : World} {k p s g : Addr} (h : Sents w k p s g) (hb : Below w.heap.size w w') : Sents w' k p s g :=
 ⟨(hb.cell (World.block_lt_of_cell? w _ h.hE)).trans h.hE, h.fk.below hb, h.fp.below hb, h.fs.below hb, h.fg.below hb, h.kp, h.ks, h.ps, h.gk, h.gp, h.gs⟩
def esC (k p s a : Addr) : Int := if a = k then 12 else if a = p then 2 else if a = s then 3 else 4
set_option maxRecDepth 100000 in
set_option maxHeartbeats 1600000 in
theorem codeOf_es1 (p1 : ByteArray) (a : Addr) (w : World) (k p s g : Addr) (hS : Sents w k p s g) (ha : ∃ c t, w.heap[a.block]? = some (.cells c t (0, 0))) :
  Calls Tryz.prog 30 #[atE p1 (esI a)] w fun e w' => e = .returned (.int .i64 (esC k p s a)) ∧ Below w.heap.size w w' := by
 have h1 := zeroSz
 have h2 := zeroIm
 have HS := hide hS
 have HA := hide ha
 clear hS ha
 obtain ⟨E, HE⟩ : ∃ E, Hid (E = Value.agg #[.string p1, esI a]) := ⟨_, rfl⟩
 have HW : Hid (atE p1 (esI a) = .iface 173 E) := by show _ = _; rw [HE.out]; rfl
 rw [HW.out]
 go_enter Tryz.func30, Tryz.ntmps30
 go_upto_region 5 with fail
 generalize hW0 : World.alloc _ _ = W0
 have B0 : Hid (Below w.heap.size w W0) := by rw [← hW0]; show Below _ _ _; go_grown
 clear hW0
 go_wp2_with fail
 refine (as_no_sz E w.heap.size W0 (HS.out.below B0.out).hE (fun q W => by rw [← HW.out]; exact asL_sz_es1 p1 a w.heap.size q W)).mono ?_
 rintro e W1 ⟨rfl, hB⟩
 have B1 := kTr B0 hB
 clear hB B0
 go_wp2_with fail
 refine (as_no_im E (w.heap.size + 1) W1 (HS.out.below B1.out).hE (fun q W => by rw [← HW.out]; exact asL_im_es1 p1 a (w.heap.size + 1) q W)).mono ?_
 rintro e W2 ⟨rfl, hB⟩
 have B2 := kTr B1 hB
 clear hB B1
 have S2 := hide (HS.out.below B2.out)
 have ck := S2.out.fk.c
 go_wp2_with fail
 rw [← HW.out]
 refine (is_es1 p1 a k W2 (blk_keep HA.out B2.out) S2.out.fk.b).mono ?_
 rintro e W3 ⟨rfl, hB⟩
 have B3 := kTr B2 hB
 clear hB B2 ck S2
 rw [HW.out]
 by_cases hk : a = k
 ·
  rw [decide_eq_true hk]
  have EC : Hid (esC k p s a = 12) := by show _ = _; unfold esC; rw [if_pos hk]
  clear hk
  go_wp2_with fail
  go_ret
  exact ⟨by rw [EC.out]; rfl, B3.out⟩
 rw [decide_eq_false hk]
 have Hk := hide hk
 clear hk
 have S3 := hide (HS.out.below B3.out)
 have cp := S3.out.fp.c
 go_wp2_with fail
 rw [← HW.out]
 refine (is_es1 p1 a p W3 (blk_keep HA.out B3.out) S3.out.fp.b).mono ?_
 rintro e W4 ⟨rfl, hB⟩
 have B4 := kTr B3 hB
 clear hB B3 cp S3
 rw [HW.out]
 by_cases hp : a = p
 ·
  rw [decide_eq_true hp]
  have EC : Hid (esC k p s a = 2) := by show _ = _; unfold esC; rw [if_neg Hk.out, if_pos hp]
  clear hp
  go_wp2_with fail
  go_ret
  exact ⟨by rw [EC.out]; rfl, B4.out⟩
 rw [decide_eq_false hp]
 have Hp := hide hp
 clear hp
 have S4 := hide (HS.out.below B4.out)
 have cs := S4.out.fs.c
 go_wp2_with fail
 rw [← HW.out]
 refine (is_es1 p1 a s W4 (blk_keep HA.out B4.out) S4.out.fs.b).mono ?_
 rintro e W5 ⟨rfl, hB⟩
 have B5 := kTr B4 hB
 clear hB B4 cs S4
 rw [HW.out]
 by_cases hs : a = s
 ·
  rw [decide_eq_true hs]
  have EC : Hid (esC k p s a = 3) := by show _ = _; unfold esC; rw [if_neg Hk.out, if_neg Hp.out, if_pos hs]
  clear hs
  go_wp2_with fail
  go_ret
  exact ⟨by rw [EC.out]; rfl, B5.out⟩
 rw [decide_eq_false hs]
 have EC : Hid (esC k p s a = 4) := by show _ = _; unfold esC; rw [if_neg Hk.out, if_neg Hp.out, if_neg hs]
 clear hs
 go_wp2_with fail
 go_ret
 exact ⟨by rw [EC.out]; rfl, B5.out⟩
end
end Go.Proofs.YtccgfabojbjmjaaGreatDoor
