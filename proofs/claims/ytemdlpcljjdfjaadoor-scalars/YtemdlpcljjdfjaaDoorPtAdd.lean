import Derived.Test.YtemdlpcljjdfjaaDoorMan3
/- curve: Point.Add (genptadd.py). -/
namespace Go.Proofs.YtemdlpcljjdfjaaDoor
open Go.RowKit
section
attribute [local irreducible] num4A nL pA
set_option maxRecDepth 100000 in
set_option maxHeartbeats 4000000 in
theorem ptAddA (p q : Pt) (hp : p.Ok) (hq : q.Ok) (w : World) (TT : TypeId) (frr : Nat × Nat) (hG : w.heap[0]? = some (.cells (num4A tdN) TT frr)) :
    Calls Tryd.prog 24 #[.agg (pA p), .agg (pA q)] w fun e w' => e = .returned (.agg (pA (addP p q))) ∧ Below w.heap.size w w' := by
  have hz := zeroE
  have hzp := zeroP
  have Hp := hide hp
  have Hq := hide hq
  obtain ⟨td, Etd⟩ : ∃ t, Hid (t = tdN) := ⟨_, rfl⟩
  have Htd : Hid (td < P) := by rw [Etd.out]; exact tdN_lt
  rw [← Etd.out] at hG
  have HG := hide hG
  have lG := lt_row hG
  clear hp hq hG
  go_enter Tryd.func24, Tryd.ntmps24
  go_wp2_with fail
  obtain ⟨W0, hW0⟩ : ∃ W, W = ((w.alloc (.cells (pA p) 44)).alloc (.cells (pA q) 44)).alloc (.cells (pA p0) 44) := ⟨_, rfl⟩
  have RP : Hid (W0.heap[w.heap.size]? = some (.cells (pA p) 44 (0, 0))) := by rw [hW0]; exact heap3_0 _ _ _ _
  have RQ : Hid (W0.heap[w.heap.size + 1]? = some (.cells (pA q) 44 (0, 0))) := by rw [hW0]; exact heap3_1 _ _ _ _
  have RZ : Hid (W0.heap[w.heap.size + 2]? = some (.cells (pA p0) 44 (0, 0))) := by rw [hW0]; exact heap3_2 _ _ _ _
  have BL : Hid (Below w.heap.size w W0) := by rw [hW0]; show Below _ _ _; go_grown
  have RG : Hid (W0.heap[0]? = some (.cells (num4A td) TT frr)) := row_below HG.out BL.out lG
  rw [← hW0]
  clear hW0 HG
  go_cut [5] from 9 to 19 (fun s wx => ∃ g, s = .pointer (some ⟨g, 0, none⟩) ∧ Hid (W0.heap.size ≤ g) ∧ Hid (wx.heap[g]? = some (.cells (num4A (mP (sP p.y p.x) (sP q.y q.x))) 42 (0, 0))) ∧ Hid (Below W0.heap.size W0 wx))
  case first =>
    refine wp_region_held_drew (S := fun w' => w'.rangeAt (w.heap.size) 4 (nL p.y) ∧ w'.rangeAt (w.heap.size) 0 (nL p.x) ∧ w'.rangeAt (w.heap.size + 1) 4 (nL q.y) ∧ w'.rangeAt (w.heap.size + 1) 0 (nL q.x)) (by kernel_rfl) (by exact ⟨(rangeP RP.out).2.1, (rangeP RP.out).1, (rangeP RQ.out).2.1, (rangeP RQ.out).1⟩) (fun hHeld => ?_)
    obtain ⟨V1, hV1⟩ : ∃ V, V = W0.drew := ⟨_, rfl⟩
    rw [← hV1] at hHeld ⊢
    have KV1 : Hid (Below W0.heap.size W0 V1) := by rw [hV1]; exact (Below.refl _ _).drew
    clear hV1
    refine wpAnyH_take (i := 0) (oi := { dst := some 9, op := Go.Op.fieldAddr 44 (Go.Operand.tmp 2) 1, type := 0, pos := "point.go:75", after := #[], guard := none }) (v := .pointer (some ⟨w.heap.size, 4, none⟩)) rfl (by kernel_rfl) (by kernel_rfl) (by kernel_rfl) (fun _ _ _ h => h) (Or.inl ⟨by rfl, fun w _ => by go_simp⟩) hHeld ?_
    simp only [Act.put, List.setIfInBounds_toArray, List.set_cons_zero, List.set_cons_succ]
    refine wpAnyH_take (i := 1) (oi := { dst := some 10, op := Go.Op.load 42 (Go.Operand.tmp 9), type := 42, pos := "point.go:75", after := #[{ on := 0, ground := Go.Ground.data }], guard := none }) (v := .agg (num4A p.y)) rfl (by kernel_rfl) (by kernel_rfl) (by kernel_rfl) (fun _ _ _ h => h) (yldN (by rfl) _ rfl (w.heap.size) 4 p.y rfl (fun w h => h.1)) hHeld ?_
    simp only [Act.put, List.setIfInBounds_toArray, List.set_cons_zero, List.set_cons_succ]
    refine wpAnyH_take (i := 2) (oi := { dst := some 11, op := Go.Op.fieldAddr 44 (Go.Operand.tmp 2) 0, type := 0, pos := "point.go:75", after := #[], guard := none }) (v := .pointer (some ⟨w.heap.size, 0, none⟩)) rfl (by kernel_rfl) (by kernel_rfl) (by kernel_rfl) (fun _ _ _ h => h) (Or.inl ⟨by rfl, fun w _ => by go_simp⟩) hHeld ?_
    simp only [Act.put, List.setIfInBounds_toArray, List.set_cons_zero, List.set_cons_succ]
    refine wpAnyH_take (i := 3) (oi := { dst := some 12, op := Go.Op.load 42 (Go.Operand.tmp 11), type := 42, pos := "point.go:75", after := #[{ on := 2, ground := Go.Ground.data }], guard := none }) (v := .agg (num4A p.x)) rfl (by kernel_rfl) (by kernel_rfl) (by kernel_rfl) (fun _ _ _ h => h) (yldN (by rfl) _ rfl (w.heap.size) 0 p.x rfl (fun w h => h.2.1)) hHeld ?_
    simp only [Act.put, List.setIfInBounds_toArray, List.set_cons_zero, List.set_cons_succ]
    refine wpAnyH_take (i := 5) (oi := { dst := some 14, op := Go.Op.fieldAddr 44 (Go.Operand.tmp 3) 1, type := 0, pos := "point.go:75", after := #[], guard := none }) (v := .pointer (some ⟨w.heap.size + 1, 4, none⟩)) rfl (by kernel_rfl) (by kernel_rfl) (by kernel_rfl) (fun _ _ _ h => h) (Or.inl ⟨by rfl, fun w _ => by go_simp⟩) hHeld ?_
    simp only [Act.put, List.setIfInBounds_toArray, List.set_cons_zero, List.set_cons_succ]
    refine wpAnyH_take (i := 6) (oi := { dst := some 15, op := Go.Op.load 42 (Go.Operand.tmp 14), type := 42, pos := "point.go:75", after := #[{ on := 5, ground := Go.Ground.data }], guard := none }) (v := .agg (num4A q.y)) rfl (by kernel_rfl) (by kernel_rfl) (by kernel_rfl) (fun _ _ _ h => h) (yldN (by rfl) _ rfl (w.heap.size + 1) 4 q.y rfl (fun w h => h.2.2.1)) hHeld ?_
    simp only [Act.put, List.setIfInBounds_toArray, List.set_cons_zero, List.set_cons_succ]
    refine wpAnyH_take (i := 7) (oi := { dst := some 16, op := Go.Op.fieldAddr 44 (Go.Operand.tmp 3) 0, type := 0, pos := "point.go:75", after := #[], guard := none }) (v := .pointer (some ⟨w.heap.size + 1, 0, none⟩)) rfl (by kernel_rfl) (by kernel_rfl) (by kernel_rfl) (fun _ _ _ h => h) (Or.inl ⟨by rfl, fun w _ => by go_simp⟩) hHeld ?_
    simp only [Act.put, List.setIfInBounds_toArray, List.set_cons_zero, List.set_cons_succ]
    refine wpAnyH_take (i := 8) (oi := { dst := some 17, op := Go.Op.load 42 (Go.Operand.tmp 16), type := 42, pos := "point.go:75", after := #[{ on := 7, ground := Go.Ground.data }], guard := none }) (v := .agg (num4A q.x)) rfl (by kernel_rfl) (by kernel_rfl) (by kernel_rfl) (fun _ _ _ h => h) (yldN (by rfl) _ rfl (w.heap.size + 1) 0 q.x rfl (fun w h => h.2.2.2)) hHeld ?_
    simp only [Act.put, List.setIfInBounds_toArray, List.set_cons_zero, List.set_cons_succ]
    refine wpAnyH_ready (rs := [4, 11]) (by kernel_rfl) (by simp) ?_
    refine AllReadyH.cons (o := { dst := some 13, op := Go.Op.call { callee := Go.Callee.value (Go.Operand.func 43), args := #[Go.Operand.tmp 10, Go.Operand.tmp 12], argTypes := #[42, 42] }, type := 42, pos := "point.go:75", after := #[{ on := 1, ground := Go.Ground.data }, { on := 3, ground := Go.Ground.data }], guard := none }) rfl (fun K hK => ?_) ?_
    · skip
      refine step_callTo (by rfl) _ _ (hrunMinus _ _ rfl (.agg (num4A p.y)) (.agg (num4A p.x)) rfl rfl V1) _ _ (feMinus p.y p.x Hp.out.y Hp.out.x V1) (fun V2 HBx => ?_)
      have KV2 : Hid (Below W0.heap.size W0 V2) := KV1.out.trans (HBx.mono KV1.out.size)
      clear HBx
      refine hK.out _ _ ?_ (fun hHeld => ?_)
      · exact ⟨range_below ((rangeP RP.out).2.1) KV2.out (lt_row RP.out), range_below ((rangeP RP.out).1) KV2.out (lt_row RP.out), range_below ((rangeP RQ.out).2.1) KV2.out (lt_row RQ.out), range_below ((rangeP RQ.out).1) KV2.out (lt_row RQ.out)⟩
      clear hK K
      try simp only [Act.put, List.setIfInBounds_toArray, List.set_cons_zero, List.set_cons_succ]
      refine wpAnyH_ready (rs := [9, 11]) (by kernel_rfl) (by simp) ?_
      refine AllReadyH.cons (o := { dst := some 18, op := Go.Op.call { callee := Go.Callee.value (Go.Operand.func 43), args := #[Go.Operand.tmp 15, Go.Operand.tmp 17], argTypes := #[42, 42] }, type := 42, pos := "point.go:75", after := #[{ on := 6, ground := Go.Ground.data }, { on := 8, ground := Go.Ground.data }, { on := 4, ground := Go.Ground.chain }], guard := none }) rfl (fun K hK => ?_) ?_
      · skip
        refine step_callTo (by rfl) _ _ (hrunMinus _ _ rfl (.agg (num4A q.y)) (.agg (num4A q.x)) rfl rfl V2) _ _ (feMinus q.y q.x Hq.out.y Hq.out.x V2) (fun V3 HBx => ?_)
        have KV3 : Hid (Below W0.heap.size W0 V3) := KV2.out.trans (HBx.mono KV2.out.size)
        clear HBx
        refine hK.out _ _ ?_ (fun hHeld => ?_)
        · exact ⟨range_below ((rangeP RP.out).2.1) KV3.out (lt_row RP.out), range_below ((rangeP RP.out).1) KV3.out (lt_row RP.out), range_below ((rangeP RQ.out).2.1) KV3.out (lt_row RQ.out), range_below ((rangeP RQ.out).1) KV3.out (lt_row RQ.out)⟩
        clear hK K
        try simp only [Act.put, List.setIfInBounds_toArray, List.set_cons_zero, List.set_cons_succ]
        refine wpAnyH_ready (rs := [10, 11]) (by kernel_rfl) (by simp) ?_
        refine AllReadyH.cons (o := { dst := some 19, op := Go.Op.call { callee := Go.Callee.value (Go.Operand.func 44), args := #[Go.Operand.tmp 13, Go.Operand.tmp 18], argTypes := #[42, 42] }, type := 42, pos := "point.go:75", after := #[{ on := 4, ground := Go.Ground.data }, { on := 9, ground := Go.Ground.data }, { on := 9, ground := Go.Ground.chain }], guard := none }) rfl (fun K hK => ?_) ?_
        · skip
          refine step_callTo (by rfl) _ _ (hrunTimes _ _ rfl (.agg (num4A (sP p.y p.x))) (.agg (num4A (sP q.y q.x))) rfl rfl V3) _ _ (feTimes (sP p.y p.x) (sP q.y q.x) (sP_lt _ _) (sP_lt _ _) V3) (fun V4 HBx => ?_)
          have KV4 : Hid (Below W0.heap.size W0 V4) := KV3.out.trans (HBx.mono KV3.out.size)
          clear HBx
          refine hK.out _ _ ?_ (fun hHeld => ?_)
          · exact ⟨range_below ((rangeP RP.out).2.1) KV4.out (lt_row RP.out), range_below ((rangeP RP.out).1) KV4.out (lt_row RP.out), range_below ((rangeP RQ.out).2.1) KV4.out (lt_row RQ.out), range_below ((rangeP RQ.out).1) KV4.out (lt_row RQ.out)⟩
          clear hK K
          try simp only [Act.put, List.setIfInBounds_toArray, List.set_cons_zero, List.set_cons_succ]
          refine wpAnyH_ready (rs := [11]) (by kernel_rfl) (by simp) ?_
          refine AllReadyH.cons (o := { dst := some 5, op := Go.Op.alloc 42, type := 0, pos := "point.go:75", after := #[], guard := none }) rfl (fun K hK => ?_) ?_
          · skip
            refine step_runTo (w' := V4.alloc (.cells (num4A 0) 42)) (by rfl) (.pointer (some ⟨V4.heap.size, 0, none⟩)) (hrunAllocE rfl V4) ?_
            obtain ⟨g5, hg5⟩ : ∃ g, g = V4.heap.size := ⟨_, rfl⟩
            have ZN : Hid ((V4.alloc (.cells (num4A 0) 42)).heap[g5]? = some (.cells (num4A 0) 42 (0, 0))) := by rw [hg5]; exact heap_alloc_new _ _
            have KV5 : Hid (Below W0.heap.size W0 (V4.alloc (.cells (num4A 0) 42))) := KV4.out.alloc KV4.out.size _
            have GG : Hid (W0.heap.size ≤ g5) := by rw [hg5]; exact KV4.out.size
            rw [← hg5]
            obtain ⟨V5, hV5⟩ : ∃ V, V = V4.alloc (.cells (num4A 0) 42) := ⟨_, rfl⟩
            rw [← hV5] at ZN KV5 ⊢
            clear hV5 hg5
            refine hK.out _ _ ?_ (fun hHeld => ?_)
            · exact ⟨range_below ((rangeP RP.out).2.1) KV5.out (lt_row RP.out), range_below ((rangeP RP.out).1) KV5.out (lt_row RP.out), range_below ((rangeP RQ.out).2.1) KV5.out (lt_row RQ.out), range_below ((rangeP RQ.out).1) KV5.out (lt_row RQ.out)⟩
            clear hK K
            try simp only [Act.put, List.setIfInBounds_toArray, List.set_cons_zero, List.set_cons_succ]
            refine wpAnyH_ready (rs := [12]) (by kernel_rfl) (by simp) ?_
            refine AllReadyH.cons (o := { dst := none, op := Go.Op.store 42 (Go.Operand.tmp 5) (Go.Operand.tmp 19), type := 0, pos := "point.go:75", after := #[{ on := 11, ground := Go.Ground.data }, { on := 10, ground := Go.Ground.data }, { on := 10, ground := Go.Ground.chain }, { on := 0, ground := Go.Ground.phase }, { on := 1, ground := Go.Ground.phase }, { on := 2, ground := Go.Ground.phase }, { on := 3, ground := Go.Ground.phase }, { on := 4, ground := Go.Ground.phase }, { on := 5, ground := Go.Ground.phase }, { on := 6, ground := Go.Ground.phase }, { on := 7, ground := Go.Ground.phase }, { on := 8, ground := Go.Ground.phase }, { on := 9, ground := Go.Ground.phase }, { on := 10, ground := Go.Ground.phase }, { on := 11, ground := Go.Ground.phase }], guard := none }) rfl (fun K hK => ?_) ?_
            · skip
              refine step_store_row _ (by rfl) 42 (.tmp 5) (.tmp 19) (by rfl) (g5) (num4A (mP (sP p.y p.x) (sP q.y q.x))) (by rfl) (by rfl) 42 _ ZN.out (feSize _) (n4_old _ _) (num4A_all _) ?_
              rw [put_none']
              refine hK.out _ _ ?_ (fun hHeld => ?_)
              · exact ⟨range_set (range_below ((rangeP RP.out).2.1) KV5.out (lt_row RP.out)) (Nat.ne_of_lt (Nat.lt_of_lt_of_le (lt_row RP.out) GG.out)), range_set (range_below ((rangeP RP.out).1) KV5.out (lt_row RP.out)) (Nat.ne_of_lt (Nat.lt_of_lt_of_le (lt_row RP.out) GG.out)), range_set (range_below ((rangeP RQ.out).2.1) KV5.out (lt_row RQ.out)) (Nat.ne_of_lt (Nat.lt_of_lt_of_le (lt_row RQ.out) GG.out)), range_set (range_below ((rangeP RQ.out).1) KV5.out (lt_row RQ.out)) (Nat.ne_of_lt (Nat.lt_of_lt_of_le (lt_row RQ.out) GG.out))⟩
              clear hK K
              try simp only [Act.put, List.setIfInBounds_toArray, List.set_cons_zero, List.set_cons_succ]
              refine wpAnyH_done (by kernel_rfl) ?_ _
              go_wp2_with fail
              go_meet
              case rel => exact ⟨g5, rfl, GG, hide (setRow_heap _ _ _ _ _ _ ZN.out), hide (below_setRow KV5.out GG.out _)⟩
            exact AllReadyH.nil
          exact AllReadyH.nil
        refine AllReadyH.cons (o := { dst := some 5, op := Go.Op.alloc 42, type := 0, pos := "point.go:75", after := #[], guard := none }) rfl (fun K hK => ?_) ?_
        · skip
          refine step_runTo (w' := V3.alloc (.cells (num4A 0) 42)) (by rfl) (.pointer (some ⟨V3.heap.size, 0, none⟩)) (hrunAllocE rfl V3) ?_
          obtain ⟨g6, hg6⟩ : ∃ g, g = V3.heap.size := ⟨_, rfl⟩
          have ZN : Hid ((V3.alloc (.cells (num4A 0) 42)).heap[g6]? = some (.cells (num4A 0) 42 (0, 0))) := by rw [hg6]; exact heap_alloc_new _ _
          have KV6 : Hid (Below W0.heap.size W0 (V3.alloc (.cells (num4A 0) 42))) := KV3.out.alloc KV3.out.size _
          have GG : Hid (W0.heap.size ≤ g6) := by rw [hg6]; exact KV3.out.size
          rw [← hg6]
          obtain ⟨V6, hV6⟩ : ∃ V, V = V3.alloc (.cells (num4A 0) 42) := ⟨_, rfl⟩
          rw [← hV6] at ZN KV6 ⊢
          clear hV6 hg6
          refine hK.out _ _ ?_ (fun hHeld => ?_)
          · exact ⟨range_below ((rangeP RP.out).2.1) KV6.out (lt_row RP.out), range_below ((rangeP RP.out).1) KV6.out (lt_row RP.out), range_below ((rangeP RQ.out).2.1) KV6.out (lt_row RQ.out), range_below ((rangeP RQ.out).1) KV6.out (lt_row RQ.out)⟩
          clear hK K
          try simp only [Act.put, List.setIfInBounds_toArray, List.set_cons_zero, List.set_cons_succ]
          refine wpAnyH_ready (rs := [10]) (by kernel_rfl) (by simp) ?_
          refine AllReadyH.cons (o := { dst := some 19, op := Go.Op.call { callee := Go.Callee.value (Go.Operand.func 44), args := #[Go.Operand.tmp 13, Go.Operand.tmp 18], argTypes := #[42, 42] }, type := 42, pos := "point.go:75", after := #[{ on := 4, ground := Go.Ground.data }, { on := 9, ground := Go.Ground.data }, { on := 9, ground := Go.Ground.chain }], guard := none }) rfl (fun K hK => ?_) ?_
          · skip
            refine step_callTo (by rfl) _ _ (hrunTimes _ _ rfl (.agg (num4A (sP p.y p.x))) (.agg (num4A (sP q.y q.x))) rfl rfl V6) _ _ (feTimes (sP p.y p.x) (sP q.y q.x) (sP_lt _ _) (sP_lt _ _) V6) (fun V7 HBx => ?_)
            have KV7 : Hid (Below W0.heap.size W0 V7) := KV6.out.trans (HBx.mono KV6.out.size)
            have ZN := hide (row_keep' ZN.out HBx)
            clear HBx
            refine hK.out _ _ ?_ (fun hHeld => ?_)
            · exact ⟨range_below ((rangeP RP.out).2.1) KV7.out (lt_row RP.out), range_below ((rangeP RP.out).1) KV7.out (lt_row RP.out), range_below ((rangeP RQ.out).2.1) KV7.out (lt_row RQ.out), range_below ((rangeP RQ.out).1) KV7.out (lt_row RQ.out)⟩
            clear hK K
            try simp only [Act.put, List.setIfInBounds_toArray, List.set_cons_zero, List.set_cons_succ]
            refine wpAnyH_ready (rs := [12]) (by kernel_rfl) (by simp) ?_
            refine AllReadyH.cons (o := { dst := none, op := Go.Op.store 42 (Go.Operand.tmp 5) (Go.Operand.tmp 19), type := 0, pos := "point.go:75", after := #[{ on := 11, ground := Go.Ground.data }, { on := 10, ground := Go.Ground.data }, { on := 10, ground := Go.Ground.chain }, { on := 0, ground := Go.Ground.phase }, { on := 1, ground := Go.Ground.phase }, { on := 2, ground := Go.Ground.phase }, { on := 3, ground := Go.Ground.phase }, { on := 4, ground := Go.Ground.phase }, { on := 5, ground := Go.Ground.phase }, { on := 6, ground := Go.Ground.phase }, { on := 7, ground := Go.Ground.phase }, { on := 8, ground := Go.Ground.phase }, { on := 9, ground := Go.Ground.phase }, { on := 10, ground := Go.Ground.phase }, { on := 11, ground := Go.Ground.phase }], guard := none }) rfl (fun K hK => ?_) ?_
            · skip
              refine step_store_row _ (by rfl) 42 (.tmp 5) (.tmp 19) (by rfl) (g6) (num4A (mP (sP p.y p.x) (sP q.y q.x))) (by rfl) (by rfl) 42 _ ZN.out (feSize _) (n4_old _ _) (num4A_all _) ?_
              rw [put_none']
              refine hK.out _ _ ?_ (fun hHeld => ?_)
              · exact ⟨range_set (range_below ((rangeP RP.out).2.1) KV7.out (lt_row RP.out)) (Nat.ne_of_lt (Nat.lt_of_lt_of_le (lt_row RP.out) GG.out)), range_set (range_below ((rangeP RP.out).1) KV7.out (lt_row RP.out)) (Nat.ne_of_lt (Nat.lt_of_lt_of_le (lt_row RP.out) GG.out)), range_set (range_below ((rangeP RQ.out).2.1) KV7.out (lt_row RQ.out)) (Nat.ne_of_lt (Nat.lt_of_lt_of_le (lt_row RQ.out) GG.out)), range_set (range_below ((rangeP RQ.out).1) KV7.out (lt_row RQ.out)) (Nat.ne_of_lt (Nat.lt_of_lt_of_le (lt_row RQ.out) GG.out))⟩
              clear hK K
              try simp only [Act.put, List.setIfInBounds_toArray, List.set_cons_zero, List.set_cons_succ]
              refine wpAnyH_done (by kernel_rfl) ?_ _
              go_wp2_with fail
              go_meet
              case rel => exact ⟨g6, rfl, GG, hide (setRow_heap _ _ _ _ _ _ ZN.out), hide (below_setRow KV7.out GG.out _)⟩
            exact AllReadyH.nil
          exact AllReadyH.nil
        exact AllReadyH.nil
      refine AllReadyH.cons (o := { dst := some 5, op := Go.Op.alloc 42, type := 0, pos := "point.go:75", after := #[], guard := none }) rfl (fun K hK => ?_) ?_
      · skip
        refine step_runTo (w' := V2.alloc (.cells (num4A 0) 42)) (by rfl) (.pointer (some ⟨V2.heap.size, 0, none⟩)) (hrunAllocE rfl V2) ?_
        obtain ⟨g8, hg8⟩ : ∃ g, g = V2.heap.size := ⟨_, rfl⟩
        have ZN : Hid ((V2.alloc (.cells (num4A 0) 42)).heap[g8]? = some (.cells (num4A 0) 42 (0, 0))) := by rw [hg8]; exact heap_alloc_new _ _
        have KV8 : Hid (Below W0.heap.size W0 (V2.alloc (.cells (num4A 0) 42))) := KV2.out.alloc KV2.out.size _
        have GG : Hid (W0.heap.size ≤ g8) := by rw [hg8]; exact KV2.out.size
        rw [← hg8]
        obtain ⟨V8, hV8⟩ : ∃ V, V = V2.alloc (.cells (num4A 0) 42) := ⟨_, rfl⟩
        rw [← hV8] at ZN KV8 ⊢
        clear hV8 hg8
        refine hK.out _ _ ?_ (fun hHeld => ?_)
        · exact ⟨range_below ((rangeP RP.out).2.1) KV8.out (lt_row RP.out), range_below ((rangeP RP.out).1) KV8.out (lt_row RP.out), range_below ((rangeP RQ.out).2.1) KV8.out (lt_row RQ.out), range_below ((rangeP RQ.out).1) KV8.out (lt_row RQ.out)⟩
        clear hK K
        try simp only [Act.put, List.setIfInBounds_toArray, List.set_cons_zero, List.set_cons_succ]
        refine wpAnyH_ready (rs := [9]) (by kernel_rfl) (by simp) ?_
        refine AllReadyH.cons (o := { dst := some 18, op := Go.Op.call { callee := Go.Callee.value (Go.Operand.func 43), args := #[Go.Operand.tmp 15, Go.Operand.tmp 17], argTypes := #[42, 42] }, type := 42, pos := "point.go:75", after := #[{ on := 6, ground := Go.Ground.data }, { on := 8, ground := Go.Ground.data }, { on := 4, ground := Go.Ground.chain }], guard := none }) rfl (fun K hK => ?_) ?_
        · skip
          refine step_callTo (by rfl) _ _ (hrunMinus _ _ rfl (.agg (num4A q.y)) (.agg (num4A q.x)) rfl rfl V8) _ _ (feMinus q.y q.x Hq.out.y Hq.out.x V8) (fun V9 HBx => ?_)
          have KV9 : Hid (Below W0.heap.size W0 V9) := KV8.out.trans (HBx.mono KV8.out.size)
          have ZN := hide (row_keep' ZN.out HBx)
          clear HBx
          refine hK.out _ _ ?_ (fun hHeld => ?_)
          · exact ⟨range_below ((rangeP RP.out).2.1) KV9.out (lt_row RP.out), range_below ((rangeP RP.out).1) KV9.out (lt_row RP.out), range_below ((rangeP RQ.out).2.1) KV9.out (lt_row RQ.out), range_below ((rangeP RQ.out).1) KV9.out (lt_row RQ.out)⟩
          clear hK K
          try simp only [Act.put, List.setIfInBounds_toArray, List.set_cons_zero, List.set_cons_succ]
          refine wpAnyH_ready (rs := [10]) (by kernel_rfl) (by simp) ?_
          refine AllReadyH.cons (o := { dst := some 19, op := Go.Op.call { callee := Go.Callee.value (Go.Operand.func 44), args := #[Go.Operand.tmp 13, Go.Operand.tmp 18], argTypes := #[42, 42] }, type := 42, pos := "point.go:75", after := #[{ on := 4, ground := Go.Ground.data }, { on := 9, ground := Go.Ground.data }, { on := 9, ground := Go.Ground.chain }], guard := none }) rfl (fun K hK => ?_) ?_
          · skip
            refine step_callTo (by rfl) _ _ (hrunTimes _ _ rfl (.agg (num4A (sP p.y p.x))) (.agg (num4A (sP q.y q.x))) rfl rfl V9) _ _ (feTimes (sP p.y p.x) (sP q.y q.x) (sP_lt _ _) (sP_lt _ _) V9) (fun V10 HBx => ?_)
            have KV10 : Hid (Below W0.heap.size W0 V10) := KV9.out.trans (HBx.mono KV9.out.size)
            have ZN := hide (row_keep' ZN.out HBx)
            clear HBx
            refine hK.out _ _ ?_ (fun hHeld => ?_)
            · exact ⟨range_below ((rangeP RP.out).2.1) KV10.out (lt_row RP.out), range_below ((rangeP RP.out).1) KV10.out (lt_row RP.out), range_below ((rangeP RQ.out).2.1) KV10.out (lt_row RQ.out), range_below ((rangeP RQ.out).1) KV10.out (lt_row RQ.out)⟩
            clear hK K
            try simp only [Act.put, List.setIfInBounds_toArray, List.set_cons_zero, List.set_cons_succ]
            refine wpAnyH_ready (rs := [12]) (by kernel_rfl) (by simp) ?_
            refine AllReadyH.cons (o := { dst := none, op := Go.Op.store 42 (Go.Operand.tmp 5) (Go.Operand.tmp 19), type := 0, pos := "point.go:75", after := #[{ on := 11, ground := Go.Ground.data }, { on := 10, ground := Go.Ground.data }, { on := 10, ground := Go.Ground.chain }, { on := 0, ground := Go.Ground.phase }, { on := 1, ground := Go.Ground.phase }, { on := 2, ground := Go.Ground.phase }, { on := 3, ground := Go.Ground.phase }, { on := 4, ground := Go.Ground.phase }, { on := 5, ground := Go.Ground.phase }, { on := 6, ground := Go.Ground.phase }, { on := 7, ground := Go.Ground.phase }, { on := 8, ground := Go.Ground.phase }, { on := 9, ground := Go.Ground.phase }, { on := 10, ground := Go.Ground.phase }, { on := 11, ground := Go.Ground.phase }], guard := none }) rfl (fun K hK => ?_) ?_
            · skip
              refine step_store_row _ (by rfl) 42 (.tmp 5) (.tmp 19) (by rfl) (g8) (num4A (mP (sP p.y p.x) (sP q.y q.x))) (by rfl) (by rfl) 42 _ ZN.out (feSize _) (n4_old _ _) (num4A_all _) ?_
              rw [put_none']
              refine hK.out _ _ ?_ (fun hHeld => ?_)
              · exact ⟨range_set (range_below ((rangeP RP.out).2.1) KV10.out (lt_row RP.out)) (Nat.ne_of_lt (Nat.lt_of_lt_of_le (lt_row RP.out) GG.out)), range_set (range_below ((rangeP RP.out).1) KV10.out (lt_row RP.out)) (Nat.ne_of_lt (Nat.lt_of_lt_of_le (lt_row RP.out) GG.out)), range_set (range_below ((rangeP RQ.out).2.1) KV10.out (lt_row RQ.out)) (Nat.ne_of_lt (Nat.lt_of_lt_of_le (lt_row RQ.out) GG.out)), range_set (range_below ((rangeP RQ.out).1) KV10.out (lt_row RQ.out)) (Nat.ne_of_lt (Nat.lt_of_lt_of_le (lt_row RQ.out) GG.out))⟩
              clear hK K
              try simp only [Act.put, List.setIfInBounds_toArray, List.set_cons_zero, List.set_cons_succ]
              refine wpAnyH_done (by kernel_rfl) ?_ _
              go_wp2_with fail
              go_meet
              case rel => exact ⟨g8, rfl, GG, hide (setRow_heap _ _ _ _ _ _ ZN.out), hide (below_setRow KV10.out GG.out _)⟩
            exact AllReadyH.nil
          exact AllReadyH.nil
        exact AllReadyH.nil
      exact AllReadyH.nil
    refine AllReadyH.cons (o := { dst := some 5, op := Go.Op.alloc 42, type := 0, pos := "point.go:75", after := #[], guard := none }) rfl (fun K hK => ?_) ?_
    · skip
      refine step_runTo (w' := V1.alloc (.cells (num4A 0) 42)) (by rfl) (.pointer (some ⟨V1.heap.size, 0, none⟩)) (hrunAllocE rfl V1) ?_
      obtain ⟨g11, hg11⟩ : ∃ g, g = V1.heap.size := ⟨_, rfl⟩
      have ZN : Hid ((V1.alloc (.cells (num4A 0) 42)).heap[g11]? = some (.cells (num4A 0) 42 (0, 0))) := by rw [hg11]; exact heap_alloc_new _ _
      have KV11 : Hid (Below W0.heap.size W0 (V1.alloc (.cells (num4A 0) 42))) := KV1.out.alloc KV1.out.size _
      have GG : Hid (W0.heap.size ≤ g11) := by rw [hg11]; exact KV1.out.size
      rw [← hg11]
      obtain ⟨V11, hV11⟩ : ∃ V, V = V1.alloc (.cells (num4A 0) 42) := ⟨_, rfl⟩
      rw [← hV11] at ZN KV11 ⊢
      clear hV11 hg11
      refine hK.out _ _ ?_ (fun hHeld => ?_)
      · exact ⟨range_below ((rangeP RP.out).2.1) KV11.out (lt_row RP.out), range_below ((rangeP RP.out).1) KV11.out (lt_row RP.out), range_below ((rangeP RQ.out).2.1) KV11.out (lt_row RQ.out), range_below ((rangeP RQ.out).1) KV11.out (lt_row RQ.out)⟩
      clear hK K
      try simp only [Act.put, List.setIfInBounds_toArray, List.set_cons_zero, List.set_cons_succ]
      refine wpAnyH_ready (rs := [4]) (by kernel_rfl) (by simp) ?_
      refine AllReadyH.cons (o := { dst := some 13, op := Go.Op.call { callee := Go.Callee.value (Go.Operand.func 43), args := #[Go.Operand.tmp 10, Go.Operand.tmp 12], argTypes := #[42, 42] }, type := 42, pos := "point.go:75", after := #[{ on := 1, ground := Go.Ground.data }, { on := 3, ground := Go.Ground.data }], guard := none }) rfl (fun K hK => ?_) ?_
      · skip
        refine step_callTo (by rfl) _ _ (hrunMinus _ _ rfl (.agg (num4A p.y)) (.agg (num4A p.x)) rfl rfl V11) _ _ (feMinus p.y p.x Hp.out.y Hp.out.x V11) (fun V12 HBx => ?_)
        have KV12 : Hid (Below W0.heap.size W0 V12) := KV11.out.trans (HBx.mono KV11.out.size)
        have ZN := hide (row_keep' ZN.out HBx)
        clear HBx
        refine hK.out _ _ ?_ (fun hHeld => ?_)
        · exact ⟨range_below ((rangeP RP.out).2.1) KV12.out (lt_row RP.out), range_below ((rangeP RP.out).1) KV12.out (lt_row RP.out), range_below ((rangeP RQ.out).2.1) KV12.out (lt_row RQ.out), range_below ((rangeP RQ.out).1) KV12.out (lt_row RQ.out)⟩
        clear hK K
        try simp only [Act.put, List.setIfInBounds_toArray, List.set_cons_zero, List.set_cons_succ]
        refine wpAnyH_ready (rs := [9]) (by kernel_rfl) (by simp) ?_
        refine AllReadyH.cons (o := { dst := some 18, op := Go.Op.call { callee := Go.Callee.value (Go.Operand.func 43), args := #[Go.Operand.tmp 15, Go.Operand.tmp 17], argTypes := #[42, 42] }, type := 42, pos := "point.go:75", after := #[{ on := 6, ground := Go.Ground.data }, { on := 8, ground := Go.Ground.data }, { on := 4, ground := Go.Ground.chain }], guard := none }) rfl (fun K hK => ?_) ?_
        · skip
          refine step_callTo (by rfl) _ _ (hrunMinus _ _ rfl (.agg (num4A q.y)) (.agg (num4A q.x)) rfl rfl V12) _ _ (feMinus q.y q.x Hq.out.y Hq.out.x V12) (fun V13 HBx => ?_)
          have KV13 : Hid (Below W0.heap.size W0 V13) := KV12.out.trans (HBx.mono KV12.out.size)
          have ZN := hide (row_keep' ZN.out HBx)
          clear HBx
          refine hK.out _ _ ?_ (fun hHeld => ?_)
          · exact ⟨range_below ((rangeP RP.out).2.1) KV13.out (lt_row RP.out), range_below ((rangeP RP.out).1) KV13.out (lt_row RP.out), range_below ((rangeP RQ.out).2.1) KV13.out (lt_row RQ.out), range_below ((rangeP RQ.out).1) KV13.out (lt_row RQ.out)⟩
          clear hK K
          try simp only [Act.put, List.setIfInBounds_toArray, List.set_cons_zero, List.set_cons_succ]
          refine wpAnyH_ready (rs := [10]) (by kernel_rfl) (by simp) ?_
          refine AllReadyH.cons (o := { dst := some 19, op := Go.Op.call { callee := Go.Callee.value (Go.Operand.func 44), args := #[Go.Operand.tmp 13, Go.Operand.tmp 18], argTypes := #[42, 42] }, type := 42, pos := "point.go:75", after := #[{ on := 4, ground := Go.Ground.data }, { on := 9, ground := Go.Ground.data }, { on := 9, ground := Go.Ground.chain }], guard := none }) rfl (fun K hK => ?_) ?_
          · skip
            refine step_callTo (by rfl) _ _ (hrunTimes _ _ rfl (.agg (num4A (sP p.y p.x))) (.agg (num4A (sP q.y q.x))) rfl rfl V13) _ _ (feTimes (sP p.y p.x) (sP q.y q.x) (sP_lt _ _) (sP_lt _ _) V13) (fun V14 HBx => ?_)
            have KV14 : Hid (Below W0.heap.size W0 V14) := KV13.out.trans (HBx.mono KV13.out.size)
            have ZN := hide (row_keep' ZN.out HBx)
            clear HBx
            refine hK.out _ _ ?_ (fun hHeld => ?_)
            · exact ⟨range_below ((rangeP RP.out).2.1) KV14.out (lt_row RP.out), range_below ((rangeP RP.out).1) KV14.out (lt_row RP.out), range_below ((rangeP RQ.out).2.1) KV14.out (lt_row RQ.out), range_below ((rangeP RQ.out).1) KV14.out (lt_row RQ.out)⟩
            clear hK K
            try simp only [Act.put, List.setIfInBounds_toArray, List.set_cons_zero, List.set_cons_succ]
            refine wpAnyH_ready (rs := [12]) (by kernel_rfl) (by simp) ?_
            refine AllReadyH.cons (o := { dst := none, op := Go.Op.store 42 (Go.Operand.tmp 5) (Go.Operand.tmp 19), type := 0, pos := "point.go:75", after := #[{ on := 11, ground := Go.Ground.data }, { on := 10, ground := Go.Ground.data }, { on := 10, ground := Go.Ground.chain }, { on := 0, ground := Go.Ground.phase }, { on := 1, ground := Go.Ground.phase }, { on := 2, ground := Go.Ground.phase }, { on := 3, ground := Go.Ground.phase }, { on := 4, ground := Go.Ground.phase }, { on := 5, ground := Go.Ground.phase }, { on := 6, ground := Go.Ground.phase }, { on := 7, ground := Go.Ground.phase }, { on := 8, ground := Go.Ground.phase }, { on := 9, ground := Go.Ground.phase }, { on := 10, ground := Go.Ground.phase }, { on := 11, ground := Go.Ground.phase }], guard := none }) rfl (fun K hK => ?_) ?_
            · skip
              refine step_store_row _ (by rfl) 42 (.tmp 5) (.tmp 19) (by rfl) (g11) (num4A (mP (sP p.y p.x) (sP q.y q.x))) (by rfl) (by rfl) 42 _ ZN.out (feSize _) (n4_old _ _) (num4A_all _) ?_
              rw [put_none']
              refine hK.out _ _ ?_ (fun hHeld => ?_)
              · exact ⟨range_set (range_below ((rangeP RP.out).2.1) KV14.out (lt_row RP.out)) (Nat.ne_of_lt (Nat.lt_of_lt_of_le (lt_row RP.out) GG.out)), range_set (range_below ((rangeP RP.out).1) KV14.out (lt_row RP.out)) (Nat.ne_of_lt (Nat.lt_of_lt_of_le (lt_row RP.out) GG.out)), range_set (range_below ((rangeP RQ.out).2.1) KV14.out (lt_row RQ.out)) (Nat.ne_of_lt (Nat.lt_of_lt_of_le (lt_row RQ.out) GG.out)), range_set (range_below ((rangeP RQ.out).1) KV14.out (lt_row RQ.out)) (Nat.ne_of_lt (Nat.lt_of_lt_of_le (lt_row RQ.out) GG.out))⟩
              clear hK K
              try simp only [Act.put, List.setIfInBounds_toArray, List.set_cons_zero, List.set_cons_succ]
              refine wpAnyH_done (by kernel_rfl) ?_ _
              go_wp2_with fail
              go_meet
              case rel => exact ⟨g11, rfl, GG, hide (setRow_heap _ _ _ _ _ _ ZN.out), hide (below_setRow KV14.out GG.out _)⟩
            exact AllReadyH.nil
          exact AllReadyH.nil
        exact AllReadyH.nil
      exact AllReadyH.nil
    exact AllReadyH.nil
  case rest =>
  obtain ⟨g5, rfl, Gg5, R5, Xg5⟩ := hcut
  obtain ⟨W1, hW⟩ : ∃ W, W = wc := ⟨_, rfl⟩
  subst hW
  have lRPg5 : w.heap.size < g5 := Nat.lt_of_lt_of_le (lt_row RP.out) Gg5.out
  have lRQg5 : w.heap.size + 1 < g5 := Nat.lt_of_lt_of_le (lt_row RQ.out) Gg5.out
  have lRZg5 : w.heap.size + 2 < g5 := Nat.lt_of_lt_of_le (lt_row RZ.out) Gg5.out
  have lRGg5 : 0 < g5 := Nat.lt_of_lt_of_le (lt_row RG.out) Gg5.out
  have RP := hide (row_below RP.out Xg5.out (lt_row RP.out))
  have RQ := hide (row_below RQ.out Xg5.out (lt_row RQ.out))
  have RZ := hide (row_below RZ.out Xg5.out (lt_row RZ.out))
  have RG := hide (row_below RG.out Xg5.out (lt_row RG.out))
  have BL : Hid (Below w.heap.size w W1) := BL.out.trans (Xg5.out.mono BL.out.size)
  clear Xg5 Gg5
  obtain ⟨a, Ea⟩ : ∃ x, Hid (x = mP (sP p.y p.x) (sP q.y q.x)) := ⟨_, rfl⟩
  have Ha : Hid (a < P) := by rw [Ea.out]; exact mP_lt _ _
  rw [← Ea.out] at R5
  go_wp2_with fail
  go_cut [6] from 20 to 30 (fun s wx => ∃ g, s = .pointer (some ⟨g, 0, none⟩) ∧ Hid (W1.heap.size ≤ g) ∧ Hid (wx.heap[g]? = some (.cells (num4A (mP (aP p.y p.x) (aP q.y q.x))) 42 (0, 0))) ∧ Hid (Below W1.heap.size W1 wx))
  case first =>
    refine wp_region_held_drew (S := fun w' => w'.rangeAt (w.heap.size) 4 (nL p.y) ∧ w'.rangeAt (w.heap.size) 0 (nL p.x) ∧ w'.rangeAt (w.heap.size + 1) 4 (nL q.y) ∧ w'.rangeAt (w.heap.size + 1) 0 (nL q.x)) (by kernel_rfl) (by exact ⟨(rangeP RP.out).2.1, (rangeP RP.out).1, (rangeP RQ.out).2.1, (rangeP RQ.out).1⟩) (fun hHeld => ?_)
    obtain ⟨V15, hV15⟩ : ∃ V, V = W1.drew := ⟨_, rfl⟩
    rw [← hV15] at hHeld ⊢
    have KV15 : Hid (Below W1.heap.size W1 V15) := by rw [hV15]; exact (Below.refl _ _).drew
    clear hV15
    refine wpAnyH_take (i := 0) (oi := { dst := some 20, op := Go.Op.fieldAddr 44 (Go.Operand.tmp 2) 1, type := 0, pos := "point.go:76", after := #[], guard := none }) (v := .pointer (some ⟨w.heap.size, 4, none⟩)) rfl (by kernel_rfl) (by kernel_rfl) (by kernel_rfl) (fun _ _ _ h => h) (Or.inl ⟨by rfl, fun w _ => by go_simp⟩) hHeld ?_
    simp only [Act.put, List.setIfInBounds_toArray, List.set_cons_zero, List.set_cons_succ]
    refine wpAnyH_take (i := 1) (oi := { dst := some 21, op := Go.Op.load 42 (Go.Operand.tmp 20), type := 42, pos := "point.go:76", after := #[{ on := 0, ground := Go.Ground.data }], guard := none }) (v := .agg (num4A p.y)) rfl (by kernel_rfl) (by kernel_rfl) (by kernel_rfl) (fun _ _ _ h => h) (yldN (by rfl) _ rfl (w.heap.size) 4 p.y rfl (fun w h => h.1)) hHeld ?_
    simp only [Act.put, List.setIfInBounds_toArray, List.set_cons_zero, List.set_cons_succ]
    refine wpAnyH_take (i := 2) (oi := { dst := some 22, op := Go.Op.fieldAddr 44 (Go.Operand.tmp 2) 0, type := 0, pos := "point.go:76", after := #[], guard := none }) (v := .pointer (some ⟨w.heap.size, 0, none⟩)) rfl (by kernel_rfl) (by kernel_rfl) (by kernel_rfl) (fun _ _ _ h => h) (Or.inl ⟨by rfl, fun w _ => by go_simp⟩) hHeld ?_
    simp only [Act.put, List.setIfInBounds_toArray, List.set_cons_zero, List.set_cons_succ]
    refine wpAnyH_take (i := 3) (oi := { dst := some 23, op := Go.Op.load 42 (Go.Operand.tmp 22), type := 42, pos := "point.go:76", after := #[{ on := 2, ground := Go.Ground.data }], guard := none }) (v := .agg (num4A p.x)) rfl (by kernel_rfl) (by kernel_rfl) (by kernel_rfl) (fun _ _ _ h => h) (yldN (by rfl) _ rfl (w.heap.size) 0 p.x rfl (fun w h => h.2.1)) hHeld ?_
    simp only [Act.put, List.setIfInBounds_toArray, List.set_cons_zero, List.set_cons_succ]
    refine wpAnyH_take (i := 5) (oi := { dst := some 25, op := Go.Op.fieldAddr 44 (Go.Operand.tmp 3) 1, type := 0, pos := "point.go:76", after := #[], guard := none }) (v := .pointer (some ⟨w.heap.size + 1, 4, none⟩)) rfl (by kernel_rfl) (by kernel_rfl) (by kernel_rfl) (fun _ _ _ h => h) (Or.inl ⟨by rfl, fun w _ => by go_simp⟩) hHeld ?_
    simp only [Act.put, List.setIfInBounds_toArray, List.set_cons_zero, List.set_cons_succ]
    refine wpAnyH_take (i := 6) (oi := { dst := some 26, op := Go.Op.load 42 (Go.Operand.tmp 25), type := 42, pos := "point.go:76", after := #[{ on := 5, ground := Go.Ground.data }], guard := none }) (v := .agg (num4A q.y)) rfl (by kernel_rfl) (by kernel_rfl) (by kernel_rfl) (fun _ _ _ h => h) (yldN (by rfl) _ rfl (w.heap.size + 1) 4 q.y rfl (fun w h => h.2.2.1)) hHeld ?_
    simp only [Act.put, List.setIfInBounds_toArray, List.set_cons_zero, List.set_cons_succ]
    refine wpAnyH_take (i := 7) (oi := { dst := some 27, op := Go.Op.fieldAddr 44 (Go.Operand.tmp 3) 0, type := 0, pos := "point.go:76", after := #[], guard := none }) (v := .pointer (some ⟨w.heap.size + 1, 0, none⟩)) rfl (by kernel_rfl) (by kernel_rfl) (by kernel_rfl) (fun _ _ _ h => h) (Or.inl ⟨by rfl, fun w _ => by go_simp⟩) hHeld ?_
    simp only [Act.put, List.setIfInBounds_toArray, List.set_cons_zero, List.set_cons_succ]
    refine wpAnyH_take (i := 8) (oi := { dst := some 28, op := Go.Op.load 42 (Go.Operand.tmp 27), type := 42, pos := "point.go:76", after := #[{ on := 7, ground := Go.Ground.data }], guard := none }) (v := .agg (num4A q.x)) rfl (by kernel_rfl) (by kernel_rfl) (by kernel_rfl) (fun _ _ _ h => h) (yldN (by rfl) _ rfl (w.heap.size + 1) 0 q.x rfl (fun w h => h.2.2.2)) hHeld ?_
    simp only [Act.put, List.setIfInBounds_toArray, List.set_cons_zero, List.set_cons_succ]
    refine wpAnyH_ready (rs := [4, 11]) (by kernel_rfl) (by simp) ?_
    refine AllReadyH.cons (o := { dst := some 24, op := Go.Op.call { callee := Go.Callee.value (Go.Operand.func 45), args := #[Go.Operand.tmp 21, Go.Operand.tmp 23], argTypes := #[42, 42] }, type := 42, pos := "point.go:76", after := #[{ on := 1, ground := Go.Ground.data }, { on := 3, ground := Go.Ground.data }], guard := none }) rfl (fun K hK => ?_) ?_
    · skip
      refine step_callTo (by rfl) _ _ (hrunPlus _ _ rfl (.agg (num4A p.y)) (.agg (num4A p.x)) rfl rfl V15) _ _ (fePlus p.y p.x Hp.out.y Hp.out.x V15) (fun V16 HBx => ?_)
      have KV16 : Hid (Below W1.heap.size W1 V16) := KV15.out.trans (HBx.mono KV15.out.size)
      clear HBx
      refine hK.out _ _ ?_ (fun hHeld => ?_)
      · exact ⟨range_below ((rangeP RP.out).2.1) KV16.out (lt_row RP.out), range_below ((rangeP RP.out).1) KV16.out (lt_row RP.out), range_below ((rangeP RQ.out).2.1) KV16.out (lt_row RQ.out), range_below ((rangeP RQ.out).1) KV16.out (lt_row RQ.out)⟩
      clear hK K
      try simp only [Act.put, List.setIfInBounds_toArray, List.set_cons_zero, List.set_cons_succ]
      refine wpAnyH_ready (rs := [9, 11]) (by kernel_rfl) (by simp) ?_
      refine AllReadyH.cons (o := { dst := some 29, op := Go.Op.call { callee := Go.Callee.value (Go.Operand.func 45), args := #[Go.Operand.tmp 26, Go.Operand.tmp 28], argTypes := #[42, 42] }, type := 42, pos := "point.go:76", after := #[{ on := 6, ground := Go.Ground.data }, { on := 8, ground := Go.Ground.data }, { on := 4, ground := Go.Ground.chain }], guard := none }) rfl (fun K hK => ?_) ?_
      · skip
        refine step_callTo (by rfl) _ _ (hrunPlus _ _ rfl (.agg (num4A q.y)) (.agg (num4A q.x)) rfl rfl V16) _ _ (fePlus q.y q.x Hq.out.y Hq.out.x V16) (fun V17 HBx => ?_)
        have KV17 : Hid (Below W1.heap.size W1 V17) := KV16.out.trans (HBx.mono KV16.out.size)
        clear HBx
        refine hK.out _ _ ?_ (fun hHeld => ?_)
        · exact ⟨range_below ((rangeP RP.out).2.1) KV17.out (lt_row RP.out), range_below ((rangeP RP.out).1) KV17.out (lt_row RP.out), range_below ((rangeP RQ.out).2.1) KV17.out (lt_row RQ.out), range_below ((rangeP RQ.out).1) KV17.out (lt_row RQ.out)⟩
        clear hK K
        try simp only [Act.put, List.setIfInBounds_toArray, List.set_cons_zero, List.set_cons_succ]
        refine wpAnyH_ready (rs := [10, 11]) (by kernel_rfl) (by simp) ?_
        refine AllReadyH.cons (o := { dst := some 30, op := Go.Op.call { callee := Go.Callee.value (Go.Operand.func 44), args := #[Go.Operand.tmp 24, Go.Operand.tmp 29], argTypes := #[42, 42] }, type := 42, pos := "point.go:76", after := #[{ on := 4, ground := Go.Ground.data }, { on := 9, ground := Go.Ground.data }, { on := 9, ground := Go.Ground.chain }], guard := none }) rfl (fun K hK => ?_) ?_
        · skip
          refine step_callTo (by rfl) _ _ (hrunTimes _ _ rfl (.agg (num4A (aP p.y p.x))) (.agg (num4A (aP q.y q.x))) rfl rfl V17) _ _ (feTimes (aP p.y p.x) (aP q.y q.x) (aP_lt _ _) (aP_lt _ _) V17) (fun V18 HBx => ?_)
          have KV18 : Hid (Below W1.heap.size W1 V18) := KV17.out.trans (HBx.mono KV17.out.size)
          clear HBx
          refine hK.out _ _ ?_ (fun hHeld => ?_)
          · exact ⟨range_below ((rangeP RP.out).2.1) KV18.out (lt_row RP.out), range_below ((rangeP RP.out).1) KV18.out (lt_row RP.out), range_below ((rangeP RQ.out).2.1) KV18.out (lt_row RQ.out), range_below ((rangeP RQ.out).1) KV18.out (lt_row RQ.out)⟩
          clear hK K
          try simp only [Act.put, List.setIfInBounds_toArray, List.set_cons_zero, List.set_cons_succ]
          refine wpAnyH_ready (rs := [11]) (by kernel_rfl) (by simp) ?_
          refine AllReadyH.cons (o := { dst := some 6, op := Go.Op.alloc 42, type := 0, pos := "point.go:76", after := #[], guard := none }) rfl (fun K hK => ?_) ?_
          · skip
            refine step_runTo (w' := V18.alloc (.cells (num4A 0) 42)) (by rfl) (.pointer (some ⟨V18.heap.size, 0, none⟩)) (hrunAllocE rfl V18) ?_
            obtain ⟨g19, hg19⟩ : ∃ g, g = V18.heap.size := ⟨_, rfl⟩
            have ZN : Hid ((V18.alloc (.cells (num4A 0) 42)).heap[g19]? = some (.cells (num4A 0) 42 (0, 0))) := by rw [hg19]; exact heap_alloc_new _ _
            have KV19 : Hid (Below W1.heap.size W1 (V18.alloc (.cells (num4A 0) 42))) := KV18.out.alloc KV18.out.size _
            have GG : Hid (W1.heap.size ≤ g19) := by rw [hg19]; exact KV18.out.size
            rw [← hg19]
            obtain ⟨V19, hV19⟩ : ∃ V, V = V18.alloc (.cells (num4A 0) 42) := ⟨_, rfl⟩
            rw [← hV19] at ZN KV19 ⊢
            clear hV19 hg19
            refine hK.out _ _ ?_ (fun hHeld => ?_)
            · exact ⟨range_below ((rangeP RP.out).2.1) KV19.out (lt_row RP.out), range_below ((rangeP RP.out).1) KV19.out (lt_row RP.out), range_below ((rangeP RQ.out).2.1) KV19.out (lt_row RQ.out), range_below ((rangeP RQ.out).1) KV19.out (lt_row RQ.out)⟩
            clear hK K
            try simp only [Act.put, List.setIfInBounds_toArray, List.set_cons_zero, List.set_cons_succ]
            refine wpAnyH_ready (rs := [12]) (by kernel_rfl) (by simp) ?_
            refine AllReadyH.cons (o := { dst := none, op := Go.Op.store 42 (Go.Operand.tmp 6) (Go.Operand.tmp 30), type := 0, pos := "point.go:76", after := #[{ on := 11, ground := Go.Ground.data }, { on := 10, ground := Go.Ground.data }, { on := 10, ground := Go.Ground.chain }, { on := 0, ground := Go.Ground.phase }, { on := 1, ground := Go.Ground.phase }, { on := 2, ground := Go.Ground.phase }, { on := 3, ground := Go.Ground.phase }, { on := 4, ground := Go.Ground.phase }, { on := 5, ground := Go.Ground.phase }, { on := 6, ground := Go.Ground.phase }, { on := 7, ground := Go.Ground.phase }, { on := 8, ground := Go.Ground.phase }, { on := 9, ground := Go.Ground.phase }, { on := 10, ground := Go.Ground.phase }, { on := 11, ground := Go.Ground.phase }], guard := none }) rfl (fun K hK => ?_) ?_
            · skip
              refine step_store_row _ (by rfl) 42 (.tmp 6) (.tmp 30) (by rfl) (g19) (num4A (mP (aP p.y p.x) (aP q.y q.x))) (by rfl) (by rfl) 42 _ ZN.out (feSize _) (n4_old _ _) (num4A_all _) ?_
              rw [put_none']
              refine hK.out _ _ ?_ (fun hHeld => ?_)
              · exact ⟨range_set (range_below ((rangeP RP.out).2.1) KV19.out (lt_row RP.out)) (Nat.ne_of_lt (Nat.lt_of_lt_of_le (lt_row RP.out) GG.out)), range_set (range_below ((rangeP RP.out).1) KV19.out (lt_row RP.out)) (Nat.ne_of_lt (Nat.lt_of_lt_of_le (lt_row RP.out) GG.out)), range_set (range_below ((rangeP RQ.out).2.1) KV19.out (lt_row RQ.out)) (Nat.ne_of_lt (Nat.lt_of_lt_of_le (lt_row RQ.out) GG.out)), range_set (range_below ((rangeP RQ.out).1) KV19.out (lt_row RQ.out)) (Nat.ne_of_lt (Nat.lt_of_lt_of_le (lt_row RQ.out) GG.out))⟩
              clear hK K
              try simp only [Act.put, List.setIfInBounds_toArray, List.set_cons_zero, List.set_cons_succ]
              refine wpAnyH_done (by kernel_rfl) ?_ _
              go_wp2_with fail
              go_meet
              case rel => exact ⟨g19, rfl, GG, hide (setRow_heap _ _ _ _ _ _ ZN.out), hide (below_setRow KV19.out GG.out _)⟩
            exact AllReadyH.nil
          exact AllReadyH.nil
        refine AllReadyH.cons (o := { dst := some 6, op := Go.Op.alloc 42, type := 0, pos := "point.go:76", after := #[], guard := none }) rfl (fun K hK => ?_) ?_
        · skip
          refine step_runTo (w' := V17.alloc (.cells (num4A 0) 42)) (by rfl) (.pointer (some ⟨V17.heap.size, 0, none⟩)) (hrunAllocE rfl V17) ?_
          obtain ⟨g20, hg20⟩ : ∃ g, g = V17.heap.size := ⟨_, rfl⟩
          have ZN : Hid ((V17.alloc (.cells (num4A 0) 42)).heap[g20]? = some (.cells (num4A 0) 42 (0, 0))) := by rw [hg20]; exact heap_alloc_new _ _
          have KV20 : Hid (Below W1.heap.size W1 (V17.alloc (.cells (num4A 0) 42))) := KV17.out.alloc KV17.out.size _
          have GG : Hid (W1.heap.size ≤ g20) := by rw [hg20]; exact KV17.out.size
          rw [← hg20]
          obtain ⟨V20, hV20⟩ : ∃ V, V = V17.alloc (.cells (num4A 0) 42) := ⟨_, rfl⟩
          rw [← hV20] at ZN KV20 ⊢
          clear hV20 hg20
          refine hK.out _ _ ?_ (fun hHeld => ?_)
          · exact ⟨range_below ((rangeP RP.out).2.1) KV20.out (lt_row RP.out), range_below ((rangeP RP.out).1) KV20.out (lt_row RP.out), range_below ((rangeP RQ.out).2.1) KV20.out (lt_row RQ.out), range_below ((rangeP RQ.out).1) KV20.out (lt_row RQ.out)⟩
          clear hK K
          try simp only [Act.put, List.setIfInBounds_toArray, List.set_cons_zero, List.set_cons_succ]
          refine wpAnyH_ready (rs := [10]) (by kernel_rfl) (by simp) ?_
          refine AllReadyH.cons (o := { dst := some 30, op := Go.Op.call { callee := Go.Callee.value (Go.Operand.func 44), args := #[Go.Operand.tmp 24, Go.Operand.tmp 29], argTypes := #[42, 42] }, type := 42, pos := "point.go:76", after := #[{ on := 4, ground := Go.Ground.data }, { on := 9, ground := Go.Ground.data }, { on := 9, ground := Go.Ground.chain }], guard := none }) rfl (fun K hK => ?_) ?_
          · skip
            refine step_callTo (by rfl) _ _ (hrunTimes _ _ rfl (.agg (num4A (aP p.y p.x))) (.agg (num4A (aP q.y q.x))) rfl rfl V20) _ _ (feTimes (aP p.y p.x) (aP q.y q.x) (aP_lt _ _) (aP_lt _ _) V20) (fun V21 HBx => ?_)
            have KV21 : Hid (Below W1.heap.size W1 V21) := KV20.out.trans (HBx.mono KV20.out.size)
            have ZN := hide (row_keep' ZN.out HBx)
            clear HBx
            refine hK.out _ _ ?_ (fun hHeld => ?_)
            · exact ⟨range_below ((rangeP RP.out).2.1) KV21.out (lt_row RP.out), range_below ((rangeP RP.out).1) KV21.out (lt_row RP.out), range_below ((rangeP RQ.out).2.1) KV21.out (lt_row RQ.out), range_below ((rangeP RQ.out).1) KV21.out (lt_row RQ.out)⟩
            clear hK K
            try simp only [Act.put, List.setIfInBounds_toArray, List.set_cons_zero, List.set_cons_succ]
            refine wpAnyH_ready (rs := [12]) (by kernel_rfl) (by simp) ?_
            refine AllReadyH.cons (o := { dst := none, op := Go.Op.store 42 (Go.Operand.tmp 6) (Go.Operand.tmp 30), type := 0, pos := "point.go:76", after := #[{ on := 11, ground := Go.Ground.data }, { on := 10, ground := Go.Ground.data }, { on := 10, ground := Go.Ground.chain }, { on := 0, ground := Go.Ground.phase }, { on := 1, ground := Go.Ground.phase }, { on := 2, ground := Go.Ground.phase }, { on := 3, ground := Go.Ground.phase }, { on := 4, ground := Go.Ground.phase }, { on := 5, ground := Go.Ground.phase }, { on := 6, ground := Go.Ground.phase }, { on := 7, ground := Go.Ground.phase }, { on := 8, ground := Go.Ground.phase }, { on := 9, ground := Go.Ground.phase }, { on := 10, ground := Go.Ground.phase }, { on := 11, ground := Go.Ground.phase }], guard := none }) rfl (fun K hK => ?_) ?_
            · skip
              refine step_store_row _ (by rfl) 42 (.tmp 6) (.tmp 30) (by rfl) (g20) (num4A (mP (aP p.y p.x) (aP q.y q.x))) (by rfl) (by rfl) 42 _ ZN.out (feSize _) (n4_old _ _) (num4A_all _) ?_
              rw [put_none']
              refine hK.out _ _ ?_ (fun hHeld => ?_)
              · exact ⟨range_set (range_below ((rangeP RP.out).2.1) KV21.out (lt_row RP.out)) (Nat.ne_of_lt (Nat.lt_of_lt_of_le (lt_row RP.out) GG.out)), range_set (range_below ((rangeP RP.out).1) KV21.out (lt_row RP.out)) (Nat.ne_of_lt (Nat.lt_of_lt_of_le (lt_row RP.out) GG.out)), range_set (range_below ((rangeP RQ.out).2.1) KV21.out (lt_row RQ.out)) (Nat.ne_of_lt (Nat.lt_of_lt_of_le (lt_row RQ.out) GG.out)), range_set (range_below ((rangeP RQ.out).1) KV21.out (lt_row RQ.out)) (Nat.ne_of_lt (Nat.lt_of_lt_of_le (lt_row RQ.out) GG.out))⟩
              clear hK K
              try simp only [Act.put, List.setIfInBounds_toArray, List.set_cons_zero, List.set_cons_succ]
              refine wpAnyH_done (by kernel_rfl) ?_ _
              go_wp2_with fail
              go_meet
              case rel => exact ⟨g20, rfl, GG, hide (setRow_heap _ _ _ _ _ _ ZN.out), hide (below_setRow KV21.out GG.out _)⟩
            exact AllReadyH.nil
          exact AllReadyH.nil
        exact AllReadyH.nil
      refine AllReadyH.cons (o := { dst := some 6, op := Go.Op.alloc 42, type := 0, pos := "point.go:76", after := #[], guard := none }) rfl (fun K hK => ?_) ?_
      · skip
        refine step_runTo (w' := V16.alloc (.cells (num4A 0) 42)) (by rfl) (.pointer (some ⟨V16.heap.size, 0, none⟩)) (hrunAllocE rfl V16) ?_
        obtain ⟨g22, hg22⟩ : ∃ g, g = V16.heap.size := ⟨_, rfl⟩
        have ZN : Hid ((V16.alloc (.cells (num4A 0) 42)).heap[g22]? = some (.cells (num4A 0) 42 (0, 0))) := by rw [hg22]; exact heap_alloc_new _ _
        have KV22 : Hid (Below W1.heap.size W1 (V16.alloc (.cells (num4A 0) 42))) := KV16.out.alloc KV16.out.size _
        have GG : Hid (W1.heap.size ≤ g22) := by rw [hg22]; exact KV16.out.size
        rw [← hg22]
        obtain ⟨V22, hV22⟩ : ∃ V, V = V16.alloc (.cells (num4A 0) 42) := ⟨_, rfl⟩
        rw [← hV22] at ZN KV22 ⊢
        clear hV22 hg22
        refine hK.out _ _ ?_ (fun hHeld => ?_)
        · exact ⟨range_below ((rangeP RP.out).2.1) KV22.out (lt_row RP.out), range_below ((rangeP RP.out).1) KV22.out (lt_row RP.out), range_below ((rangeP RQ.out).2.1) KV22.out (lt_row RQ.out), range_below ((rangeP RQ.out).1) KV22.out (lt_row RQ.out)⟩
        clear hK K
        try simp only [Act.put, List.setIfInBounds_toArray, List.set_cons_zero, List.set_cons_succ]
        refine wpAnyH_ready (rs := [9]) (by kernel_rfl) (by simp) ?_
        refine AllReadyH.cons (o := { dst := some 29, op := Go.Op.call { callee := Go.Callee.value (Go.Operand.func 45), args := #[Go.Operand.tmp 26, Go.Operand.tmp 28], argTypes := #[42, 42] }, type := 42, pos := "point.go:76", after := #[{ on := 6, ground := Go.Ground.data }, { on := 8, ground := Go.Ground.data }, { on := 4, ground := Go.Ground.chain }], guard := none }) rfl (fun K hK => ?_) ?_
        · skip
          refine step_callTo (by rfl) _ _ (hrunPlus _ _ rfl (.agg (num4A q.y)) (.agg (num4A q.x)) rfl rfl V22) _ _ (fePlus q.y q.x Hq.out.y Hq.out.x V22) (fun V23 HBx => ?_)
          have KV23 : Hid (Below W1.heap.size W1 V23) := KV22.out.trans (HBx.mono KV22.out.size)
          have ZN := hide (row_keep' ZN.out HBx)
          clear HBx
          refine hK.out _ _ ?_ (fun hHeld => ?_)
          · exact ⟨range_below ((rangeP RP.out).2.1) KV23.out (lt_row RP.out), range_below ((rangeP RP.out).1) KV23.out (lt_row RP.out), range_below ((rangeP RQ.out).2.1) KV23.out (lt_row RQ.out), range_below ((rangeP RQ.out).1) KV23.out (lt_row RQ.out)⟩
          clear hK K
          try simp only [Act.put, List.setIfInBounds_toArray, List.set_cons_zero, List.set_cons_succ]
          refine wpAnyH_ready (rs := [10]) (by kernel_rfl) (by simp) ?_
          refine AllReadyH.cons (o := { dst := some 30, op := Go.Op.call { callee := Go.Callee.value (Go.Operand.func 44), args := #[Go.Operand.tmp 24, Go.Operand.tmp 29], argTypes := #[42, 42] }, type := 42, pos := "point.go:76", after := #[{ on := 4, ground := Go.Ground.data }, { on := 9, ground := Go.Ground.data }, { on := 9, ground := Go.Ground.chain }], guard := none }) rfl (fun K hK => ?_) ?_
          · skip
            refine step_callTo (by rfl) _ _ (hrunTimes _ _ rfl (.agg (num4A (aP p.y p.x))) (.agg (num4A (aP q.y q.x))) rfl rfl V23) _ _ (feTimes (aP p.y p.x) (aP q.y q.x) (aP_lt _ _) (aP_lt _ _) V23) (fun V24 HBx => ?_)
            have KV24 : Hid (Below W1.heap.size W1 V24) := KV23.out.trans (HBx.mono KV23.out.size)
            have ZN := hide (row_keep' ZN.out HBx)
            clear HBx
            refine hK.out _ _ ?_ (fun hHeld => ?_)
            · exact ⟨range_below ((rangeP RP.out).2.1) KV24.out (lt_row RP.out), range_below ((rangeP RP.out).1) KV24.out (lt_row RP.out), range_below ((rangeP RQ.out).2.1) KV24.out (lt_row RQ.out), range_below ((rangeP RQ.out).1) KV24.out (lt_row RQ.out)⟩
            clear hK K
            try simp only [Act.put, List.setIfInBounds_toArray, List.set_cons_zero, List.set_cons_succ]
            refine wpAnyH_ready (rs := [12]) (by kernel_rfl) (by simp) ?_
            refine AllReadyH.cons (o := { dst := none, op := Go.Op.store 42 (Go.Operand.tmp 6) (Go.Operand.tmp 30), type := 0, pos := "point.go:76", after := #[{ on := 11, ground := Go.Ground.data }, { on := 10, ground := Go.Ground.data }, { on := 10, ground := Go.Ground.chain }, { on := 0, ground := Go.Ground.phase }, { on := 1, ground := Go.Ground.phase }, { on := 2, ground := Go.Ground.phase }, { on := 3, ground := Go.Ground.phase }, { on := 4, ground := Go.Ground.phase }, { on := 5, ground := Go.Ground.phase }, { on := 6, ground := Go.Ground.phase }, { on := 7, ground := Go.Ground.phase }, { on := 8, ground := Go.Ground.phase }, { on := 9, ground := Go.Ground.phase }, { on := 10, ground := Go.Ground.phase }, { on := 11, ground := Go.Ground.phase }], guard := none }) rfl (fun K hK => ?_) ?_
            · skip
              refine step_store_row _ (by rfl) 42 (.tmp 6) (.tmp 30) (by rfl) (g22) (num4A (mP (aP p.y p.x) (aP q.y q.x))) (by rfl) (by rfl) 42 _ ZN.out (feSize _) (n4_old _ _) (num4A_all _) ?_
              rw [put_none']
              refine hK.out _ _ ?_ (fun hHeld => ?_)
              · exact ⟨range_set (range_below ((rangeP RP.out).2.1) KV24.out (lt_row RP.out)) (Nat.ne_of_lt (Nat.lt_of_lt_of_le (lt_row RP.out) GG.out)), range_set (range_below ((rangeP RP.out).1) KV24.out (lt_row RP.out)) (Nat.ne_of_lt (Nat.lt_of_lt_of_le (lt_row RP.out) GG.out)), range_set (range_below ((rangeP RQ.out).2.1) KV24.out (lt_row RQ.out)) (Nat.ne_of_lt (Nat.lt_of_lt_of_le (lt_row RQ.out) GG.out)), range_set (range_below ((rangeP RQ.out).1) KV24.out (lt_row RQ.out)) (Nat.ne_of_lt (Nat.lt_of_lt_of_le (lt_row RQ.out) GG.out))⟩
              clear hK K
              try simp only [Act.put, List.setIfInBounds_toArray, List.set_cons_zero, List.set_cons_succ]
              refine wpAnyH_done (by kernel_rfl) ?_ _
              go_wp2_with fail
              go_meet
              case rel => exact ⟨g22, rfl, GG, hide (setRow_heap _ _ _ _ _ _ ZN.out), hide (below_setRow KV24.out GG.out _)⟩
            exact AllReadyH.nil
          exact AllReadyH.nil
        exact AllReadyH.nil
      exact AllReadyH.nil
    refine AllReadyH.cons (o := { dst := some 6, op := Go.Op.alloc 42, type := 0, pos := "point.go:76", after := #[], guard := none }) rfl (fun K hK => ?_) ?_
    · skip
      refine step_runTo (w' := V15.alloc (.cells (num4A 0) 42)) (by rfl) (.pointer (some ⟨V15.heap.size, 0, none⟩)) (hrunAllocE rfl V15) ?_
      obtain ⟨g25, hg25⟩ : ∃ g, g = V15.heap.size := ⟨_, rfl⟩
      have ZN : Hid ((V15.alloc (.cells (num4A 0) 42)).heap[g25]? = some (.cells (num4A 0) 42 (0, 0))) := by rw [hg25]; exact heap_alloc_new _ _
      have KV25 : Hid (Below W1.heap.size W1 (V15.alloc (.cells (num4A 0) 42))) := KV15.out.alloc KV15.out.size _
      have GG : Hid (W1.heap.size ≤ g25) := by rw [hg25]; exact KV15.out.size
      rw [← hg25]
      obtain ⟨V25, hV25⟩ : ∃ V, V = V15.alloc (.cells (num4A 0) 42) := ⟨_, rfl⟩
      rw [← hV25] at ZN KV25 ⊢
      clear hV25 hg25
      refine hK.out _ _ ?_ (fun hHeld => ?_)
      · exact ⟨range_below ((rangeP RP.out).2.1) KV25.out (lt_row RP.out), range_below ((rangeP RP.out).1) KV25.out (lt_row RP.out), range_below ((rangeP RQ.out).2.1) KV25.out (lt_row RQ.out), range_below ((rangeP RQ.out).1) KV25.out (lt_row RQ.out)⟩
      clear hK K
      try simp only [Act.put, List.setIfInBounds_toArray, List.set_cons_zero, List.set_cons_succ]
      refine wpAnyH_ready (rs := [4]) (by kernel_rfl) (by simp) ?_
      refine AllReadyH.cons (o := { dst := some 24, op := Go.Op.call { callee := Go.Callee.value (Go.Operand.func 45), args := #[Go.Operand.tmp 21, Go.Operand.tmp 23], argTypes := #[42, 42] }, type := 42, pos := "point.go:76", after := #[{ on := 1, ground := Go.Ground.data }, { on := 3, ground := Go.Ground.data }], guard := none }) rfl (fun K hK => ?_) ?_
      · skip
        refine step_callTo (by rfl) _ _ (hrunPlus _ _ rfl (.agg (num4A p.y)) (.agg (num4A p.x)) rfl rfl V25) _ _ (fePlus p.y p.x Hp.out.y Hp.out.x V25) (fun V26 HBx => ?_)
        have KV26 : Hid (Below W1.heap.size W1 V26) := KV25.out.trans (HBx.mono KV25.out.size)
        have ZN := hide (row_keep' ZN.out HBx)
        clear HBx
        refine hK.out _ _ ?_ (fun hHeld => ?_)
        · exact ⟨range_below ((rangeP RP.out).2.1) KV26.out (lt_row RP.out), range_below ((rangeP RP.out).1) KV26.out (lt_row RP.out), range_below ((rangeP RQ.out).2.1) KV26.out (lt_row RQ.out), range_below ((rangeP RQ.out).1) KV26.out (lt_row RQ.out)⟩
        clear hK K
        try simp only [Act.put, List.setIfInBounds_toArray, List.set_cons_zero, List.set_cons_succ]
        refine wpAnyH_ready (rs := [9]) (by kernel_rfl) (by simp) ?_
        refine AllReadyH.cons (o := { dst := some 29, op := Go.Op.call { callee := Go.Callee.value (Go.Operand.func 45), args := #[Go.Operand.tmp 26, Go.Operand.tmp 28], argTypes := #[42, 42] }, type := 42, pos := "point.go:76", after := #[{ on := 6, ground := Go.Ground.data }, { on := 8, ground := Go.Ground.data }, { on := 4, ground := Go.Ground.chain }], guard := none }) rfl (fun K hK => ?_) ?_
        · skip
          refine step_callTo (by rfl) _ _ (hrunPlus _ _ rfl (.agg (num4A q.y)) (.agg (num4A q.x)) rfl rfl V26) _ _ (fePlus q.y q.x Hq.out.y Hq.out.x V26) (fun V27 HBx => ?_)
          have KV27 : Hid (Below W1.heap.size W1 V27) := KV26.out.trans (HBx.mono KV26.out.size)
          have ZN := hide (row_keep' ZN.out HBx)
          clear HBx
          refine hK.out _ _ ?_ (fun hHeld => ?_)
          · exact ⟨range_below ((rangeP RP.out).2.1) KV27.out (lt_row RP.out), range_below ((rangeP RP.out).1) KV27.out (lt_row RP.out), range_below ((rangeP RQ.out).2.1) KV27.out (lt_row RQ.out), range_below ((rangeP RQ.out).1) KV27.out (lt_row RQ.out)⟩
          clear hK K
          try simp only [Act.put, List.setIfInBounds_toArray, List.set_cons_zero, List.set_cons_succ]
          refine wpAnyH_ready (rs := [10]) (by kernel_rfl) (by simp) ?_
          refine AllReadyH.cons (o := { dst := some 30, op := Go.Op.call { callee := Go.Callee.value (Go.Operand.func 44), args := #[Go.Operand.tmp 24, Go.Operand.tmp 29], argTypes := #[42, 42] }, type := 42, pos := "point.go:76", after := #[{ on := 4, ground := Go.Ground.data }, { on := 9, ground := Go.Ground.data }, { on := 9, ground := Go.Ground.chain }], guard := none }) rfl (fun K hK => ?_) ?_
          · skip
            refine step_callTo (by rfl) _ _ (hrunTimes _ _ rfl (.agg (num4A (aP p.y p.x))) (.agg (num4A (aP q.y q.x))) rfl rfl V27) _ _ (feTimes (aP p.y p.x) (aP q.y q.x) (aP_lt _ _) (aP_lt _ _) V27) (fun V28 HBx => ?_)
            have KV28 : Hid (Below W1.heap.size W1 V28) := KV27.out.trans (HBx.mono KV27.out.size)
            have ZN := hide (row_keep' ZN.out HBx)
            clear HBx
            refine hK.out _ _ ?_ (fun hHeld => ?_)
            · exact ⟨range_below ((rangeP RP.out).2.1) KV28.out (lt_row RP.out), range_below ((rangeP RP.out).1) KV28.out (lt_row RP.out), range_below ((rangeP RQ.out).2.1) KV28.out (lt_row RQ.out), range_below ((rangeP RQ.out).1) KV28.out (lt_row RQ.out)⟩
            clear hK K
            try simp only [Act.put, List.setIfInBounds_toArray, List.set_cons_zero, List.set_cons_succ]
            refine wpAnyH_ready (rs := [12]) (by kernel_rfl) (by simp) ?_
            refine AllReadyH.cons (o := { dst := none, op := Go.Op.store 42 (Go.Operand.tmp 6) (Go.Operand.tmp 30), type := 0, pos := "point.go:76", after := #[{ on := 11, ground := Go.Ground.data }, { on := 10, ground := Go.Ground.data }, { on := 10, ground := Go.Ground.chain }, { on := 0, ground := Go.Ground.phase }, { on := 1, ground := Go.Ground.phase }, { on := 2, ground := Go.Ground.phase }, { on := 3, ground := Go.Ground.phase }, { on := 4, ground := Go.Ground.phase }, { on := 5, ground := Go.Ground.phase }, { on := 6, ground := Go.Ground.phase }, { on := 7, ground := Go.Ground.phase }, { on := 8, ground := Go.Ground.phase }, { on := 9, ground := Go.Ground.phase }, { on := 10, ground := Go.Ground.phase }, { on := 11, ground := Go.Ground.phase }], guard := none }) rfl (fun K hK => ?_) ?_
            · skip
              refine step_store_row _ (by rfl) 42 (.tmp 6) (.tmp 30) (by rfl) (g25) (num4A (mP (aP p.y p.x) (aP q.y q.x))) (by rfl) (by rfl) 42 _ ZN.out (feSize _) (n4_old _ _) (num4A_all _) ?_
              rw [put_none']
              refine hK.out _ _ ?_ (fun hHeld => ?_)
              · exact ⟨range_set (range_below ((rangeP RP.out).2.1) KV28.out (lt_row RP.out)) (Nat.ne_of_lt (Nat.lt_of_lt_of_le (lt_row RP.out) GG.out)), range_set (range_below ((rangeP RP.out).1) KV28.out (lt_row RP.out)) (Nat.ne_of_lt (Nat.lt_of_lt_of_le (lt_row RP.out) GG.out)), range_set (range_below ((rangeP RQ.out).2.1) KV28.out (lt_row RQ.out)) (Nat.ne_of_lt (Nat.lt_of_lt_of_le (lt_row RQ.out) GG.out)), range_set (range_below ((rangeP RQ.out).1) KV28.out (lt_row RQ.out)) (Nat.ne_of_lt (Nat.lt_of_lt_of_le (lt_row RQ.out) GG.out))⟩
              clear hK K
              try simp only [Act.put, List.setIfInBounds_toArray, List.set_cons_zero, List.set_cons_succ]
              refine wpAnyH_done (by kernel_rfl) ?_ _
              go_wp2_with fail
              go_meet
              case rel => exact ⟨g25, rfl, GG, hide (setRow_heap _ _ _ _ _ _ ZN.out), hide (below_setRow KV28.out GG.out _)⟩
            exact AllReadyH.nil
          exact AllReadyH.nil
        exact AllReadyH.nil
      exact AllReadyH.nil
    exact AllReadyH.nil
  case rest =>
  obtain ⟨g6, rfl, Gg6, R6, Xg6⟩ := hcut
  obtain ⟨W2, hW⟩ : ∃ W, W = wc := ⟨_, rfl⟩
  subst hW
  have lRPg6 : w.heap.size < g6 := Nat.lt_of_lt_of_le (lt_row RP.out) Gg6.out
  have lRQg6 : w.heap.size + 1 < g6 := Nat.lt_of_lt_of_le (lt_row RQ.out) Gg6.out
  have lRZg6 : w.heap.size + 2 < g6 := Nat.lt_of_lt_of_le (lt_row RZ.out) Gg6.out
  have lRGg6 : 0 < g6 := Nat.lt_of_lt_of_le (lt_row RG.out) Gg6.out
  have lR5g6 : g5 < g6 := Nat.lt_of_lt_of_le (lt_row R5.out) Gg6.out
  have RP := hide (row_below RP.out Xg6.out (lt_row RP.out))
  have RQ := hide (row_below RQ.out Xg6.out (lt_row RQ.out))
  have RZ := hide (row_below RZ.out Xg6.out (lt_row RZ.out))
  have RG := hide (row_below RG.out Xg6.out (lt_row RG.out))
  have R5 := hide (row_below R5.out Xg6.out (lt_row R5.out))
  have BL : Hid (Below w.heap.size w W2) := BL.out.trans (Xg6.out.mono BL.out.size)
  clear Xg6 Gg6
  obtain ⟨b, Eb⟩ : ∃ x, Hid (x = mP (aP p.y p.x) (aP q.y q.x)) := ⟨_, rfl⟩
  have Hb : Hid (b < P) := by rw [Eb.out]; exact mP_lt _ _
  rw [← Eb.out] at R6
  go_wp2_with fail
  go_cut [7] from 31 to 37 (fun s wx => ∃ g, s = .pointer (some ⟨g, 0, none⟩) ∧ Hid (W2.heap.size ≤ g) ∧ Hid (wx.heap[g]? = some (.cells (num4A (mP (mP p.t td) q.t)) 42 (0, 0))) ∧ Hid (Below W2.heap.size W2 wx))
  case first =>
    refine wp_region_held_drew (S := fun w' => w'.rangeAt (w.heap.size) 12 (nL p.t) ∧ w'.rangeAt (0) 0 (nL td) ∧ w'.rangeAt (w.heap.size + 1) 12 (nL q.t)) (by kernel_rfl) (by exact ⟨(rangeP RP.out).2.2.2, rangeN RG.out, (rangeP RQ.out).2.2.2⟩) (fun hHeld => ?_)
    obtain ⟨V29, hV29⟩ : ∃ V, V = W2.drew := ⟨_, rfl⟩
    rw [← hV29] at hHeld ⊢
    have KV29 : Hid (Below W2.heap.size W2 V29) := by rw [hV29]; exact (Below.refl _ _).drew
    clear hV29
    refine wpAnyH_take (i := 0) (oi := { dst := some 31, op := Go.Op.fieldAddr 44 (Go.Operand.tmp 2) 3, type := 0, pos := "point.go:77", after := #[], guard := none }) (v := .pointer (some ⟨w.heap.size, 12, none⟩)) rfl (by kernel_rfl) (by kernel_rfl) (by kernel_rfl) (fun _ _ _ h => h) (Or.inl ⟨by rfl, fun w _ => by go_simp⟩) hHeld ?_
    simp only [Act.put, List.setIfInBounds_toArray, List.set_cons_zero, List.set_cons_succ]
    refine wpAnyH_take (i := 1) (oi := { dst := some 32, op := Go.Op.load 42 (Go.Operand.tmp 31), type := 42, pos := "point.go:77", after := #[{ on := 0, ground := Go.Ground.data }], guard := none }) (v := .agg (num4A p.t)) rfl (by kernel_rfl) (by kernel_rfl) (by kernel_rfl) (fun _ _ _ h => h) (yldN (by rfl) _ rfl (w.heap.size) 12 p.t rfl (fun w h => h.1)) hHeld ?_
    simp only [Act.put, List.setIfInBounds_toArray, List.set_cons_zero, List.set_cons_succ]
    refine wpAnyH_take (i := 2) (oi := { dst := some 33, op := Go.Op.load 42 (Go.Operand.global 0), type := 42, pos := "point.go:77", after := #[], guard := none }) (v := .agg (num4A td)) rfl (by kernel_rfl) (by kernel_rfl) (by kernel_rfl) (fun _ _ _ h => h) (yldN (by rfl) _ rfl (0) 0 td rfl (fun w h => h.2.1)) hHeld ?_
    simp only [Act.put, List.setIfInBounds_toArray, List.set_cons_zero, List.set_cons_succ]
    refine wpAnyH_take (i := 4) (oi := { dst := some 35, op := Go.Op.fieldAddr 44 (Go.Operand.tmp 3) 3, type := 0, pos := "point.go:77", after := #[], guard := none }) (v := .pointer (some ⟨w.heap.size + 1, 12, none⟩)) rfl (by kernel_rfl) (by kernel_rfl) (by kernel_rfl) (fun _ _ _ h => h) (Or.inl ⟨by rfl, fun w _ => by go_simp⟩) hHeld ?_
    simp only [Act.put, List.setIfInBounds_toArray, List.set_cons_zero, List.set_cons_succ]
    refine wpAnyH_take (i := 5) (oi := { dst := some 36, op := Go.Op.load 42 (Go.Operand.tmp 35), type := 42, pos := "point.go:77", after := #[{ on := 4, ground := Go.Ground.data }], guard := none }) (v := .agg (num4A q.t)) rfl (by kernel_rfl) (by kernel_rfl) (by kernel_rfl) (fun _ _ _ h => h) (yldN (by rfl) _ rfl (w.heap.size + 1) 12 q.t rfl (fun w h => h.2.2)) hHeld ?_
    simp only [Act.put, List.setIfInBounds_toArray, List.set_cons_zero, List.set_cons_succ]
    refine wpAnyH_ready (rs := [3, 7]) (by kernel_rfl) (by simp) ?_
    refine AllReadyH.cons (o := { dst := some 34, op := Go.Op.call { callee := Go.Callee.value (Go.Operand.func 44), args := #[Go.Operand.tmp 32, Go.Operand.tmp 33], argTypes := #[42, 42] }, type := 42, pos := "point.go:77", after := #[{ on := 1, ground := Go.Ground.data }, { on := 2, ground := Go.Ground.data }], guard := none }) rfl (fun K hK => ?_) ?_
    · skip
      refine step_callTo (by rfl) _ _ (hrunTimes _ _ rfl (.agg (num4A p.t)) (.agg (num4A td)) rfl rfl V29) _ _ (feTimes p.t td Hp.out.t Htd.out V29) (fun V30 HBx => ?_)
      have KV30 : Hid (Below W2.heap.size W2 V30) := KV29.out.trans (HBx.mono KV29.out.size)
      clear HBx
      refine hK.out _ _ ?_ (fun hHeld => ?_)
      · exact ⟨range_below ((rangeP RP.out).2.2.2) KV30.out (lt_row RP.out), range_below (rangeN RG.out) KV30.out (lt_row RG.out), range_below ((rangeP RQ.out).2.2.2) KV30.out (lt_row RQ.out)⟩
      clear hK K
      try simp only [Act.put, List.setIfInBounds_toArray, List.set_cons_zero, List.set_cons_succ]
      refine wpAnyH_ready (rs := [6, 7]) (by kernel_rfl) (by simp) ?_
      refine AllReadyH.cons (o := { dst := some 37, op := Go.Op.call { callee := Go.Callee.value (Go.Operand.func 44), args := #[Go.Operand.tmp 34, Go.Operand.tmp 36], argTypes := #[42, 42] }, type := 42, pos := "point.go:77", after := #[{ on := 3, ground := Go.Ground.data }, { on := 5, ground := Go.Ground.data }, { on := 3, ground := Go.Ground.chain }], guard := none }) rfl (fun K hK => ?_) ?_
      · skip
        refine step_callTo (by rfl) _ _ (hrunTimes _ _ rfl (.agg (num4A (mP p.t td))) (.agg (num4A q.t)) rfl rfl V30) _ _ (feTimes (mP p.t td) q.t (mP_lt _ _) Hq.out.t V30) (fun V31 HBx => ?_)
        have KV31 : Hid (Below W2.heap.size W2 V31) := KV30.out.trans (HBx.mono KV30.out.size)
        clear HBx
        refine hK.out _ _ ?_ (fun hHeld => ?_)
        · exact ⟨range_below ((rangeP RP.out).2.2.2) KV31.out (lt_row RP.out), range_below (rangeN RG.out) KV31.out (lt_row RG.out), range_below ((rangeP RQ.out).2.2.2) KV31.out (lt_row RQ.out)⟩
        clear hK K
        try simp only [Act.put, List.setIfInBounds_toArray, List.set_cons_zero, List.set_cons_succ]
        refine wpAnyH_ready (rs := [7]) (by kernel_rfl) (by simp) ?_
        refine AllReadyH.cons (o := { dst := some 7, op := Go.Op.alloc 42, type := 0, pos := "point.go:77", after := #[], guard := none }) rfl (fun K hK => ?_) ?_
        · skip
          refine step_runTo (w' := V31.alloc (.cells (num4A 0) 42)) (by rfl) (.pointer (some ⟨V31.heap.size, 0, none⟩)) (hrunAllocE rfl V31) ?_
          obtain ⟨g32, hg32⟩ : ∃ g, g = V31.heap.size := ⟨_, rfl⟩
          have ZN : Hid ((V31.alloc (.cells (num4A 0) 42)).heap[g32]? = some (.cells (num4A 0) 42 (0, 0))) := by rw [hg32]; exact heap_alloc_new _ _
          have KV32 : Hid (Below W2.heap.size W2 (V31.alloc (.cells (num4A 0) 42))) := KV31.out.alloc KV31.out.size _
          have GG : Hid (W2.heap.size ≤ g32) := by rw [hg32]; exact KV31.out.size
          rw [← hg32]
          obtain ⟨V32, hV32⟩ : ∃ V, V = V31.alloc (.cells (num4A 0) 42) := ⟨_, rfl⟩
          rw [← hV32] at ZN KV32 ⊢
          clear hV32 hg32
          refine hK.out _ _ ?_ (fun hHeld => ?_)
          · exact ⟨range_below ((rangeP RP.out).2.2.2) KV32.out (lt_row RP.out), range_below (rangeN RG.out) KV32.out (lt_row RG.out), range_below ((rangeP RQ.out).2.2.2) KV32.out (lt_row RQ.out)⟩
          clear hK K
          try simp only [Act.put, List.setIfInBounds_toArray, List.set_cons_zero, List.set_cons_succ]
          refine wpAnyH_ready (rs := [8]) (by kernel_rfl) (by simp) ?_
          refine AllReadyH.cons (o := { dst := none, op := Go.Op.store 42 (Go.Operand.tmp 7) (Go.Operand.tmp 37), type := 0, pos := "point.go:77", after := #[{ on := 7, ground := Go.Ground.data }, { on := 6, ground := Go.Ground.data }, { on := 6, ground := Go.Ground.chain }, { on := 0, ground := Go.Ground.phase }, { on := 1, ground := Go.Ground.phase }, { on := 2, ground := Go.Ground.phase }, { on := 3, ground := Go.Ground.phase }, { on := 4, ground := Go.Ground.phase }, { on := 5, ground := Go.Ground.phase }, { on := 6, ground := Go.Ground.phase }, { on := 7, ground := Go.Ground.phase }], guard := none }) rfl (fun K hK => ?_) ?_
          · skip
            refine step_store_row _ (by rfl) 42 (.tmp 7) (.tmp 37) (by rfl) (g32) (num4A (mP (mP p.t td) q.t)) (by rfl) (by rfl) 42 _ ZN.out (feSize _) (n4_old _ _) (num4A_all _) ?_
            rw [put_none']
            refine hK.out _ _ ?_ (fun hHeld => ?_)
            · exact ⟨range_set (range_below ((rangeP RP.out).2.2.2) KV32.out (lt_row RP.out)) (Nat.ne_of_lt (Nat.lt_of_lt_of_le (lt_row RP.out) GG.out)), range_set (range_below (rangeN RG.out) KV32.out (lt_row RG.out)) (Nat.ne_of_lt (Nat.lt_of_lt_of_le (lt_row RG.out) GG.out)), range_set (range_below ((rangeP RQ.out).2.2.2) KV32.out (lt_row RQ.out)) (Nat.ne_of_lt (Nat.lt_of_lt_of_le (lt_row RQ.out) GG.out))⟩
            clear hK K
            try simp only [Act.put, List.setIfInBounds_toArray, List.set_cons_zero, List.set_cons_succ]
            refine wpAnyH_done (by kernel_rfl) ?_ _
            go_wp2_with fail
            go_meet
            case rel => exact ⟨g32, rfl, GG, hide (setRow_heap _ _ _ _ _ _ ZN.out), hide (below_setRow KV32.out GG.out _)⟩
          exact AllReadyH.nil
        exact AllReadyH.nil
      refine AllReadyH.cons (o := { dst := some 7, op := Go.Op.alloc 42, type := 0, pos := "point.go:77", after := #[], guard := none }) rfl (fun K hK => ?_) ?_
      · skip
        refine step_runTo (w' := V30.alloc (.cells (num4A 0) 42)) (by rfl) (.pointer (some ⟨V30.heap.size, 0, none⟩)) (hrunAllocE rfl V30) ?_
        obtain ⟨g33, hg33⟩ : ∃ g, g = V30.heap.size := ⟨_, rfl⟩
        have ZN : Hid ((V30.alloc (.cells (num4A 0) 42)).heap[g33]? = some (.cells (num4A 0) 42 (0, 0))) := by rw [hg33]; exact heap_alloc_new _ _
        have KV33 : Hid (Below W2.heap.size W2 (V30.alloc (.cells (num4A 0) 42))) := KV30.out.alloc KV30.out.size _
        have GG : Hid (W2.heap.size ≤ g33) := by rw [hg33]; exact KV30.out.size
        rw [← hg33]
        obtain ⟨V33, hV33⟩ : ∃ V, V = V30.alloc (.cells (num4A 0) 42) := ⟨_, rfl⟩
        rw [← hV33] at ZN KV33 ⊢
        clear hV33 hg33
        refine hK.out _ _ ?_ (fun hHeld => ?_)
        · exact ⟨range_below ((rangeP RP.out).2.2.2) KV33.out (lt_row RP.out), range_below (rangeN RG.out) KV33.out (lt_row RG.out), range_below ((rangeP RQ.out).2.2.2) KV33.out (lt_row RQ.out)⟩
        clear hK K
        try simp only [Act.put, List.setIfInBounds_toArray, List.set_cons_zero, List.set_cons_succ]
        refine wpAnyH_ready (rs := [6]) (by kernel_rfl) (by simp) ?_
        refine AllReadyH.cons (o := { dst := some 37, op := Go.Op.call { callee := Go.Callee.value (Go.Operand.func 44), args := #[Go.Operand.tmp 34, Go.Operand.tmp 36], argTypes := #[42, 42] }, type := 42, pos := "point.go:77", after := #[{ on := 3, ground := Go.Ground.data }, { on := 5, ground := Go.Ground.data }, { on := 3, ground := Go.Ground.chain }], guard := none }) rfl (fun K hK => ?_) ?_
        · skip
          refine step_callTo (by rfl) _ _ (hrunTimes _ _ rfl (.agg (num4A (mP p.t td))) (.agg (num4A q.t)) rfl rfl V33) _ _ (feTimes (mP p.t td) q.t (mP_lt _ _) Hq.out.t V33) (fun V34 HBx => ?_)
          have KV34 : Hid (Below W2.heap.size W2 V34) := KV33.out.trans (HBx.mono KV33.out.size)
          have ZN := hide (row_keep' ZN.out HBx)
          clear HBx
          refine hK.out _ _ ?_ (fun hHeld => ?_)
          · exact ⟨range_below ((rangeP RP.out).2.2.2) KV34.out (lt_row RP.out), range_below (rangeN RG.out) KV34.out (lt_row RG.out), range_below ((rangeP RQ.out).2.2.2) KV34.out (lt_row RQ.out)⟩
          clear hK K
          try simp only [Act.put, List.setIfInBounds_toArray, List.set_cons_zero, List.set_cons_succ]
          refine wpAnyH_ready (rs := [8]) (by kernel_rfl) (by simp) ?_
          refine AllReadyH.cons (o := { dst := none, op := Go.Op.store 42 (Go.Operand.tmp 7) (Go.Operand.tmp 37), type := 0, pos := "point.go:77", after := #[{ on := 7, ground := Go.Ground.data }, { on := 6, ground := Go.Ground.data }, { on := 6, ground := Go.Ground.chain }, { on := 0, ground := Go.Ground.phase }, { on := 1, ground := Go.Ground.phase }, { on := 2, ground := Go.Ground.phase }, { on := 3, ground := Go.Ground.phase }, { on := 4, ground := Go.Ground.phase }, { on := 5, ground := Go.Ground.phase }, { on := 6, ground := Go.Ground.phase }, { on := 7, ground := Go.Ground.phase }], guard := none }) rfl (fun K hK => ?_) ?_
          · skip
            refine step_store_row _ (by rfl) 42 (.tmp 7) (.tmp 37) (by rfl) (g33) (num4A (mP (mP p.t td) q.t)) (by rfl) (by rfl) 42 _ ZN.out (feSize _) (n4_old _ _) (num4A_all _) ?_
            rw [put_none']
            refine hK.out _ _ ?_ (fun hHeld => ?_)
            · exact ⟨range_set (range_below ((rangeP RP.out).2.2.2) KV34.out (lt_row RP.out)) (Nat.ne_of_lt (Nat.lt_of_lt_of_le (lt_row RP.out) GG.out)), range_set (range_below (rangeN RG.out) KV34.out (lt_row RG.out)) (Nat.ne_of_lt (Nat.lt_of_lt_of_le (lt_row RG.out) GG.out)), range_set (range_below ((rangeP RQ.out).2.2.2) KV34.out (lt_row RQ.out)) (Nat.ne_of_lt (Nat.lt_of_lt_of_le (lt_row RQ.out) GG.out))⟩
            clear hK K
            try simp only [Act.put, List.setIfInBounds_toArray, List.set_cons_zero, List.set_cons_succ]
            refine wpAnyH_done (by kernel_rfl) ?_ _
            go_wp2_with fail
            go_meet
            case rel => exact ⟨g33, rfl, GG, hide (setRow_heap _ _ _ _ _ _ ZN.out), hide (below_setRow KV34.out GG.out _)⟩
          exact AllReadyH.nil
        exact AllReadyH.nil
      exact AllReadyH.nil
    refine AllReadyH.cons (o := { dst := some 7, op := Go.Op.alloc 42, type := 0, pos := "point.go:77", after := #[], guard := none }) rfl (fun K hK => ?_) ?_
    · skip
      refine step_runTo (w' := V29.alloc (.cells (num4A 0) 42)) (by rfl) (.pointer (some ⟨V29.heap.size, 0, none⟩)) (hrunAllocE rfl V29) ?_
      obtain ⟨g35, hg35⟩ : ∃ g, g = V29.heap.size := ⟨_, rfl⟩
      have ZN : Hid ((V29.alloc (.cells (num4A 0) 42)).heap[g35]? = some (.cells (num4A 0) 42 (0, 0))) := by rw [hg35]; exact heap_alloc_new _ _
      have KV35 : Hid (Below W2.heap.size W2 (V29.alloc (.cells (num4A 0) 42))) := KV29.out.alloc KV29.out.size _
      have GG : Hid (W2.heap.size ≤ g35) := by rw [hg35]; exact KV29.out.size
      rw [← hg35]
      obtain ⟨V35, hV35⟩ : ∃ V, V = V29.alloc (.cells (num4A 0) 42) := ⟨_, rfl⟩
      rw [← hV35] at ZN KV35 ⊢
      clear hV35 hg35
      refine hK.out _ _ ?_ (fun hHeld => ?_)
      · exact ⟨range_below ((rangeP RP.out).2.2.2) KV35.out (lt_row RP.out), range_below (rangeN RG.out) KV35.out (lt_row RG.out), range_below ((rangeP RQ.out).2.2.2) KV35.out (lt_row RQ.out)⟩
      clear hK K
      try simp only [Act.put, List.setIfInBounds_toArray, List.set_cons_zero, List.set_cons_succ]
      refine wpAnyH_ready (rs := [3]) (by kernel_rfl) (by simp) ?_
      refine AllReadyH.cons (o := { dst := some 34, op := Go.Op.call { callee := Go.Callee.value (Go.Operand.func 44), args := #[Go.Operand.tmp 32, Go.Operand.tmp 33], argTypes := #[42, 42] }, type := 42, pos := "point.go:77", after := #[{ on := 1, ground := Go.Ground.data }, { on := 2, ground := Go.Ground.data }], guard := none }) rfl (fun K hK => ?_) ?_
      · skip
        refine step_callTo (by rfl) _ _ (hrunTimes _ _ rfl (.agg (num4A p.t)) (.agg (num4A td)) rfl rfl V35) _ _ (feTimes p.t td Hp.out.t Htd.out V35) (fun V36 HBx => ?_)
        have KV36 : Hid (Below W2.heap.size W2 V36) := KV35.out.trans (HBx.mono KV35.out.size)
        have ZN := hide (row_keep' ZN.out HBx)
        clear HBx
        refine hK.out _ _ ?_ (fun hHeld => ?_)
        · exact ⟨range_below ((rangeP RP.out).2.2.2) KV36.out (lt_row RP.out), range_below (rangeN RG.out) KV36.out (lt_row RG.out), range_below ((rangeP RQ.out).2.2.2) KV36.out (lt_row RQ.out)⟩
        clear hK K
        try simp only [Act.put, List.setIfInBounds_toArray, List.set_cons_zero, List.set_cons_succ]
        refine wpAnyH_ready (rs := [6]) (by kernel_rfl) (by simp) ?_
        refine AllReadyH.cons (o := { dst := some 37, op := Go.Op.call { callee := Go.Callee.value (Go.Operand.func 44), args := #[Go.Operand.tmp 34, Go.Operand.tmp 36], argTypes := #[42, 42] }, type := 42, pos := "point.go:77", after := #[{ on := 3, ground := Go.Ground.data }, { on := 5, ground := Go.Ground.data }, { on := 3, ground := Go.Ground.chain }], guard := none }) rfl (fun K hK => ?_) ?_
        · skip
          refine step_callTo (by rfl) _ _ (hrunTimes _ _ rfl (.agg (num4A (mP p.t td))) (.agg (num4A q.t)) rfl rfl V36) _ _ (feTimes (mP p.t td) q.t (mP_lt _ _) Hq.out.t V36) (fun V37 HBx => ?_)
          have KV37 : Hid (Below W2.heap.size W2 V37) := KV36.out.trans (HBx.mono KV36.out.size)
          have ZN := hide (row_keep' ZN.out HBx)
          clear HBx
          refine hK.out _ _ ?_ (fun hHeld => ?_)
          · exact ⟨range_below ((rangeP RP.out).2.2.2) KV37.out (lt_row RP.out), range_below (rangeN RG.out) KV37.out (lt_row RG.out), range_below ((rangeP RQ.out).2.2.2) KV37.out (lt_row RQ.out)⟩
          clear hK K
          try simp only [Act.put, List.setIfInBounds_toArray, List.set_cons_zero, List.set_cons_succ]
          refine wpAnyH_ready (rs := [8]) (by kernel_rfl) (by simp) ?_
          refine AllReadyH.cons (o := { dst := none, op := Go.Op.store 42 (Go.Operand.tmp 7) (Go.Operand.tmp 37), type := 0, pos := "point.go:77", after := #[{ on := 7, ground := Go.Ground.data }, { on := 6, ground := Go.Ground.data }, { on := 6, ground := Go.Ground.chain }, { on := 0, ground := Go.Ground.phase }, { on := 1, ground := Go.Ground.phase }, { on := 2, ground := Go.Ground.phase }, { on := 3, ground := Go.Ground.phase }, { on := 4, ground := Go.Ground.phase }, { on := 5, ground := Go.Ground.phase }, { on := 6, ground := Go.Ground.phase }, { on := 7, ground := Go.Ground.phase }], guard := none }) rfl (fun K hK => ?_) ?_
          · skip
            refine step_store_row _ (by rfl) 42 (.tmp 7) (.tmp 37) (by rfl) (g35) (num4A (mP (mP p.t td) q.t)) (by rfl) (by rfl) 42 _ ZN.out (feSize _) (n4_old _ _) (num4A_all _) ?_
            rw [put_none']
            refine hK.out _ _ ?_ (fun hHeld => ?_)
            · exact ⟨range_set (range_below ((rangeP RP.out).2.2.2) KV37.out (lt_row RP.out)) (Nat.ne_of_lt (Nat.lt_of_lt_of_le (lt_row RP.out) GG.out)), range_set (range_below (rangeN RG.out) KV37.out (lt_row RG.out)) (Nat.ne_of_lt (Nat.lt_of_lt_of_le (lt_row RG.out) GG.out)), range_set (range_below ((rangeP RQ.out).2.2.2) KV37.out (lt_row RQ.out)) (Nat.ne_of_lt (Nat.lt_of_lt_of_le (lt_row RQ.out) GG.out))⟩
            clear hK K
            try simp only [Act.put, List.setIfInBounds_toArray, List.set_cons_zero, List.set_cons_succ]
            refine wpAnyH_done (by kernel_rfl) ?_ _
            go_wp2_with fail
            go_meet
            case rel => exact ⟨g35, rfl, GG, hide (setRow_heap _ _ _ _ _ _ ZN.out), hide (below_setRow KV37.out GG.out _)⟩
          exact AllReadyH.nil
        exact AllReadyH.nil
      exact AllReadyH.nil
    exact AllReadyH.nil
  case rest =>
  obtain ⟨g7, rfl, Gg7, R7, Xg7⟩ := hcut
  obtain ⟨W3, hW⟩ : ∃ W, W = wc := ⟨_, rfl⟩
  subst hW
  have lRPg7 : w.heap.size < g7 := Nat.lt_of_lt_of_le (lt_row RP.out) Gg7.out
  have lRQg7 : w.heap.size + 1 < g7 := Nat.lt_of_lt_of_le (lt_row RQ.out) Gg7.out
  have lRZg7 : w.heap.size + 2 < g7 := Nat.lt_of_lt_of_le (lt_row RZ.out) Gg7.out
  have lRGg7 : 0 < g7 := Nat.lt_of_lt_of_le (lt_row RG.out) Gg7.out
  have lR5g7 : g5 < g7 := Nat.lt_of_lt_of_le (lt_row R5.out) Gg7.out
  have lR6g7 : g6 < g7 := Nat.lt_of_lt_of_le (lt_row R6.out) Gg7.out
  have RP := hide (row_below RP.out Xg7.out (lt_row RP.out))
  have RQ := hide (row_below RQ.out Xg7.out (lt_row RQ.out))
  have RZ := hide (row_below RZ.out Xg7.out (lt_row RZ.out))
  have RG := hide (row_below RG.out Xg7.out (lt_row RG.out))
  have R5 := hide (row_below R5.out Xg7.out (lt_row R5.out))
  have R6 := hide (row_below R6.out Xg7.out (lt_row R6.out))
  have BL : Hid (Below w.heap.size w W3) := BL.out.trans (Xg7.out.mono BL.out.size)
  clear Xg7 Gg7
  obtain ⟨c, Ec⟩ : ∃ x, Hid (x = mP (mP p.t td) q.t) := ⟨_, rfl⟩
  have Hc : Hid (c < P) := by rw [Ec.out]; exact mP_lt _ _
  rw [← Ec.out] at R7
  go_wp2_with (first | (refine wpList_load_mid (by rfl) 42 (.tmp 38) (by rfl) (w.heap.size) 8 (by rfl) (nL p.z) _ (rangeP RP.out).2.2.1 under33 rfl (nL_size _) ?_) | (refine wpList_load_mid (by rfl) 42 (.tmp 40) (by rfl) (w.heap.size + 1) 8 (by rfl) (nL q.z) _ (rangeP RQ.out).2.2.1 under33 rfl (nL_size _) ?_))
  simp only [foldN]
  refine (feTimes p.z q.z Hp.out.z Hq.out.z _).mono ?_
  rintro e W4 ⟨rfl, hB4⟩
  have RP := hide (row_keep' RP.out hB4)
  have RQ := hide (row_keep' RQ.out hB4)
  have RZ := hide (row_keep' RZ.out hB4)
  have RG := hide (row_keep' RG.out hB4)
  have R5 := hide (row_keep' R5.out hB4)
  have R6 := hide (row_keep' R6.out hB4)
  have R7 := hide (row_keep' R7.out hB4)
  have BL : Hid (Below w.heap.size w W4) := BL.out.trans (hB4.mono BL.out.size)
  clear hB4
  obtain ⟨z, Ez⟩ : ∃ x, Hid (x = mP p.z q.z) := ⟨_, rfl⟩
  have Hz : Hid (z < P) := by rw [Ez.out]; exact mP_lt _ _
  rw [← Ez.out]
  go_wp2_with (first | (refine wpList_store_row (by rfl) 42 (.tmp 8) (.tmp 42) (by rfl) W4.heap.size (num4A z) (by rfl) (by rfl) 42 _ (heap_alloc_new _ _) (feSize _) (n4_old _ _) (num4A_all _) ?_))
  obtain ⟨g8, hg8⟩ : ∃ q, q = W4.heap.size := ⟨_, rfl⟩
  obtain ⟨W5, hW5⟩ : ∃ W, W = (W4.alloc (.cells (num4A 0) 42)).setRow W4.heap.size (num4A z) := ⟨_, rfl⟩
  have lRPg8 : w.heap.size < g8 := by rw [hg8]; exact lt_row RP.out
  have lRQg8 : w.heap.size + 1 < g8 := by rw [hg8]; exact lt_row RQ.out
  have lRZg8 : w.heap.size + 2 < g8 := by rw [hg8]; exact lt_row RZ.out
  have lRGg8 : 0 < g8 := by rw [hg8]; exact lt_row RG.out
  have lR5g8 : g5 < g8 := by rw [hg8]; exact lt_row R5.out
  have lR6g8 : g6 < g8 := by rw [hg8]; exact lt_row R6.out
  have lR7g8 : g7 < g8 := by rw [hg8]; exact lt_row R7.out
  have RP' : Hid (W5.heap[w.heap.size]? = some (.cells (pA p) 44 (0, 0))) := by rw [hW5]; exact (setRow_other _ _ _ _ (by omega)).trans ((heap_alloc_old _ _ (by omega)).trans RP.out)
  have RQ' : Hid (W5.heap[w.heap.size + 1]? = some (.cells (pA q) 44 (0, 0))) := by rw [hW5]; exact (setRow_other _ _ _ _ (by omega)).trans ((heap_alloc_old _ _ (by omega)).trans RQ.out)
  have RZ' : Hid (W5.heap[w.heap.size + 2]? = some (.cells (pA p0) 44 (0, 0))) := by rw [hW5]; exact (setRow_other _ _ _ _ (by omega)).trans ((heap_alloc_old _ _ (by omega)).trans RZ.out)
  have RG' : Hid (W5.heap[0]? = some (.cells (num4A td) TT frr)) := by rw [hW5]; exact (setRow_other _ _ _ _ (by omega)).trans ((heap_alloc_old _ _ (by omega)).trans RG.out)
  have R5' : Hid (W5.heap[g5]? = some (.cells (num4A a) 42 (0, 0))) := by rw [hW5]; exact (setRow_other _ _ _ _ (by omega)).trans ((heap_alloc_old _ _ (by omega)).trans R5.out)
  have R6' : Hid (W5.heap[g6]? = some (.cells (num4A b) 42 (0, 0))) := by rw [hW5]; exact (setRow_other _ _ _ _ (by omega)).trans ((heap_alloc_old _ _ (by omega)).trans R6.out)
  have R7' : Hid (W5.heap[g7]? = some (.cells (num4A c) 42 (0, 0))) := by rw [hW5]; exact (setRow_other _ _ _ _ (by omega)).trans ((heap_alloc_old _ _ (by omega)).trans R7.out)
  have R8 : Hid (W5.heap[g8]? = some (.cells (num4A z) 42 (0, 0))) := by rw [hW5, hg8]; exact setRow_heap _ _ _ _ _ _ (heap_alloc_new _ _)
  have BL' : Hid (Below w.heap.size w W5) := by rw [hW5]; exact below_setRow (BL.out.alloc BL.out.size _) BL.out.size _
  rw [put_none', ← hW5, ← hg8]
  clear hW5 hg8 BL RP RQ RZ RG R5 R6 R7
  have RP := RP'
  have RQ := RQ'
  have RZ := RZ'
  have RG := RG'
  have R5 := R5'
  have R6 := R6'
  have R7 := R7'
  have BL := BL'
  clear RP' RQ' RZ' RG' R5' R6' R7' BL'
  refine wp_region_held_drew (S := fun w' => w'.rangeAt (g6) 0 (nL b) ∧ w'.rangeAt (g5) 0 (nL a) ∧ w'.rangeAt (g8) 0 (nL z) ∧ w'.rangeAt (g7) 0 (nL c)) (by kernel_rfl) (by exact ⟨rangeN R6.out, rangeN R5.out, rangeN R8.out, rangeN R7.out⟩) (fun hHeld => ?_)
  obtain ⟨V38, hV38⟩ : ∃ V, V = W5.drew := ⟨_, rfl⟩
  rw [← hV38] at hHeld ⊢
  have KV38 : Hid (Below W5.heap.size W5 V38) := by rw [hV38]; exact (Below.refl _ _).drew
  clear hV38
  refine wpAnyH_take (i := 0) (oi := { dst := some 43, op := Go.Op.load 42 (Go.Operand.tmp 6), type := 42, pos := "point.go:79", after := #[], guard := none }) (v := .agg (num4A b)) rfl (by kernel_rfl) (by kernel_rfl) (by kernel_rfl) (fun _ _ _ h => h) (yldN (by rfl) _ rfl (g6) 0 b rfl (fun w h => h.1)) hHeld ?_
  simp only [Act.put, List.setIfInBounds_toArray, List.set_cons_zero, List.set_cons_succ]
  refine wpAnyH_take (i := 1) (oi := { dst := some 44, op := Go.Op.load 42 (Go.Operand.tmp 5), type := 42, pos := "point.go:79", after := #[], guard := none }) (v := .agg (num4A a)) rfl (by kernel_rfl) (by kernel_rfl) (by kernel_rfl) (fun _ _ _ h => h) (yldN (by rfl) _ rfl (g5) 0 a rfl (fun w h => h.2.1)) hHeld ?_
  simp only [Act.put, List.setIfInBounds_toArray, List.set_cons_zero, List.set_cons_succ]
  refine wpAnyH_take (i := 3) (oi := { dst := some 46, op := Go.Op.load 42 (Go.Operand.tmp 8), type := 42, pos := "point.go:79", after := #[], guard := none }) (v := .agg (num4A z)) rfl (by kernel_rfl) (by kernel_rfl) (by kernel_rfl) (fun _ _ _ h => h) (yldN (by rfl) _ rfl (g8) 0 z rfl (fun w h => h.2.2.1)) hHeld ?_
  simp only [Act.put, List.setIfInBounds_toArray, List.set_cons_zero, List.set_cons_succ]
  refine wpAnyH_take (i := 4) (oi := { dst := some 47, op := Go.Op.load 42 (Go.Operand.tmp 8), type := 42, pos := "point.go:79", after := #[], guard := none }) (v := .agg (num4A z)) rfl (by kernel_rfl) (by kernel_rfl) (by kernel_rfl) (fun _ _ _ h => h) (yldN (by rfl) _ rfl (g8) 0 z rfl (fun w h => h.2.2.1)) hHeld ?_
  simp only [Act.put, List.setIfInBounds_toArray, List.set_cons_zero, List.set_cons_succ]
  refine wpAnyH_take (i := 6) (oi := { dst := some 49, op := Go.Op.load 42 (Go.Operand.tmp 7), type := 42, pos := "point.go:79", after := #[], guard := none }) (v := .agg (num4A c)) rfl (by kernel_rfl) (by kernel_rfl) (by kernel_rfl) (fun _ _ _ h => h) (yldN (by rfl) _ rfl (g7) 0 c rfl (fun w h => h.2.2.2)) hHeld ?_
  simp only [Act.put, List.setIfInBounds_toArray, List.set_cons_zero, List.set_cons_succ]
  refine wpAnyH_take (i := 8) (oi := { dst := some 51, op := Go.Op.load 42 (Go.Operand.tmp 8), type := 42, pos := "point.go:79", after := #[], guard := none }) (v := .agg (num4A z)) rfl (by kernel_rfl) (by kernel_rfl) (by kernel_rfl) (fun _ _ _ h => h) (yldN (by rfl) _ rfl (g8) 0 z rfl (fun w h => h.2.2.1)) hHeld ?_
  simp only [Act.put, List.setIfInBounds_toArray, List.set_cons_zero, List.set_cons_succ]
  refine wpAnyH_take (i := 9) (oi := { dst := some 52, op := Go.Op.load 42 (Go.Operand.tmp 8), type := 42, pos := "point.go:79", after := #[], guard := none }) (v := .agg (num4A z)) rfl (by kernel_rfl) (by kernel_rfl) (by kernel_rfl) (fun _ _ _ h => h) (yldN (by rfl) _ rfl (g8) 0 z rfl (fun w h => h.2.2.1)) hHeld ?_
  simp only [Act.put, List.setIfInBounds_toArray, List.set_cons_zero, List.set_cons_succ]
  refine wpAnyH_take (i := 11) (oi := { dst := some 54, op := Go.Op.load 42 (Go.Operand.tmp 7), type := 42, pos := "point.go:79", after := #[], guard := none }) (v := .agg (num4A c)) rfl (by kernel_rfl) (by kernel_rfl) (by kernel_rfl) (fun _ _ _ h => h) (yldN (by rfl) _ rfl (g7) 0 c rfl (fun w h => h.2.2.2)) hHeld ?_
  simp only [Act.put, List.setIfInBounds_toArray, List.set_cons_zero, List.set_cons_succ]
  refine wpAnyH_take (i := 13) (oi := { dst := some 56, op := Go.Op.load 42 (Go.Operand.tmp 6), type := 42, pos := "point.go:79", after := #[], guard := none }) (v := .agg (num4A b)) rfl (by kernel_rfl) (by kernel_rfl) (by kernel_rfl) (fun _ _ _ h => h) (yldN (by rfl) _ rfl (g6) 0 b rfl (fun w h => h.1)) hHeld ?_
  simp only [Act.put, List.setIfInBounds_toArray, List.set_cons_zero, List.set_cons_succ]
  refine wpAnyH_take (i := 14) (oi := { dst := some 57, op := Go.Op.load 42 (Go.Operand.tmp 5), type := 42, pos := "point.go:79", after := #[], guard := none }) (v := .agg (num4A a)) rfl (by kernel_rfl) (by kernel_rfl) (by kernel_rfl) (fun _ _ _ h => h) (yldN (by rfl) _ rfl (g5) 0 a rfl (fun w h => h.2.1)) hHeld ?_
  simp only [Act.put, List.setIfInBounds_toArray, List.set_cons_zero, List.set_cons_succ]
  refine wpAnyH_ready (rs := [2]) (by kernel_rfl) (by simp) ?_
  refine AllReadyH.cons (o := { dst := some 45, op := Go.Op.call { callee := Go.Callee.value (Go.Operand.func 43), args := #[Go.Operand.tmp 43, Go.Operand.tmp 44], argTypes := #[42, 42] }, type := 42, pos := "point.go:79", after := #[{ on := 0, ground := Go.Ground.data }, { on := 1, ground := Go.Ground.data }], guard := none }) rfl (fun K hK => ?_) ?_
  · skip
    refine step_callTo (by rfl) _ _ (hrunMinus _ _ rfl (.agg (num4A b)) (.agg (num4A a)) rfl rfl V38) _ _ (feMinus b a Hb.out Ha.out V38) (fun V39 HBx => ?_)
    have KV39 : Hid (Below W5.heap.size W5 V39) := KV38.out.trans (HBx.mono KV38.out.size)
    clear HBx
    refine hK.out _ _ ?_ (fun hHeld => ?_)
    · exact ⟨range_below (rangeN R6.out) KV39.out (lt_row R6.out), range_below (rangeN R5.out) KV39.out (lt_row R5.out), range_below (rangeN R8.out) KV39.out (lt_row R8.out), range_below (rangeN R7.out) KV39.out (lt_row R7.out)⟩
    clear hK K
    try simp only [Act.put, List.setIfInBounds_toArray, List.set_cons_zero, List.set_cons_succ]
    refine wpAnyH_ready (rs := [5]) (by kernel_rfl) (by simp) ?_
    refine AllReadyH.cons (o := { dst := some 48, op := Go.Op.call { callee := Go.Callee.value (Go.Operand.func 45), args := #[Go.Operand.tmp 46, Go.Operand.tmp 47], argTypes := #[42, 42] }, type := 42, pos := "point.go:79", after := #[{ on := 3, ground := Go.Ground.data }, { on := 4, ground := Go.Ground.data }, { on := 2, ground := Go.Ground.chain }], guard := none }) rfl (fun K hK => ?_) ?_
    · skip
      refine step_callTo (by rfl) _ _ (hrunPlus _ _ rfl (.agg (num4A z)) (.agg (num4A z)) rfl rfl V39) _ _ (fePlus z z Hz.out Hz.out V39) (fun V40 HBx => ?_)
      have KV40 : Hid (Below W5.heap.size W5 V40) := KV39.out.trans (HBx.mono KV39.out.size)
      clear HBx
      refine hK.out _ _ ?_ (fun hHeld => ?_)
      · exact ⟨range_below (rangeN R6.out) KV40.out (lt_row R6.out), range_below (rangeN R5.out) KV40.out (lt_row R5.out), range_below (rangeN R8.out) KV40.out (lt_row R8.out), range_below (rangeN R7.out) KV40.out (lt_row R7.out)⟩
      clear hK K
      try simp only [Act.put, List.setIfInBounds_toArray, List.set_cons_zero, List.set_cons_succ]
      refine wpAnyH_ready (rs := [7]) (by kernel_rfl) (by simp) ?_
      refine AllReadyH.cons (o := { dst := some 50, op := Go.Op.call { callee := Go.Callee.value (Go.Operand.func 43), args := #[Go.Operand.tmp 48, Go.Operand.tmp 49], argTypes := #[42, 42] }, type := 42, pos := "point.go:79", after := #[{ on := 5, ground := Go.Ground.data }, { on := 6, ground := Go.Ground.data }, { on := 5, ground := Go.Ground.chain }], guard := none }) rfl (fun K hK => ?_) ?_
      · skip
        refine step_callTo (by rfl) _ _ (hrunMinus _ _ rfl (.agg (num4A (aP z z))) (.agg (num4A c)) rfl rfl V40) _ _ (feMinus (aP z z) c (aP_lt _ _) Hc.out V40) (fun V41 HBx => ?_)
        have KV41 : Hid (Below W5.heap.size W5 V41) := KV40.out.trans (HBx.mono KV40.out.size)
        clear HBx
        refine hK.out _ _ ?_ (fun hHeld => ?_)
        · exact ⟨range_below (rangeN R6.out) KV41.out (lt_row R6.out), range_below (rangeN R5.out) KV41.out (lt_row R5.out), range_below (rangeN R8.out) KV41.out (lt_row R8.out), range_below (rangeN R7.out) KV41.out (lt_row R7.out)⟩
        clear hK K
        try simp only [Act.put, List.setIfInBounds_toArray, List.set_cons_zero, List.set_cons_succ]
        refine wpAnyH_ready (rs := [10]) (by kernel_rfl) (by simp) ?_
        refine AllReadyH.cons (o := { dst := some 53, op := Go.Op.call { callee := Go.Callee.value (Go.Operand.func 45), args := #[Go.Operand.tmp 51, Go.Operand.tmp 52], argTypes := #[42, 42] }, type := 42, pos := "point.go:79", after := #[{ on := 8, ground := Go.Ground.data }, { on := 9, ground := Go.Ground.data }, { on := 7, ground := Go.Ground.chain }], guard := none }) rfl (fun K hK => ?_) ?_
        · skip
          refine step_callTo (by rfl) _ _ (hrunPlus _ _ rfl (.agg (num4A z)) (.agg (num4A z)) rfl rfl V41) _ _ (fePlus z z Hz.out Hz.out V41) (fun V42 HBx => ?_)
          have KV42 : Hid (Below W5.heap.size W5 V42) := KV41.out.trans (HBx.mono KV41.out.size)
          clear HBx
          refine hK.out _ _ ?_ (fun hHeld => ?_)
          · exact ⟨range_below (rangeN R6.out) KV42.out (lt_row R6.out), range_below (rangeN R5.out) KV42.out (lt_row R5.out), range_below (rangeN R8.out) KV42.out (lt_row R8.out), range_below (rangeN R7.out) KV42.out (lt_row R7.out)⟩
          clear hK K
          try simp only [Act.put, List.setIfInBounds_toArray, List.set_cons_zero, List.set_cons_succ]
          refine wpAnyH_ready (rs := [12]) (by kernel_rfl) (by simp) ?_
          refine AllReadyH.cons (o := { dst := some 55, op := Go.Op.call { callee := Go.Callee.value (Go.Operand.func 45), args := #[Go.Operand.tmp 53, Go.Operand.tmp 54], argTypes := #[42, 42] }, type := 42, pos := "point.go:79", after := #[{ on := 10, ground := Go.Ground.data }, { on := 11, ground := Go.Ground.data }, { on := 10, ground := Go.Ground.chain }], guard := none }) rfl (fun K hK => ?_) ?_
          · skip
            refine step_callTo (by rfl) _ _ (hrunPlus _ _ rfl (.agg (num4A (aP z z))) (.agg (num4A c)) rfl rfl V42) _ _ (fePlus (aP z z) c (aP_lt _ _) Hc.out V42) (fun V43 HBx => ?_)
            have KV43 : Hid (Below W5.heap.size W5 V43) := KV42.out.trans (HBx.mono KV42.out.size)
            clear HBx
            refine hK.out _ _ ?_ (fun hHeld => ?_)
            · exact ⟨range_below (rangeN R6.out) KV43.out (lt_row R6.out), range_below (rangeN R5.out) KV43.out (lt_row R5.out), range_below (rangeN R8.out) KV43.out (lt_row R8.out), range_below (rangeN R7.out) KV43.out (lt_row R7.out)⟩
            clear hK K
            try simp only [Act.put, List.setIfInBounds_toArray, List.set_cons_zero, List.set_cons_succ]
            refine wpAnyH_ready (rs := [15]) (by kernel_rfl) (by simp) ?_
            refine AllReadyH.cons (o := { dst := some 58, op := Go.Op.call { callee := Go.Callee.value (Go.Operand.func 45), args := #[Go.Operand.tmp 56, Go.Operand.tmp 57], argTypes := #[42, 42] }, type := 42, pos := "point.go:79", after := #[{ on := 13, ground := Go.Ground.data }, { on := 14, ground := Go.Ground.data }, { on := 12, ground := Go.Ground.chain }], guard := none }) rfl (fun K hK => ?_) ?_
            · skip
              refine step_callTo (by rfl) _ _ (hrunPlus _ _ rfl (.agg (num4A b)) (.agg (num4A a)) rfl rfl V43) _ _ (fePlus b a Hb.out Ha.out V43) (fun V44 HBx => ?_)
              have KV44 : Hid (Below W5.heap.size W5 V44) := KV43.out.trans (HBx.mono KV43.out.size)
              clear HBx
              refine hK.out _ _ ?_ (fun hHeld => ?_)
              · exact ⟨range_below (rangeN R6.out) KV44.out (lt_row R6.out), range_below (rangeN R5.out) KV44.out (lt_row R5.out), range_below (rangeN R8.out) KV44.out (lt_row R8.out), range_below (rangeN R7.out) KV44.out (lt_row R7.out)⟩
              clear hK K
              try simp only [Act.put, List.setIfInBounds_toArray, List.set_cons_zero, List.set_cons_succ]
              refine wpAnyH_ready (rs := [16]) (by kernel_rfl) (by simp) ?_
              refine AllReadyH.cons (o := { dst := some 59, op := Go.Op.call { callee := Go.Callee.value (Go.Operand.func 46), args := #[Go.Operand.tmp 45, Go.Operand.tmp 50, Go.Operand.tmp 55, Go.Operand.tmp 58], argTypes := #[42, 42, 42, 42] }, type := 44, pos := "point.go:79", after := #[{ on := 2, ground := Go.Ground.data }, { on := 7, ground := Go.Ground.data }, { on := 12, ground := Go.Ground.data }, { on := 15, ground := Go.Ground.data }, { on := 15, ground := Go.Ground.chain }], guard := none }) rfl (fun K hK => ?_) ?_
              · skip
                refine step_callTo (by rfl) _ _ (hrunParts _ _ _ _ rfl (.agg (num4A (sP b a))) (.agg (num4A (sP (aP z z) c))) (.agg (num4A (aP (aP z z) c))) (.agg (num4A (aP b a))) rfl rfl rfl rfl V44) _ _ (partsA (sP b a) (sP (aP z z) c) (aP (aP z z) c) (aP b a) (sP_lt _ _) (sP_lt _ _) (aP_lt _ _) (aP_lt _ _) V44) (fun V45 HBx => ?_)
                have KV45 : Hid (Below W5.heap.size W5 V45) := KV44.out.trans (HBx.mono KV44.out.size)
                clear HBx
                refine hK.out _ _ ?_ (fun hHeld => ?_)
                · exact ⟨range_below (rangeN R6.out) KV45.out (lt_row R6.out), range_below (rangeN R5.out) KV45.out (lt_row R5.out), range_below (rangeN R8.out) KV45.out (lt_row R8.out), range_below (rangeN R7.out) KV45.out (lt_row R7.out)⟩
                clear hK K
                try simp only [Act.put, List.setIfInBounds_toArray, List.set_cons_zero, List.set_cons_succ]
                refine wpAnyH_ready (rs := [17]) (by kernel_rfl) (by simp) ?_
                refine AllReadyH.cons (o := { dst := none, op := Go.Op.store 44 (Go.Operand.tmp 4) (Go.Operand.tmp 59), type := 0, pos := "point.go:79", after := #[{ on := 16, ground := Go.Ground.data }, { on := 16, ground := Go.Ground.chain }, { on := 0, ground := Go.Ground.phase }, { on := 1, ground := Go.Ground.phase }, { on := 2, ground := Go.Ground.phase }, { on := 3, ground := Go.Ground.phase }, { on := 4, ground := Go.Ground.phase }, { on := 5, ground := Go.Ground.phase }, { on := 6, ground := Go.Ground.phase }, { on := 7, ground := Go.Ground.phase }, { on := 8, ground := Go.Ground.phase }, { on := 9, ground := Go.Ground.phase }, { on := 10, ground := Go.Ground.phase }, { on := 11, ground := Go.Ground.phase }, { on := 12, ground := Go.Ground.phase }, { on := 13, ground := Go.Ground.phase }, { on := 14, ground := Go.Ground.phase }, { on := 15, ground := Go.Ground.phase }, { on := 16, ground := Go.Ground.phase }], guard := none }) rfl (fun K hK => ?_) ?_
                · skip
                  refine step_store_row _ (by rfl) 44 (.tmp 4) (.tmp 59) (by rfl) (w.heap.size + 2) (pA (partsP (sP b a) (sP (aP z z) c) (aP (aP z z) c) (aP b a))) (by rfl) (by rfl) 44 _ (hide (row_below RZ.out KV45.out (lt_row RZ.out))).out (pA_size _) (pA_old _ _) (pA_all _) ?_
                  rw [put_none']
                  refine hK.out _ _ ?_ (fun hHeld => ?_)
                  · exact ⟨range_set (range_below (rangeN R6.out) KV45.out (lt_row R6.out)) (by omega), range_set (range_below (rangeN R5.out) KV45.out (lt_row R5.out)) (by omega), range_set (range_below (rangeN R8.out) KV45.out (lt_row R8.out)) (by omega), range_set (range_below (rangeN R7.out) KV45.out (lt_row R7.out)) (by omega)⟩
                  clear hK K
                  try simp only [Act.put, List.setIfInBounds_toArray, List.set_cons_zero, List.set_cons_succ]
                  refine wpAnyH_done (by kernel_rfl) ?_ _
                  go_wp2_with fail
                  have RZ9 := hide (row_below RZ.out KV45.out (lt_row RZ.out))
                  have BL9 := hide (BL.out.trans (KV45.out.mono BL.out.size))
                  refine bodyPost_ret (v := .agg (pA (partsP (sP b a) (sP (aP z z) c) (aP (aP z z) c) (aP b a)))) (results_cell_row Tryd.results24 _ _ (w.heap.size + 2) 44 _ (0, 0) _ (by rfl) (setRow_heap _ _ _ _ _ _ RZ9.out) Tryd.underlying44 rfl (pA_size _)) rfl ⟨?_, below_setRow BL9.out (by omega) _⟩
                  rw [Ez.out, Ec.out, Eb.out, Ea.out, Etd.out]; rfl
                exact AllReadyH.nil
              exact AllReadyH.nil
            exact AllReadyH.nil
          exact AllReadyH.nil
        exact AllReadyH.nil
      exact AllReadyH.nil
    exact AllReadyH.nil
  exact AllReadyH.nil
end
end Go.Proofs.YtemdlpcljjdfjaaDoor
