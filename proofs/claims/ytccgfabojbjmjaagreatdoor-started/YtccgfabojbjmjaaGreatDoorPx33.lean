import Derived.Test.YtccgfabojbjmjaaGreatDoorPx32
namespace Go.Proofs.YtccgfabojbjmjaaGreatDoor
open Go.RowKit
def esI (a : Addr) : Value := .iface 282 (.pointer (some a))
def imI (c : Int) : Value := .iface 136 (.agg #[.int .i64 c])
theorem alloc_rv (w : World) (c : Array Value) (t : TypeId) : Below w.heap.size w (w.alloc (.cells c t)) := (Below.refl _ _).alloc (Nat.le_refl _) _
section
set_option maxRecDepth 100000 in
set_option maxHeartbeats 1600000 in
theorem asL_sz_es1 (p1 : ByteArray) (a : Addr) (g q : Nat) (w : World) :
  Calls Tryz.prog 99 #[atE p1 (esI a), .iface 138 (.pointer (some ⟨g, 0, none⟩)), .agg (rvA 138 q 150), rtV 134] w fun e w' => e = .returned (.bool false) ∧ Below w.heap.size w w' := by
 have ht := typeOf_any
 have nA := noAsAt
 have uA := hasUnwrapAt
 have ha1 := asg_at_sz
 have ha2 := asg_es_sz
 have nAs := noAsEs
 have nUn := noUnEs
 have nUns := noUnsEs
 unfold atE
 go_enter Tryz.func99, Tryz.ntmps99
 go_wp2_with fail
 have B0 : Hid (Below w.heap.size w (w.alloc (.cells (rvA 138 q 150) 185))) := alloc_rv _ _ _
 obtain ⟨W0, hW0⟩ : ∃ W, W = w.alloc (.cells (rvA 138 q 150) 185) := ⟨_, rfl⟩
 rw [← hW0] at B0 ⊢
 clear hW0
 refine wp_loop_rounds 2 ?_
 rw [rounds_succ]
 go_wp2_with fail
 refine (unwrap_any p1 (esI a) _).mono ?_
 rintro e W1 ⟨rfl, hB⟩
 have B1 := kTr B0 hB
 clear hB B0
 unfold esI
 go_wp2_with fail
 rw [rounds_succ]
 go_wp2_with fail
 go_ret
 exact ⟨rfl, B1.out⟩
set_option maxRecDepth 100000 in
set_option maxHeartbeats 1600000 in
theorem asL_im_es1 (p1 : ByteArray) (a : Addr) (g q : Nat) (w : World) :
  Calls Tryz.prog 99 #[atE p1 (esI a), .iface 139 (.pointer (some ⟨g, 0, none⟩)), .agg (rvA 139 q 150), rtV 136] w fun e w' => e = .returned (.bool false) ∧ Below w.heap.size w w' := by
 have ht := typeOf_any
 have nA := noAsAt
 have uA := hasUnwrapAt
 have ha1 := asg_at_im
 have ha2 := asg_es_im
 have nAs := noAsEs
 have nUn := noUnEs
 have nUns := noUnsEs
 unfold atE
 go_enter Tryz.func99, Tryz.ntmps99
 go_wp2_with fail
 have B0 : Hid (Below w.heap.size w (w.alloc (.cells (rvA 139 q 150) 185))) := alloc_rv _ _ _
 obtain ⟨W0, hW0⟩ : ∃ W, W = w.alloc (.cells (rvA 139 q 150) 185) := ⟨_, rfl⟩
 rw [← hW0] at B0 ⊢
 clear hW0
 refine wp_loop_rounds 2 ?_
 rw [rounds_succ]
 go_wp2_with fail
 refine (unwrap_any p1 (esI a) _).mono ?_
 rintro e W1 ⟨rfl, hB⟩
 have B1 := kTr B0 hB
 clear hB B0
 unfold esI
 go_wp2_with fail
 rw [rounds_succ]
 go_wp2_with fail
 go_ret
 exact ⟨rfl, B1.out⟩
set_option maxRecDepth 100000 in
set_option maxHeartbeats 1600000 in
theorem asL_sz_es2 (p2 p1 : ByteArray) (a : Addr) (g q : Nat) (w : World) :
  Calls Tryz.prog 99 #[atE p2 (atE p1 (esI a)), .iface 138 (.pointer (some ⟨g, 0, none⟩)), .agg (rvA 138 q 150), rtV 134] w fun e w' => e = .returned (.bool false) ∧ Below w.heap.size w w' := by
 have ht := typeOf_any
 have nA := noAsAt
 have uA := hasUnwrapAt
 have ha1 := asg_at_sz
 have ha2 := asg_es_sz
 have nAs := noAsEs
 have nUn := noUnEs
 have nUns := noUnsEs
 unfold atE
 go_enter Tryz.func99, Tryz.ntmps99
 go_wp2_with fail
 have B0 : Hid (Below w.heap.size w (w.alloc (.cells (rvA 138 q 150) 185))) := alloc_rv _ _ _
 obtain ⟨W0, hW0⟩ : ∃ W, W = w.alloc (.cells (rvA 138 q 150) 185) := ⟨_, rfl⟩
 rw [← hW0] at B0 ⊢
 clear hW0
 refine wp_loop_rounds 3 ?_
 rw [rounds_succ]
 obtain ⟨E2, HE2⟩ : ∃ E, Hid (E = Value.agg #[.string p1, esI a]) := ⟨_, rfl⟩
 rw [← HE2.out]
 go_wp2_with fail
 refine (unwrap_any p2 (.iface 173 E2) _).mono ?_
 rintro e W2 ⟨rfl, hB⟩
 have B2 := kTr B0 hB
 clear hB B0
 rw [HE2.out]
 clear HE2 E2
 go_wp2_with fail
 rw [rounds_succ]
 go_wp2_with fail
 refine (unwrap_any p1 (esI a) _).mono ?_
 rintro e W1 ⟨rfl, hB⟩
 have B1 := kTr B2 hB
 clear hB B2
 unfold esI
 go_wp2_with fail
 rw [rounds_succ]
 go_wp2_with fail
 go_ret
 exact ⟨rfl, B1.out⟩
set_option maxRecDepth 100000 in
set_option maxHeartbeats 1600000 in
theorem asL_im_es2 (p2 p1 : ByteArray) (a : Addr) (g q : Nat) (w : World) :
  Calls Tryz.prog 99 #[atE p2 (atE p1 (esI a)), .iface 139 (.pointer (some ⟨g, 0, none⟩)), .agg (rvA 139 q 150), rtV 136] w fun e w' => e = .returned (.bool false) ∧ Below w.heap.size w w' := by
 have ht := typeOf_any
 have nA := noAsAt
 have uA := hasUnwrapAt
 have ha1 := asg_at_im
 have ha2 := asg_es_im
 have nAs := noAsEs
 have nUn := noUnEs
 have nUns := noUnsEs
 unfold atE
 go_enter Tryz.func99, Tryz.ntmps99
 go_wp2_with fail
 have B0 : Hid (Below w.heap.size w (w.alloc (.cells (rvA 139 q 150) 185))) := alloc_rv _ _ _
 obtain ⟨W0, hW0⟩ : ∃ W, W = w.alloc (.cells (rvA 139 q 150) 185) := ⟨_, rfl⟩
 rw [← hW0] at B0 ⊢
 clear hW0
 refine wp_loop_rounds 3 ?_
 rw [rounds_succ]
 obtain ⟨E2, HE2⟩ : ∃ E, Hid (E = Value.agg #[.string p1, esI a]) := ⟨_, rfl⟩
 rw [← HE2.out]
 go_wp2_with fail
 refine (unwrap_any p2 (.iface 173 E2) _).mono ?_
 rintro e W2 ⟨rfl, hB⟩
 have B2 := kTr B0 hB
 clear hB B0
 rw [HE2.out]
 clear HE2 E2
 go_wp2_with fail
 rw [rounds_succ]
 go_wp2_with fail
 refine (unwrap_any p1 (esI a) _).mono ?_
 rintro e W1 ⟨rfl, hB⟩
 have B1 := kTr B2 hB
 clear hB B2
 unfold esI
 go_wp2_with fail
 rw [rounds_succ]
 go_wp2_with fail
 go_ret
 exact ⟨rfl, B1.out⟩
set_option maxRecDepth 100000 in
set_option maxHeartbeats 1600000 in
theorem asL_sz_im2 (p2 p1 : ByteArray) (c : Int) (g q : Nat) (w : World) :
  Calls Tryz.prog 99 #[atE p2 (atE p1 (imI c)), .iface 138 (.pointer (some ⟨g, 0, none⟩)), .agg (rvA 138 q 150), rtV 134] w fun e w' => e = .returned (.bool false) ∧ Below w.heap.size w w' := by
 have ht := typeOf_any
 have nA := noAsAt
 have uA := hasUnwrapAt
 have ha1 := asg_at_sz
 have ha2 := asg_im_sz
 have nAs := noAsIm
 have nUn := noUnIm
 have nUns := noUnsIm
 unfold atE
 go_enter Tryz.func99, Tryz.ntmps99
 go_wp2_with fail
 have B0 : Hid (Below w.heap.size w (w.alloc (.cells (rvA 138 q 150) 185))) := alloc_rv _ _ _
 obtain ⟨W0, hW0⟩ : ∃ W, W = w.alloc (.cells (rvA 138 q 150) 185) := ⟨_, rfl⟩
 rw [← hW0] at B0 ⊢
 clear hW0
 refine wp_loop_rounds 3 ?_
 rw [rounds_succ]
 obtain ⟨E2, HE2⟩ : ∃ E, Hid (E = Value.agg #[.string p1, imI c]) := ⟨_, rfl⟩
 rw [← HE2.out]
 go_wp2_with fail
 refine (unwrap_any p2 (.iface 173 E2) _).mono ?_
 rintro e W2 ⟨rfl, hB⟩
 have B2 := kTr B0 hB
 clear hB B0
 rw [HE2.out]
 clear HE2 E2
 go_wp2_with fail
 rw [rounds_succ]
 go_wp2_with fail
 refine (unwrap_any p1 (imI c) _).mono ?_
 rintro e W1 ⟨rfl, hB⟩
 have B1 := kTr B2 hB
 clear hB B2
 unfold imI
 go_wp2_with fail
 rw [rounds_succ]
 go_wp2_with fail
 go_ret
 exact ⟨rfl, B1.out⟩
end
end Go.Proofs.YtccgfabojbjmjaaGreatDoor
