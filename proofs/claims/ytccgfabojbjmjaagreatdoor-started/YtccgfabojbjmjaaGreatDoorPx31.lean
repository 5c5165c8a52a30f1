import Derived.Test.YtccgfabojbjmjaaGreatDoorPx30
import Derived.RegionTactic
import Derived.RegionCalls
import Derived.ChangeAlike
import Derived.WalkKit
namespace Go.Proofs.YtccgfabojbjmjaaGreatDoor
open Go.RowKit
def szI (h k : Int) : Value := .iface 134 (.agg #[.int .i64 h, .int .i64 k])
def atE (what : ByteArray) (e : Value) : Value := .iface 173 (.agg #[.string what, e])
theorem wpList_load_rowG {P : Program} {ops : Array Oper} {rest : List Oper} {o : Oper} {a : Act} {w : World} {Q : Exit → Act → World → Prop} (hw : Region.wanted o (yielded ops a.tmps) = true) (ty : TypeId) (x : Operand) (ho : o.op = .load ty x)
  (g : Nat) (hx : a.eval x = .pointer (some ⟨g, 0, none⟩)) (t : TypeId) (cs : Array Value) (fr : Nat × Nat) (d : TypeDesc) (hg : w.heap[g]? = some (.cells cs t fr))
  (hu : P.underlying ty = some d) (hd : (match d with | .struct _ | .array _ _ => true | _ => false) = true) (hi : (P.info? ty).map (·.size) = some cs.size)
  (h : wpList P ops Q rest (a.put o.dst (.agg cs)) w) : wpList P ops Q (o :: rest) a w :=
 wpList_step fun K hK => by simp only [hw, if_true]; exact wp_load_row ty x ho g hx t cs fr d hg hu hd hi (hK _ _ h)
theorem unwrap_any (what : ByteArray) (e : Value) (w : World) : Calls Tryz.prog 212 #[.agg #[.string what, e]] w fun r w' => r = .returned e ∧ Below w.heap.size w w' := by
 go_enter Tryz.func212, Tryz.ntmps212
 have hc := cell_of_row (w.alloc (.cells #[.string what, e] 173)) w.heap.size 1 _ _ _ (heap_alloc_new _ _)
 go_wp2
 go_ret
 exact ⟨rfl, (Below.refl _ _).alloc (Nat.le_refl _) _⟩
theorem noAsAt (v : Value) (xT : TypeId) (w : World) : (Instr.typeAssert (.iface 173 v) xT 243 true).run Tryz.prog w = .ok (.tuple #[.nilIface, .bool false]) w := run_typeAssert_lacksB Tryz.underlying243 (by kernel_rfl) (by kernel_rfl) v xT w
theorem hasUnwrapAt (v : Value) (xT : TypeId) (w : World) : (Instr.typeAssert (.iface 173 v) xT 246 true).run Tryz.prog w = .ok (.tuple #[.iface 173 v, .bool true]) w := run_typeAssert_hasB Tryz.underlying246 (by kernel_rfl) v xT w
section
set_option maxRecDepth 100000 in
set_option maxHeartbeats 1600000 in
theorem asL_size (what : ByteArray) (h k : Int) (g q : Nat) (w : World) (hq : w.heap[q]? = some (.cells #[.pointer (some ⟨g, 0, none⟩)] 138 (0, 0))) (hg : w.heap[g]? = some (.cells #[.int .i64 0, .int .i64 0] 134 (0, 0))) :
  Calls Tryz.prog 99 #[atE what (szI h k), .iface 138 (.pointer (some ⟨g, 0, none⟩)), .agg (rvA 138 q 150), rtV 134] w fun e w' => e = .returned (.bool true) ∧ Below g w w' := by
 have ht := typeOf_any
 have ha1 := asg_at_sz
 have ha2 := asg_sz_sz
 have nA := noAsAt
 have uA := hasUnwrapAt
 unfold atE
 have Hq : Hid _ := hq
 have Hg : Hid _ := hg
 clear hq hg
 go_enter Tryz.func99, Tryz.ntmps99
 go_wp2_with fail
 refine wp_loop_rounds 2 ?_
 rw [rounds_succ]
 go_wp2_with fail
 refine (unwrap_any what (szI h k) _).mono ?_
 rintro e W ⟨rfl, hB⟩
 have R6 : Hid (W.heap[w.heap.size]? = some (.cells (rvA 138 q 150) 185 (0, 0))) := (hB.block _ (by simp)).trans (heap_alloc_new _ _)
 have RQ : Hid (W.heap[q]? = some (.cells #[.pointer (some ⟨g, 0, none⟩)] 138 (0, 0))) := (hB.block _ (by have := lt_row Hq.out; simp; omega)).trans ((heap_alloc_old _ _ (lt_row Hq.out)).trans Hq.out)
 have RG : Hid (W.heap[g]? = some (.cells #[.int .i64 0, .int .i64 0] 134 (0, 0))) := (hB.block _ (by have := lt_row Hg.out; simp; omega)).trans ((heap_alloc_old _ _ (lt_row Hg.out)).trans Hg.out)
 have BW : Hid (Below g w W) := (((Below.refl _ _).alloc (Nat.le_refl _) _).trans (hB.mono (by simp))).mono (Nat.le_of_lt (lt_row Hg.out))
 have hgs : Hid (g < W.heap.size) := lt_row RG.out
 clear hB Hq Hg nA uA ha1
 unfold szI
 have hel := elem_sz g q W RQ.out
 have hv := valueOf_e h k W
 have hst := set_sz g W.heap.size h k 134 (.int .i64 0) (.int .i64 0) (W.alloc (.cells #[.int .i64 h, .int .i64 k] 134)) (heap_alloc_new _ _) ((heap_alloc_old _ _ (lt_row RG.out)).trans RG.out)
 go_wp2_with fail
 rw [rounds_succ]
 go_wp2_with (first
  | (refine wpList_load_row (by rfl) 185 (.tmp 6) (by rfl) w.heap.size (by rfl) 185 (rvA 138 q 150) (0, 0) _ R6.out Tryz.underlying185 rfl (rvA_size _ _ _) ?_))
 go_ret
 exact ⟨rfl, below_setRow (BW.out.alloc (Nat.le_of_lt hgs.out) _) (Nat.le_refl _) _⟩
set_option maxRecDepth 100000 in
set_option maxHeartbeats 1600000 in
theorem as_size (what : ByteArray) (h k : Int) (g : Nat) (w : World) (hE : w.cell? ⟨3, 0, none⟩ = some (rtV 66)) (hg : w.heap[g]? = some (.cells #[.int .i64 0, .int .i64 0] 134 (0, 0))) :
  Calls Tryz.prog 59 #[atE what (szI h k), .iface 138 (.pointer (some ⟨g, 0, none⟩))] w fun e w' => e = .returned (.bool true) ∧ Below g w w' := by
 have h1 := valueOf_sz g
 have h2 := type_sz
 have hz := zeroRV
 have hk1 := kind_psz
 have hk2 := kind_sz
 have he := elemT_sz
 have hi := impl_sz
 have Hg : Hid _ := hg
 clear hg
 obtain ⟨E, HE⟩ : ∃ E, Hid (E = Value.agg #[.string what, szI h k]) := ⟨_, rfl⟩
 unfold atE
 rw [← HE.out]
 go_enter Tryz.func59, Tryz.ntmps59
 go_upto_region 6 with (first
  | (refine wpList_store_row (by rfl) 185 (.tmp 5) (.tmp 14) (by rfl) (w.heap.size + 1) (rvA 138 w.heap.size 150) (by rfl) (by rfl) 185 _ (heap_alloc2_new _ _ _) (rvA_size _ _ _) rfl (rvA_all _ _ _) ?_))
 try rw [put_none']
 generalize hW1 : World.setRow _ _ _ = W1
 have hB1 : Hid (Below w.heap.size w W1) := by
  rw [← hW1]; exact below_setRow (((Below.refl _ _).alloc (Nat.le_refl _) _).alloc (by simp) _) (by omega) _
 have R5 : Hid (W1.heap[w.heap.size + 1]? = some (.cells (rvA 138 w.heap.size 150) 185 (0, 0))) := by rw [← hW1]; exact setRow_heap _ _ _ _ _ _ (heap_alloc2_new _ _ _)
 have RP : Hid (W1.heap[w.heap.size]? = some (.cells #[.pointer (some ⟨g, 0, none⟩)] 138 (0, 0))) := by rw [← hW1]; exact (setRow_other _ _ _ _ (by omega)).trans ((heap_alloc_old _ _ (by simp)).trans (heap_alloc_new _ _))
 have h3 := isNil_sz g w.heap.size W1 RP.out
 have hE1 : W1.cell? ⟨3, 0, none⟩ = some (rtV 66) := (hB1.out.cell (World.block_lt_of_cell? w _ hE)).trans hE
 clear hW1 h1
 go_wp2_with (first
  | (refine wpList_load_rowG (by rfl) 185 (.tmp 5) (by rfl) (w.heap.size + 1) (by rfl) 185 (rvA 138 w.heap.size 150) (0, 0) _ R5.out Tryz.underlying185 rfl (rvA_size _ _ _) ?_))
 rw [HE.out]
 refine (asL_size what h k g w.heap.size W1 RP.out ((hB1.out.block _ (lt_row Hg.out)).trans Hg.out)).mono ?_
 rintro e W2 ⟨rfl, hB2⟩
 have BW : Hid (Below g w W2) := (hB1.out.mono (Nat.le_of_lt (lt_row Hg.out))).trans hB2
 clear hB2 h2 hz hk1 hk2 he hi h3
 go_wp2
 go_ret
 exact ⟨rfl, BW.out⟩
end
end Go.Proofs.YtccgfabojbjmjaaGreatDoor
