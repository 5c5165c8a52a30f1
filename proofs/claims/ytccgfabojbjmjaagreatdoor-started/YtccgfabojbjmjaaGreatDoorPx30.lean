import Derived.Test.YtccgfabojbjmjaaGreatDoorPx20
import Derived.Tactics
import Derived.Tactics2
import Derived.Below
import Derived.Laws.Pointers
import Derived.Laws.Externs
import Derived.Stop.Asserts
namespace Go.Proofs.YtccgfabojbjmjaaGreatDoor
open Go.RowKit
abbrev hN (t : TypeId) : Value := .pointer (some ⟨13, t, none⟩)
abbrev rtV (t : TypeId) : Value := .iface 239 (.agg #[hN t])
def rvA (t : TypeId) (q : Nat) (f : Int) : Array Value := #[hN t, .pointer (some ⟨q, 0, none⟩), .int .u64 f]
theorem rvA_size (t : TypeId) (q : Nat) (f : Int) : (Tryz.prog.info? 185).map (·.size) = some (rvA t q f).size := by kernel_rfl
theorem rvA_all (t : TypeId) (q : Nat) (f : Int) : (rvA t q f).all (·.oneCell') = true := by kernel_rfl
theorem zeroRV (w : World) : (zeroValue 185).run Tryz.prog w = .ok (.agg #[.pointer none, .pointer none, .int .u64 0]) w := by kernel_rfl
theorem load_one (w : World) (g : Nat) (t ty : TypeId) (v : Value) (fr : Nat × Nat) (d : TypeDesc) (h : w.heap[g]? = some (.cells #[v] t fr)) (hu : Tryz.prog.underlying ty = some d) (hd : (match d with | .struct _ | .array _ _ => true | _ => false) = false) :
  (loadVar ty ⟨g, 0, none⟩).run Tryz.prog w = .ok v w := by
 have hagg : (isAgg ty).run Tryz.prog w = .ok false w := by
  unfold isAgg
  rw [Sem.run_bind, run_underlying hu w]
  cases d <;> simp_all
 have hc := cell_of_row w g 0 _ t fr h
 simp [loadVar, Sem.run_bind, hagg, hc]
theorem valueOf_sz (g : Nat) (w : World) : (callFunc 96 #[.iface 138 (.pointer (some ⟨g, 0, none⟩))]).run Tryz.prog w = .ok (.value (.agg (rvA 138 w.heap.size 150))) (w.alloc (.cells #[.pointer (some ⟨g, 0, none⟩)] 138)) := by kernel_rfl
theorem type_sz (q : Nat) (w : World) : (callFunc 97 #[.agg (rvA 138 q 150)]).run Tryz.prog w = .ok (.value (rtV 138)) w := by kernel_rfl
theorem parts_psz (q : Nat) (w : World) : (Extern.ReflectliteValue.parts (.agg (rvA 138 q 150))).run Tryz.prog w = .ok (some (138, ⟨q, 0, none⟩, 150)) w := by kernel_rfl
theorem meth_eq (z : Sem Value) (f : TypeId → Addr → Nat → Nat → Sem Value) (v : Value) : Extern.ReflectliteValue.method z f #[v] = (Extern.ReflectliteValue.parts v >>= fun o => match o with | none => z | some (t, a, fl) => f t a fl (fl % 32)) := rfl
theorem isNil_sz (g q : Nat) (w : World) (h : w.heap[q]? = some (.cells #[.pointer (some ⟨g, 0, none⟩)] 138 (0, 0))) : (callFunc 98 #[.agg (rvA 138 q 150)]).run Tryz.prog w = .ok (.value (.bool false)) w := by
 rw [run_callFunc_extern Tryz.func98 (by kernel_rfl) (by kernel_rfl) (by kernel_rfl) (e := Extern.ReflectliteValue.method (Extern.ReflectliteValue.valueError "reflectlite.Value.IsNil" 0) Extern.ReflectliteValue.isNil) (by kernel_rfl)]
 have hl := load_one w q _ _ _ _ _ h Tryz.underlying138 rfl
 simp [meth_eq, Extern.ReflectliteValue.isNil, Sem.run_bind, parts_psz, hl]
theorem elemT_psz (w : World) : (Extern.Rtype.elem? 138).run Tryz.prog w = .ok (some 134) w := by kernel_rfl
theorem mk_sz (g : Nat) (w : World) : (Extern.ReflectliteValue.mk 134 ⟨g, 0, none⟩ 256).run Tryz.prog w = .ok (.agg (rvA 134 g 409)) w := by kernel_rfl
theorem elem_sz (g q : Nat) (w : World) (h : w.heap[q]? = some (.cells #[.pointer (some ⟨g, 0, none⟩)] 138 (0, 0))) : (callFunc 146 #[.agg (rvA 138 q 150)]).run Tryz.prog w = .ok (.value (.agg (rvA 134 g 409))) w := by
 rw [run_callFunc_extern Tryz.func146 (by kernel_rfl) (by kernel_rfl) (by kernel_rfl) (e := Extern.ReflectliteValue.method (Extern.ReflectliteValue.valueError "reflectlite.Value.Elem" 0) Extern.ReflectliteValue.elem) (by kernel_rfl)]
 have hl := load_one w q _ _ _ _ _ h Tryz.underlying138 rfl
 simp [meth_eq, Extern.ReflectliteValue.elem, Sem.run_bind, parts_psz, hl, elemT_psz, mk_sz, Extern.ReflectliteValue.flagAddr]
theorem size_sz (h k : Int) : (Tryz.prog.info? 134).map (·.size) = some (#[Value.int .i64 h, Value.int .i64 k] : Array Value).size := by kernel_rfl
theorem set_eq (g q : Nat) (w : World) : (Extern.ReflectliteValue.set #[.agg (rvA 134 g 409), .agg (rvA 134 q 153)]).run Tryz.prog w =
  (loadVar 134 ⟨q, 0, none⟩ >>= fun v => storeVar 134 ⟨g, 0, none⟩ v >>= fun _ => pure (.tuple #[])).run Tryz.prog w := by kernel_rfl
theorem set_sz (g q : Nat) (h k : Int) (T : TypeId) (a b : Value) (w : World) (hq : w.heap[q]? = some (.cells #[.int .i64 h, .int .i64 k] 134 (0, 0))) (hg : w.heap[g]? = some (.cells #[a, b] T (0, 0))) :
  (callFunc 147 #[.agg (rvA 134 g 409), .agg (rvA 134 q 153)]).run Tryz.prog w = .ok (.value (.tuple #[])) (w.setRow g #[.int .i64 h, .int .i64 k]) := by
 rw [run_callFunc_extern Tryz.func147 (by kernel_rfl) (by kernel_rfl) (by kernel_rfl) (e := Extern.ReflectliteValue.set) (by kernel_rfl)]
 have hl := run_loadVar_row (P := Tryz.prog) w q _ 134 _ _ _ hq Tryz.underlying134 rfl (size_sz h k)
 have hs := run_storeVar_row (P := Tryz.prog) w g T 134 #[a, b] #[.int .i64 h, .int .i64 k] hg (size_sz h k) rfl (by kernel_rfl)
 rw [set_eq]
 simp [Sem.run_bind, hl, hs]
theorem kind_psz (w : World) : (callFunc 206 #[hN 138]).run Tryz.prog w = .ok (.value (.int .u8 22)) w := by kernel_rfl
theorem kind_sz (w : World) : (callFunc 206 #[hN 134]).run Tryz.prog w = .ok (.value (.int .u8 25)) w := by kernel_rfl
theorem elemT_sz (w : World) : (callFunc 219 #[.agg #[hN 138]]).run Tryz.prog w = .ok (.value (rtV 134)) w := by kernel_rfl
theorem impl_sz (w : World) : (callFunc 220 #[.agg #[hN 134], rtV 66]).run Tryz.prog w = .ok (.value (.bool true)) w := by kernel_rfl
theorem typeOf_any (t : TypeId) (v : Value) (w : World) : (callFunc 100 #[.iface t v]).run Tryz.prog w = .ok (.value (rtV t)) w := by kernel_rfl
theorem asg_at_sz (w : World) : (callFunc 217 #[.agg #[hN 173], rtV 134]).run Tryz.prog w = .ok (.value (.bool false)) w := by kernel_rfl
theorem asg_sz_sz (w : World) : (callFunc 217 #[.agg #[hN 134], rtV 134]).run Tryz.prog w = .ok (.value (.bool true)) w := by kernel_rfl
theorem valueOf_e (h k : Int) (w : World) : (callFunc 96 #[.iface 134 (.agg #[.int .i64 h, .int .i64 k])]).run Tryz.prog w = .ok (.value (.agg (rvA 134 w.heap.size 153))) (w.alloc (.cells #[.int .i64 h, .int .i64 k] 134)) := by kernel_rfl
end Go.Proofs.YtccgfabojbjmjaaGreatDoor
