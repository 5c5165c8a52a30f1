import Derived.Test.YtccgfabojbjmjaaGreatDoorPx31
import Derived.LaidEql
namespace Go.Proofs.YtccgfabojbjmjaaGreatDoor
open Go.RowKit
theorem valueOf_szI (g : Nat) (w : World) : (callFunc 96 #[.iface 139 (.pointer (some ⟨g, 0, none⟩))]).run Tryz.prog w = .ok (.value (.agg (rvA 139 w.heap.size 150))) (w.alloc (.cells #[.pointer (some ⟨g, 0, none⟩)] 139)) := by kernel_rfl
theorem type_szI (q : Nat) (w : World) : (callFunc 97 #[.agg (rvA 139 q 150)]).run Tryz.prog w = .ok (.value (rtV 139)) w := by kernel_rfl
theorem parts_pszI (q : Nat) (w : World) : (Extern.ReflectliteValue.parts (.agg (rvA 139 q 150))).run Tryz.prog w = .ok (some (139, ⟨q, 0, none⟩, 150)) w := by kernel_rfl
theorem isNil_szI (g q : Nat) (w : World) (h : w.heap[q]? = some (.cells #[.pointer (some ⟨g, 0, none⟩)] 139 (0, 0))) : (callFunc 98 #[.agg (rvA 139 q 150)]).run Tryz.prog w = .ok (.value (.bool false)) w := by
 rw [run_callFunc_extern Tryz.func98 (by kernel_rfl) (by kernel_rfl) (by kernel_rfl) (e := Extern.ReflectliteValue.method (Extern.ReflectliteValue.valueError "reflectlite.Value.IsNil" 0) Extern.ReflectliteValue.isNil) (by kernel_rfl)]
 have hl := load_one w q _ _ _ _ _ h Tryz.underlying139 rfl
 simp [meth_eq, Extern.ReflectliteValue.isNil, Sem.run_bind, parts_pszI, hl]
theorem elemT_pszI (w : World) : (Extern.Rtype.elem? 139).run Tryz.prog w = .ok (some 136) w := by kernel_rfl
theorem mk_szI (g : Nat) (w : World) : (Extern.ReflectliteValue.mk 136 ⟨g, 0, none⟩ 256).run Tryz.prog w = .ok (.agg (rvA 136 g 409)) w := by kernel_rfl
theorem elem_szI (g q : Nat) (w : World) (h : w.heap[q]? = some (.cells #[.pointer (some ⟨g, 0, none⟩)] 139 (0, 0))) : (callFunc 146 #[.agg (rvA 139 q 150)]).run Tryz.prog w = .ok (.value (.agg (rvA 136 g 409))) w := by
 rw [run_callFunc_extern Tryz.func146 (by kernel_rfl) (by kernel_rfl) (by kernel_rfl) (e := Extern.ReflectliteValue.method (Extern.ReflectliteValue.valueError "reflectlite.Value.Elem" 0) Extern.ReflectliteValue.elem) (by kernel_rfl)]
 have hl := load_one w q _ _ _ _ _ h Tryz.underlying139 rfl
 simp [meth_eq, Extern.ReflectliteValue.elem, Sem.run_bind, parts_pszI, hl, elemT_pszI, mk_szI, Extern.ReflectliteValue.flagAddr]
theorem size_szI (h : Int) : (Tryz.prog.info? 136).map (·.size) = some (#[Value.int .i64 h] : Array Value).size := by kernel_rfl
theorem set_eqI (g q : Nat) (w : World) : (Extern.ReflectliteValue.set #[.agg (rvA 136 g 409), .agg (rvA 136 q 153)]).run Tryz.prog w =
  (loadVar 136 ⟨q, 0, none⟩ >>= fun v => storeVar 136 ⟨g, 0, none⟩ v >>= fun _ => pure (.tuple #[])).run Tryz.prog w := by kernel_rfl
theorem set_szI (g q : Nat) (h : Int) (T : TypeId) (a : Value) (w : World) (hq : w.heap[q]? = some (.cells #[.int .i64 h] 136 (0, 0))) (hg : w.heap[g]? = some (.cells #[a] T (0, 0))) :
  (callFunc 147 #[.agg (rvA 136 g 409), .agg (rvA 136 q 153)]).run Tryz.prog w = .ok (.value (.tuple #[])) (w.setRow g #[.int .i64 h]) := by
 rw [run_callFunc_extern Tryz.func147 (by kernel_rfl) (by kernel_rfl) (by kernel_rfl) (e := Extern.ReflectliteValue.set) (by kernel_rfl)]
 have hl := run_loadVar_row (P := Tryz.prog) w q _ 136 _ _ _ hq Tryz.underlying136 rfl (size_szI h)
 have hs := run_storeVar_row (P := Tryz.prog) w g T 136 #[a] #[.int .i64 h] hg (size_szI h) rfl (by kernel_rfl)
 rw [set_eqI]
 simp [Sem.run_bind, hl, hs]
theorem kind_pszI (w : World) : (callFunc 206 #[hN 139]).run Tryz.prog w = .ok (.value (.int .u8 22)) w := by kernel_rfl
theorem kind_szI (w : World) : (callFunc 206 #[hN 136]).run Tryz.prog w = .ok (.value (.int .u8 25)) w := by kernel_rfl
theorem elemT_szI (w : World) : (callFunc 219 #[.agg #[hN 139]]).run Tryz.prog w = .ok (.value (rtV 136)) w := by kernel_rfl
theorem impl_szI (w : World) : (callFunc 220 #[.agg #[hN 136], rtV 66]).run Tryz.prog w = .ok (.value (.bool true)) w := by kernel_rfl
theorem asg_at_im (w : World) : (callFunc 217 #[.agg #[hN 173], rtV 136]).run Tryz.prog w = .ok (.value (.bool false)) w := by kernel_rfl
theorem asg_im_im (w : World) : (callFunc 217 #[.agg #[hN 136], rtV 136]).run Tryz.prog w = .ok (.value (.bool true)) w := by kernel_rfl
theorem asg_im_sz (w : World) : (callFunc 217 #[.agg #[hN 136], rtV 134]).run Tryz.prog w = .ok (.value (.bool false)) w := by kernel_rfl
theorem asg_es_im (w : World) : (callFunc 217 #[.agg #[hN 282], rtV 136]).run Tryz.prog w = .ok (.value (.bool false)) w := by kernel_rfl
theorem asg_es_sz (w : World) : (callFunc 217 #[.agg #[hN 282], rtV 134]).run Tryz.prog w = .ok (.value (.bool false)) w := by kernel_rfl
theorem valueOf_eI (h : Int) (w : World) : (callFunc 96 #[.iface 136 (.agg #[.int .i64 h])]).run Tryz.prog w = .ok (.value (.agg (rvA 136 w.heap.size 153))) (w.alloc (.cells #[.int .i64 h] 136)) := by kernel_rfl
theorem noAsEs (v : Value) (xT : TypeId) (w : World) : (Instr.typeAssert (.iface 282 v) xT 243 true).run Tryz.prog w = .ok (.tuple #[.nilIface, .bool false]) w := run_typeAssert_lacksB Tryz.underlying243 (by kernel_rfl) (by kernel_rfl) v xT w
theorem noAsIm (v : Value) (xT : TypeId) (w : World) : (Instr.typeAssert (.iface 136 v) xT 243 true).run Tryz.prog w = .ok (.tuple #[.nilIface, .bool false]) w := run_typeAssert_lacksB Tryz.underlying243 (by kernel_rfl) (by kernel_rfl) v xT w
theorem noUnEs (v : Value) (xT : TypeId) (w : World) : (Instr.typeAssert (.iface 282 v) xT 246 true).run Tryz.prog w = .ok (.tuple #[.nilIface, .bool false]) w := run_typeAssert_lacksB Tryz.underlying246 (by kernel_rfl) (by kernel_rfl) v xT w
theorem noUnIm (v : Value) (xT : TypeId) (w : World) : (Instr.typeAssert (.iface 136 v) xT 246 true).run Tryz.prog w = .ok (.tuple #[.nilIface, .bool false]) w := run_typeAssert_lacksB Tryz.underlying246 (by kernel_rfl) (by kernel_rfl) v xT w
theorem noUnsEs (v : Value) (xT : TypeId) (w : World) : (Instr.typeAssert (.iface 282 v) xT 247 true).run Tryz.prog w = .ok (.tuple #[.nilIface, .bool false]) w := run_typeAssert_lacksB Tryz.underlying247 (by kernel_rfl) (by kernel_rfl) v xT w
theorem noUnsIm (v : Value) (xT : TypeId) (w : World) : (Instr.typeAssert (.iface 136 v) xT 247 true).run Tryz.prog w = .ok (.tuple #[.nilIface, .bool false]) w := run_typeAssert_lacksB Tryz.underlying247 (by kernel_rfl) (by kernel_rfl) v xT w
theorem noIsEs (v : Value) (xT : TypeId) (w : World) : (Instr.typeAssert (.iface 282 v) xT 250 true).run Tryz.prog w = .ok (.tuple #[.nilIface, .bool false]) w := run_typeAssert_lacksB Tryz.underlying250 (by kernel_rfl) (by kernel_rfl) v xT w
theorem noIsAt (v : Value) (xT : TypeId) (w : World) : (Instr.typeAssert (.iface 173 v) xT 250 true).run Tryz.prog w = .ok (.tuple #[.nilIface, .bool false]) w := run_typeAssert_lacksB Tryz.underlying250 (by kernel_rfl) (by kernel_rfl) v xT w
theorem cmp_es (w : World) : (callFunc 218 #[.agg #[hN 282]]).run Tryz.prog w = .ok (.value (.bool true)) w := by kernel_rfl
theorem isCompE : (Tryz.prog.info? 282).map (·.comparable) = some true := by kernel_rfl
theorem isSizeE : (Tryz.prog.info? 301).map (·.size) = some 1 := by kernel_rfl
end Go.Proofs.YtccgfabojbjmjaaGreatDoor
