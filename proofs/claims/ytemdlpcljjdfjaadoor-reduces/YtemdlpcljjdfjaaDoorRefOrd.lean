import Derived.Test.YtemdlpcljjdfjaaDoorRefS
import Derived.Test.YtemdlpcljjdfjaaDoorTxt
import Derived.BigRegion
/- The document's answer: reduced. -/
namespace Go.Proofs.YtemdlpcljjdfjaaDoor
open Go.RowKit
abbrev LI : Int := 7237005577332262213973186563042994240857116359379907606001950938285454250989
def Lrow : List Int := dB 65536 17 LI
theorem Lrow_length : Lrow.length = 17 := dB_length _ _ _
theorem wpBuild {P : Program} {ops : Array Oper} {rest : List Oper} {o : Oper} {a : Act} {w : World} {Q : Exit → Act → World → Prop} (hg : o.guard = none) (t : TypeId) (parts : Array (Nat × Operand)) (ho : o.op = .build t parts) (cells : Array Value)
    (hb : P.built t (parts.map fun (i, x) => (i, a.eval x)).toList = some cells) (h : wpList P ops Q rest (a.put o.dst (.agg cells)) w) : wpList P ops Q (o :: rest) a w :=
  wpList_build hg t parts ho (by rw [hb]; rfl) (by rw [hb]; exact h)
theorem ivS_size {d : List Int} (h : d.length = 17) : (Tryd.prog.info? 84).map (·.size) = some (d.map iv).toArray.size := by rw [sizeS]; simp [h]
theorem ivS_old {d : List Int} (h : d.length = 17) : zS.size = (d.map iv).toArray.size := by simp [h, zS]
theorem ivS_olds {d e : List Int} (h : d.length = 17) (k : e.length = 17) : (d.map iv).toArray.size = (e.map iv).toArray.size := by simp [h, k]
theorem ivS_all (d : List Int) : (d.map iv).toArray.all (·.oneCell') = true := all_oneCell_toArray (ivs_cell _)
theorem Lrow_row : (Lrow.map iv).toArray = #[iv 54253, iv 23797, iv 25370, iv 22546, iv 40150, iv 41719, iv 63966, iv 5342, iv 0, iv 0, iv 0, iv 0, iv 0, iv 0, iv 0, iv 4096, iv 0] := by kernel_rfl
section
set_option maxRecDepth 100000 in
set_option maxHeartbeats 400000 in
theorem order_any (w : World) :
    Calls Tryd.prog 65 #[] w fun e w' => e = .returned (.agg (Lrow.map iv).toArray) ∧ Below w.heap.size w w' := by
  go_enter Tryd.func65, Tryd.ntmps65
  go_wp2_with fail
  go_returns
  refine ⟨?_, by go_grown⟩
  rw [Lrow_row]
end
end Go.Proofs.YtemdlpcljjdfjaaDoor
