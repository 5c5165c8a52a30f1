import Derived.Test.YtccgfabojbjmjaaGreatDoorCards
import Derived.Test.YtccgfabojbjmjaaGreatDoorTie
import Derived.ProofKit
import Derived.OpenShut
import Derived.ShutString
import Derived.ChangeOld
import Derived.Deep.DeepHandedRow
import Derived.Lib.LaidTab
import Derived.SizedLaws
import Derived.Test.YtccgfabojbjmjaaGreatDoorRows
import Derived.WalkSpells
import Derived.WalkLawsBesides
import Derived.Handy
import Derived.Deep.MidRow
import Derived.Laws.CopyOwn
import Derived.Laws.BitsLemmas
import Derived.Test.YtccgfabojbjmjaaGreatDoorPx08
import Derived.Deep.QuietTactic
import Derived.BigQuiet
namespace Go.Proofs.YtccgfabojbjmjaaGreatDoor
open Go.ChangeShapes Go.WideShapes Go.ChangeAt Go.RowKit
theorem own : ownKnob Tryz.prog.godebug = none := by kernel_rfl
theorem laidOut : laidOutB Tryz.prog = true := by kernel_rfl
theorem gOrd : Tryz.prog.globalNamed "latch/scalar.order" = some 6 := by kernel_rfl
theorem gOrdType : (Tryz.prog.globals[6]?).map (·.type) = some 60 := by kernel_rfl
theorem cells4 : Tryz.prog.cellsOf 60 = 4 := by kernel_rfl
theorem cells64 : Tryz.prog.cellsOf 59 = 1 := by kernel_rfl
theorem underU64 : Tryz.prog.underlying 59 = some (.int .u64) := by kernel_rfl
def ordints : List Int := [6346243789798364141, 1503914060200516822, 0, 1152921504606846976]
theorem laid_ord : (Rows.laid_latch_scalar_order : DataW Unit) = Lib.tabData .u64 ordints := by kernel_rfl
theorem ord_of_tab {W : World} (t : Lib.TabIs Tryz.prog W "latch/scalar.order" .u64 ordints) : OrdAt W := by
 unfold Lib.TabIs World.var? at t
 rw [gOrd] at t
 simp only [Option.bind_some] at t
 split at t
 ·
  rename_i cs ty fr h
  refine ⟨ty, fr, h.trans ?_⟩
  rw [Option.some.inj t]
  rfl
 · cases t
theorem order_met {W : World} (h : laidMetH Tryz.prog [("latch/scalar.order", Rows.laid_latch_scalar_order)] W) : OrdAt W := by
 refine ord_of_tab (Lib.tabIs_of_head (rest := []) gOrd gOrdType under4 underU64 cells64 cells4 ?_)
 rw [← laid_ord]; exact h
abbrev iv (x : Int) : Value := .int .i64 x
def vB (B : Int) : List Int → Int
 | [] => 0
 | a :: l => a + B * vB B l
def dB (B : Int) : Nat → Int → List Int
 | 0, _ => []
 | k + 1, n => n % B :: dB B k (n / B)
theorem dB_length (B : Int) (k : Nat) (n : Int) : (dB B k n).length = k := by
 induction k generalizing n with
 | zero => rfl
 | succ k ih => simp [dB, ih]
theorem and65535 (n : Int) : bits .and .i64 n 65535 = n % 65536 := by
 have h : (BitVec.ofInt 64 65535).toNat = 2 ^ 16 - 1 := by decide
 have key : (BitVec.ofInt 64 n &&& BitVec.ofInt 64 65535).toNat = (n % ((2 ^ 64 : Nat) : Int)).toNat % 2 ^ 16 := by
  rw [BitVec.toNat_and, BitVec.toNat_ofInt, h, Nat.and_two_pow_sub_one_eq_mod]
 show IntKind.i64.wrap ((BitVec.ofInt 64 n &&& BitVec.ofInt 64 65535).toNat : Nat) = n % 65536
 rw [key, IntKind.wrap_i64]
 omega
theorem lt_row {w : World} {g : Nat} {o : Obj} (h : w.heap[g]? = some o) : g < w.heap.size := by
 rcases Nat.lt_or_ge g w.heap.size with k | k
 · exact k
 · rw [Array.getElem?_eq_none k] at h; cases h
theorem far_row {w : World} {g g' : Nat} {o : Obj} (i : Nat) (v : Value) (h : w.heap[g]? = some o) (hne : g ≠ g') : (w.setCell ⟨g', i, none⟩ v).heap[g]? = some o :=
 (Below.heap_setCell w _ v g hne).trans h
theorem dB_vB (B : Int) (hB : 0 < B) (l : List Int) (h : ∀ x ∈ l, 0 ≤ x ∧ x < B) : dB B l.length (vB B l) = l := by
 induction l with
 | nil => rfl
 | cons a l ih =>
  obtain ⟨a0, a1⟩ := h a List.mem_cons_self
  simp only [List.length_cons, dB, vB]
  rw [Int.add_mul_emod_self_left, Int.emod_eq_of_lt a0 a1, Int.add_mul_ediv_left _ _ (by omega), Int.ediv_eq_zero_of_lt a0 a1, Int.zero_add, ih (fun x hx => h x (List.mem_cons_of_mem _ hx))]
def fd (n : Nat) : List Int := dB 67108864 10 n
theorem fd_length (n : Nat) : (fd n).length = 10 := dB_length _ _ _
end Go.Proofs.YtccgfabojbjmjaaGreatDoor
