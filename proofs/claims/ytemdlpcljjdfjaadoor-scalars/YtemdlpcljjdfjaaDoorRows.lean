/-
  NARROWER THAN 'FOR EVERY INPUT', by the rows' own cells (each row's printed sentence says how): Reduces: laid · Adds: laid · Multiplies: laid · Group: laid · Scalars: laid.
  DERIVED. THE GIVEN ROWS OF THIS SEAT. 5 by the template 'for every input the law returns true; each argument reads behind the call as it read before'; 0 by the template 'total and deterministic' (their statements: YtemdlpcljjdfjaaDoorTotals.lean).
  GIVEN WITH THE SEED: the statements are not yours to turn. If you find one false, say at which input.
  Laid BY PROGRAM, IN A SANDBOX (cutbox-rows.mjs): the forced cells as the released guide's own fill.sh prints them over the translation 25f546b61c62d45e… (all of the seat's roots in one cut). By AI agents, Wed Nov 11 2026. No macro, syntax, notation, axiom, sorry.
-/
import Derived.Test.YtemdlpcljjdfjaaDoorChecked
import GoSem.Claim
import GoSem.ClaimJoined
import GoSem.ClaimMapViews
import Derived.JoinedTies
import Derived.KernelRfl
namespace Go.Proofs.YtemdlpcljjdfjaaDoor
/- THE CELL 'sum', in the pinned program and in every row, IS THE sha256 OF THE DUMP (.gsa) THAT YtemdlpcljjdfjaaDoorProg.lean LOADS. Nothing in Lean hashes anything: it is a label: what it is worth is what the hold of that sum in a sandbox is worth. -/
noncomputable def Tryd.pinned : Pinned := { name := "ytemdlpcljjdfjaadoor", sum := "25f546b61c62d45ebeeee4addc6ae43ce168ae7804549b9bebd65b97932c79dd", checked := Tryd.checked }
namespace Rows
def none {H : Type} : Left H := { results := [], args := [] }

/- WHAT THE LISTED PACKAGE-LEVEL VARIABLES READ AS WHEN THE CALL BEGINS. Each datum BY PROGRAM (the guide's laid-datum.mjs) off the statement by which the dump's own 'gosem.cut.vars' lays the variable. In a bare row this is a premise. The card (YtemdlpcljjdfjaaDoorCards.lean) ties it to the program's text. -/
def laid_latch_scalar_order {H : Type} : DataW H := .agg [.lit (.int .u64 6346243789798364141), .lit (.int .u64 1503914060200516822), .lit (.int .u64 0), .lit (.int .u64 1152921504606846976)]
def laid_latch_field_modulus {H : Type} : DataW H := .agg [.lit (.int .u64 18446744073709551597), .lit (.int .u64 18446744073709551615), .lit (.int .u64 18446744073709551615), .lit (.int .u64 9223372036854775807)]
def laid_latch_field_rootOfMinusOne {H : Type} : DataW H := .agg [.lit (.int .u64 14190309331451158704), .lit (.int .u64 3405592160176694392), .lit (.int .u64 3120150775007532967), .lit (.int .u64 3135389899092516619)]
def laid_latch_curve_one {H : Type} : DataW H := .agg [.lit (.int .u64 1), .lit (.int .u64 0), .lit (.int .u64 0), .lit (.int .u64 0)]
def laid_latch_curve_d {H : Type} : DataW H := .agg [.lit (.int .u64 8496970652267935907), .lit (.int .u64 31536524315187371), .lit (.int .u64 10144147576115030168), .lit (.int .u64 5909686906226998899)]
def laid_latch_curve_twoD {H : Type} : DataW H := .agg [.lit (.int .u64 16993941304535871833), .lit (.int .u64 63073048630374742), .lit (.int .u64 1841551078520508720), .lit (.int .u64 2596001775599221991)]
def laid_latch_curve_baseCode {H : Type} : DataW H := .agg [.lit (.int .u8 88), .lit (.int .u8 102), .lit (.int .u8 102), .lit (.int .u8 102), .lit (.int .u8 102), .lit (.int .u8 102), .lit (.int .u8 102), .lit (.int .u8 102), .lit (.int .u8 102), .lit (.int .u8 102), .lit (.int .u8 102), .lit (.int .u8 102), .lit (.int .u8 102), .lit (.int .u8 102), .lit (.int .u8 102), .lit (.int .u8 102), .lit (.int .u8 102), .lit (.int .u8 102), .lit (.int .u8 102), .lit (.int .u8 102), .lit (.int .u8 102), .lit (.int .u8 102), .lit (.int .u8 102), .lit (.int .u8 102), .lit (.int .u8 102), .lit (.int .u8 102), .lit (.int .u8 102), .lit (.int .u8 102), .lit (.int .u8 102), .lit (.int .u8 102), .lit (.int .u8 102), .lit (.int .u8 102)]

/-- 'latchlaw.Reduces': WHATEVER THE INPUT: true; the input reads as it did. -/
def reducesSpec : ChangeSpec := { name := "reduces", fn := fun _ => fun
  | [d] => { results := [.lit (.bool true)], args := [d] }
  | _ => none }
def reducesRow : OpenClaim := { program := "ytemdlpcljjdfjaadoor", sum := "25f546b61c62d45ebeeee4addc6ae43ce168ae7804549b9bebd65b97932c79dd", func := "latch/latchlaw.Reduces", spec := "reduces", inPlace := ["math/bits.Add64", "math/bits.Sub64"], named := ["latch/scalar.order"], apart := false, laid := [("latch/scalar.order", laid_latch_scalar_order)] }
def ReducesSaid : Prop := reducesRow.holds Tryd.pinned (OpenSpec.ofChange reducesSpec)

/-- ITS FALSE NEIGHBOUR: 'it returns false'. Refute it at one input. -/
def reducesWrong : ChangeSpec := { name := "reduces", fn := fun _ => fun
  | [d] => { results := [.lit (.bool false)], args := [d] }
  | _ => none }
def ReducesWrongFalsely : Prop := reducesRow.holds Tryd.pinned (OpenSpec.ofChange reducesWrong)

/-- 'latchlaw.Adds': WHATEVER THE INPUT: true; the input reads as it did. -/
def addsSpec : ChangeSpec := { name := "adds", fn := fun _ => fun
  | [d1, d2] => { results := [.lit (.bool true)], args := [d1, d2] }
  | _ => none }
def addsRow : OpenClaim := { program := "ytemdlpcljjdfjaadoor", sum := "25f546b61c62d45ebeeee4addc6ae43ce168ae7804549b9bebd65b97932c79dd", func := "latch/latchlaw.Adds", spec := "adds", inPlace := ["math/bits.Sub64", "math/bits.Add64"], named := ["latch/curve.one", "latch/field.modulus", "latch/curve.d", "latch/field.rootOfMinusOne", "latch/curve.twoD"], apart := false, laid := [("latch/field.modulus", laid_latch_field_modulus), ("latch/field.rootOfMinusOne", laid_latch_field_rootOfMinusOne), ("latch/curve.one", laid_latch_curve_one), ("latch/curve.d", laid_latch_curve_d), ("latch/curve.twoD", laid_latch_curve_twoD)] }
def AddsSaid : Prop := addsRow.holds Tryd.pinned (OpenSpec.ofChange addsSpec)

/-- ITS FALSE NEIGHBOUR: 'it returns false'. Refute it at one input. -/
def addsWrong : ChangeSpec := { name := "adds", fn := fun _ => fun
  | [d1, d2] => { results := [.lit (.bool false)], args := [d1, d2] }
  | _ => none }
def AddsWrongFalsely : Prop := addsRow.holds Tryd.pinned (OpenSpec.ofChange addsWrong)

/-- 'latchlaw.Multiplies': WHATEVER THE INPUT: true; the input reads as it did. -/
def multipliesSpec : ChangeSpec := { name := "multiplies", fn := fun _ => fun
  | [d1, d2] => { results := [.lit (.bool true)], args := [d1, d2] }
  | _ => none }
def multipliesRow : OpenClaim := { program := "ytemdlpcljjdfjaadoor", sum := "25f546b61c62d45ebeeee4addc6ae43ce168ae7804549b9bebd65b97932c79dd", func := "latch/latchlaw.Multiplies", spec := "multiplies", inPlace := ["math/bits.Sub64", "math/bits.Add64", "sync/atomic.LoadUint32", "(*internal/sync.Mutex).Lock", "internal/race.Disable", "sync/atomic.CompareAndSwapInt32", "internal/race.Enable", "internal/race.Acquire", "(*internal/sync.Mutex).lockSlow", "internal/sync.runtime_canSpin", "internal/sync.runtime_doSpin", "internal/sync.throw", "internal/sync.runtime_nanotime", "internal/sync.runtime_SemacquireMutex", "sync/atomic.AddInt32", "(*internal/sync.Mutex).Unlock", "internal/race.ReleaseMerge", "(*internal/sync.Mutex).unlockSlow", "internal/sync.fatal", "internal/sync.runtime_Semrelease", "sync/atomic.StoreUint32"], unfollowed := true, recurses := true, named := ["latch/curve.baseCode", "latch/curve.one", "latch/field.modulus", "latch/curve.d", "latch/field.rootOfMinusOne", "latch/curve.twoD"], apart := false, laid := [("latch/field.modulus", laid_latch_field_modulus), ("latch/field.rootOfMinusOne", laid_latch_field_rootOfMinusOne), ("latch/curve.baseCode", laid_latch_curve_baseCode), ("latch/curve.one", laid_latch_curve_one), ("latch/curve.d", laid_latch_curve_d), ("latch/curve.twoD", laid_latch_curve_twoD)] }
def MultipliesSaid : Prop := multipliesRow.holds Tryd.pinned (OpenSpec.ofChange multipliesSpec)

/-- ITS FALSE NEIGHBOUR: 'it returns false'. Refute it at one input. -/
def multipliesWrong : ChangeSpec := { name := "multiplies", fn := fun _ => fun
  | [d1, d2] => { results := [.lit (.bool false)], args := [d1, d2] }
  | _ => none }
def MultipliesWrongFalsely : Prop := multipliesRow.holds Tryd.pinned (OpenSpec.ofChange multipliesWrong)

/-- 'latchkeep.Group': WHATEVER THE INPUT: true; the input reads as it did. -/
def groupSpec : ChangeSpec := { name := "group", fn := fun _ => fun
  | [d1, d2, d3, d4, d5, d6] => { results := [.lit (.bool true)], args := [d1, d2, d3, d4, d5, d6] }
  | _ => none }
def groupRow : OpenClaim := { program := "ytemdlpcljjdfjaadoor", sum := "25f546b61c62d45ebeeee4addc6ae43ce168ae7804549b9bebd65b97932c79dd", func := "latch/latchkeep.Group", spec := "group", inPlace := ["math/bits.Sub64", "math/bits.Add64", "sync/atomic.LoadUint32", "(*internal/sync.Mutex).Lock", "internal/race.Disable", "sync/atomic.CompareAndSwapInt32", "internal/race.Enable", "internal/race.Acquire", "(*internal/sync.Mutex).lockSlow", "internal/sync.runtime_canSpin", "internal/sync.runtime_doSpin", "internal/sync.throw", "internal/sync.runtime_nanotime", "internal/sync.runtime_SemacquireMutex", "sync/atomic.AddInt32", "(*internal/sync.Mutex).Unlock", "internal/race.ReleaseMerge", "(*internal/sync.Mutex).unlockSlow", "internal/sync.fatal", "internal/sync.runtime_Semrelease", "sync/atomic.StoreUint32"], unfollowed := true, recurses := true, named := ["latch/curve.one", "latch/field.modulus", "latch/curve.d", "latch/field.rootOfMinusOne", "latch/curve.twoD", "latch/curve.baseCode"], apart := false, laid := [("latch/field.modulus", laid_latch_field_modulus), ("latch/field.rootOfMinusOne", laid_latch_field_rootOfMinusOne), ("latch/curve.baseCode", laid_latch_curve_baseCode), ("latch/curve.one", laid_latch_curve_one), ("latch/curve.d", laid_latch_curve_d), ("latch/curve.twoD", laid_latch_curve_twoD)] }
def GroupSaid : Prop := groupRow.holds Tryd.pinned (OpenSpec.ofChange groupSpec)

/-- ITS FALSE NEIGHBOUR: 'it returns false'. Refute it at one input. -/
def groupWrong : ChangeSpec := { name := "group", fn := fun _ => fun
  | [d1, d2, d3, d4, d5, d6] => { results := [.lit (.bool false)], args := [d1, d2, d3, d4, d5, d6] }
  | _ => none }
def GroupWrongFalsely : Prop := groupRow.holds Tryd.pinned (OpenSpec.ofChange groupWrong)

/-- 'latchkeep.Scalars': WHATEVER THE INPUT: true; the input reads as it did. -/
def scalarsSpec : ChangeSpec := { name := "scalars", fn := fun _ => fun
  | [d1, d2, d3, d4] => { results := [.lit (.bool true)], args := [d1, d2, d3, d4] }
  | _ => none }
def scalarsRow : OpenClaim := { program := "ytemdlpcljjdfjaadoor", sum := "25f546b61c62d45ebeeee4addc6ae43ce168ae7804549b9bebd65b97932c79dd", func := "latch/latchkeep.Scalars", spec := "scalars", inPlace := ["math/bits.Sub64", "math/bits.Add64", "sync/atomic.LoadUint32", "(*internal/sync.Mutex).Lock", "internal/race.Disable", "sync/atomic.CompareAndSwapInt32", "internal/race.Enable", "internal/race.Acquire", "(*internal/sync.Mutex).lockSlow", "internal/sync.runtime_canSpin", "internal/sync.runtime_doSpin", "internal/sync.throw", "internal/sync.runtime_nanotime", "internal/sync.runtime_SemacquireMutex", "sync/atomic.AddInt32", "(*internal/sync.Mutex).Unlock", "internal/race.ReleaseMerge", "(*internal/sync.Mutex).unlockSlow", "internal/sync.fatal", "internal/sync.runtime_Semrelease", "sync/atomic.StoreUint32"], unfollowed := true, recurses := true, named := ["latch/curve.one", "latch/field.modulus", "latch/curve.d", "latch/field.rootOfMinusOne", "latch/curve.twoD", "latch/curve.baseCode", "latch/scalar.order"], apart := false, laid := [("latch/field.modulus", laid_latch_field_modulus), ("latch/field.rootOfMinusOne", laid_latch_field_rootOfMinusOne), ("latch/scalar.order", laid_latch_scalar_order), ("latch/curve.baseCode", laid_latch_curve_baseCode), ("latch/curve.one", laid_latch_curve_one), ("latch/curve.d", laid_latch_curve_d), ("latch/curve.twoD", laid_latch_curve_twoD)] }
def ScalarsSaid : Prop := scalarsRow.holds Tryd.pinned (OpenSpec.ofChange scalarsSpec)

/-- ITS FALSE NEIGHBOUR: 'it returns false'. Refute it at one input. -/
def scalarsWrong : ChangeSpec := { name := "scalars", fn := fun _ => fun
  | [d1, d2, d3, d4] => { results := [.lit (.bool false)], args := [d1, d2, d3, d4] }
  | _ => none }
def ScalarsWrongFalsely : Prop := scalarsRow.holds Tryd.pinned (OpenSpec.ofChange scalarsWrong)

/- THE SECOND FORM. 'bulk': how many values and letters a reading holds, each counted each time it is reached (what is shared counts as often as it is met; a slice's spare places count too). A statement '..UptoSaid' is the law's where the arguments, and the package variables that the reading takes, are together of bulk at most 1048576: NARROWER than '..Said'. Prove '..Said' where nothing that the law and all that it calls make is longer than what came in: it says more and counts as full. Else prove '..UptoSaid'. A law counts once. -/
mutual
def uptoBulk {H : Type} : DataW H → Nat
  | .lit (.string bytes) => bytes.length + 1
  | .lit _ => 1
  | .nil => 1
  | .ptr d => uptoBulk d + 1
  | .slice elems spare => uptoBulkAll elems + uptoBulkAll spare + 1
  | .agg parts => uptoBulkAll parts + 1
  | .iface _ d => uptoBulk d + 1
  | .map entries => uptoBulkEntries entries + 1
  | .held _ => 1
def uptoBulkAll {H : Type} : List (DataW H) → Nat
  | [] => 0
  | d :: r => uptoBulk d + uptoBulkAll r
def uptoBulkEntries {H : Type} : List (Lit × DataW H) → Nat
  | [] => 0
  | x :: r => uptoBulkEntry x + uptoBulkEntries r
def uptoBulkEntry {H : Type} : Lit × DataW H → Nat
  | (.string bytes, d) => bytes.length + uptoBulk d + 1
  | (_, d) => uptoBulk d + 1
 end
def uptoSmall : (H : Type) → List (DataW H) → Bool := fun _ ds => decide (uptoBulkAll ds ≤ 1048576)
def OpenSpec.upto (s : _root_.Go.ChangeSpec) : _root_.Go.OpenSpec := { _root_.Go.OpenSpec.ofChange s with cond := some uptoSmall }

/-- 'latchlaw.Reduces', WHERE WHAT IT READS IS OF BULK AT MOST 1048576: true; the input reads as it did. -/
def reducesUptoRow : OpenClaim := { program := "ytemdlpcljjdfjaadoor", sum := "25f546b61c62d45ebeeee4addc6ae43ce168ae7804549b9bebd65b97932c79dd", func := "latch/latchlaw.Reduces", spec := "reduces", inPlace := ["math/bits.Add64", "math/bits.Sub64"], named := ["latch/scalar.order"], apart := false, laid := [("latch/scalar.order", laid_latch_scalar_order)], narrowed := true }
def ReducesUptoSaid : Prop := reducesUptoRow.holds Tryd.pinned (OpenSpec.upto reducesSpec)

/-- 'latchlaw.Adds', WHERE WHAT IT READS IS OF BULK AT MOST 1048576: true; the input reads as it did. -/
def addsUptoRow : OpenClaim := { program := "ytemdlpcljjdfjaadoor", sum := "25f546b61c62d45ebeeee4addc6ae43ce168ae7804549b9bebd65b97932c79dd", func := "latch/latchlaw.Adds", spec := "adds", inPlace := ["math/bits.Sub64", "math/bits.Add64"], named := ["latch/curve.one", "latch/field.modulus", "latch/curve.d", "latch/field.rootOfMinusOne", "latch/curve.twoD"], apart := false, laid := [("latch/field.modulus", laid_latch_field_modulus), ("latch/field.rootOfMinusOne", laid_latch_field_rootOfMinusOne), ("latch/curve.one", laid_latch_curve_one), ("latch/curve.d", laid_latch_curve_d), ("latch/curve.twoD", laid_latch_curve_twoD)], narrowed := true }
def AddsUptoSaid : Prop := addsUptoRow.holds Tryd.pinned (OpenSpec.upto addsSpec)

/-- 'latchlaw.Multiplies', WHERE WHAT IT READS IS OF BULK AT MOST 1048576: true; the input reads as it did. -/
def multipliesUptoRow : OpenClaim := { program := "ytemdlpcljjdfjaadoor", sum := "25f546b61c62d45ebeeee4addc6ae43ce168ae7804549b9bebd65b97932c79dd", func := "latch/latchlaw.Multiplies", spec := "multiplies", inPlace := ["math/bits.Sub64", "math/bits.Add64", "sync/atomic.LoadUint32", "(*internal/sync.Mutex).Lock", "internal/race.Disable", "sync/atomic.CompareAndSwapInt32", "internal/race.Enable", "internal/race.Acquire", "(*internal/sync.Mutex).lockSlow", "internal/sync.runtime_canSpin", "internal/sync.runtime_doSpin", "internal/sync.throw", "internal/sync.runtime_nanotime", "internal/sync.runtime_SemacquireMutex", "sync/atomic.AddInt32", "(*internal/sync.Mutex).Unlock", "internal/race.ReleaseMerge", "(*internal/sync.Mutex).unlockSlow", "internal/sync.fatal", "internal/sync.runtime_Semrelease", "sync/atomic.StoreUint32"], unfollowed := true, recurses := true, named := ["latch/curve.baseCode", "latch/curve.one", "latch/field.modulus", "latch/curve.d", "latch/field.rootOfMinusOne", "latch/curve.twoD"], apart := false, laid := [("latch/field.modulus", laid_latch_field_modulus), ("latch/field.rootOfMinusOne", laid_latch_field_rootOfMinusOne), ("latch/curve.baseCode", laid_latch_curve_baseCode), ("latch/curve.one", laid_latch_curve_one), ("latch/curve.d", laid_latch_curve_d), ("latch/curve.twoD", laid_latch_curve_twoD)], narrowed := true }
def MultipliesUptoSaid : Prop := multipliesUptoRow.holds Tryd.pinned (OpenSpec.upto multipliesSpec)

/-- 'latchkeep.Group', WHERE WHAT IT READS IS OF BULK AT MOST 1048576: true; the input reads as it did. -/
def groupUptoRow : OpenClaim := { program := "ytemdlpcljjdfjaadoor", sum := "25f546b61c62d45ebeeee4addc6ae43ce168ae7804549b9bebd65b97932c79dd", func := "latch/latchkeep.Group", spec := "group", inPlace := ["math/bits.Sub64", "math/bits.Add64", "sync/atomic.LoadUint32", "(*internal/sync.Mutex).Lock", "internal/race.Disable", "sync/atomic.CompareAndSwapInt32", "internal/race.Enable", "internal/race.Acquire", "(*internal/sync.Mutex).lockSlow", "internal/sync.runtime_canSpin", "internal/sync.runtime_doSpin", "internal/sync.throw", "internal/sync.runtime_nanotime", "internal/sync.runtime_SemacquireMutex", "sync/atomic.AddInt32", "(*internal/sync.Mutex).Unlock", "internal/race.ReleaseMerge", "(*internal/sync.Mutex).unlockSlow", "internal/sync.fatal", "internal/sync.runtime_Semrelease", "sync/atomic.StoreUint32"], unfollowed := true, recurses := true, named := ["latch/curve.one", "latch/field.modulus", "latch/curve.d", "latch/field.rootOfMinusOne", "latch/curve.twoD", "latch/curve.baseCode"], apart := false, laid := [("latch/field.modulus", laid_latch_field_modulus), ("latch/field.rootOfMinusOne", laid_latch_field_rootOfMinusOne), ("latch/curve.baseCode", laid_latch_curve_baseCode), ("latch/curve.one", laid_latch_curve_one), ("latch/curve.d", laid_latch_curve_d), ("latch/curve.twoD", laid_latch_curve_twoD)], narrowed := true }
def GroupUptoSaid : Prop := groupUptoRow.holds Tryd.pinned (OpenSpec.upto groupSpec)

/-- 'latchkeep.Scalars', WHERE WHAT IT READS IS OF BULK AT MOST 1048576: true; the input reads as it did. -/
def scalarsUptoRow : OpenClaim := { program := "ytemdlpcljjdfjaadoor", sum := "25f546b61c62d45ebeeee4addc6ae43ce168ae7804549b9bebd65b97932c79dd", func := "latch/latchkeep.Scalars", spec := "scalars", inPlace := ["math/bits.Sub64", "math/bits.Add64", "sync/atomic.LoadUint32", "(*internal/sync.Mutex).Lock", "internal/race.Disable", "sync/atomic.CompareAndSwapInt32", "internal/race.Enable", "internal/race.Acquire", "(*internal/sync.Mutex).lockSlow", "internal/sync.runtime_canSpin", "internal/sync.runtime_doSpin", "internal/sync.throw", "internal/sync.runtime_nanotime", "internal/sync.runtime_SemacquireMutex", "sync/atomic.AddInt32", "(*internal/sync.Mutex).Unlock", "internal/race.ReleaseMerge", "(*internal/sync.Mutex).unlockSlow", "internal/sync.fatal", "internal/sync.runtime_Semrelease", "sync/atomic.StoreUint32"], unfollowed := true, recurses := true, named := ["latch/curve.one", "latch/field.modulus", "latch/curve.d", "latch/field.rootOfMinusOne", "latch/curve.twoD", "latch/curve.baseCode", "latch/scalar.order"], apart := false, laid := [("latch/field.modulus", laid_latch_field_modulus), ("latch/field.rootOfMinusOne", laid_latch_field_rootOfMinusOne), ("latch/scalar.order", laid_latch_scalar_order), ("latch/curve.baseCode", laid_latch_curve_baseCode), ("latch/curve.one", laid_latch_curve_one), ("latch/curve.d", laid_latch_curve_d), ("latch/curve.twoD", laid_latch_curve_twoD)], narrowed := true }
def ScalarsUptoSaid : Prop := scalarsUptoRow.holds Tryd.pinned (OpenSpec.upto scalarsSpec)

end Rows
end Go.Proofs.YtemdlpcljjdfjaaDoor
