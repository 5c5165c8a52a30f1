import Derived.LaidSub
import Derived.Test.YtccgfabojbjmjaaGreatDoorLo43
import Derived.Test.YtccgfabojbjmjaaGreatDoorLo46
namespace Go.Proofs.YtccgfabojbjmjaaGreatDoor
open Go.ChangeShapes Go.WideShapes Go.ChangeAt Go.RowKit
theorem qpF : Tryz.prog.cellsOf 80 = 4 := by kernel_rfl
theorem qtz {W : World} {nm : String} {g : Nat} {zs : List Int} {n : Nat} (hg : Tryz.prog.globalNamed nm = some g) (hn : (zs.map fun z => Value.int .u64 z).toArray = qb n) (t : Lib.TabIs Tryz.prog W nm .u64 zs) : ∃ T fr, W.heap[g]? = some (.cells (qb n) T fr) := by
 unfold Lib.TabIs World.var? at t
 rw [hg] at t
 simp only [Option.bind_some] at t
 split at t
 ·
  rename_i cs ty fr h
  refine ⟨ty, fr, h.trans ?_⟩
  rw [Option.some.inj t, ← hn]
 · cases t
theorem gvM : Tryz.prog.globalNamed "latch/field.modulus" = some 10 := by kernel_rfl
theorem gtM : (Tryz.prog.globals[10]?).map (·.type) = some 80 := by kernel_rfl
def qtp : List Int := [18446744073709551597, 18446744073709551615, 18446744073709551615, 9223372036854775807]
theorem qur : (Rows.laid_latch_field_modulus : DataW Unit) = Lib.tabData .u64 qtp := by kernel_rfl
theorem qvT : (qtp.map fun z => Value.int .u64 z).toArray = qb P := by kernel_rfl
theorem gvR : Tryz.prog.globalNamed "latch/field.rootOfMinusOne" = some 12 := by kernel_rfl
theorem gtR : (Tryz.prog.globals[12]?).map (·.type) = some 80 := by kernel_rfl
def qt4 : List Int := [14190309331451158704, 3405592160176694392, 3120150775007532967, 3135389899092516619]
theorem quk : (Rows.laid_latch_field_rootOfMinusOne : DataW Unit) = Lib.tabData .u64 qt4 := by kernel_rfl
theorem qvU : (qt4.map fun z => Value.int .u64 z).toArray = qb Ql := by kernel_rfl
theorem gvO : Tryz.prog.globalNamed "latch/curve.one" = some 8 := by kernel_rfl
theorem gtO : (Tryz.prog.globals[8]?).map (·.type) = some 80 := by kernel_rfl
def qsV : List Int := [1, 0, 0, 0]
theorem quS : (Rows.laid_latch_curve_one : DataW Unit) = Lib.tabData .u64 qsV := by kernel_rfl
theorem qvJ : (qsV.map fun z => Value.int .u64 z).toArray = qb 1 := by kernel_rfl
theorem gvD : Tryz.prog.globalNamed "latch/curve.d" = some 11 := by kernel_rfl
theorem gtD : (Tryz.prog.globals[11]?).map (·.type) = some 80 := by kernel_rfl
def qrQ : List Int := [8496970652267935907, 31536524315187371, 10144147576115030168, 5909686906226998899]
theorem quT : (Rows.laid_latch_curve_d : DataW Unit) = Lib.tabData .u64 qrQ := by kernel_rfl
theorem qvM : (qrQ.map fun z => Value.int .u64 z).toArray = qb dN := by kernel_rfl
theorem gvT : Tryz.prog.globalNamed "latch/curve.twoD" = some 5 := by kernel_rfl
theorem gtT : (Tryz.prog.globals[5]?).map (·.type) = some 80 := by kernel_rfl
def qsz : List Int := [16993941304535871833, 63073048630374742, 1841551078520508720, 2596001775599221991]
theorem qvp : (Rows.laid_latch_curve_twoD : DataW Unit) = Lib.tabData .u64 qsz := by kernel_rfl
theorem qvY : (qsz.map fun z => Value.int .u64 z).toArray = qb (mP 2 dN) := by kernel_rfl
def yL (i : Nat) (cs : Array Value) (h : Array Obj) : Array Obj := h.modify i fun
 | .cells _ t frozen => .cells cs t frozen
 | o => o
noncomputable def qeq (os : Os) : World :=
 { World.holding Tryz.prog os ⟨#[], #[], []⟩ with heap := yL 5 #[.int .u64 16993941304535871833, .int .u64 63073048630374742, .int .u64 1841551078520508720, .int .u64 2596001775599221991] (yL 11 #[.int .u64 8496970652267935907, .int .u64 31536524315187371, .int .u64 10144147576115030168, .int .u64 5909686906226998899] (yL 8 #[.int .u64 1, .int .u64 0, .int .u64 0, .int .u64 0] (yL 12 #[.int .u64 14190309331451158704, .int .u64 3405592160176694392, .int .u64 3120150775007532967, .int .u64 3135389899092516619] (yL 10 #[.int .u64 18446744073709551597, .int .u64 18446744073709551615, .int .u64 18446744073709551615, .int .u64 9223372036854775807] ((World.holding Tryz.prog os ⟨#[], #[], []⟩).heap))))) }
theorem YO.lt {w : World} {kv : Value} {ks : List Nat} (h : YO w kv ks) : ∀ x, kv.ownBlock = some x → x < w.heap.size := by
 intro x hx
 rcases h with ⟨rfl, _⟩ | ⟨q', cap, rfl, _, _, hlt, _⟩
 · cases hx
 ·
  have e : q' = x := by simpa [Value.ownBlock] using hx
  omega
theorem qjz {w : World} {B g n cap : Nat} {e : TypeId} {M : List ByteArray} (h : q9 w B e (.slice (some ⟨g, 0, none⟩) n cap) (M.map Value.string)) : yF w g M := by
 intro i hi
 have := (h.set1 i (by rw [zv]; exact hi) .nilIface).2.2.1
 rw [Zp, zO hi] at this
 exact this
theorem Ld.c1 {w : World} {g : Nat} {T : TypeId} {kv : Value} {ks : List Nat} {v : Int} {b r : Nat} {l : List (Nat × Nat)} {c : Nat} (h : Ld w g T kv ks v b r l c) : w.cell? ⟨g, 1, none⟩ = some (.int .u32 v) := by
 rw [zj w g 1 _ T _ h.row, ZM]; rfl
theorem qgl (g : Nat) (T : TypeId) (kv : Value) (ks : List Nat) (v : Int) (b r clock : Nat) (l : List (Nat × Nat)) (t : ByteArray) (hm : t.size ≤ maxLen) (k p s gA : Addr) (w0 w : World) (hL : Ld w g T kv ks v b r l clock)
  (hV : ZF w0 k p s gA) (h0 : zB w0 w) (hb : w0.heap.size ≤ b) (hr : w0.heap.size ≤ r) (hc : Qs ks v t = 0) (n : Nat) (i z : Nat) (en : QV t = n) (ei : j8 t = (i : Int)) (ez : (ZE t).size = z) :
  Calls Tryz.prog 22 #[zp g 0, .string t] w fun e w' => e = .returned (.agg #[.int .i64 0, .int .u32 (n : Int), .int .i64 (i : Int), .int .i64 192, .int .i64 (z : Int)]) ∧ yS g T kv ks (n : Int) b r w w' :=
 qnv g T kv ks v b r clock l t hm k p s gA w0 w hL hV h0 hb hr hc n i z en ei ez
theorem qmW (g : Nat) (T : TypeId) (kv : Value) (ks : List Nat) (v : Int) (b r clock : Nat) (l : List (Nat × Nat)) (t : ByteArray) (hm : t.size ≤ maxLen) (k p s gA : Addr) (w0 w : World) (hL : Ld w g T kv ks v b r l clock)
  (hV : ZF w0 k p s gA) (h0 : zB w0 w) (hb : w0.heap.size ≤ b) (hr : w0.heap.size ≤ r) (c : Int) (hc : Qs ks v t = c) (hc0 : c ≠ 0) :
  Calls Tryz.prog 22 #[zp g 0, .string t] w fun e w' => e = .returned (.agg #[.int .i64 c, .int .u32 0, .int .i64 0, .int .i64 0, .int .i64 0]) ∧ jy g T kv ks v b r w w' :=
 qqL g T kv ks v b r clock l t hm k p s gA w0 w hL hV h0 hb hr c hc hc0
theorem qcY {w : World} {q : Nat} {a b c d e : Value} {T : TypeId} {fr : Nat × Nat} (h : w.heap[q]? = some (.cells #[a, b, c, d, e] T fr)) : w.cell? ⟨q, 0, none⟩ = some a ∧ w.cell? ⟨q, 1, none⟩ = some b ∧ w.cell? ⟨q, 2, none⟩ = some c ∧ w.cell? ⟨q, 3, none⟩ = some d ∧ w.cell? ⟨q, 4, none⟩ = some e :=
 ⟨by rw [zj w q 0 _ T _ h]; rfl, by rw [zj w q 1 _ T _ h]; rfl, by rw [zj w q 2 _ T _ h]; rfl, by rw [zj w q 3 _ T _ h]; rfl, by rw [zj w q 4 _ T _ h]; rfl⟩
end Go.Proofs.YtccgfabojbjmjaaGreatDoor
