import Derived.Deep.RegionHeld3
import Derived.Deep.MidRow
import Derived.Laws.CopyOwn
import Derived.WalkKit
import Derived.Test.YtccgfabojbjmjaaGreatDoorRows
import Derived.WalkSpells
import Derived.WalkLawsBesides
import Derived.Laws.Externs
import Derived.Lib.Mul64
import Derived.Laws.Bits64b
set_option maxRecDepth 100000
set_option maxHeartbeats 8000000
namespace Go.Proofs.YtccgfabojbjmjaaGreatDoor
open Go.RowKit
theorem zaP {a : Act} {d : Tmp} {v : Value} : a.put (some d) v = ⟨a.tmps.setIfInBounds d v, a.defers⟩ := rfl
abbrev qj (n : Nat) : Edge := ⟨n, .phase⟩
abbrev ql (n : Nat) : Edge := ⟨n, .data⟩
abbrev qT (n : Nat) : Edge := ⟨n, .chain⟩
theorem zaN {a : Act} {v : Value} : a.put none v = a := rfl
theorem zsT {α : Type} (l : List α) (i : Nat) (a : α) : l.toArray.setIfInBounds i a = (l.set i a).toArray := List.setIfInBounds_toArray l i a
theorem zsZ {α : Type} {x a : α} {l : List α} : (x :: l).set 0 a = a :: l := List.set_cons_zero
theorem zsS {α : Type} {x a : α} {i : Nat} {l : List α} : (x :: l).set (i + 1) a = x :: l.set i a := List.set_cons_succ
theorem _root_.Go.RowKit.Hid.o {p : Prop} (h : Hid p) : p := h
theorem _root_.Go.Shut.o {p : Prop} (h : Shut p) : p := h
theorem qd : (∀ (a : Act) (d : Tmp) (v : Value), a.put (some d) v = ⟨a.tmps.setIfInBounds d v, a.defers⟩) ∧ (∀ (l : List Value) (i : Nat) (a : Value), l.toArray.setIfInBounds i a = (l.set i a).toArray) ∧ (∀ (x a : Value) (l : List Value), (x :: l).set 0 a = a :: l) ∧ (∀ (x a : Value) (i : Nat) (l : List Value), (x :: l).set (i + 1) a = x :: l.set i a) := ⟨fun _ _ _ => rfl, fun l i a => List.setIfInBounds_toArray l i a, fun _ _ _ => rfl, fun _ _ _ _ => rfl⟩
theorem zx {α : Type} (e : α) : ∃ x, Hid (x = e) := ⟨e, rfl⟩
theorem zy {α : Type} (e : α) : ∃ x, x = e := ⟨e, rfl⟩
theorem zT {P : Program} {md : Region.Mode} {ops : Array Oper} {Q : Exit → Act → World → Prop} {S : World → Prop} (i : Nat) (oi : Oper) (v : Value) {fuel : Nat} {listed : Array Bool} {a : Act} {w : World} (hy : YieldsIf P ops S oi v a) (h : wpAnyH P md ops Q S fuel (listed.setIfInBounds i true) (a.put oi.dst v) w) (hS : S w := by assumption) (hi : ops[i]? = some oi := by rfl)
    (hc : (Region.noSelect ops && (Region.free md ops listed i && (Region.ready md ops listed).contains i)) = true := by kernel_rfl) (hQ : ∀ c a w, Q (.panic c) (a.put oi.dst v) w → Q (.panic c) a w := by exact fun _ _ _ h => h) : wpAnyH P md ops Q S (fuel + 1) listed a w := by
 rw [Bool.and_eq_true, Bool.and_eq_true] at hc
 exact wpAnyH_take hi hc.1 hc.2.1 hc.2.2 hQ hy hS h
theorem zU {P : Program} {md : Region.Mode} {ops : Array Oper} {Q : Exit → Act → World → Prop} {S : World → Prop} (i : Nat) (oi : Oper) (v : Value) {fuel : Nat} {listed : Array Bool} {a : Act} {w : World} (h : wpAnyH P md ops Q S fuel (listed.setIfInBounds i true) (a.put oi.dst v) w) (hS : S w := by assumption) (hi : ops[i]? = some oi := by rfl)
    (hc : (Region.noSelect ops && (Region.free md ops listed i && (Region.ready md ops listed).contains i)) = true := by kernel_rfl) (hQ : ∀ c a w, Q (.panic c) (a.put oi.dst v) w → Q (.panic c) a w := by exact fun _ _ _ h => h) (hy : YieldsIf P ops S oi v a := by exact Or.inl ⟨by rfl, fun w _ => by go_simp⟩) : wpAnyH P md ops Q S (fuel + 1) listed a w := zT i oi v hy h hS hi hc hQ
theorem zR {P : Program} {md : Region.Mode} {ops : Array Oper} {Q : Exit → Act → World → Prop} {S : World → Prop} (i : Nat) (o : Oper) {fuel : Nat} {listed : Array Bool} {a : Act} {w : World}
    (h : ∀ K' : Act → World → Prop, Shut (∀ a w, S w → (S w → wpAnyH P md ops Q S fuel (listed.setIfInBounds i true) a w) → K' a w) → if Region.wanted o (yielded ops a.tmps) = true then Oper.wp P o a w K' Q else K' (a.put o.dst undef) w) (hr : Region.ready md ops listed = [i] := by kernel_rfl) (ho : ops[i]? = some o := by rfl) : wpAnyH P md ops Q S (fuel + 1) listed a w :=
 wpAnyH_ready hr (by simp) (AllReadyH.cons ho h AllReadyH.nil)
theorem zK {P : Program} {md : Region.Mode} {ops : Array Oper} {Q : Exit → Act → World → Prop} {S : World → Prop} {i : Nat} (o : Oper) {fuel : Nat} {listed : Array Bool} {a : Act} {w : World} {rs : List Nat}
    (h : ∀ K' : Act → World → Prop, Shut (∀ a w, S w → (S w → wpAnyH P md ops Q S fuel (listed.setIfInBounds i true) a w) → K' a w) → if Region.wanted o (yielded ops a.tmps) = true then Oper.wp P o a w K' Q else K' (a.put o.dst undef) w) (hs : AllReadyH P md ops Q S fuel listed a w rs) (ho : ops[i]? = some o := by rfl) : AllReadyH P md ops Q S fuel listed a w (i :: rs) := AllReadyH.cons ho h hs
theorem zW {P : Program} {md : Region.Mode} {ops : Array Oper} {Q : Exit → Act → World → Prop} {S : World → Prop} (rs : List Nat) {fuel : Nat} {listed : Array Bool} {a : Act} {w : World} (h : AllReadyH P md ops Q S fuel listed a w rs) (hr : Region.ready md ops listed = rs := by kernel_rfl) (hne : rs ≠ [] := by simp) : wpAnyH P md ops Q S (fuel + 1) listed a w := wpAnyH_ready hr hne h
theorem qB {P : Program} {ops : Array Oper} {rest : List Oper} {o : Oper} {a : Act} {w : World} {Q : Exit → Act → World → Prop} (ty : TypeId) (x y : Operand) (g : Nat) (cells : Array Value) {t : TypeId} {old : Array Value} (hg : w.heap[g]? = some (.cells old t (0, 0))) (hi : (P.info? ty).map (·.size) = some cells.size) (hold : old.size = cells.size) (h1 : cells.all (·.oneCell') = true)
    (h : wpList P ops Q rest (a.put o.dst undef) (w.setRow g cells)) (hgd : o.guard = none := by rfl) (ho : o.op = .store ty x y := by rfl) (hx : a.eval x = .pointer (some ⟨g, 0, none⟩) := by rfl) (hy : a.eval y = .agg cells := by rfl) : wpList P ops Q (o :: rest) a w := wpList_store_row hgd ty x y ho g cells hx hy t old hg hi hold h1 h
theorem zL {P : Program} {ops : Array Oper} {rest : List Oper} {o : Oper} {a : Act} {w : World} {Q : Exit → Act → World → Prop} (ty : TypeId) (x : Operand) (g : Nat) (cs : Array Value) {t : TypeId} {fr : Nat × Nat} {d : TypeDesc} (hg : w.heap[g]? = some (.cells cs t fr)) (hu : P.underlying ty = some d) (hi : (P.info? ty).map (·.size) = some cs.size)
    (h : wpList P ops Q rest (a.put o.dst (.agg cs)) w) (hgd : o.guard = none := by rfl) (ho : o.op = .load ty x := by rfl) (hx : a.eval x = .pointer (some ⟨g, 0, none⟩) := by rfl) (hd : (match d with | .struct _ | .array _ _ => true | _ => false) = true := by rfl) : wpList P ops Q (o :: rest) a w := wpList_load_row hgd ty x ho g hx t cs fr d hg hu hd hi h
abbrev zB (w v : World) : Prop := Below w.heap.size w v
abbrev qi (w : World) (g : Nat) (c : Array Value) (t : TypeId) : Prop := w.heap[g]? = some (.cells c t)
abbrev zp (g o : Nat) : Value := .pointer (some ⟨g, o, none⟩)
abbrev zC (f : FuncId) (l : Array Value) (w : World) (v : Value) : Prop := Calls Tryz.prog f l w fun e w' => e = .returned v ∧ Below w.heap.size w w'
theorem za : type_of% @heap_alloc_new := @heap_alloc_new
theorem zb : type_of% @heap_alloc_old := @heap_alloc_old
theorem zc : type_of% @setRow_other := @setRow_other
theorem zd : type_of% @setRow_heap := @setRow_heap
theorem ze : type_of% @below_setRow := @below_setRow
theorem zf : type_of% @wpList_store_row := @wpList_store_row
theorem zg : type_of% @wpList_load_row := @wpList_load_row
theorem zh : type_of% @bodyPost_ret := @bodyPost_ret
theorem zi : type_of% @wpAnyH_done := @wpAnyH_done
theorem zj : type_of% @cell_of_row := @cell_of_row
theorem zk : type_of% @wpAnyH_ready := @wpAnyH_ready
theorem zl : type_of% @Nat.lt_of_lt_of_le := @Nat.lt_of_lt_of_le
theorem zm : type_of% @Nat.le_refl := @Nat.le_refl
theorem zn : type_of% @Nat.ne_of_lt := @Nat.ne_of_lt
theorem zo : type_of% @World.cell?_of_block := @World.cell?_of_block
theorem zq : type_of% @IntKind.wrap_i64 := @IntKind.wrap_i64
theorem zt : type_of% @AllReadyH.cons := @AllReadyH.cons
theorem zu : type_of% @AllReadyH.nil := @AllReadyH.nil
theorem zv : type_of% @List.length_map := @List.length_map
theorem zD : type_of% @decide_eq_false := @decide_eq_false
theorem zG : type_of% @wpList_load_mid := @wpList_load_mid
theorem zJ : type_of% @Below.refl := @Below.refl
theorem zM : type_of% @wp_region_held_drew := @wp_region_held_drew
theorem zN : type_of% @decide_eq_true := @decide_eq_true
theorem zO : type_of% @List.getElem?_eq_getElem := @List.getElem?_eq_getElem
theorem zP : type_of% @List.take_of_length_le := @List.take_of_length_le
theorem zV : type_of% @List.getElem?_toArray := @List.getElem?_toArray
theorem zX : type_of% @World.block_lt_of_cell? := @World.block_lt_of_cell?
theorem zY : type_of% @List.getElem?_append_right := @List.getElem?_append_right
theorem z5 : type_of% @List.getElem?_append_left := @List.getElem?_append_left
theorem z6 : type_of% @Nat.mod_eq_of_lt := @Nat.mod_eq_of_lt
theorem z7 : type_of% @IntKind.wrap_u32 := @IntKind.wrap_u32
theorem z9 : type_of% @List.append_assoc := @List.append_assoc
theorem Za : type_of% @List.getD_eq_getElem?_getD := @List.getD_eq_getElem?_getD
theorem Zb : type_of% @Nat.zero_add := @Nat.zero_add
theorem Zc : type_of% @Nat.zero_le := @Nat.zero_le
theorem Zd : type_of% @heap_alloc2_new := @heap_alloc2_new
theorem Ze : type_of% @List.length_append := @List.length_append
theorem Zf : type_of% @IntKind.wrap_u64 := @IntKind.wrap_u64
theorem Zg : type_of% @Nat.le_trans := @Nat.le_trans
theorem Zh : type_of% @List.length_take := @List.length_take
theorem Zi : type_of% @List.length_drop := @List.length_drop
theorem Zj : type_of% @Array.getElem?_eq_getElem := @Array.getElem?_eq_getElem
theorem Zk : type_of% @Nat.pow_succ := @Nat.pow_succ
theorem Zl : type_of% @Nat.mul_comm := @Nat.mul_comm
theorem Zm : type_of% @Nat.mul_assoc := @Nat.mul_assoc
theorem Zn : type_of% @Nat.add_mul_div_left := @Nat.add_mul_div_left
theorem Zo : type_of% @Int.natCast_nonneg := @Int.natCast_nonneg
theorem Zp : type_of% @List.getElem?_map := @List.getElem?_map
theorem Zq : type_of% @List.getElem?_take := @List.getElem?_take
theorem Zr : type_of% @List.getElem?_drop := @List.getElem?_drop
def U (x : BitVec 64) : Int := (x.toNat : Int)
def C8 (c : UInt8) : Int := (c.toNat : Int)
theorem J5 (c : UInt8) : 0 ≤ C8 c := Zo _
theorem yt (c : UInt8) : C8 c < 256 := by
 have := c.toNat_lt; unfold C8; omega
theorem y7 (a b : BitVec 64) : bits .and .u64 (U a) (U b) = U (a &&& b) := by
 unfold U; rw [bits_and_u64_nat _ _ (by have := a.isLt; omega) (by have := b.isLt; omega), BitVec.toNat_and]
theorem Ji (a b : BitVec 64) : bits .or .u64 (U a) (U b) = U (a ||| b) := by
 unfold U; rw [bits_or_u64_nat _ _ (by have := a.isLt; omega) (by have := b.isLt; omega), BitVec.toNat_or]
theorem JU (a b : BitVec 64) : bits .xor .u64 (U a) (U b) = U (a ^^^ b) := by
 unfold U; rw [bits_xor_u64_nat _ _ (by have := a.isLt; omega) (by have := b.isLt; omega), BitVec.toNat_xor]
theorem Ye (a : BitVec 64) : bits .xor .u64 IntKind.u64.max (U a) = U (~~~a) := by
 have e : IntKind.u64.max = U (BitVec.allOnes 64) := by decide
 rw [e, JU, BitVec.allOnes_xor]
theorem yh (a b : BitVec 64) : IntKind.u64.wrap (U a + U b) = U (a + b) := by
 unfold U; rw [Zf, BitVec.toNat_add]; omega
theorem Yr (a : BitVec 64) : IntKind.u64.wrap (U a + 1) = U (a + 1) := yh a 1
theorem qj4 (a : BitVec 64) (n : Nat) : U a / 2 ^ n = U (a >>> n) := by
 unfold U; rw [BitVec.toNat_ushiftRight, Nat.shiftRight_eq_div_pow]; push_cast; rfl
theorem qmU (a : BitVec 64) (n : Nat) : IntKind.u64.wrap (U a * 2 ^ n) = U (a <<< n) := by
 unfold U; rw [Zf, BitVec.toNat_shiftLeft, Nat.shiftLeft_eq, Int.natCast_emod, Int.natCast_mul, Int.natCast_pow]; rfl
theorem qa {p : Prop} (h : p) : Hid p := h
abbrev uv (x : BitVec 64) : Value := .int .u64 (U x)
abbrev cv (c : UInt8) : Value := .int .u8 (C8 c)
structure S8 where
 a : BitVec 64
 b : BitVec 64
 c : BitVec 64
 d : BitVec 64
 e : BitVec 64
 f : BitVec 64
 g : BitVec 64
 h : BitVec 64
def S8.words (s : S8) : List (BitVec 64) := [s.a, s.b, s.c, s.d, s.e, s.f, s.g, s.h]
def S8.add (s t : S8) : S8 := ⟨s.a + t.a, s.b + t.b, s.c + t.c, s.d + t.d, s.e + t.e, s.f + t.f, s.g + t.g, s.h + t.h⟩
theorem S8.words_length (s : S8) : s.words.length = 8 := rfl
structure HS where
 st : S8
 blk : List UInt8
 n : Nat
def HS.hi (H : HS) : BitVec 64 := BitVec.ofNat 64 (H.n / 18446744073709551616)
def HS.lo (H : HS) : BitVec 64 := BitVec.ofNat 64 H.n
def HS.row (H : HS) : List Value := H.st.words.map uv ++ (H.blk.map cv ++ [uv H.hi, uv H.lo])
structure jw (w : World) (b : Nat) (T : TypeId) (H : HS) : Prop where
 heap : w.heap[b]? = some (.cells H.row.toArray T (0, 0))
 len : H.blk.length = 128
structure jl (b : Nat) (w w' : World) : Prop where
 os : w'.os = w.os
 tape : w'.tape = w.tape
 output : w'.output = w.output
 size : w.heap.size ≤ w'.heap.size
 block : ∀ k, k < w.heap.size → k ≠ b → w'.heap[k]? = w.heap[k]?
theorem jl.refl (b : Nat) (w : World) : jl b w w := ⟨rfl, rfl, rfl, zm _, fun _ _ _ => rfl⟩
theorem jl.trans {b : Nat} {x y z : World} (h : jl b x y) (k : jl b y z) : jl b x z :=
 ⟨k.os.trans h.os, k.tape.trans h.tape, k.output.trans h.output, Zg h.size k.size,
  fun i hi hb => (k.block i (zl hi h.size) hb).trans (h.block i hi hb)⟩
theorem jl.drew {b : Nat} {x y : World} (h : jl b x y) : jl b x y.drew := ⟨h.os, h.tape, h.output, h.size, h.block⟩
theorem jl.alloc {b : Nat} {x y : World} (h : jl b x y) (o : Obj) : jl b x (y.alloc o) :=
 h.trans ⟨rfl, rfl, rfl, by simp, fun k hk _ => Below.heap_alloc _ _ _ hk⟩
theorem jl.setCell {b : Nat} {x y : World} (h : jl b x y) {p : Addr} (hp : p.block = b) (u : Value) : jl b x (y.setCell p u) :=
 h.trans ⟨rfl, rfl, rfl, by simp [World.setCell], fun k _ hk => Below.heap_setCell _ _ _ _ (by omega)⟩
theorem jl.below {b B : Nat} {w w' : World} (h : jl b w w') (hb : B ≤ b) (hB : B ≤ w.heap.size) : Below B w w' :=
 ⟨h.os, h.tape, h.output, h.size, fun k hk => h.block k (by omega) (by omega)⟩
theorem jl.of_below {b : Nat} {w w' : World} (h : zB w w') : jl b w w' :=
 ⟨h.os, h.tape, h.output, h.size, fun k hk _ => h.block k hk⟩
theorem HS.row_length (H : HS) (h : H.blk.length = 128) : H.row.length = 138 := by simp [HS.row, S8.words, h]
theorem jw.lt {w : World} {b : Nat} {T : TypeId} {H : HS} (h : jw w b T H) : b < w.heap.size := by
 rcases Nat.lt_or_ge b w.heap.size with g | g
 · exact g
 · have := h.heap; rw [Array.getElem?_eq_none g] at this; cases this
theorem jw.frozen {w : World} {b : Nat} {T : TypeId} {H : HS} (h : jw w b T H) (i : Nat) : w.frozen? ⟨b, i, none⟩ = false :=
 frozen_of_row w b i _ T h.heap
theorem jw.cell {w : World} {b : Nat} {T : TypeId} {H : HS} (h : jw w b T H) (i : Nat) : w.cell? ⟨b, i, none⟩ = H.row[i]? := by
 rw [zj w b i _ T _ h.heap]; simp
theorem HS.row_lo (H : HS) (h : H.blk.length = 128) : H.row[137]? = some (uv H.lo) := by
 simp [HS.row, S8.words, h]
theorem HS.row_hi (H : HS) (h : H.blk.length = 128) : H.row[136]? = some (uv H.hi) := by
 simp [HS.row, S8.words, h]
theorem HS.row_blk (H : HS) (i : Nat) (h : i < H.blk.length) : H.row[8 + i]? = some (cv (H.blk.getD i 0)) := by
 have e : H.row[8 + i]? = (H.blk.map cv ++ [uv H.hi, uv H.lo])[i]? := by
  unfold HS.row; rw [zY (by simp [S8.words])]; simp [S8.words]
 rw [e, z5 (by simpa using h)]; simp [h]
theorem HS.set_hi_lo (H : HS) (h : H.blk.length = 128) (m : Nat) : (H.row.set 137 (uv (BitVec.ofNat 64 m))).set 136 (uv (BitVec.ofNat 64 (m / 18446744073709551616))) = ({ H with n := m } : HS).row := by
 simp [HS.row, HS.hi, HS.lo, S8.words, h]
theorem HS.set_lo (H : HS) (h : H.blk.length = 128) (m : Nat) (hm : m / 18446744073709551616 = H.n / 18446744073709551616) : H.row.set 137 (uv (BitVec.ofNat 64 m)) = ({ H with n := m } : HS).row := by
 simp [HS.row, HS.hi, HS.lo, S8.words, h, hm]
theorem HS.set_blk (H : HS) (i : Nat) (h : i < H.blk.length) (c : UInt8) : H.row.set (8 + i) (cv c) = ({ H with blk := H.blk.set i c } : HS).row := by
 unfold HS.row
 rw [List.set_append_right _ _ (by simp [S8.words])]
 have e : 8 + i - (List.map uv H.st.words).length = i := by simp [S8.words]
 rw [e, List.set_append_left _ _ (by simpa using h), ← List.map_set]
 rfl
theorem Qg {w : World} {b : Nat} {T : TypeId} {cs : List Value} (h : w.heap[b]? = some (.cells cs.toArray T (0, 0))) (i : Nat) (v : Value) :
  (w.setCell ⟨b, i, none⟩ v).heap[b]? = some (.cells (cs.set i v).toArray T (0, 0)) := by
 rw [heap_setCell_same w b i _ T v h]; simp
def HS.count (H : HS) (k : Nat) : HS := { H with n := H.n + k }
theorem qpg (n k : Nat) : BitVec.ofNat 64 n + BitVec.ofNat 64 k = BitVec.ofNat 64 (n + k) := (BitVec.ofNat_add n k).symm
theorem qdh (n : Nat) : U (BitVec.ofNat 64 n) = ((n % 18446744073709551616 : Nat) : Int) := by unfold U; rw [BitVec.toNat_ofNat]
theorem qko (n k : Nat) (hk : k < 18446744073709551616) :
  U (BitVec.ofNat 64 (n + k)) < U (BitVec.ofNat 64 k) ↔ (n + k) / 18446744073709551616 = n / 18446744073709551616 + 1 := by
 rw [qdh, qdh]; omega
theorem qlg (n k : Nat) (hk : k < 18446744073709551616) (h : ¬ U (BitVec.ofNat 64 (n + k)) < U (BitVec.ofNat 64 k)) : (n + k) / 18446744073709551616 = n / 18446744073709551616 := by
 rw [qdh, qdh] at h; omega
open Go.RowKit
def V (n : Nat) : Int := (n : Int)
abbrev nv (n : Nat) : Value := .int .u64 (V n)
theorem qsZ : V 0 = 0 := rfl
def qph : Array Value → Sem Value := fun args => do
 let (x, y, b) ← Extern.MathBitsCarry.three "Sub64" args
 pure (Extern.MathBitsCarry.pair ((x + Extern.MathBitsCarry.m64 - y - b) % Extern.MathBitsCarry.m64) (if x < y + b then 1 else 0))
theorem qjQ {P : Program} (x y b : Nat) (hb : b ≤ 1) (w : World) :
  (qph #[.int .u64 x, .int .u64 y, .int .u64 b]).run P w =
   .ok (.tuple #[.int .u64 (((x + 18446744073709551616 - y - b) % 18446744073709551616 : Nat) : Int), .int .u64 ((if x < y + b then 1 else 0 : Nat) : Int)]) w := by
 have : b = 0 ∨ b = 1 := by omega
 rcases this with rfl | rfl <;> rfl
def jq (x y c : Nat) : Nat := (x + y + c) % 18446744073709551616
def qu (x y c : Nat) : Nat := (x + y + c) / 18446744073709551616
def Jl (x y b : Nat) : Nat := (x + 18446744073709551616 - y - b) % 18446744073709551616
def ju (x y b : Nat) : Nat := if x < y + b then 1 else 0
theorem qaT (x y c : Nat) (hc : c ≤ 1) (w : World) :
  (callFunc 144 #[nv x, nv y, nv c]).run Tryz.prog w = .ok (.value (.tuple #[nv (jq x y c), nv (qu x y c)])) w := by
 rw [run_callFunc_extern Tryz.func144 (by kernel_rfl) (by kernel_rfl) (by kernel_rfl) (e := add64Entry) (by kernel_rfl), run_add64 (V x) (V y) (V c) (by unfold V; omega) (by unfold V; omega) (by unfold V; omega) (by unfold V; omega)]
 simp only [Result.andThen]
 congr 5 <;> (unfold V) <;> simp only [jq, qu] <;> omega
theorem qaQ (x y : Nat) (w : World) :
  (callFunc 144 #[nv x, nv y, .int .u64 0]).run Tryz.prog w = .ok (.value (.tuple #[nv (jq x y 0), nv (qu x y 0)])) w := qaT x y 0 (by decide) w
theorem qbU (x y b : Nat) (hb : b ≤ 1) (w : World) :
  (callFunc 152 #[nv x, nv y, nv b]).run Tryz.prog w = .ok (.value (.tuple #[nv (Jl x y b), nv (ju x y b)])) w := by
 rw [run_callFunc_extern Tryz.func152 (by kernel_rfl) (by kernel_rfl) (by kernel_rfl) (e := qph) (by kernel_rfl)]
 have := qjQ (P := Tryz.prog) x y b hb w
 simp only [nv, V] at *
 rw [this]
 rfl
theorem qjT (x y : Nat) (w : World) :
  (callFunc 152 #[nv x, nv y, .int .u64 0]).run Tryz.prog w = .ok (.value (.tuple #[nv (Jl x y 0), nv (ju x y 0)])) w := qbU x y 0 (by decide) w
namespace M64
theorem maskN (a : Nat) (ha : a < 18446744073709551616) : bits .and .u64 (a : Int) 4294967295 = ((a % 4294967296 : Nat) : Int) := by
 have h := bits_and_u64_nat a 4294967295 ha (by omega)
 have e : a &&& 4294967295 = a % 4294967296 := Nat.and_two_pow_sub_one_eq_mod a 32
 rw [e] at h
 exact h
theorem divN (a : Nat) : (a : Int) / 4294967296 = ((a / 4294967296 : Nat) : Int) := by omega
theorem mulN (a b : Nat) : (a : Int) * (b : Int) = ((a * b : Nat) : Int) := (Int.natCast_mul a b).symm
theorem addN (a b : Nat) : (a : Int) + (b : Int) = ((a + b : Nat) : Int) := (Int.natCast_add a b).symm
theorem wrapN (a : Nat) (ha : a < 18446744073709551616) : IntKind.u64.wrap (a : Int) = (a : Int) := by rw [Zf]; omega
theorem wrapM (a : Nat) : IntKind.u64.wrap (a : Int) = ((a % 18446744073709551616 : Nat) : Int) := by rw [Zf]; omega
end M64
theorem qms (x y : Nat) (hx : x < 18446744073709551616) (hy : y < 18446744073709551616) (w : World) :
  Calls Tryz.prog 151 #[.int .u64 x, .int .u64 y] w fun e w' => e = .returned (.tuple #[nv (x * y / 18446744073709551616), nv (x * y % 18446744073709551616)]) ∧ w' = w := by
 obtain ⟨bd, bt, bw, hhi⟩ := Lib.mul64_hi x y hx hy
 have ba := Lib.half_mul_le (a := x / 4294967296) (b := y / 4294967296) (by omega) (by omega)
 have bb := Lib.half_mul_le (a := x / 4294967296) (b := y % 4294967296) (by omega) (by omega)
 have bc := Lib.half_mul_le (a := x % 4294967296) (b := y / 4294967296) (by omega) (by omega)
 have ba' : x / 4294967296 * (y / 4294967296) < 18446744073709551616 := by omega
 have bb' : x / 4294967296 * (y % 4294967296) < 18446744073709551616 := by omega
 have bc' : x % 4294967296 * (y / 4294967296) < 18446744073709551616 := by omega
 have bh1 : x / 4294967296 * (y / 4294967296) + (x / 4294967296 * (y % 4294967296) + x % 4294967296 * (y % 4294967296) / 4294967296) / 4294967296 < 18446744073709551616 := by omega
 have bh : x / 4294967296 * (y / 4294967296) + (x / 4294967296 * (y % 4294967296) + x % 4294967296 * (y % 4294967296) / 4294967296) / 4294967296 + ((x / 4294967296 * (y % 4294967296) + x % 4294967296 * (y % 4294967296) / 4294967296) % 4294967296 + x % 4294967296 * (y / 4294967296)) / 4294967296 < 18446744073709551616 := by omega
 go_enter Tryz.func151, Tryz.ntmps151
 go_wp2
 simp only [M64.maskN x hx, M64.maskN y hy, M64.divN, M64.mulN, M64.addN, M64.wrapN _ bd, M64.wrapN _ bb', M64.wrapN _ bt, M64.maskN _ bt, M64.wrapN _ bc', M64.wrapN _ bw, M64.wrapN _ ba', M64.wrapN _ bh1, M64.wrapN _ bh, M64.wrapM (x * y)]
 rw [hhi]
 go_ret2
 exact ⟨rfl, rfl⟩
end Go.Proofs.YtccgfabojbjmjaaGreatDoor
