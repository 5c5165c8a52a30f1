import Derived.WalkKit
import Derived.Test.YtccgfabojbjmjaaGreatDoorRows
import Derived.WalkSpells
import Derived.WalkLawsBesides
import Derived.Laws.Externs
import Derived.Lib.Mul64
import Derived.Laws.Bits64b
import Derived.Handy
namespace Go.Proofs.YtccgfabojbjmjaaGreatDoor
open Go.RowKit
theorem zaP {a : Act} {d : Tmp} {v : Value} : a.put (some d) v = ⟨a.tmps.setIfInBounds d v, a.defers⟩ := rfl
abbrev zeP (n : Nat) : Edge := ⟨n, .phase⟩
abbrev zeD (n : Nat) : Edge := ⟨n, .data⟩
abbrev zeC (n : Nat) : Edge := ⟨n, .chain⟩
theorem zaN {a : Act} {v : Value} : a.put none v = a := rfl
theorem zsT {α : Type} (l : List α) (i : Nat) (a : α) : l.toArray.setIfInBounds i a = (l.set i a).toArray := List.setIfInBounds_toArray l i a
theorem zsZ {α : Type} {x a : α} {l : List α} : (x :: l).set 0 a = a :: l := List.set_cons_zero
theorem zsS {α : Type} {x a : α} {i : Nat} {l : List α} : (x :: l).set (i + 1) a = x :: l.set i a := List.set_cons_succ
def U (x : BitVec 64) : Int := (x.toNat : Int)
def C8 (c : UInt8) : Int := (c.toNat : Int)
theorem C8_nonneg (c : UInt8) : 0 ≤ C8 c := Int.natCast_nonneg _
theorem C8_lt (c : UInt8) : C8 c < 256 := by
 have := c.toNat_lt; unfold C8; omega
theorem U_and (a b : BitVec 64) : bits .and .u64 (U a) (U b) = U (a &&& b) := by
 unfold U; rw [bits_and_u64_nat _ _ (by have := a.isLt; omega) (by have := b.isLt; omega), BitVec.toNat_and]
theorem U_or (a b : BitVec 64) : bits .or .u64 (U a) (U b) = U (a ||| b) := by
 unfold U; rw [bits_or_u64_nat _ _ (by have := a.isLt; omega) (by have := b.isLt; omega), BitVec.toNat_or]
theorem U_xor (a b : BitVec 64) : bits .xor .u64 (U a) (U b) = U (a ^^^ b) := by
 unfold U; rw [bits_xor_u64_nat _ _ (by have := a.isLt; omega) (by have := b.isLt; omega), BitVec.toNat_xor]
theorem U_not (a : BitVec 64) : bits .xor .u64 IntKind.u64.max (U a) = U (~~~a) := by
 have e : IntKind.u64.max = U (BitVec.allOnes 64) := by decide
 rw [e, U_xor, BitVec.allOnes_xor]
theorem U_add (a b : BitVec 64) : IntKind.u64.wrap (U a + U b) = U (a + b) := by
 unfold U; rw [IntKind.wrap_u64, BitVec.toNat_add]; omega
theorem U_add_one (a : BitVec 64) : IntKind.u64.wrap (U a + 1) = U (a + 1) := U_add a 1
theorem U_shr (a : BitVec 64) (n : Nat) : U a / 2 ^ n = U (a >>> n) := by
 unfold U; rw [BitVec.toNat_ushiftRight, Nat.shiftRight_eq_div_pow]; push_cast; rfl
theorem U_shl (a : BitVec 64) (n : Nat) : IntKind.u64.wrap (U a * 2 ^ n) = U (a <<< n) := by
 unfold U; rw [IntKind.wrap_u64, BitVec.toNat_shiftLeft, Nat.shiftLeft_eq, Int.natCast_emod, Int.natCast_mul, Int.natCast_pow]; rfl
theorem hide {p : Prop} (h : p) : Hid p := h
abbrev uv (x : BitVec 64) : Value := .int .u64 (U x)
abbrev cv (c : UInt8) : Value := .int .u8 (C8 c)
structure S8 where
 a : BitVec 64
 b : BitVec 64
 c : BitVec 64
 d : BitVec 64
 e : BitVec 64
 f : BitVec 64
 g : BitVec 64
 h : BitVec 64
def S8.words (s : S8) : List (BitVec 64) := [s.a, s.b, s.c, s.d, s.e, s.f, s.g, s.h]
def S8.add (s t : S8) : S8 := ⟨s.a + t.a, s.b + t.b, s.c + t.c, s.d + t.d, s.e + t.e, s.f + t.f, s.g + t.g, s.h + t.h⟩
theorem S8.words_length (s : S8) : s.words.length = 8 := rfl
structure HS where
 st : S8
 blk : List UInt8
 n : Nat
def HS.hi (H : HS) : BitVec 64 := BitVec.ofNat 64 (H.n / 18446744073709551616)
def HS.lo (H : HS) : BitVec 64 := BitVec.ofNat 64 H.n
def HS.row (H : HS) : List Value := H.st.words.map uv ++ (H.blk.map cv ++ [uv H.hi, uv H.lo])
structure Has (w : World) (b : Nat) (T : TypeId) (H : HS) : Prop where
 heap : w.heap[b]? = some (.cells H.row.toArray T (0, 0))
 len : H.blk.length = 128
structure Turn (b : Nat) (w w' : World) : Prop where
 os : w'.os = w.os
 tape : w'.tape = w.tape
 output : w'.output = w.output
 size : w.heap.size ≤ w'.heap.size
 block : ∀ k, k < w.heap.size → k ≠ b → w'.heap[k]? = w.heap[k]?
theorem Turn.refl (b : Nat) (w : World) : Turn b w w := ⟨rfl, rfl, rfl, Nat.le_refl _, fun _ _ _ => rfl⟩
theorem Turn.trans {b : Nat} {x y z : World} (h : Turn b x y) (k : Turn b y z) : Turn b x z :=
 ⟨k.os.trans h.os, k.tape.trans h.tape, k.output.trans h.output, Nat.le_trans h.size k.size,
  fun i hi hb => (k.block i (Nat.lt_of_lt_of_le hi h.size) hb).trans (h.block i hi hb)⟩
theorem Turn.drew {b : Nat} {x y : World} (h : Turn b x y) : Turn b x y.drew := ⟨h.os, h.tape, h.output, h.size, h.block⟩
theorem Turn.setCell {b : Nat} {x y : World} (h : Turn b x y) {p : Addr} (hp : p.block = b) (u : Value) : Turn b x (y.setCell p u) :=
 h.trans ⟨rfl, rfl, rfl, by simp [World.setCell], fun k _ hk => Below.heap_setCell _ _ _ _ (by omega)⟩
theorem Turn.below {b B : Nat} {w w' : World} (h : Turn b w w') (hb : B ≤ b) (hB : B ≤ w.heap.size) : Below B w w' :=
 ⟨h.os, h.tape, h.output, h.size, fun k hk => h.block k (by omega) (by omega)⟩
theorem Turn.of_below {b : Nat} {w w' : World} (h : Below w.heap.size w w') : Turn b w w' :=
 ⟨h.os, h.tape, h.output, h.size, fun k hk _ => h.block k hk⟩
theorem HS.row_length (H : HS) (h : H.blk.length = 128) : H.row.length = 138 := by simp [HS.row, S8.words, h]
theorem Has.lt {w : World} {b : Nat} {T : TypeId} {H : HS} (h : Has w b T H) : b < w.heap.size := by
 rcases Nat.lt_or_ge b w.heap.size with g | g
 · exact g
 · have := h.heap; rw [Array.getElem?_eq_none g] at this; cases this
theorem Has.frozen {w : World} {b : Nat} {T : TypeId} {H : HS} (h : Has w b T H) (i : Nat) : w.frozen? ⟨b, i, none⟩ = false :=
 frozen_of_row w b i _ T h.heap
theorem Has.cell {w : World} {b : Nat} {T : TypeId} {H : HS} (h : Has w b T H) (i : Nat) : w.cell? ⟨b, i, none⟩ = H.row[i]? := by
 rw [cell_of_row w b i _ T _ h.heap]; simp
theorem HS.row_lo (H : HS) (h : H.blk.length = 128) : H.row[137]? = some (uv H.lo) := by
 simp [HS.row, S8.words, h]
theorem HS.row_hi (H : HS) (h : H.blk.length = 128) : H.row[136]? = some (uv H.hi) := by
 simp [HS.row, S8.words, h]
theorem HS.row_blk (H : HS) (i : Nat) (h : i < H.blk.length) : H.row[8 + i]? = some (cv (H.blk.getD i 0)) := by
 have e : H.row[8 + i]? = (H.blk.map cv ++ [uv H.hi, uv H.lo])[i]? := by
  unfold HS.row; rw [List.getElem?_append_right (by simp [S8.words])]; simp [S8.words]
 rw [e, List.getElem?_append_left (by simpa using h)]; simp [h]
theorem HS.set_hi_lo (H : HS) (h : H.blk.length = 128) (m : Nat) : (H.row.set 137 (uv (BitVec.ofNat 64 m))).set 136 (uv (BitVec.ofNat 64 (m / 18446744073709551616))) = ({ H with n := m } : HS).row := by
 simp [HS.row, HS.hi, HS.lo, S8.words, h]
theorem HS.set_lo (H : HS) (h : H.blk.length = 128) (m : Nat) (hm : m / 18446744073709551616 = H.n / 18446744073709551616) : H.row.set 137 (uv (BitVec.ofNat 64 m)) = ({ H with n := m } : HS).row := by
 simp [HS.row, HS.hi, HS.lo, S8.words, h, hm]
theorem HS.set_blk (H : HS) (i : Nat) (h : i < H.blk.length) (c : UInt8) : H.row.set (8 + i) (cv c) = ({ H with blk := H.blk.set i c } : HS).row := by
 unfold HS.row
 rw [List.set_append_right _ _ (by simp [S8.words])]
 have e : 8 + i - (List.map uv H.st.words).length = i := by simp [S8.words]
 rw [e, List.set_append_left _ _ (by simpa using h), ← List.map_set]
 rfl
theorem row_store {w : World} {b : Nat} {T : TypeId} {cs : List Value} (h : w.heap[b]? = some (.cells cs.toArray T (0, 0))) (i : Nat) (v : Value) :
  (w.setCell ⟨b, i, none⟩ v).heap[b]? = some (.cells (cs.set i v).toArray T (0, 0)) := by
 rw [heap_setCell_same w b i _ T v h]; simp
def HS.count (H : HS) (k : Nat) : HS := { H with n := H.n + k }
theorem lo_add (n k : Nat) : BitVec.ofNat 64 n + BitVec.ofNat 64 k = BitVec.ofNat 64 (n + k) := (BitVec.ofNat_add n k).symm
theorem U_ofNat (n : Nat) : U (BitVec.ofNat 64 n) = ((n % 18446744073709551616 : Nat) : Int) := by unfold U; rw [BitVec.toNat_ofNat]
theorem carry_iff (n k : Nat) (hk : k < 18446744073709551616) :
  U (BitVec.ofNat 64 (n + k)) < U (BitVec.ofNat 64 k) ↔ (n + k) / 18446744073709551616 = n / 18446744073709551616 + 1 := by
 rw [U_ofNat, U_ofNat]; omega
theorem carry_not (n k : Nat) (hk : k < 18446744073709551616) (h : ¬ U (BitVec.ofNat 64 (n + k)) < U (BitVec.ofNat 64 k)) : (n + k) / 18446744073709551616 = n / 18446744073709551616 := by
 rw [U_ofNat, U_ofNat] at h; omega
def V (n : Nat) : Int := (n : Int)
abbrev nv (n : Nat) : Value := .int .u64 (V n)
theorem V_zero : V 0 = 0 := rfl
def sub64E : Array Value → Sem Value := fun args => do
 let (x, y, b) ← Extern.MathBitsCarry.three "Sub64" args
 pure (Extern.MathBitsCarry.pair ((x + Extern.MathBitsCarry.m64 - y - b) % Extern.MathBitsCarry.m64) (if x < y + b then 1 else 0))
theorem run_sub64E {P : Program} (x y b : Nat) (hb : b ≤ 1) (w : World) :
  (sub64E #[.int .u64 x, .int .u64 y, .int .u64 b]).run P w =
   .ok (.tuple #[.int .u64 (((x + 18446744073709551616 - y - b) % 18446744073709551616 : Nat) : Int), .int .u64 ((if x < y + b then 1 else 0 : Nat) : Int)]) w := by
 have : b = 0 ∨ b = 1 := by omega
 rcases this with rfl | rfl <;> rfl
def sumW (x y c : Nat) : Nat := (x + y + c) % 18446744073709551616
def carW (x y c : Nat) : Nat := (x + y + c) / 18446744073709551616
def difW (x y b : Nat) : Nat := (x + 18446744073709551616 - y - b) % 18446744073709551616
def borW (x y b : Nat) : Nat := if x < y + b then 1 else 0
theorem add64_run (x y c : Nat) (hc : c ≤ 1) (w : World) :
  (callFunc 144 #[nv x, nv y, nv c]).run Tryz.prog w = .ok (.value (.tuple #[nv (sumW x y c), nv (carW x y c)])) w := by
 rw [run_callFunc_extern Tryz.func144 (by kernel_rfl) (by kernel_rfl) (by kernel_rfl) (e := add64Entry) (by kernel_rfl), run_add64 (V x) (V y) (V c) (by unfold V; omega) (by unfold V; omega) (by unfold V; omega) (by unfold V; omega)]
 simp only [Result.andThen]
 congr 5 <;> (unfold V) <;> simp only [sumW, carW] <;> omega
theorem add64_run0 (x y : Nat) (w : World) :
  (callFunc 144 #[nv x, nv y, .int .u64 0]).run Tryz.prog w = .ok (.value (.tuple #[nv (sumW x y 0), nv (carW x y 0)])) w := add64_run x y 0 (by decide) w
theorem sub64_run (x y b : Nat) (hb : b ≤ 1) (w : World) :
  (callFunc 152 #[nv x, nv y, nv b]).run Tryz.prog w = .ok (.value (.tuple #[nv (difW x y b), nv (borW x y b)])) w := by
 rw [run_callFunc_extern Tryz.func152 (by kernel_rfl) (by kernel_rfl) (by kernel_rfl) (e := sub64E) (by kernel_rfl)]
 have := run_sub64E (P := Tryz.prog) x y b hb w
 simp only [nv, V] at *
 rw [this]
 rfl
theorem sub64_run0 (x y : Nat) (w : World) :
  (callFunc 152 #[nv x, nv y, .int .u64 0]).run Tryz.prog w = .ok (.value (.tuple #[nv (difW x y 0), nv (borW x y 0)])) w := sub64_run x y 0 (by decide) w
namespace M64
theorem maskN (a : Nat) (ha : a < 18446744073709551616) : bits .and .u64 (a : Int) 4294967295 = ((a % 4294967296 : Nat) : Int) := by
 have h := bits_and_u64_nat a 4294967295 ha (by omega)
 have e : a &&& 4294967295 = a % 4294967296 := Nat.and_two_pow_sub_one_eq_mod a 32
 rw [e] at h
 exact h
theorem divN (a : Nat) : (a : Int) / 4294967296 = ((a / 4294967296 : Nat) : Int) := by omega
theorem mulN (a b : Nat) : (a : Int) * (b : Int) = ((a * b : Nat) : Int) := (Int.natCast_mul a b).symm
theorem addN (a b : Nat) : (a : Int) + (b : Int) = ((a + b : Nat) : Int) := (Int.natCast_add a b).symm
theorem wrapN (a : Nat) (ha : a < 18446744073709551616) : IntKind.u64.wrap (a : Int) = (a : Int) := by rw [IntKind.wrap_u64]; omega
theorem wrapM (a : Nat) : IntKind.u64.wrap (a : Int) = ((a % 18446744073709551616 : Nat) : Int) := by rw [IntKind.wrap_u64]; omega
end M64
set_option maxHeartbeats 1000000 in
theorem mul64_any (x y : Nat) (hx : x < 18446744073709551616) (hy : y < 18446744073709551616) (w : World) :
  Calls Tryz.prog 151 #[.int .u64 x, .int .u64 y] w fun e w' => e = .returned (.tuple #[nv (x * y / 18446744073709551616), nv (x * y % 18446744073709551616)]) ∧ w' = w := by
 obtain ⟨bd, bt, bw, hhi⟩ := Lib.mul64_hi x y hx hy
 have ba := Lib.half_mul_le (a := x / 4294967296) (b := y / 4294967296) (by omega) (by omega)
 have bb := Lib.half_mul_le (a := x / 4294967296) (b := y % 4294967296) (by omega) (by omega)
 have bc := Lib.half_mul_le (a := x % 4294967296) (b := y / 4294967296) (by omega) (by omega)
 have ba' : x / 4294967296 * (y / 4294967296) < 18446744073709551616 := by omega
 have bb' : x / 4294967296 * (y % 4294967296) < 18446744073709551616 := by omega
 have bc' : x % 4294967296 * (y / 4294967296) < 18446744073709551616 := by omega
 have bh1 : x / 4294967296 * (y / 4294967296) + (x / 4294967296 * (y % 4294967296) + x % 4294967296 * (y % 4294967296) / 4294967296) / 4294967296 < 18446744073709551616 := by omega
 have bh : x / 4294967296 * (y / 4294967296) + (x / 4294967296 * (y % 4294967296) + x % 4294967296 * (y % 4294967296) / 4294967296) / 4294967296 + ((x / 4294967296 * (y % 4294967296) + x % 4294967296 * (y % 4294967296) / 4294967296) % 4294967296 + x % 4294967296 * (y / 4294967296)) / 4294967296 < 18446744073709551616 := by omega
 go_enter Tryz.func151, Tryz.ntmps151
 go_wp2
 simp only [M64.maskN x hx, M64.maskN y hy, M64.divN, M64.mulN, M64.addN, M64.wrapN _ bd, M64.wrapN _ bb', M64.wrapN _ bt, M64.maskN _ bt, M64.wrapN _ bc', M64.wrapN _ bw, M64.wrapN _ ba', M64.wrapN _ bh1, M64.wrapN _ bh, M64.wrapM (x * y)]
 rw [hhi]
 go_ret2
 exact ⟨rfl, rfl⟩
theorem V_add (x y : Nat) : IntKind.u64.wrap (V x + V y) = V ((x + y) % 18446744073709551616) := by
 unfold V; rw [IntKind.wrap_u64]; omega
theorem mul_lt64 {a b : Nat} (ha : a < 18446744073709551616) (hb : b < 18446744073709551616) : a * b ≤ 340282366920938463426481119284349108225 :=
 Nat.mul_le_mul (show a ≤ 18446744073709551615 by omega) (show b ≤ 18446744073709551615 by omega)
theorem ret2 {x x' y y' : Nat} (h : x = x') (k : y = y') : Ending.returned (.tuple #[nv x, nv y]) = .returned (.tuple #[nv x', nv y']) := by rw [h, k]
def of4 (a b c d : Nat) : Nat := a + 18446744073709551616 * b + 340282366920938463463374607431768211456 * c + 6277101735386680763835789423207666416102355444464034512896 * d
abbrev w4 (a b c d : Nat) : Value := .agg #[nv a, nv b, nv c, nv d]
def num4 (n : Nat) : Value := w4 (n % 18446744073709551616) (n / 18446744073709551616 % 18446744073709551616) (n / 340282366920938463463374607431768211456 % 18446744073709551616) (n / 6277101735386680763835789423207666416102355444464034512896 % 18446744073709551616)
structure Small4 (a b c d : Nat) : Prop where
 h0 : a < 18446744073709551616
 h1 : b < 18446744073709551616
 h2 : c < 18446744073709551616
 h3 : d < 18446744073709551616
theorem num4_of {a b c d : Nat} (h : Small4 a b c d) : num4 (of4 a b c d) = w4 a b c d := by
 obtain ⟨h0, h1, h2, h3⟩ := h
 unfold num4 of4
 rw [show (a + 18446744073709551616 * b + 340282366920938463463374607431768211456 * c + 6277101735386680763835789423207666416102355444464034512896 * d) % 18446744073709551616 = a by omega,
  show (a + 18446744073709551616 * b + 340282366920938463463374607431768211456 * c + 6277101735386680763835789423207666416102355444464034512896 * d) / 18446744073709551616 % 18446744073709551616 = b by omega,
  show (a + 18446744073709551616 * b + 340282366920938463463374607431768211456 * c + 6277101735386680763835789423207666416102355444464034512896 * d) / 340282366920938463463374607431768211456 % 18446744073709551616 = c by omega,
  show (a + 18446744073709551616 * b + 340282366920938463463374607431768211456 * c + 6277101735386680763835789423207666416102355444464034512896 * d) / 6277101735386680763835789423207666416102355444464034512896 % 18446744073709551616 = d by omega]
theorem words4 (n : Nat) (h : n < 115792089237316195423570985008687907853269984665640564039457584007913129639936) : ∃ a b c d, Small4 a b c d ∧ n = of4 a b c d := by
 refine ⟨n % 18446744073709551616, n / 18446744073709551616 % 18446744073709551616, n / 340282366920938463463374607431768211456 % 18446744073709551616, n / 6277101735386680763835789423207666416102355444464034512896, ⟨by omega, by omega, by omega, by omega⟩, ?_⟩
 unfold of4
 omega
theorem num4_eq {n a b c d : Nat} (h : Small4 a b c d) (e : n = of4 a b c d) : num4 n = w4 a b c d := by rw [e, num4_of h]
def ltN (a b : Nat) : Nat := if a < b then 1 else 0
theorem borW_le (x y b : Nat) : borW x y b ≤ 1 := by unfold borW; split <;> omega
theorem carW_le {x y b : Nat} (hx : x < 18446744073709551616) (hy : y < 18446744073709551616) (hb : b ≤ 1) : carW x y b ≤ 1 := by unfold carW; omega
theorem sumW_lt (x y c : Nat) : sumW x y c < 18446744073709551616 := by unfold sumW; omega
theorem difW_lt (x y c : Nat) : difW x y c < 18446744073709551616 := by unfold difW; omega
theorem sumW_eq {x y c : Nat} : x + y + c = sumW x y c + 18446744073709551616 * carW x y c := by unfold sumW carW; omega
theorem difW_eq {x y b : Nat} (hx : x < 18446744073709551616) (hy : y < 18446744073709551616) (hb : b ≤ 1) : x + 18446744073709551616 * borW x y b = difW x y b + y + b := by
 unfold difW borW; split <;> omega
section
attribute [local go_sem] V_add
set_option maxHeartbeats 1000000 in
theorem mulAdd_any (a b c d : Nat) (ha : a < 18446744073709551616) (hb : b < 18446744073709551616) (hc : c < 18446744073709551616) (hd : d < 18446744073709551616) (w : World) :
  Calls Tryz.prog 122 #[nv a, nv b, nv c, nv d] w fun e w' => e = .returned (.tuple #[nv ((a * b + c + d) % 18446744073709551616), nv ((a * b + c + d) / 18446744073709551616)]) ∧ w' = w := by
 have h1 := add64_run0 (a * b % 18446744073709551616) c
 have h2 := add64_run0 (sumW (a * b % 18446744073709551616) c 0) d
 have HE : Hid (sumW (sumW (a * b % 18446744073709551616) c 0) d 0 = (a * b + c + d) % 18446744073709551616 ∧ (a * b / 18446744073709551616 + carW (a * b % 18446744073709551616) c 0 + carW (sumW (a * b % 18446744073709551616) c 0) d 0) % 18446744073709551616 = (a * b + c + d) / 18446744073709551616) := by
  have := mul_lt64 ha hb
  unfold sumW carW
  generalize a * b = p at *
  constructor <;> omega
 have HA := hide ha
 have HB := hide hb
 clear ha hb hc hd
 go_enter Tryz.func122, Tryz.ntmps122
 go_wp2_with (first | (go_at_call 151; refine (mul64_any a b HA.out HB.out _).mono ?_; rintro e W ⟨rfl, rfl⟩))
 go_returns
 exact ⟨ret2 HE.out.1 HE.out.2, rfl⟩
set_option maxHeartbeats 1000000 in
theorem add_any (A B : Nat) (hA : A < 115792089237316195423570985008687907853269984665640564039457584007913129639936) (hB : B < 115792089237316195423570985008687907853269984665640564039457584007913129639936) (w : World) :
  Calls Tryz.prog 124 #[num4 A, num4 B] w fun e w' => e = .returned (.tuple #[num4 ((A + B) % 115792089237316195423570985008687907853269984665640564039457584007913129639936), nv ((A + B) / 115792089237316195423570985008687907853269984665640564039457584007913129639936)]) ∧ Below w.heap.size w w' := by
 obtain ⟨a0, a1, a2, a3, ha, rfl⟩ := words4 A hA
 obtain ⟨b0, b1, b2, b3, hb, rfl⟩ := words4 B hB
 rw [num4_of ha, num4_of hb]
 clear hA hB
 have l0 : carW a0 b0 0 ≤ 1 := carW_le ha.h0 hb.h0 (by decide)
 have l1 : carW a1 b1 (carW a0 b0 0) ≤ 1 := carW_le ha.h1 hb.h1 l0
 have l2 : carW a2 b2 (carW a1 b1 (carW a0 b0 0)) ≤ 1 := carW_le ha.h2 hb.h2 l1
 have h1 := add64_run0 a0 b0
 have h2 := add64_run a1 b1 _ l0
 have h3 := add64_run a2 b2 _ l1
 have h4 := add64_run a3 b3 _ l2
 have hs : Small4 (sumW a0 b0 0) (sumW a1 b1 (carW a0 b0 0)) (sumW a2 b2 (carW a1 b1 (carW a0 b0 0))) (sumW a3 b3 (carW a2 b2 (carW a1 b1 (carW a0 b0 0)))) := ⟨sumW_lt _ _ _, sumW_lt _ _ _, sumW_lt _ _ _, sumW_lt _ _ _⟩
 have HE : Hid ((of4 a0 a1 a2 a3 + of4 b0 b1 b2 b3) % 115792089237316195423570985008687907853269984665640564039457584007913129639936 = of4 (sumW a0 b0 0) (sumW a1 b1 (carW a0 b0 0)) (sumW a2 b2 (carW a1 b1 (carW a0 b0 0))) (sumW a3 b3 (carW a2 b2 (carW a1 b1 (carW a0 b0 0)))) ∧
   (of4 a0 a1 a2 a3 + of4 b0 b1 b2 b3) / 115792089237316195423570985008687907853269984665640564039457584007913129639936 = carW a3 b3 (carW a2 b2 (carW a1 b1 (carW a0 b0 0)))) := by
  obtain ⟨s0, s1, s2, s3⟩ := hs
  have e0 := @sumW_eq a0 b0 0
  have e1 := @sumW_eq a1 b1 (carW a0 b0 0)
  have e2 := @sumW_eq a2 b2 (carW a1 b1 (carW a0 b0 0))
  have e3 := @sumW_eq a3 b3 (carW a2 b2 (carW a1 b1 (carW a0 b0 0)))
  clear h1 h2 h3 h4
  generalize carW a3 b3 (carW a2 b2 (carW a1 b1 (carW a0 b0 0))) = c3 at *
  generalize sumW a3 b3 (carW a2 b2 (carW a1 b1 (carW a0 b0 0))) = t3 at *
  generalize sumW a2 b2 (carW a1 b1 (carW a0 b0 0)) = t2 at *
  generalize carW a2 b2 (carW a1 b1 (carW a0 b0 0)) = c2 at *
  generalize sumW a1 b1 (carW a0 b0 0) = t1 at *
  generalize carW a1 b1 (carW a0 b0 0) = c1 at *
  generalize sumW a0 b0 0 = t0 at *
  generalize carW a0 b0 0 = c0 at *
  unfold of4
  constructor <;> omega
 have HS := hide hs
 clear hs l0 l1 l2 ha hb
 go_enter Tryz.func124, Tryz.ntmps124
 go_wp2
 go_returns
 refine ⟨?_, by go_grown⟩
 rw [num4_eq HS.out HE.out.1, HE.out.2]
set_option maxHeartbeats 1000000 in
theorem sub_any (A B : Nat) (hA : A < 115792089237316195423570985008687907853269984665640564039457584007913129639936) (hB : B < 115792089237316195423570985008687907853269984665640564039457584007913129639936) (w : World) :
  Calls Tryz.prog 123 #[num4 A, num4 B] w fun e w' => e = .returned (.tuple #[num4 ((A + 115792089237316195423570985008687907853269984665640564039457584007913129639936 - B) % 115792089237316195423570985008687907853269984665640564039457584007913129639936), nv (ltN A B)]) ∧ Below w.heap.size w w' := by
 obtain ⟨a0, a1, a2, a3, ha, rfl⟩ := words4 A hA
 obtain ⟨b0, b1, b2, b3, hb, rfl⟩ := words4 B hB
 rw [num4_of ha, num4_of hb]
 clear hA hB
 have h1 := sub64_run0 a0 b0
 have h2 := sub64_run a1 b1 _ (borW_le a0 b0 0)
 have h3 := sub64_run a2 b2 _ (borW_le a1 b1 (borW a0 b0 0))
 have h4 := sub64_run a3 b3 _ (borW_le a2 b2 (borW a1 b1 (borW a0 b0 0)))
 have hs : Small4 (difW a0 b0 0) (difW a1 b1 (borW a0 b0 0)) (difW a2 b2 (borW a1 b1 (borW a0 b0 0))) (difW a3 b3 (borW a2 b2 (borW a1 b1 (borW a0 b0 0)))) := ⟨difW_lt _ _ _, difW_lt _ _ _, difW_lt _ _ _, difW_lt _ _ _⟩
 have HE : Hid ((of4 a0 a1 a2 a3 + 115792089237316195423570985008687907853269984665640564039457584007913129639936 - of4 b0 b1 b2 b3) % 115792089237316195423570985008687907853269984665640564039457584007913129639936 = of4 (difW a0 b0 0) (difW a1 b1 (borW a0 b0 0)) (difW a2 b2 (borW a1 b1 (borW a0 b0 0))) (difW a3 b3 (borW a2 b2 (borW a1 b1 (borW a0 b0 0)))) ∧
   ltN (of4 a0 a1 a2 a3) (of4 b0 b1 b2 b3) = borW a3 b3 (borW a2 b2 (borW a1 b1 (borW a0 b0 0)))) := by
  obtain ⟨s0, s1, s2, s3⟩ := hs
  have e0 := difW_eq ha.h0 hb.h0 (show 0 ≤ 1 by decide)
  have e1 := difW_eq ha.h1 hb.h1 (borW_le a0 b0 0)
  have e2 := difW_eq ha.h2 hb.h2 (borW_le a1 b1 (borW a0 b0 0))
  have e3 := difW_eq ha.h3 hb.h3 (borW_le a2 b2 (borW a1 b1 (borW a0 b0 0)))
  have k := borW_le a3 b3 (borW a2 b2 (borW a1 b1 (borW a0 b0 0)))
  obtain ⟨a0', a1', a2', a3'⟩ := ha
  obtain ⟨b0', b1', b2', b3'⟩ := hb
  clear h1 h2 h3 h4
  generalize borW a3 b3 (borW a2 b2 (borW a1 b1 (borW a0 b0 0))) = c3 at *
  generalize difW a3 b3 (borW a2 b2 (borW a1 b1 (borW a0 b0 0))) = t3 at *
  generalize difW a2 b2 (borW a1 b1 (borW a0 b0 0)) = t2 at *
  generalize borW a2 b2 (borW a1 b1 (borW a0 b0 0)) = c2 at *
  generalize difW a1 b1 (borW a0 b0 0) = t1 at *
  generalize borW a1 b1 (borW a0 b0 0) = c1 at *
  generalize difW a0 b0 0 = t0 at *
  generalize borW a0 b0 0 = c0 at *
  unfold ltN of4
  have : c3 = 0 ∨ c3 = 1 := by omega
  rcases this with rfl | rfl
  ·
   constructor
   · omega
   · rw [if_neg (by omega)]
  ·
   constructor
   · omega
   · rw [if_pos (by omega)]
 have HS := hide hs
 clear hs ha hb
 go_enter Tryz.func123, Tryz.ntmps123
 go_wp2
 go_returns
 refine ⟨?_, by go_grown⟩
 rw [num4_eq HS.out HE.out.1, HE.out.2]
end
theorem mulAdd_new (a b c d : Nat) (ha : a < 18446744073709551616) (hb : b < 18446744073709551616) (hc : c < 18446744073709551616) (hd : d < 18446744073709551616) (w : World) :
  Calls Tryz.prog 122 #[nv a, nv b, nv c, nv d] w fun e w' => ∃ lo hi, e = .returned (.tuple #[nv lo, nv hi]) ∧ (lo < 18446744073709551616 ∧ hi < 18446744073709551616 ∧ lo + 18446744073709551616 * hi = a * b + c + d) ∧ w' = w := by
 refine (mulAdd_any a b c d ha hb hc hd w).mono fun e w' h => ⟨_, _, h.1, ?_, h.2⟩
 have := mul_lt64 ha hb
 generalize a * b = p at *
 omega
theorem mulAdd_new0 (a b c : Nat) (ha : a < 18446744073709551616) (hb : b < 18446744073709551616) (hc : c < 18446744073709551616) (w : World) :
  Calls Tryz.prog 122 #[nv a, nv b, nv c, .int .u64 0] w fun e w' => ∃ lo hi, e = .returned (.tuple #[nv lo, nv hi]) ∧ (lo < 18446744073709551616 ∧ hi < 18446744073709551616 ∧ lo + 18446744073709551616 * hi = a * b + c) ∧ w' = w :=
 mulAdd_new a b c 0 ha hb hc (by decide) w
theorem mulAdd_new00 (a b : Nat) (ha : a < 18446744073709551616) (hb : b < 18446744073709551616) (w : World) :
  Calls Tryz.prog 122 #[nv a, nv b, .int .u64 0, .int .u64 0] w fun e w' => ∃ lo hi, e = .returned (.tuple #[nv lo, nv hi]) ∧ (lo < 18446744073709551616 ∧ hi < 18446744073709551616 ∧ lo + 18446744073709551616 * hi = a * b) ∧ w' = w :=
 mulAdd_new a b 0 0 ha hb (by decide) (by decide) w
theorem of4_lt {a b c d : Nat} (h : Small4 a b c d) : of4 a b c d < 115792089237316195423570985008687907853269984665640564039457584007913129639936 := by
 obtain ⟨h0, h1, h2, h3⟩ := h; unfold of4; omega
theorem sub_new {a0 a1 a2 a3 b0 b1 b2 b3 : Nat} (ha : Small4 a0 a1 a2 a3) (hb : Small4 b0 b1 b2 b3) (w : World) :
  Calls Tryz.prog 123 #[w4 a0 a1 a2 a3, w4 b0 b1 b2 b3] w fun e w' => ∃ r0 r1 r2 r3 k, e = .returned (.tuple #[w4 r0 r1 r2 r3, nv k]) ∧
   (Small4 r0 r1 r2 r3 ∧ k ≤ 1 ∧ of4 a0 a1 a2 a3 + 115792089237316195423570985008687907853269984665640564039457584007913129639936 * k = of4 r0 r1 r2 r3 + of4 b0 b1 b2 b3) ∧ Below w.heap.size w w' := by
 have la := of4_lt ha
 have lb := of4_lt hb
 have := sub_any _ _ la lb w
 rw [num4_of ha, num4_of hb] at this
 refine this.mono fun e w' h => ?_
 obtain ⟨r0, r1, r2, r3, hr, e'⟩ := words4 ((of4 a0 a1 a2 a3 + 115792089237316195423570985008687907853269984665640564039457584007913129639936 - of4 b0 b1 b2 b3) % 115792089237316195423570985008687907853269984665640564039457584007913129639936) (by omega)
 rw [num4_eq hr e'] at h
 refine ⟨r0, r1, r2, r3, _, h.1, ⟨hr, ?_, ?_⟩, h.2⟩
 · unfold ltN; split <;> omega
 · rw [← e']; unfold ltN; split <;> omega
theorem add_new {a0 a1 a2 a3 b0 b1 b2 b3 : Nat} (ha : Small4 a0 a1 a2 a3) (hb : Small4 b0 b1 b2 b3) (w : World) :
  Calls Tryz.prog 124 #[w4 a0 a1 a2 a3, w4 b0 b1 b2 b3] w fun e w' => ∃ r0 r1 r2 r3 k, e = .returned (.tuple #[w4 r0 r1 r2 r3, nv k]) ∧
   (Small4 r0 r1 r2 r3 ∧ k ≤ 1 ∧ of4 r0 r1 r2 r3 + 115792089237316195423570985008687907853269984665640564039457584007913129639936 * k = of4 a0 a1 a2 a3 + of4 b0 b1 b2 b3) ∧ Below w.heap.size w w' := by
 have la := of4_lt ha
 have lb := of4_lt hb
 have := add_any _ _ la lb w
 rw [num4_of ha, num4_of hb] at this
 refine this.mono fun e w' h => ?_
 obtain ⟨r0, r1, r2, r3, hr, e'⟩ := words4 ((of4 a0 a1 a2 a3 + of4 b0 b1 b2 b3) % 115792089237316195423570985008687907853269984665640564039457584007913129639936) (by omega)
 rw [num4_eq hr e'] at h
 exact ⟨r0, r1, r2, r3, _, h.1, ⟨hr, by omega, by omega⟩, h.2⟩
end Go.Proofs.YtccgfabojbjmjaaGreatDoor
