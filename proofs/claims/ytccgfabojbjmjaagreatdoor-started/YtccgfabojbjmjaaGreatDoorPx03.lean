import Derived.Test.YtccgfabojbjmjaaGreatDoorPx00
import Derived.Laws.IdiomStrings
import Derived.Deep.MidRow
import Derived.Test.YtccgfabojbjmjaaGreatDoorRows
import Derived.WalkSpells
import Derived.WalkLawsBesides
import Derived.Deep.RegionHeld3
import Derived.Deep.DrawnRows
import Derived.Laws.CopyOwn
namespace Go.Proofs.YtccgfabojbjmjaaGreatDoor
open Go.RowKit
def bytesOf (s : ByteArray) : List UInt8 := s.data.toList
theorem bytesOf_length (s : ByteArray) : (bytesOf s).length = s.size := rfl
def strOf (l : List UInt8) : ByteArray := ⟨l.toArray⟩
theorem bytesOf_strOf (l : List UInt8) : bytesOf (strOf l) = l := by simp [bytesOf, strOf]
theorem strOf_bytesOf (s : ByteArray) : strOf (bytesOf s) = s := by cases s; simp [bytesOf, strOf]
theorem conv_bytes {P : Program} (src dst e : TypeId) (hs : P.underlying src = some .string) (hd : P.underlying dst = some (.slice e)) (he : P.underlying e = some (.int .u8)) (s : ByteArray) (w : World) :
  ∃ cap W1, (convert src dst (.string s)).run P w = .ok (.slice (some ⟨w.heap.size, 0, none⟩) s.size cap) W1 ∧ W1.rangeAt w.heap.size 0 ((bytesOf s).map cv) ∧ Below w.heap.size w W1 ∧ W1.heap.size = w.heap.size + 1 := by
 refine ⟨_, _, run_bytes_of_string (P := P) w src dst e s hs hd he, ?_, (Below.refl _ _).drew.alloc (Nat.le_refl _) _, by simp⟩
 intro j v hv
 rw [Nat.zero_add, cell_of_row _ w.heap.size j _ _ _ (heap_alloc_new w.drew _)]
 have hj : j < s.data.size := by
  have := (List.getElem?_eq_some_iff.1 hv).1
  simpa [bytesOf] using this
 simp only [bytesRow]
 rw [Array.getElem?_append_left (by simpa using hj)]
 simp [bytesOf, List.getElem?_map] at hv ⊢
 exact hv
def valLE : List UInt8 → Nat
 | [] => 0
 | c :: l => c.toNat + 256 * valLE l
def chooseW (x y z : BitVec 64) : BitVec 64 := x &&& y ^^^ ~~~x &&& z
def majorityW (x y z : BitVec 64) : BitVec 64 := x &&& y ^^^ x &&& z ^^^ y &&& z
def bigSigma0W (x : BitVec 64) : BitVec 64 := x.rotateRight 28 ^^^ x.rotateRight 34 ^^^ x.rotateRight 39
def bigSigma1W (x : BitVec 64) : BitVec 64 := x.rotateRight 14 ^^^ x.rotateRight 18 ^^^ x.rotateRight 41
def smallSigma0W (x : BitVec 64) : BitVec 64 := x.rotateRight 1 ^^^ x.rotateRight 8 ^^^ x >>> 7
def smallSigma1W (x : BitVec 64) : BitVec 64 := x.rotateRight 19 ^^^ x.rotateRight 61 ^^^ x >>> 6
section
attribute [local go_sem] U_and U_or U_xor U_not U_add
set_option maxRecDepth 100000 in
set_option maxHeartbeats 400000 in
theorem choose_any (x y z : BitVec 64) (w : World) :
  Calls Tryz.prog 155 #[.int .u64 (U x), .int .u64 (U y), .int .u64 (U z)] w fun e w' => e = .returned (.int .u64 (U (chooseW x y z))) ∧ w' = w := by
 go_enter Tryz.func155, Tryz.ntmps155
 go_wp2
 go_ret
 exact ⟨rfl, rfl⟩
set_option maxRecDepth 100000 in
set_option maxHeartbeats 400000 in
theorem majority_any (x y z : BitVec 64) (w : World) :
  Calls Tryz.prog 157 #[.int .u64 (U x), .int .u64 (U y), .int .u64 (U z)] w fun e w' => e = .returned (.int .u64 (U (majorityW x y z))) ∧ w' = w := by
 go_enter Tryz.func157, Tryz.ntmps157
 go_wp2
 go_ret
 exact ⟨rfl, rfl⟩
theorem and_neg (n : Nat) (h0 : 0 < n) (h1 : n < 64) : bits .and .u64 (IntKind.u64.wrap (-(n : Int))) 63 = ((64 - n : Nat) : Int) := by
 have e : ∀ k : Fin 64, 0 < k.val → bits .and .u64 (IntKind.u64.wrap (-(k.val : Int))) 63 = ((64 - k.val : Nat) : Int) := by decide
 exact e ⟨n, h1⟩ h0
theorem rot_eq (x : BitVec 64) (n : Nat) (h1 : n < 64) : x <<< (64 - n) ||| x >>> n = x.rotateRight n := by
 rw [BitVec.rotateRight_def, Nat.mod_eq_of_lt h1, BitVec.or_comm]
set_option maxRecDepth 100000 in
set_option maxHeartbeats 400000 in
theorem rot_any (x : BitVec 64) (n : Nat) (h0 : 0 < n) (h1 : n < 64) (w : World) :
  Calls Tryz.prog 172 #[.int .u64 (U x), .int .i64 (-(n : Int))] w fun e w' => e = .returned (.int .u64 (U (x.rotateRight n))) ∧ w' = w := by
 have e := and_neg n h0 h1
 have hm : ((64 - n : Nat) : Int) = 64 - n := by omega
 rw [hm] at e
 have HF : Hid (bits BinOp.or IntKind.u64 (IntKind.u64.wrap (U x * 2 ^ (64 - n))) (U x / 2 ^ (64 - (64 - n))) = U (x.rotateRight n)) := by
  have h64 : 64 - (64 - n) = n := by omega
  show _ = _
  rw [h64, U_shl, U_shr, U_or, rot_eq x n h1]
 go_enter Tryz.func172, Tryz.ntmps172
 go_wp2
 go_ret
 exact ⟨congrArg (fun v => Ending.returned (.int .u64 v)) HF.out, rfl⟩
set_option maxRecDepth 100000 in
set_option maxHeartbeats 400000 in
theorem right_any (x : BitVec 64) (k : Int) (n : Nat) (hk : k = n) (h0 : 0 < n) (h1 : n < 64) (w : World) :
  Calls Tryz.prog 166 #[.int .u64 (U x), .int .i64 k] w fun e w' => e = .returned (.int .u64 (U (x.rotateRight n))) ∧ w' = w := by
 subst hk
 go_enter Tryz.func166, Tryz.ntmps166
 go_wp2_with (go_at_call 172; refine (rot_any x n h0 h1 _).mono ?_; rintro e w' ⟨rfl, rfl⟩)
 go_ret
 exact ⟨rfl, rfl⟩
set_option maxRecDepth 100000 in
set_option maxHeartbeats 400000 in
theorem bigSigma0_any (x : BitVec 64) (w : World) :
  Calls Tryz.prog 156 #[.int .u64 (U x)] w fun e w' => e = .returned (.int .u64 (U (bigSigma0W x))) ∧ w' = w := by
 go_enter Tryz.func156, Tryz.ntmps156
 go_wp2_with fail
 refine (right_any x 28 28 rfl (by omega) (by omega) _).mono ?_
 rintro e w' ⟨rfl, rfl⟩
 go_wp2_with fail
 refine (right_any x 34 34 rfl (by omega) (by omega) _).mono ?_
 rintro e w' ⟨rfl, rfl⟩
 go_wp2_with fail
 refine (right_any x 39 39 rfl (by omega) (by omega) _).mono ?_
 rintro e w' ⟨rfl, rfl⟩
 go_wp2
 go_ret
 exact ⟨rfl, rfl⟩
set_option maxRecDepth 100000 in
set_option maxHeartbeats 400000 in
theorem bigSigma1_any (x : BitVec 64) (w : World) :
  Calls Tryz.prog 154 #[.int .u64 (U x)] w fun e w' => e = .returned (.int .u64 (U (bigSigma1W x))) ∧ w' = w := by
 go_enter Tryz.func154, Tryz.ntmps154
 go_wp2_with fail
 refine (right_any x 14 14 rfl (by omega) (by omega) _).mono ?_
 rintro e w' ⟨rfl, rfl⟩
 go_wp2_with fail
 refine (right_any x 18 18 rfl (by omega) (by omega) _).mono ?_
 rintro e w' ⟨rfl, rfl⟩
 go_wp2_with fail
 refine (right_any x 41 41 rfl (by omega) (by omega) _).mono ?_
 rintro e w' ⟨rfl, rfl⟩
 go_wp2
 go_ret
 exact ⟨rfl, rfl⟩
theorem U_shr7 (a : BitVec 64) : U a / (128 : Int) = U (a >>> 7) := U_shr a 7
theorem U_shr6 (a : BitVec 64) : U a / (64 : Int) = U (a >>> 6) := U_shr a 6
theorem ret_u64 {a b : Int} (h : a = b) : Ending.returned (.int .u64 a) = .returned (.int .u64 b) := by rw [h]
set_option maxRecDepth 100000 in
set_option maxHeartbeats 400000 in
theorem smallSigma0_any (x : BitVec 64) (w : World) :
  Calls Tryz.prog 165 #[.int .u64 (U x)] w fun e w' => e = .returned (.int .u64 (U (smallSigma0W x))) ∧ w' = w := by
 go_enter Tryz.func165, Tryz.ntmps165
 go_wp2_with fail
 refine (right_any x 1 1 rfl (by omega) (by omega) _).mono ?_
 rintro e w' ⟨rfl, rfl⟩
 go_wp2_with fail
 refine (right_any x 8 8 rfl (by omega) (by omega) _).mono ?_
 rintro e w' ⟨rfl, rfl⟩
 go_wp2
 go_ret
 exact ⟨ret_u64 (by rw [U_shr7, U_xor]; rfl), rfl⟩
set_option maxRecDepth 100000 in
set_option maxHeartbeats 400000 in
theorem smallSigma1_any (x : BitVec 64) (w : World) :
  Calls Tryz.prog 164 #[.int .u64 (U x)] w fun e w' => e = .returned (.int .u64 (U (smallSigma1W x))) ∧ w' = w := by
 go_enter Tryz.func164, Tryz.ntmps164
 go_wp2_with fail
 refine (right_any x 19 19 rfl (by omega) (by omega) _).mono ?_
 rintro e w' ⟨rfl, rfl⟩
 go_wp2_with fail
 refine (right_any x 61 61 rfl (by omega) (by omega) _).mono ?_
 rintro e w' ⟨rfl, rfl⟩
 go_wp2
 go_ret
 exact ⟨ret_u64 (by rw [U_shr6, U_xor]; rfl), rfl⟩
end
theorem ret_i64 {a b : Int} (h : a = b) : Ending.returned (.int .i64 a) = .returned (.int .i64 b) := by rw [h]
def HS.filled (H : HS) : Nat := H.n % 128
theorem HS.filled_lo (H : HS) : H.lo.toNat % 128 = H.filled := by
 unfold HS.lo HS.filled; rw [BitVec.toNat_ofNat]; omega
theorem HS.filled_lt (H : HS) : H.filled < 128 := Nat.mod_lt _ (by decide)
theorem filled_num (lo : BitVec 64) : wrap64 ((U lo).tmod 128) = ((lo.toNat % 128 : Nat) : Int) := by
 have h1 : (U lo).tmod 128 = ((lo.toNat % 128 : Nat) : Int) := by unfold U; rw [Int.tmod_eq_emod_of_nonneg (by omega)]; omega
 rw [h1]; unfold wrap64; omega
section
attribute [local go_sem] U_and U_or U_xor U_not U_add U_add_one
set_option maxRecDepth 100000 in
set_option maxHeartbeats 400000 in
theorem filled_any (b : Nat) (T : TypeId) (H : HS) (w : World) (h : Has w b T H) :
  Calls Tryz.prog 125 #[.pointer (some ⟨b, 0, none⟩)] w fun e w' => e = .returned (.int .i64 H.filled) ∧ w' = w := by
 have h1 : w.cell? ⟨b, 137, none⟩ = some (.int .u64 (U H.lo)) := (h.cell 137).trans (H.row_lo h.len)
 clear h
 go_enter Tryz.func125, Tryz.ntmps125
 go_wp2
 go_ret
 exact ⟨ret_i64 ((filled_num _).trans (congrArg (fun x : Nat => (x : Int)) H.filled_lo)), rfl⟩
set_option maxRecDepth 100000 in
set_option maxHeartbeats 400000 in
theorem count_any (b : Nat) (T : TypeId) (H : HS) (z : Int) (n : Nat) (hz : z = n) (hn : n < 18446744073709551616) (w : World) (h : Has w b T H) :
  Calls Tryz.prog 126 #[.pointer (some ⟨b, 0, none⟩), .int .u64 z] w fun e w' => e = .returned (.tuple #[]) ∧ Has w' b T (H.count n) ∧ Turn b w w' := by
 have hz' : z = U (BitVec.ofNat 64 n) := by rw [hz, U_ofNat]; omega
 subst hz'
 clear hz
 have h1 : w.cell? ⟨b, 137, none⟩ = some (.int .u64 (U H.lo)) := (h.cell 137).trans (H.row_lo h.len)
 have h2 : w.cell? ⟨b, 136, none⟩ = some (.int .u64 (U H.hi)) := (h.cell 136).trans (H.row_hi h.len)
 have f1 := h.frozen 136
 have f2 := h.frozen 137
 have HL : Hid (H.lo + BitVec.ofNat 64 n = BitVec.ofNat 64 (H.n + n)) := lo_add _ _
 have HI : Hid (H.hi + 1#64 = BitVec.ofNat 64 (H.n / 18446744073709551616 + 1)) := lo_add _ 1
 have HH : Hid (Has w b T H) := h
 have HN : Hid (n < 18446744073709551616) := hn
 clear h hn
 generalize hx : BitVec.ofNat 64 n = x at *
 have HX : Hid (BitVec.ofNat 64 n = x) := hx
 clear hx
 go_enter Tryz.func126, Tryz.ntmps126
 go_wp2
 ·
  go_end0
  have hlt : U (H.lo + x) < U x := by assumption
  refine ⟨rfl, ⟨?_, HH.out.len⟩, ((Turn.refl b w).setCell rfl _).setCell rfl _⟩
  rw [HL.out, ← HX.out, carry_iff _ _ HN.out] at hlt
  have e := row_store (row_store HH.out.heap 137 (uv (H.lo + x))) 136 (uv (H.hi + 1#64))
  rw [HL.out, HI.out, ← hlt, H.set_hi_lo HH.out.len] at e
  rw [HL.out, HI.out, ← hlt]
  exact e
 ·
  go_end0
  have hge : U x ≤ U (H.lo + x) := by assumption
  refine ⟨rfl, ⟨?_, HH.out.len⟩, (Turn.refl b w).setCell rfl _⟩
  rw [HL.out, ← HX.out] at hge
  have hq := carry_not _ _ HN.out (Int.not_lt.mpr hge)
  have e := row_store HH.out.heap 137 (uv (H.lo + x))
  rw [HL.out, H.set_lo HH.out.len _ hq] at e
  rw [HL.out]
  exact e
def be (f : Nat → UInt8) : Nat → BitVec 64
 | 0 => 0
 | k + 1 => be f k <<< 8 ||| BitVec.ofNat 64 (f k).toNat
theorem U_byte (c : UInt8) : C8 c = U (BitVec.ofNat 64 c.toNat) := by
 unfold C8 U; rw [BitVec.toNat_ofNat]; have := c.toNat_lt; omega
theorem U_shl8 (a : BitVec 64) : IntKind.u64.wrap (U a * 256) = U (a <<< 8) := U_shl a 8
theorem wrap_C8 (c : UInt8) : IntKind.u64.wrap (C8 c) = U (BitVec.ofNat 64 c.toNat) := by
 rw [← U_byte, IntKind.wrap_u64]; have := C8_nonneg c; have := C8_lt c; omega
set_option maxRecDepth 100000 in
set_option maxHeartbeats 400000 in
theorem getWord_any (b off n cap : Nat) (f : Nat → UInt8) (w : World) (hn : 8 ≤ n) (hm : n ≤ 9223372036854775807)
  (hc : ∀ i, i < 8 → w.cell? ⟨b, off + i, none⟩ = some (.int .u8 (C8 (f i)))) :
  Calls Tryz.prog 163 #[.slice (some ⟨b, off, none⟩) n cap] w fun e w' => e = .returned (.int .u64 (U (be f 8))) ∧ w' = w := by
 go_enter Tryz.func163, Tryz.ntmps163
 go_wp2
 go_loop [3, 5] (fun v i => ∃ k : Nat, k ≤ 8 ∧ i = .int .i64 k ∧ v = .int .u64 (U (be f k))) (fun _ i => 8 - (intOf i).toNat)
 case atStart => exact ⟨0, Nat.zero_le _, rfl, rfl⟩
 case round =>
  obtain ⟨k, hk, rfl, rfl⟩ := hrel
  by_cases hlt : k < 8
  ·
   have hcell := hc k hlt
   clear hc
   have HE : Hid (bits BinOp.or IntKind.u64 (IntKind.u64.wrap (U (be f k) * 256)) (IntKind.u64.wrap (C8 (f k))) = U (be f (k + 1))) := by
    show _ = _
    rw [U_shl8, wrap_C8, U_or]; rfl
   go_wp2
   go_round
   case rel => exact ⟨k + 1, by omega, by go_num, congrArg (Value.int .u64) HE.out⟩
   case measure => simp [intOf]; omega
  ·
   clear hc
   obtain rfl : k = 8 := by omega
   go_wp2
   go_ret
   exact ⟨rfl, rfl⟩
def byteOf (x : BitVec 64) (k : Nat) : UInt8 := UInt8.ofNat (x >>> (56 - 8 * k)).toNat
theorem byte_num (x : BitVec 64) (n : Nat) : U x / 2 ^ n % 256 = C8 (UInt8.ofNat (x >>> n).toNat) := by
 rw [U_shr]; unfold U C8; rw [UInt8.toNat_ofNat']; omega
def lay (cs : List Value) (off : Nat) (x : BitVec 64) : Nat → List Value
 | 0 => cs
 | k + 1 => (lay cs off x k).set (off + k) (cv (byteOf x k))
theorem lay_length (cs : List Value) (off : Nat) (x : BitVec 64) (k : Nat) : (lay cs off x k).length = cs.length := by
 induction k with
 | zero => rfl
 | succ k ih => simp [lay, ih]
set_option maxRecDepth 100000 in
set_option maxHeartbeats 400000 in
theorem putWord_any (b off n cap : Nat) (T : TypeId) (cs : List Value) (x : BitVec 64) (w : World) (hn : 8 ≤ n) (hm : n ≤ 9223372036854775807)
  (hrow : w.heap[b]? = some (.cells cs.toArray T (0, 0))) (hfit : off + 8 ≤ cs.length) :
  Calls Tryz.prog 129 #[.slice (some ⟨b, off, none⟩) n cap, .int .u64 (U x)] w fun e w' => e = .returned (.tuple #[]) ∧ w'.heap[b]? = some (.cells (lay cs off x 8).toArray T (0, 0)) ∧ Turn b w w' := by
 have HR : Hid (w.heap[b]? = some (.cells cs.toArray T (0, 0))) := hrow
 clear hrow
 go_enter Tryz.func129, Tryz.ntmps129
 go_wp2
 go_loopw [5] (fun i wr => ∃ k : Nat, k ≤ 8 ∧ i = .int .i64 k ∧ Hid (wr.heap[b]? = some (.cells (lay cs off x k).toArray T (0, 0))) ∧ Turn b w wr) (fun i _ => 8 - (intOf i).toNat)
 case atStart => exact ⟨0, Nat.zero_le _, rfl, HR, Turn.refl _ _⟩
 case round =>
  obtain ⟨k, hk, rfl, hr, ht⟩ := hrel
  by_cases hlt : k < 8
  ·
   have hkl : off + k < (lay cs off x k).length := by rw [lay_length]; omega
   obtain ⟨v0, hv0⟩ : ∃ v0, wr.cell? ⟨b, off + k, none⟩ = some v0 := ⟨_, (cell_of_row wr b (off + k) _ T _ hr.out).trans (by simp; exact List.getElem?_eq_getElem hkl)⟩
   have hfr := frozen_of_row wr b (off + k) _ T hr.out
   have HB : Hid (U x / 2 ^ (56 - 8 * k) % 256 = C8 (byteOf x k)) := byte_num x (56 - 8 * k)
   clear hkl
   go_wp2
   go_roundw
   case rel => exact ⟨k + 1, by omega, by go_num, by rw [HB.out]; exact row_store hr.out (off + k) _, ht.setCell rfl _⟩
   case measure => simp [intOf]; omega
  ·
   obtain rfl : k = 8 := by omega
   go_wp2
   go_end0
   exact ⟨rfl, hr.out, ht⟩
end
def w16 (blk : List UInt8) (t : Nat) : BitVec 64 := be (fun i => blk.getD (8 * t + i) 0) 8
def w16s (blk : List UInt8) : Nat → List (BitVec 64)
 | 0 => []
 | n + 1 => w16s blk n ++ [w16 blk n]
theorem w16s_length (blk : List UInt8) (n : Nat) : (w16s blk n).length = n := by
 induction n with
 | zero => rfl
 | succ n ih => simp [w16s, ih]
def nextW (l : List (BitVec 64)) (n : Nat) : BitVec 64 :=
 smallSigma1W (l.getD (n + 14) 0) + l.getD (n + 9) 0 + smallSigma0W (l.getD (n + 1) 0) + l.getD n 0
def sch (blk : List UInt8) : Nat → List (BitVec 64)
 | 0 => w16s blk 16
 | n + 1 => sch blk n ++ [nextW (sch blk n) n]
theorem sch_length (blk : List UInt8) (n : Nat) : (sch blk n).length = 16 + n := by
 induction n with
 | zero => simp [sch, w16s_length]
 | succ n ih => simp [sch, ih]; omega
def wrow (l : List (BitVec 64)) : List Value := l.map uv ++ List.replicate (80 - l.length) (uv 0)
theorem wrow_length (l : List (BitVec 64)) (h : l.length ≤ 80) : (wrow l).length = 80 := by simp [wrow]; omega
theorem wrow_get (l : List (BitVec 64)) (i : Nat) (h : i < l.length) : (wrow l)[i]? = some (uv (l.getD i 0)) := by
 unfold wrow; rw [List.getElem?_append_left (by simpa using h)]; simp [h]
theorem wrow_there (l : List (BitVec 64)) (i : Nat) (h : i < 80) (hl : l.length ≤ 80) : ∃ v, (wrow l)[i]? = some v :=
 ⟨_, List.getElem?_eq_getElem (by rw [wrow_length l hl]; exact h)⟩
theorem wrow_set (l : List (BitVec 64)) (x : BitVec 64) (h : l.length < 80) : (wrow l).set l.length (uv x) = wrow (l ++ [x]) := by
 unfold wrow
 rw [List.set_append_right _ _ (by simp)]
 obtain ⟨m, hm⟩ : ∃ m, 80 - l.length = m + 1 := ⟨79 - l.length, by omega⟩
 have e2 : 80 - (l ++ [x]).length = m := by simp; omega
 rw [hm, e2]
 simp [List.replicate_succ]
theorem wrow_cell (l : List (BitVec 64)) : ∀ v ∈ wrow l, v.oneCell' = true := by
 intro v hv
 rcases List.mem_append.1 hv with h | h
 · obtain ⟨x, _, rfl⟩ := List.mem_map.1 h; rfl
 · rw [(List.mem_replicate.1 h).2]; rfl
theorem zero80 (w : World) : (zeroValue 257).run Tryz.prog w = .ok (.agg (wrow []).toArray) w := by kernel_rfl
theorem under128 : Tryz.prog.underlying 164 = some (.array 128 5) := by kernel_rfl
theorem sizeU8H : (Tryz.prog.info? 5).map (·.size) = some 1 := by kernel_rfl
theorem slice128 (b o : Nat) (z : Int) (l : Nat) (hz : z = l) (hl : l < 128) (w : World) :
  (Instr.sliceAt 164 (.pointer (some ⟨b, o, none⟩)) (some (.int .i64 z)) none none).run Tryz.prog w = .ok (.slice (some ⟨b, o + l, none⟩) (128 - l) (128 - l)) w := by
 subst hz
 have h1 : ((l : Int) ≤ 128) := by omega
 have h2 : ¬ 128 = l := by omega
 cases hq : Tryz.prog.info? 5 with
 | none => have := sizeU8H; rw [hq] at this; cases this
 | some i =>
  have hi : i.size = 1 := by have := sizeU8H; rw [hq] at this; simpa using this
  simp [Instr.sliceAt, Instr.sureAddr, run_underlying under128, Instr.sliceBounds, run_sliceBound, sizeOf, typeInfo, hq, hi, h1, h2, Addr.add]
theorem under80 : Tryz.prog.underlying 257 = some (.array 80 59) := by kernel_rfl
theorem size80 : (Tryz.prog.info? 257).map (·.size) = some 80 := by kernel_rfl
section
attribute [local go_sem] U_and U_or U_xor U_not U_add U_add_one
attribute [local go_sem ↓] Go.wp_at_zero Go.wp_at_succ
theorem getBlk_any (b k n cap : Nat) (H : HS) (w : World) (hn : 8 ≤ n) (hm : n ≤ 9223372036854775807)
  (hc : ∀ i, i < 8 → w.cell? ⟨b, 8 + 8 * k + i, none⟩ = some (.int .u8 (C8 (H.blk.getD (8 * k + i) 0)))) :
  Calls Tryz.prog 163 #[.slice (some ⟨b, 8 + 8 * k, none⟩) n cap] w fun e w' => e = .returned (.int .u64 (U (w16 H.blk k))) ∧ w' = w :=
 getWord_any b (8 + 8 * k) n cap (fun i => H.blk.getD (8 * k + i) 0) w hn hm hc
theorem row_store_far {w : World} {g g' : Nat} {o : Obj} (i : Nat) (v : Value) (h : w.heap[g]? = some o) (hne : g ≠ g') : (w.setCell ⟨g', i, none⟩ v).heap[g]? = some o := by
 rw [Below.heap_setCell _ _ _ _ (by exact hne)]; exact h
theorem sch_row_step {wr : World} {g : Nat} {T : TypeId} {blk : List UInt8} {n : Nat} (hn : n < 64) (h : wr.heap[g]? = some (.cells (wrow (sch blk n)).toArray T (0, 0))) :
  (wr.setCell ⟨g, 16 + n, none⟩ (uv (nextW (sch blk n) n))).heap[g]? = some (.cells (wrow (sch blk (n + 1))).toArray T (0, 0)) := by
 have e := row_store h (16 + n) (uv (nextW (sch blk n) n))
 have e2 := wrow_set (sch blk n) (nextW (sch blk n) n) (by rw [sch_length]; omega)
 rw [sch_length] at e2
 rw [e2] at e
 exact e
theorem w16_row_step {wr : World} {g : Nat} {T : TypeId} {blk : List UInt8} {n : Nat} (hn : n < 16) (h : wr.heap[g]? = some (.cells (wrow (w16s blk n)).toArray T (0, 0))) :
  (wr.setCell ⟨g, n, none⟩ (uv (w16 blk n))).heap[g]? = some (.cells (wrow (w16s blk (n + 1))).toArray T (0, 0)) := by
 have e := row_store h n (uv (w16 blk n))
 have e2 := wrow_set (w16s blk n) (w16 blk n) (by rw [w16s_length]; omega)
 rw [w16s_length] at e2
 rw [e2] at e
 exact e
theorem wcell {wr : World} {g : Nat} {T : TypeId} {l : List (BitVec 64)} (h : wr.heap[g]? = some (.cells (wrow l).toArray T (0, 0))) (i : Nat) (hi : i < l.length) :
  wr.cell? ⟨g, i, none⟩ = some (.int .u64 (U (l.getD i 0))) :=
 (cell_of_row wr g i _ _ _ h).trans (by simpa using wrow_get l i hi)
theorem cell_store_far {w : World} {g i j : Nat} {v u : Value} (h : w.cell? ⟨g, i, none⟩ = some u) (hne : j ≠ i) : (w.setCell ⟨g, j, none⟩ v).drew.cell? ⟨g, i, none⟩ = some u := by
 rw [World.cell?_drew, World.cell?_setCell_other _ _ _ _ (by intro e; exact hne (congrArg Addr.off e))]; exact h
set_option maxRecDepth 100000 in
set_option maxHeartbeats 4000000 in
theorem spread_any (b : Nat) (T : TypeId) (H : HS) (w : World) (h : Has w b T H) :
  Calls Tryz.prog 153 #[.pointer (some ⟨b, 0, none⟩)] w fun e w' => e = .returned (.agg (wrow (sch H.blk 64)).toArray) ∧ Below w.heap.size w w' := by
 have hz := zero80
 have HH : Hid (Has w b T H) := h
 have hb : b < w.heap.size := h.lt
 clear h
 go_enter Tryz.func153, Tryz.ntmps153
 go_wp2_with fail
 go_loopw [6] (fun i wr => ∃ k : Nat, k ≤ 16 ∧ i = .int .i64 k ∧ Hid (wr.heap[w.heap.size + 1]? = some (.cells (wrow (w16s H.blk k)).toArray 257 (0, 0))) ∧
   Hid (wr.heap[w.heap.size]? = some (.cells (wrow []).toArray 257 (0, 0))) ∧ Below w.heap.size w wr) (fun i _ => 16 - (intOf i).toNat)
 case atStart => exact ⟨0, Nat.zero_le _, rfl, heap_alloc2_new _ _ _, heap_alloc2_old _ _ _, ((Below.refl _ _).alloc (Nat.le_refl _) _).alloc (by simp) _⟩
 case round =>
  obtain ⟨k, hk, rfl, hr, hr0, hbel⟩ := hrel
  by_cases hlt : k < 16
  ·
   obtain ⟨v0, hv0⟩ := wrow_there (w16s H.blk k) k (by omega) (by rw [w16s_length]; omega)
   have hcell : wr.cell? ⟨w.heap.size + 1, k, none⟩ = some v0 := (cell_of_row wr (w.heap.size + 1) k _ _ _ hr.out).trans (by simpa using hv0)
   have hfr := frozen_of_row wr (w.heap.size + 1) k _ _ hr.out
   have hsl := slice128 b 8 (8 * (k : Int)) (8 * k) (by omega) (by omega)
   clear hv0 hz
   go_wp2_with fail
   refine (getBlk_any b k (128 - 8 * k) (128 - 8 * k) H _ (by omega) (by omega) ?_).mono ?_
   ·
    intro i hi
    have hc := HH.out.cell (8 + (8 * k + i))
    rw [H.row_blk (8 * k + i) (by rw [HH.out.len]; omega)] at hc
    rw [← Nat.add_assoc] at hc
    exact (hbel.cell (by exact hb)).trans hc
   ·
    rintro e w' ⟨rfl, rfl⟩
    go_wp2_with fail
    go_roundw
    case rel => exact ⟨k + 1, by omega, by go_num, w16_row_step hlt hr.out, row_store_far _ _ hr0.out (by omega), hbel.setCell (by simp) _⟩
    case measure => simp [intOf]; omega
  ·
   have hk16 : k = 16 := by omega
   have hr' : Hid (wr.heap[w.heap.size + 1]? = some (.cells (wrow (sch H.blk 0)).toArray 257 (0, 0))) := by have := hr.out; rw [hk16] at this; exact this
   have hk16' : (16 : Int) ≤ (k : Int) := by omega
   clear hz hr hk hk16 hlt
   go_wp2_with fail
   go_loopw [5] (fun i wr => ∃ n m : Nat, n ≤ 64 ∧ Hid (m = 16 + n) ∧ i = .int .i64 m ∧ Hid (wr.heap[w.heap.size + 1]? = some (.cells (wrow (sch H.blk n)).toArray 257 (0, 0))) ∧
    Hid (wr.heap[w.heap.size]? = some (.cells (wrow []).toArray 257 (0, 0))) ∧ Below w.heap.size w wr) (fun i _ => 80 - (intOf i).toNat)
   case atStart => exact ⟨0, 16, Nat.zero_le _, rfl, rfl, hr', hr0, hbel⟩
   case round =>
    clear hr' hr0 hbel
    obtain ⟨n, m, hn, hm, rfl, hr, hr0, hbel⟩ := hrel
    by_cases hlt : n < 64
    ·
     have hl := sch_length H.blk n
     have hm' := hm.out
     obtain ⟨m2, hm2⟩ : ∃ m2, m2 = n + 14 := ⟨_, rfl⟩
     obtain ⟨m7, hm7⟩ : ∃ m7, m7 = n + 9 := ⟨_, rfl⟩
     obtain ⟨m15, hm15⟩ : ∃ m15, m15 = n + 1 := ⟨_, rfl⟩
     have c2 := wcell hr.out m2 (by omega)
     have c7 := wcell hr.out m7 (by omega)
     have c15 := wcell hr.out m15 (by omega)
     have c16 := wcell hr.out n (by omega)
     have e2 : IntKind.i64.wrap ((m : Int) - 2) = (m2 : Int) := by rw [IntKind.wrap_i64]; omega
     have e7 : IntKind.i64.wrap ((m : Int) - 7) = (m7 : Int) := by rw [IntKind.wrap_i64]; omega
     have e15 : IntKind.i64.wrap ((m : Int) - 15) = (m15 : Int) := by rw [IntKind.wrap_i64]; omega
     have e16 : IntKind.i64.wrap ((m : Int) - 16) = (n : Int) := by rw [IntKind.wrap_i64]; omega
     have b2 : (m2 : Int) < 80 := by omega
     have b7 : (m7 : Int) < 80 := by omega
     have b15 : (m15 : Int) < 80 := by omega
     have b16 : (n : Int) < 80 := by omega
     have bm : (m : Int) < 80 := by omega
     have n2 : m ≠ m2 := by omega
     have n7 : m ≠ m7 := by omega
     have n15 : m ≠ m15 := by omega
     have n16 : m ≠ n := by omega
     obtain ⟨v0, hv0⟩ := wrow_there (sch H.blk n) m (by omega) (by rw [sch_length]; omega)
     have hcell := (cell_of_row _ (w.heap.size + 1) m _ _ _ hr.out).trans (by simpa using hv0)
     have hfr := frozen_of_row _ (w.heap.size + 1) m _ _ hr.out
     clear hv0
     generalize hx2 : (sch H.blk n).getD m2 0 = x2 at c2
     generalize hx7 : (sch H.blk n).getD m7 0 = x7 at c7
     generalize hx15 : (sch H.blk n).getD m15 0 = x15 at c15
     generalize hx16 : (sch H.blk n).getD n 0 = x16 at c16
     have HX : Hid (smallSigma1W x2 + x7 + smallSigma0W x15 + x16 = nextW (sch H.blk n) n) := by
      show _ = _
      unfold nextW; rw [← hx2, ← hx7, ← hx15, ← hx16, hm2, hm7, hm15]
     clear hx2 hx7 hx15 hx16 hl hm2 hm7 hm15 hm'
     go_wp2_with fail
     go_region_held3 (fun w' => w'.cell? ⟨w.heap.size + 1, m2, none⟩ = some (.int .u64 (U x2)) ∧ w'.cell? ⟨w.heap.size + 1, m7, none⟩ = some (.int .u64 (U x7)) ∧ w'.cell? ⟨w.heap.size + 1, m15, none⟩ = some (.int .u64 (U x15)) ∧ w'.cell? ⟨w.heap.size + 1, n, none⟩ = some (.int .u64 (U x16))) (first | exact ⟨cell_store_far c2 n2, cell_store_far c7 n7, cell_store_far c15 n15, cell_store_far c16 n16⟩ | go_keep)
      (first | (go_at_call 164; refine (smallSigma1_any x2 _).mono ?_; rintro e w' ⟨rfl, rfl⟩) | (go_at_call 165; refine (smallSigma0_any x15 _).mono ?_; rintro e w' ⟨rfl, rfl⟩))
     clear c2 c7 c15 c16 hcell hfr n2 n7 n15 n16 e2 e7 e15 e16 b2 b7 b15 b16
     go_wp2
     go_roundw
     case rel =>
      refine ⟨n + 1, m + 1, by omega, ?_, by go_num, ?_, row_store_far _ _ hr0.out (by omega), (hbel.setCell (by simp) _).drew⟩
      · have := hm.out; show m + 1 = 16 + (n + 1); omega
      · rw [HX.out, hm.out]; exact sch_row_step hlt hr.out
     case measure => simp [intOf]; omega
    ·
     obtain rfl : n = 64 := by omega
     have hm80 : m = 80 := hm.out
     have hm' : (80 : Int) ≤ (m : Int) := by omega
     clear hm hm80 hlt hn
     have hsz : (wrow (sch H.blk 64)).length = 80 := wrow_length _ (by rw [sch_length]; omega)
     have HS : Hid ((Tryz.prog.info? 257).map (·.size) = some (wrow (sch H.blk 64)).toArray.size) := by show _ = _; rw [size80]; simp [hsz]
     have HO : Hid ((wrow []).toArray.size = (wrow (sch H.blk 64)).toArray.size) := by show _ = _; simp [hsz, wrow_length]
     have HA : Hid ((wrow (sch H.blk 64)).toArray.all (·.oneCell') = true) := all_oneCell_toArray (wrow_cell _)
     clear hsz
     generalize hR : (wrow (sch H.blk 64)).toArray = R at *
     have HRq : Hid (R = (wrow (sch H.blk 64)).toArray) := hR.symm
     clear hR
     go_wp2_with (first | (refine wpList_load_row (by rfl) 257 (.tmp 3) (by rfl) (w.heap.size + 1) (by rfl) 257 R (0, 0) _ hr.out under80 rfl HS.out ?_) | (refine wpList_store_row (by rfl) 257 (.tmp 2) (.tmp 46) (by rfl) w.heap.size R (by rfl) (by rfl) 257 _ hr0.out HS.out HO.out HA.out ?_))
     refine bodyPost_ret (v := .agg R) (results_cell_row Tryz.results153 _ _ w.heap.size 257 R (0, 0) _ (by rfl) (setRow_heap _ _ _ _ _ _ hr0.out) under80 rfl HS.out) rfl ⟨by rw [HRq.out], below_setRow hbel (Nat.le_refl _) _⟩
end
end Go.Proofs.YtccgfabojbjmjaaGreatDoor
