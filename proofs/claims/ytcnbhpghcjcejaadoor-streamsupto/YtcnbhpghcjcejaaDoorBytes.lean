import Derived.Test.YtcnbhpghcjcejaaDoorLeaf
import Derived.Test.YtcnbhpghcjcejaaDoorHrow
/- filled, count, getWord, putWord. -/
namespace Go.Proofs.YtcnbhpghcjcejaaDoor
open Go.RowKit

theorem ret_i64 {a b : Int} (h : a = b) : Ending.returned (.int .i64 a) = .returned (.int .i64 b) := by rw [h]

/-- How many bytes wait. -/
def HS.filled (H : HS) : Nat := H.n % 128
theorem HS.filled_lo (H : HS) : H.lo.toNat % 128 = H.filled := by
  unfold HS.lo HS.filled; rw [BitVec.toNat_ofNat]; omega
theorem HS.filled_lt (H : HS) : H.filled < 128 := Nat.mod_lt _ (by decide)

theorem filled_num (lo : BitVec 64) : wrap64 ((U lo).tmod 128) = ((lo.toNat % 128 : Nat) : Int) := by
  have h1 : (U lo).tmod 128 = ((lo.toNat % 128 : Nat) : Int) := by unfold U; rw [Int.tmod_eq_emod_of_nonneg (by omega)]; omega
  rw [h1]; unfold wrap64; omega

section
attribute [local go_sem] U_and U_or U_xor U_not U_add U_add_one
set_option maxHeartbeats 400000 in
theorem filled_any (b : Nat) (T : TypeId) (H : HS) (w : World) (h : Has w b T H) :
    Calls Tryd.prog 20 #[.pointer (some ⟨b, 0, none⟩)] w fun e w' => e = .returned (.int .i64 H.filled) ∧ w' = w := by
  have h1 : w.cell? ⟨b, 137, none⟩ = some (.int .u64 (U H.lo)) := (h.cell 137).trans (H.row_lo h.len)
  clear h
  go_enter Tryd.func20, Tryd.ntmps20
  go_wp2
  go_ret
  exact ⟨ret_i64 ((filled_num _).trans (congrArg (fun x : Nat => (x : Int)) H.filled_lo)), rfl⟩
set_option maxHeartbeats 400000 in
theorem count_any (b : Nat) (T : TypeId) (H : HS) (z : Int) (n : Nat) (hz : z = n) (hn : n < 18446744073709551616) (w : World) (h : Has w b T H) :
    Calls Tryd.prog 21 #[.pointer (some ⟨b, 0, none⟩), .int .u64 z] w fun e w' => e = .returned (.tuple #[]) ∧ Has w' b T (H.count n) ∧ Turn b w w' := by
  have hz' : z = U (BitVec.ofNat 64 n) := by rw [hz, U_ofNat]; omega
  subst hz'
  clear hz
  have h1 : w.cell? ⟨b, 137, none⟩ = some (.int .u64 (U H.lo)) := (h.cell 137).trans (H.row_lo h.len)
  have h2 : w.cell? ⟨b, 136, none⟩ = some (.int .u64 (U H.hi)) := (h.cell 136).trans (H.row_hi h.len)
  have f1 := h.frozen 136
  have f2 := h.frozen 137
  have HL : Hid (H.lo + BitVec.ofNat 64 n = BitVec.ofNat 64 (H.n + n)) := lo_add _ _
  have HI : Hid (H.hi + 1#64 = BitVec.ofNat 64 (H.n / 18446744073709551616 + 1)) := lo_add _ 1
  have HH : Hid (Has w b T H) := h
  have HN : Hid (n < 18446744073709551616) := hn
  clear h hn
  generalize hx : BitVec.ofNat 64 n = x at *
  have HX : Hid (BitVec.ofNat 64 n = x) := hx
  clear hx
  go_enter Tryd.func21, Tryd.ntmps21
  go_wp2
  · go_end0
    have hlt : U (H.lo + x) < U x := by assumption
    refine ⟨rfl, ⟨?_, HH.out.len⟩, ((Turn.refl b w).setCell rfl _).setCell rfl _⟩
    rw [HL.out, ← HX.out, carry_iff _ _ HN.out] at hlt
    have e := row_store (row_store HH.out.heap 137 (uv (H.lo + x))) 136 (uv (H.hi + 1#64))
    rw [HL.out, HI.out, ← hlt, H.set_hi_lo HH.out.len] at e
    rw [HL.out, HI.out, ← hlt]
    exact e
  · go_end0
    have hge : U x ≤ U (H.lo + x) := by assumption
    refine ⟨rfl, ⟨?_, HH.out.len⟩, (Turn.refl b w).setCell rfl _⟩
    rw [HL.out, ← HX.out] at hge
    have hq := carry_not _ _ HN.out (Int.not_lt.mpr hge)
    have e := row_store HH.out.heap 137 (uv (H.lo + x))
    rw [HL.out, H.set_lo HH.out.len _ hq] at e
    rw [HL.out]
    exact e

/-- The first k bytes of a list as a number, the first one the greatest. -/
def be (f : Nat → UInt8) : Nat → BitVec 64
  | 0 => 0
  | k + 1 => be f k <<< 8 ||| BitVec.ofNat 64 (f k).toNat

theorem U_byte (c : UInt8) : C8 c = U (BitVec.ofNat 64 c.toNat) := by
  unfold C8 U; rw [BitVec.toNat_ofNat]; have := c.toNat_lt; omega
theorem U_shl8 (a : BitVec 64) : IntKind.u64.wrap (U a * 256) = U (a <<< 8) := U_shl a 8

theorem wrap_C8 (c : UInt8) : IntKind.u64.wrap (C8 c) = U (BitVec.ofNat 64 c.toNat) := by
  rw [← U_byte, IntKind.wrap_u64]; have := C8_nonneg c; have := C8_lt c; omega

set_option maxHeartbeats 400000 in
theorem getWord_any (b off n cap : Nat) (f : Nat → UInt8) (w : World) (hn : 8 ≤ n) (hm : n ≤ 9223372036854775807)
    (hc : ∀ i, i < 8 → w.cell? ⟨b, off + i, none⟩ = some (.int .u8 (C8 (f i)))) :
    Calls Tryd.prog 30 #[.slice (some ⟨b, off, none⟩) n cap] w fun e w' => e = .returned (.int .u64 (U (be f 8))) ∧ w' = w := by
  go_enter Tryd.func30, Tryd.ntmps30
  go_wp2
  go_loop [3, 5] (fun v i => ∃ k : Nat, k ≤ 8 ∧ i = .int .i64 k ∧ v = .int .u64 (U (be f k))) (fun _ i => 8 - (intOf i).toNat)
  case atStart => exact ⟨0, Nat.zero_le _, rfl, rfl⟩
  case round =>
    obtain ⟨k, hk, rfl, rfl⟩ := hrel
    by_cases hlt : k < 8
    · have hcell := hc k hlt
      clear hc
      have HE : Hid (bits BinOp.or IntKind.u64 (IntKind.u64.wrap (U (be f k) * 256)) (IntKind.u64.wrap (C8 (f k))) = U (be f (k + 1))) := by
        show _ = _
        rw [U_shl8, wrap_C8, U_or]; rfl
      go_wp2
      go_round
      case rel => exact ⟨k + 1, by omega, by go_num, congrArg (Value.int .u64) HE.out⟩
      case measure => simp [intOf]; omega
    · clear hc
      obtain rfl : k = 8 := by omega
      go_wp2
      go_ret
      exact ⟨rfl, rfl⟩

/-- A word's byte k, the first one the greatest. -/
def byteOf (x : BitVec 64) (k : Nat) : UInt8 := UInt8.ofNat (x >>> (56 - 8 * k)).toNat

theorem byte_num (x : BitVec 64) (n : Nat) : U x / 2 ^ n % 256 = C8 (UInt8.ofNat (x >>> n).toNat) := by
  rw [U_shr]; unfold U C8; rw [UInt8.toNat_ofNat']; omega

/-- 'cs' laid over a list from place 'off' on, the first k of them. -/
def lay (cs : List Value) (off : Nat) (x : BitVec 64) : Nat → List Value
  | 0 => cs
  | k + 1 => (lay cs off x k).set (off + k) (cv (byteOf x k))
theorem lay_length (cs : List Value) (off : Nat) (x : BitVec 64) (k : Nat) : (lay cs off x k).length = cs.length := by
  induction k with
  | zero => rfl
  | succ k ih => simp [lay, ih]

set_option maxHeartbeats 400000 in
theorem putWord_any (b off n cap : Nat) (T : TypeId) (cs : List Value) (x : BitVec 64) (w : World) (hn : 8 ≤ n) (hm : n ≤ 9223372036854775807)
    (hrow : w.heap[b]? = some (.cells cs.toArray T (0, 0))) (hfit : off + 8 ≤ cs.length) :
    Calls Tryd.prog 24 #[.slice (some ⟨b, off, none⟩) n cap, .int .u64 (U x)] w fun e w' => e = .returned (.tuple #[]) ∧ w'.heap[b]? = some (.cells (lay cs off x 8).toArray T (0, 0)) ∧ Turn b w w' := by
  have HR : Hid (w.heap[b]? = some (.cells cs.toArray T (0, 0))) := hrow
  clear hrow
  go_enter Tryd.func24, Tryd.ntmps24
  go_wp2
  go_loopw [5] (fun i wr => ∃ k : Nat, k ≤ 8 ∧ i = .int .i64 k ∧ Hid (wr.heap[b]? = some (.cells (lay cs off x k).toArray T (0, 0))) ∧ Turn b w wr) (fun i _ => 8 - (intOf i).toNat)
  case atStart => exact ⟨0, Nat.zero_le _, rfl, HR, Turn.refl _ _⟩
  case round =>
    obtain ⟨k, hk, rfl, hr, ht⟩ := hrel
    by_cases hlt : k < 8
    · have hkl : off + k < (lay cs off x k).length := by rw [lay_length]; omega
      obtain ⟨v0, hv0⟩ : ∃ v0, wr.cell? ⟨b, off + k, none⟩ = some v0 := ⟨_, (cell_of_row wr b (off + k) _ T _ hr.out).trans (by simp; exact List.getElem?_eq_getElem hkl)⟩
      have hfr := frozen_of_row wr b (off + k) _ T hr.out
      have HB : Hid (U x / 2 ^ (56 - 8 * k) % 256 = C8 (byteOf x k)) := byte_num x (56 - 8 * k)
      clear hkl
      go_wp2
      go_roundw
      case rel => exact ⟨k + 1, by omega, by go_num, by rw [HB.out]; exact row_store hr.out (off + k) _, ht.setCell rfl _⟩
      case measure => simp [intOf]; omega
    · obtain rfl : k = 8 := by omega
      go_wp2
      go_end0
      exact ⟨rfl, hr.out, ht⟩
end
end Go.Proofs.YtcnbhpghcjcejaaDoor
