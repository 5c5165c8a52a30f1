import Derived.Test.YtccgfabojbjmjaaGreatDoorRows
import Derived.Test.YtccgfabojbjmjaaGreatDoorLo00
import Derived.WalkSpells
import Derived.WalkLawsBesides
set_option maxRecDepth 100000
set_option maxHeartbeats 8000000
namespace Go.Proofs.YtccgfabojbjmjaaGreatDoor
open Go.RowKit
open Go.RowKit
def YM (x y z : BitVec 64) : BitVec 64 := x &&& y ^^^ ~~~x &&& z
def qaO (x y z : BitVec 64) : BitVec 64 := x &&& y ^^^ x &&& z ^^^ y &&& z
def qcA (x : BitVec 64) : BitVec 64 := x.rotateRight 28 ^^^ x.rotateRight 34 ^^^ x.rotateRight 39
def qau (x : BitVec 64) : BitVec 64 := x.rotateRight 14 ^^^ x.rotateRight 18 ^^^ x.rotateRight 41
def qam (x : BitVec 64) : BitVec 64 := x.rotateRight 1 ^^^ x.rotateRight 8 ^^^ x >>> 7
def qal (x : BitVec 64) : BitVec 64 := x.rotateRight 19 ^^^ x.rotateRight 61 ^^^ x >>> 6
section
attribute [local go_sem] y7 Ji JU Ye yh
theorem qjK (x y z : BitVec 64) (w : World) :
  Calls Tryz.prog 155 #[.int .u64 (U x), .int .u64 (U y), .int .u64 (U z)] w fun e w' => e = .returned (.int .u64 (U (YM x y z))) ∧ w' = w := by
 go_enter Tryz.func155, Tryz.ntmps155
 go_wp2
 go_ret
 exact ⟨rfl, rfl⟩
theorem qfA (x y z : BitVec 64) (w : World) :
  Calls Tryz.prog 157 #[.int .u64 (U x), .int .u64 (U y), .int .u64 (U z)] w fun e w' => e = .returned (.int .u64 (U (qaO x y z))) ∧ w' = w := by
 go_enter Tryz.func157, Tryz.ntmps157
 go_wp2
 go_ret
 exact ⟨rfl, rfl⟩
theorem qqi (n : Nat) (h0 : 0 < n) (h1 : n < 64) : bits .and .u64 (IntKind.u64.wrap (-(n : Int))) 63 = ((64 - n : Nat) : Int) := by
 have e : ∀ k : Fin 64, 0 < k.val → bits .and .u64 (IntKind.u64.wrap (-(k.val : Int))) 63 = ((64 - k.val : Nat) : Int) := by decide
 exact e ⟨n, h1⟩ h0
theorem qoP (x : BitVec 64) (n : Nat) (h1 : n < 64) : x <<< (64 - n) ||| x >>> n = x.rotateRight n := by
 rw [BitVec.rotateRight_def, z6 h1, BitVec.or_comm]
theorem qrj (x : BitVec 64) (n : Nat) (h0 : 0 < n) (h1 : n < 64) (w : World) :
  Calls Tryz.prog 172 #[.int .u64 (U x), .int .i64 (-(n : Int))] w fun e w' => e = .returned (.int .u64 (U (x.rotateRight n))) ∧ w' = w := by
 have e := qqi n h0 h1
 have hm : ((64 - n : Nat) : Int) = 64 - n := by omega
 rw [hm] at e
 have HF : Hid (bits BinOp.or IntKind.u64 (IntKind.u64.wrap (U x * 2 ^ (64 - n))) (U x / 2 ^ (64 - (64 - n))) = U (x.rotateRight n)) := by
  have h64 : 64 - (64 - n) = n := by omega
  show _ = _
  rw [h64, qmU, qj4, Ji, qoP x n h1]
 go_enter Tryz.func172, Tryz.ntmps172
 go_wp2
 go_ret
 exact ⟨congrArg (fun v => Ending.returned (.int .u64 v)) HF.o, rfl⟩
theorem YA (x : BitVec 64) (k : Int) (n : Nat) (hk : k = n) (h0 : 0 < n) (h1 : n < 64) (w : World) :
  Calls Tryz.prog 166 #[.int .u64 (U x), .int .i64 k] w fun e w' => e = .returned (.int .u64 (U (x.rotateRight n))) ∧ w' = w := by
 subst hk
 go_enter Tryz.func166, Tryz.ntmps166
 go_wp2_with (go_at_call 172; refine (qrj x n h0 h1 _).mono ?_; rintro e w' ⟨rfl, rfl⟩)
 go_ret
 exact ⟨rfl, rfl⟩
theorem qeW (x : BitVec 64) (w : World) :
  Calls Tryz.prog 156 #[.int .u64 (U x)] w fun e w' => e = .returned (.int .u64 (U (qcA x))) ∧ w' = w := by
 go_enter Tryz.func156, Tryz.ntmps156
 go_wp2_with fail
 refine (YA x 28 28 rfl (by omega) (by omega) _).mono ?_
 rintro e w' ⟨rfl, rfl⟩
 go_wp2_with fail
 refine (YA x 34 34 rfl (by omega) (by omega) _).mono ?_
 rintro e w' ⟨rfl, rfl⟩
 go_wp2_with fail
 refine (YA x 39 39 rfl (by omega) (by omega) _).mono ?_
 rintro e w' ⟨rfl, rfl⟩
 go_wp2
 go_ret
 exact ⟨rfl, rfl⟩
theorem qeL (x : BitVec 64) (w : World) :
  Calls Tryz.prog 154 #[.int .u64 (U x)] w fun e w' => e = .returned (.int .u64 (U (qau x))) ∧ w' = w := by
 go_enter Tryz.func154, Tryz.ntmps154
 go_wp2_with fail
 refine (YA x 14 14 rfl (by omega) (by omega) _).mono ?_
 rintro e w' ⟨rfl, rfl⟩
 go_wp2_with fail
 refine (YA x 18 18 rfl (by omega) (by omega) _).mono ?_
 rintro e w' ⟨rfl, rfl⟩
 go_wp2_with fail
 refine (YA x 41 41 rfl (by omega) (by omega) _).mono ?_
 rintro e w' ⟨rfl, rfl⟩
 go_wp2
 go_ret
 exact ⟨rfl, rfl⟩
theorem qiN (a : BitVec 64) : U a / (128 : Int) = U (a >>> 7) := qj4 a 7
theorem qhJ (a : BitVec 64) : U a / (64 : Int) = U (a >>> 6) := qj4 a 6
theorem qlW {a b : Int} (h : a = b) : Ending.returned (.int .u64 a) = .returned (.int .u64 b) := by rw [h]
theorem qdF (x : BitVec 64) (w : World) :
  Calls Tryz.prog 165 #[.int .u64 (U x)] w fun e w' => e = .returned (.int .u64 (U (qam x))) ∧ w' = w := by
 go_enter Tryz.func165, Tryz.ntmps165
 go_wp2_with fail
 refine (YA x 1 1 rfl (by omega) (by omega) _).mono ?_
 rintro e w' ⟨rfl, rfl⟩
 go_wp2_with fail
 refine (YA x 8 8 rfl (by omega) (by omega) _).mono ?_
 rintro e w' ⟨rfl, rfl⟩
 go_wp2
 go_ret
 exact ⟨qlW (by rw [qiN, JU]; rfl), rfl⟩
theorem qdI (x : BitVec 64) (w : World) :
  Calls Tryz.prog 164 #[.int .u64 (U x)] w fun e w' => e = .returned (.int .u64 (U (qal x))) ∧ w' = w := by
 go_enter Tryz.func164, Tryz.ntmps164
 go_wp2_with fail
 refine (YA x 19 19 rfl (by omega) (by omega) _).mono ?_
 rintro e w' ⟨rfl, rfl⟩
 go_wp2_with fail
 refine (YA x 61 61 rfl (by omega) (by omega) _).mono ?_
 rintro e w' ⟨rfl, rfl⟩
 go_wp2
 go_ret
 exact ⟨qlW (by rw [qhJ, JU]; rfl), rfl⟩
end
open Go.RowKit
theorem qpG {a b : Int} (h : a = b) : Ending.returned (.int .i64 a) = .returned (.int .i64 b) := by rw [h]
def HS.filled (H : HS) : Nat := H.n % 128
theorem HS.filled_lo (H : HS) : H.lo.toNat % 128 = H.filled := by
 unfold HS.lo HS.filled; rw [BitVec.toNat_ofNat]; omega
theorem HS.filled_lt (H : HS) : H.filled < 128 := Nat.mod_lt _ (by decide)
theorem qji (lo : BitVec 64) : wrap64 ((U lo).tmod 128) = ((lo.toNat % 128 : Nat) : Int) := by
 have h1 : (U lo).tmod 128 = ((lo.toNat % 128 : Nat) : Int) := by unfold U; rw [Int.tmod_eq_emod_of_nonneg (by omega)]; omega
 rw [h1]; unfold wrap64; omega
section
attribute [local go_sem] y7 Ji JU Ye yh Yr
theorem qcC (b : Nat) (T : TypeId) (H : HS) (w : World) (h : jw w b T H) :
  Calls Tryz.prog 125 #[zp b 0] w fun e w' => e = .returned (.int .i64 H.filled) ∧ w' = w := by
 have h1 : w.cell? ⟨b, 137, none⟩ = some (.int .u64 (U H.lo)) := (h.cell 137).trans (H.row_lo h.len)
 clear h
 go_enter Tryz.func125, Tryz.ntmps125
 go_wp2
 go_ret
 exact ⟨qpG ((qji _).trans (congrArg (fun x : Nat => (x : Int)) H.filled_lo)), rfl⟩
theorem qke (b : Nat) (T : TypeId) (H : HS) (z : Int) (n : Nat) (hz : z = n) (hn : n < 18446744073709551616) (w : World) (h : jw w b T H) :
  Calls Tryz.prog 126 #[zp b 0, .int .u64 z] w fun e w' => e = .returned (.tuple #[]) ∧ jw w' b T (H.count n) ∧ jl b w w' := by
 have hz' : z = U (BitVec.ofNat 64 n) := by rw [hz, qdh]; omega
 subst hz'
 clear hz
 have h1 : w.cell? ⟨b, 137, none⟩ = some (.int .u64 (U H.lo)) := (h.cell 137).trans (H.row_lo h.len)
 have h2 : w.cell? ⟨b, 136, none⟩ = some (.int .u64 (U H.hi)) := (h.cell 136).trans (H.row_hi h.len)
 have f1 := h.frozen 136
 have f2 := h.frozen 137
 have HL : Hid (H.lo + BitVec.ofNat 64 n = BitVec.ofNat 64 (H.n + n)) := qpg _ _
 have HI : Hid (H.hi + 1#64 = BitVec.ofNat 64 (H.n / 18446744073709551616 + 1)) := qpg _ 1
 have HH : Hid (jw w b T H) := h
 have HN : Hid (n < 18446744073709551616) := hn
 clear h hn
 generalize hx : BitVec.ofNat 64 n = x at *
 have HX : Hid (BitVec.ofNat 64 n = x) := hx
 clear hx
 go_enter Tryz.func126, Tryz.ntmps126
 go_wp2
 ·
  go_end0
  have hlt : U (H.lo + x) < U x := by assumption
  refine ⟨rfl, ⟨?_, HH.o.len⟩, ((jl.refl b w).setCell rfl _).setCell rfl _⟩
  rw [HL.o, ← HX.o, qko _ _ HN.o] at hlt
  have e := Qg (Qg HH.o.heap 137 (uv (H.lo + x))) 136 (uv (H.hi + 1#64))
  rw [HL.o, HI.o, ← hlt, H.set_hi_lo HH.o.len] at e
  rw [HL.o, HI.o, ← hlt]
  exact e
 ·
  go_end0
  have hge : U x ≤ U (H.lo + x) := by assumption
  refine ⟨rfl, ⟨?_, HH.o.len⟩, (jl.refl b w).setCell rfl _⟩
  rw [HL.o, ← HX.o] at hge
  have hq := qlg _ _ HN.o (Int.not_lt.mpr hge)
  have e := Qg HH.o.heap 137 (uv (H.lo + x))
  rw [HL.o, H.set_lo HH.o.len _ hq] at e
  rw [HL.o]
  exact e
def be (f : Nat → UInt8) : Nat → BitVec 64
 | 0 => 0
 | k + 1 => be f k <<< 8 ||| BitVec.ofNat 64 (f k).toNat
theorem qtq (c : UInt8) : C8 c = U (BitVec.ofNat 64 c.toNat) := by
 unfold C8 U; rw [BitVec.toNat_ofNat]; have := c.toNat_lt; omega
theorem qoX (a : BitVec 64) : IntKind.u64.wrap (U a * 256) = U (a <<< 8) := qmU a 8
theorem qmj (c : UInt8) : IntKind.u64.wrap (C8 c) = U (BitVec.ofNat 64 c.toNat) := by
 rw [← qtq, Zf]; have := J5 c; have := yt c; omega
theorem qgN (b off n cap : Nat) (f : Nat → UInt8) (w : World) (hn : 8 ≤ n) (hm : n ≤ 9223372036854775807)
  (hc : ∀ i, i < 8 → w.cell? ⟨b, off + i, none⟩ = some (.int .u8 (C8 (f i)))) :
  Calls Tryz.prog 163 #[.slice (some ⟨b, off, none⟩) n cap] w fun e w' => e = .returned (.int .u64 (U (be f 8))) ∧ w' = w := by
 go_enter Tryz.func163, Tryz.ntmps163
 go_wp2
 go_loop [3, 5] (fun v i => ∃ k : Nat, k ≤ 8 ∧ i = .int .i64 k ∧ v = .int .u64 (U (be f k))) (fun _ i => 8 - (intOf i).toNat)
 case atStart => exact ⟨0, Zc _, rfl, rfl⟩
 case round =>
  obtain ⟨k, hk, rfl, rfl⟩ := hrel
  by_cases hlt : k < 8
  ·
   have hcell := hc k hlt
   clear hc
   have HE : Hid (bits BinOp.or IntKind.u64 (IntKind.u64.wrap (U (be f k) * 256)) (IntKind.u64.wrap (C8 (f k))) = U (be f (k + 1))) := by
    show _ = _
    rw [qoX, qmj, Ji]; rfl
   go_wp2
   go_round
   case rel => exact ⟨k + 1, by omega, by go_num, congrArg (Value.int .u64) HE.o⟩
   case measure => simp [intOf]; omega
  ·
   clear hc
   obtain rfl : k = 8 := by omega
   go_wp2
   go_ret
   exact ⟨rfl, rfl⟩
def ZD (x : BitVec 64) (k : Nat) : UInt8 := UInt8.ofNat (x >>> (56 - 8 * k)).toNat
theorem qiQ (x : BitVec 64) (n : Nat) : U x / 2 ^ n % 256 = C8 (UInt8.ofNat (x >>> n).toNat) := by
 rw [qj4]; unfold U C8; rw [UInt8.toNat_ofNat']; omega
def yg (cs : List Value) (off : Nat) (x : BitVec 64) : Nat → List Value
 | 0 => cs
 | k + 1 => (yg cs off x k).set (off + k) (cv (ZD x k))
theorem qjk (cs : List Value) (off : Nat) (x : BitVec 64) (k : Nat) : (yg cs off x k).length = cs.length := by
 induction k with
 | zero => rfl
 | succ k ih => simp [yg, ih]
theorem qai (b off n cap : Nat) (T : TypeId) (cs : List Value) (x : BitVec 64) (w : World) (hn : 8 ≤ n) (hm : n ≤ 9223372036854775807)
  (hrow : w.heap[b]? = some (.cells cs.toArray T (0, 0))) (hfit : off + 8 ≤ cs.length) :
  Calls Tryz.prog 129 #[.slice (some ⟨b, off, none⟩) n cap, .int .u64 (U x)] w fun e w' => e = .returned (.tuple #[]) ∧ w'.heap[b]? = some (.cells (yg cs off x 8).toArray T (0, 0)) ∧ jl b w w' := by
 have HR : Hid (w.heap[b]? = some (.cells cs.toArray T (0, 0))) := hrow
 clear hrow
 go_enter Tryz.func129, Tryz.ntmps129
 go_wp2
 go_loopw [5] (fun i wr => ∃ k : Nat, k ≤ 8 ∧ i = .int .i64 k ∧ Hid (wr.heap[b]? = some (.cells (yg cs off x k).toArray T (0, 0))) ∧ jl b w wr) (fun i _ => 8 - (intOf i).toNat)
 case atStart => exact ⟨0, Zc _, rfl, HR, jl.refl _ _⟩
 case round =>
  obtain ⟨k, hk, rfl, hr, ht⟩ := hrel
  by_cases hlt : k < 8
  ·
   have hkl : off + k < (yg cs off x k).length := by rw [qjk]; omega
   obtain ⟨v0, hv0⟩ : ∃ v0, wr.cell? ⟨b, off + k, none⟩ = some v0 := ⟨_, (zj wr b (off + k) _ T _ hr.o).trans (by simp; exact zO hkl)⟩
   have hfr := frozen_of_row wr b (off + k) _ T hr.o
   have HB : Hid (U x / 2 ^ (56 - 8 * k) % 256 = C8 (ZD x k)) := qiQ x (56 - 8 * k)
   clear hkl
   go_wp2
   go_roundw
   case rel => exact ⟨k + 1, by omega, by go_num, by rw [HB.o]; exact Qg hr.o (off + k) _, ht.setCell rfl _⟩
   case measure => simp [intOf]; omega
  ·
   obtain rfl : k = 8 := by omega
   go_wp2
   go_end0
   exact ⟨rfl, hr.o, ht⟩
end
end Go.Proofs.YtccgfabojbjmjaaGreatDoor
