import Derived.Test.YtccgfabojbjmjaaGreatDoorPx43
import Derived.MapKept
import Derived.Test.YtccgfabojbjmjaaGreatDoorPx42
namespace Go.Proofs.YtccgfabojbjmjaaGreatDoor
open Go.RowKit
theorem lkS_len {s : ByteArray} (h : s.size = 32) : (lkS s).size = 32 := by unfold lkS; rw [if_pos h, strOf_size, leB_length]
theorem lsS_len {s : ByteArray} (h : s.size = 32) (m : ByteArray) : (lsS s m).size = 64 := by unfold lsS; rw [if_pos h, strOf_size, List.length_append, leB_length, leB_length]
section
attribute [local irreducible] lkS lkE lsS
set_option maxRecDepth 100000 in
set_option maxHeartbeats 1000000 in
theorem signedK (s m : ByteArray) (hs : s.size = 32) (hm : m.size ≤ maxLen) (w : World) (hG : GlB w) (hK : Tab w) (hO : OrdAt w) (hE : w.cell? ⟨3, 0, none⟩ = some (rtV 66)) :
  Calls Tryz.prog 17 #[.string s, .string m] w fun e w' => e = .returned (.tuple #[.string (lkS s), .string (lsS s m), .bool true]) ∧ Below w.heap.size w w' := by
 have HG := hide hG
 have HK := hide hK
 have HO := hide hO
 have HE := hide hE
 have Hm := hide hm
 have E0 : lkE s = 0 := by unfold lkE; rw [if_pos hs]
 have L1 := lkS_len hs
 have L2 := lsS_len hs m
 have tE : ∀ {W}, Below w.heap.size w W → W.cell? ⟨3, 0, none⟩ = some (rtV 66) := fun h => (h.cell (World.block_lt_of_cell? w _ HE.out)).trans HE.out
 clear hG hK hO hE hm hs
 go_enter Tryz.func17, Tryz.ntmps17
 go_wp2_with fail
 refine (latchKeyA s w HG.out HK.out HE.out).mono ?_
 rintro e W1 ⟨rfl, hB⟩
 have B1 := hide hB
 clear hB
 obtain ⟨T, HT⟩ : ∃ T, Hid (T = lkS s) := ⟨_, hide rfl⟩
 rw [← HT.out] at L1 ⊢
 rw [E0]
 go_wp2_with fail
 refine (latchSignA s m Hm.out W1 (HG.out.keep B1.out) (HK.out.below B1.out HK.out.lt) (HO.out.below B1.out HO.out.lt) (tE B1.out)).mono ?_
 rintro e W2 ⟨rfl, hB⟩
 have B2 := hide (B1.out.trans (hB.mono B1.out.size))
 clear hB B1 tE
 obtain ⟨U, HU⟩ : ∃ T, Hid (T = lsS s m) := ⟨_, hide rfl⟩
 rw [← HU.out] at L2 ⊢
 rw [E0]
 clear E0
 have l1 : (T.size : Int) = 32 := by rw [L1]; rfl
 have l2 : (U.size : Int) = 64 := by rw [L2]; rfl
 go_wp2_with fail
 try go_region
 try go_wp2_with fail
 go_returns
 exact ⟨by rw [← HT.out, ← HU.out]; rfl, B2.out⟩
end
def strOfH (l : List UInt8) : ByteArray := ⟨l.toArray⟩
theorem underU8H : Tryz.prog.underlying 5 = some (.int .u8) := by kernel_rfl
theorem underStrH : Tryz.prog.underlying 9 = some .string := by kernel_rfl
theorem conv64 (w : World) (q : Nat) (l : List UInt8) (hl : l.length = 64) (T : TypeId) (h : w.heap[q]? = some (.cells (l.map cv).toArray T (0, 0))) :
  (convert 89 9 (.slice (some ⟨q, 0, none⟩) 64 64)).run Tryz.prog w = .ok (.string (strOfH l)) w := by
 have e := run_convert_bytes_back (P := Tryz.prog) w 89 9 5 ⟨q, 0, none⟩ 64 l sizeSl39 underU8H underStrH (fun i hi => by
  rw [Addr.add_mid, Nat.zero_add, cell_of_row w q i _ T _ h]
  simp [hi, C8])
 rw [hl] at e
 exact e
section
set_option maxRecDepth 100000 in
set_option maxHeartbeats 4000000 in
theorem hash_any (s : ByteArray) (w : World) (hK : Tab w) (hs : s.size ≤ maxLen) :
  Calls Tryz.prog 20 #[.string s] w fun e w' => e = .returned (.string (strOfH (hashOf (bytesOfH s)))) ∧ Below w.heap.size w w' := by
 have hz := zero64
 have HK : Hid (Tab w) := hK
 clear hK
 go_enter Tryz.func20, Tryz.ntmps20
 go_wp2_with fail
 refine (of_any s w HK.out hs).mono ?_
 rintro e W1 ⟨rfl, hB1⟩
 obtain ⟨L, HL⟩ : ∃ L, Hid (L = hashOf (bytesOfH s)) := ⟨_, rfl⟩
 rw [← HL.out]
 have hLl : L.length = 64 := by rw [HL.out, hashOf_length]
 have HSz : Hid ((Tryz.prog.info? 102).map (·.size) = some (L.map cv).toArray.size) := by show _ = _; rw [size64H]; simp [hLl]
 have HO : Hid (z64H.size = (L.map cv).toArray.size) := by show _ = _; simp [hLl]; rfl
 have HA : Hid ((L.map cv).toArray.all (·.oneCell') = true) := all_oneCell_toArray (cvs_cell _)
 have HB1 := hide hB1
 have hsl := fun q => slice64_all q 0
 have hcv : (convert 89 9 (.slice (some ⟨W1.heap.size, 0, none⟩) 64 64)).run Tryz.prog ((W1.alloc (.cells z64H 102)).setRow W1.heap.size (L.map cv).toArray) = .ok (.string (strOfH L)) ((W1.alloc (.cells z64H 102)).setRow W1.heap.size (L.map cv).toArray) :=
  conv64 _ _ L hLl 102 (setRow_heap _ _ _ _ _ _ (heap_alloc_new _ _))
 clear hB1 hLl
 generalize hC : (L.map cv).toArray = C at *
 clear hC
 go_wp2_with (first | (refine wpList_store_row (by rfl) 102 (.tmp 3) (.tmp 5) (by rfl) W1.heap.size C (by rfl) (by rfl) 102 _ (heap_alloc_new _ _) HSz.out HO.out HA.out ?_))
 go_ret
 exact ⟨by rw [← HL.out]; rfl, below_setRow (HB1.out.alloc HB1.out.size _) HB1.out.size _⟩
end
def meE (b : Nat) (x : Nat × Nat) : MapEntry := { key := .agg (bA x.1), val := .agg (pubA b x.1 (pofF x.1)), born := x.2 }
def meL (b : Nat) (l : List (Nat × Nat)) : List MapEntry := l.map (meE b)
def meA (b : Nat) (l : List (Nat × Nat)) : Array MapEntry := (meL b l).toArray
abbrev big : Nat := 115792089237316195423570985008687907853269984665640564039457584007913129639936
theorem underCodeK : Tryz.prog.underlying 62 = some (.array 32 5) := by kernel_rfl
theorem underMapP : Tryz.prog.underlying 117 = some (.map 62 153) := by kernel_rfl
theorem ckKey (e : Bool) (m : Nat) (w : World) : (Instr.checkKey e 10000 62 (.agg (bA m))).run Tryz.prog w = .ok () w := by kernel_rfl
theorem eqKey (m n : Nat) (hm : m < big) (hn : n < big) (w : World) : (Op.equal 62 (.agg (bA m)) (.agg (bA n))).run Tryz.prog w = .ok (decide (m = n)) w := eqCode m n hm hn w
def whereK (m : Nat) : List (Nat × Nat) → Nat → Option Nat
 | [], _ => none
 | x :: l, i => if m = x.1 then some i else whereK m l (i + 1)
theorem run_asking (b m : Nat) (hm : m < big) (w : World) : ∀ (l : List (Nat × Nat)) (i : Nat), (∀ x ∈ l, x.1 < big) →
  (Instr.findAsking 62 (.agg (bA m)) (meL b l) i).run Tryz.prog w = .ok ((whereK m l i).map (fun j => (j, Value.agg (pubA b m (pofF m))))) w
 | [], i, _ => rfl
 | x :: l, i, h => by
  have hx := h x (List.mem_cons_self ..)
  have ih := run_asking b m hm w l (i + 1) (fun y hy => h y (List.mem_cons_of_mem _ hy))
  have e := eqKey m x.1 hm hx w
  unfold whereK
  show (Instr.findAsking 62 (.agg (bA m)) (meE b x :: meL b l) i).run Tryz.prog w = _
  unfold Instr.findAsking
  rw [Sem.run_bind, show (meE b x).key = .agg (bA x.1) from rfl, e, Result.andThen_ok]
  by_cases c : m = x.1
  · rw [decide_eq_true c, if_pos c, if_pos rfl, show (meE b x).val = .agg (pubA b x.1 (pofF x.1)) from rfl, ← c]; rfl
  · rw [decide_eq_false c, if_neg c, if_neg (by decide)]; exact ih
theorem run_findK (b m : Nat) (hm : m < big) (l : List (Nat × Nat)) (h : ∀ x ∈ l, x.1 < big) (w : World) :
  (Instr.findKey 62 (.agg (bA m)) (meL b l)).run Tryz.prog w = .ok ((whereK m l 0).map (fun j => (j, Value.agg (pubA b m (pofF m))))) w := by
 unfold Instr.findKey
 rw [Sem.run_bind, run_underlying underCodeK, Result.andThen_ok]
 cases l with
 | nil => rfl
 | cons x l => exact run_asking b m hm w (x :: l) 0 h
theorem whereK_has {m : Nat} : ∀ {l : List (Nat × Nat)} {i : Nat}, (∃ x ∈ l, x.1 = m) → ∃ j, whereK m l i = some j
 | x :: l, i, h => by
  unfold whereK
  by_cases c : m = x.1
  · exact ⟨i, by rw [if_pos c]⟩
  ·
   rw [if_neg c]
   obtain ⟨y, hy, e⟩ := h
   refine whereK_has ⟨y, ?_, e⟩
   rcases List.mem_cons.1 hy with rfl | h2
   · exact absurd e.symm c
   · exact h2
theorem whereK_not {m : Nat} : ∀ {l : List (Nat × Nat)} {i : Nat}, (∀ x ∈ l, x.1 ≠ m) → whereK m l i = none
 | [], _, _ => rfl
 | x :: l, i, h => by
  unfold whereK
  rw [if_neg (fun c => h x (List.mem_cons_self ..) c.symm)]
  exact whereK_not (fun y hy => h y (List.mem_cons_of_mem _ hy))
theorem run_look_yes (b m r clock : Nat) (hm : m < big) (l : List (Nat × Nat)) (h : ∀ x ∈ l, x.1 < big) (hx : ∃ x ∈ l, x.1 = m) (w : World) (hr : w.heap[r]? = some (.map (meA b l) clock)) :
  (Instr.lookup 117 (.map (some r)) (.agg (bA m)) true).run Tryz.prog w = .ok (.tuple #[.agg (pubA b m (pofF m)), .bool true]) w := by
 obtain ⟨j, hj⟩ := whereK_has (i := 0) hx
 have e := run_findK b m hm l h w
 rw [hj] at e
 simp [Instr.lookup, run_underlying underMapP, MapKept.run_getObj_map hr, ckKey, meA, e, Result.andThen]
theorem run_look_no (b m r clock : Nat) (hm : m < big) (l : List (Nat × Nat)) (h : ∀ x ∈ l, x.1 < big) (hx : ∀ x ∈ l, x.1 ≠ m) (w : World) (hr : w.heap[r]? = some (.map (meA b l) clock)) :
  (Instr.lookup 117 (.map (some r)) (.agg (bA m)) true).run Tryz.prog w = .ok (.tuple #[.agg pubZ, .bool false]) w := by
 have e := run_findK b m hm l h w
 rw [whereK_not hx] at e
 have hz := zeroPub w
 simp [Instr.lookup, run_underlying underMapP, MapKept.run_getObj_map hr, ckKey, meA, e, hz, Result.andThen]
theorem run_put_new (b m r clock : Nat) (hm : m < big) (l : List (Nat × Nat)) (h : ∀ x ∈ l, x.1 < big) (hx : ∀ x ∈ l, x.1 ≠ m) (w : World) (hr : w.heap[r]? = some (.map (meA b l) clock)) :
  (Instr.mapUpdate 117 (.map (some r)) (.agg (bA m)) (.agg (pubA b m (pofF m)))).run Tryz.prog w = .ok () { w with heap := w.heap.setIfInBounds r (.map (meA b (l ++ [(m, clock)])) (clock + 1)) } := by
 have e := run_findK b m hm l h w
 rw [whereK_not hx] at e
 have e2 : (meA b l).push { key := .agg (bA m), val := .agg (pubA b m (pofF m)), born := clock } = meA b (l ++ [(m, clock)]) := by simp [meA, meL, meE]
 simp [Instr.mapUpdate, run_underlying underMapP, MapKept.run_getObj_map hr, ckKey, meA, e, MapKept.run_setObj_map _ hr, Result.andThen]
 simpa [meA] using congrArg (fun z => ({ w with heap := w.heap.setIfInBounds r (.map z (clock + 1)) } : World)) e2
def le4 (s : ByteArray) (k : Nat) : Nat := valLE ((bytesOf s).take k)
theorem valLE_snocI (l : List UInt8) (c : UInt8) : valLE (l ++ [c]) = valLE l + c.toNat * 256 ^ l.length := by
 induction l with
 | nil => simp [valLE]
 | cons d l ih =>
  simp only [List.cons_append, valLE, List.length_cons, ih, Nat.pow_succ]
  rw [Nat.mul_add, ← Nat.mul_assoc, Nat.mul_comm 256 (c.toNat), Nat.mul_assoc, Nat.mul_comm 256 (256 ^ l.length)]
  omega
theorem le4_step (s : ByteArray) (k : Nat) (h : k < s.size) : le4 s (k + 1) = le4 s k + ((bytesOf s).getD k 0).toNat * 256 ^ k := by
 have hk : k < (bytesOf s).length := by rw [bytesOf_length]; exact h
 unfold le4
 rw [List.take_succ_eq_append_getElem hk, valLE_snocI, List.length_take, Nat.min_eq_left (Nat.le_of_lt hk), List.getD_eq_getElem?_getD, List.getElem?_eq_getElem hk, Option.getD_some]
theorem le4_lt (s : ByteArray) (k : Nat) (h : k ≤ s.size) : le4 s k < 256 ^ k := by
 have := valLE_lt ((bytesOf s).take k)
 rw [List.length_take, bytesOf_length, Nat.min_eq_left h] at this
 exact this
theorem bits_or32 (a b : Nat) (ha : a < 4294967296) (hb : b < 4294967296) : bits .or .u32 (a : Int) (b : Int) = ((a ||| b : Nat) : Int) := by
 have hx : a ||| b < 2 ^ 32 := Nat.or_lt_two_pow (by omega) (by omega)
 have h1 : (BitVec.ofInt 32 (a : Int)).toNat = a := by
  rw [BitVec.ofInt_natCast, BitVec.toNat_ofNat]; exact Nat.mod_eq_of_lt (by omega)
 have h2 : (BitVec.ofInt 32 (b : Int)).toNat = b := by
  rw [BitVec.ofInt_natCast, BitVec.toNat_ofNat]; exact Nat.mod_eq_of_lt (by omega)
 show IntKind.u32.wrap ((BitVec.ofInt 32 (a : Int) ||| BitVec.ofInt 32 (b : Int)).toNat : Int) = _
 rw [BitVec.toNat_or, h1, h2, IntKind.wrap_u32]
 omega
theorem or4 (x : Nat) (c : UInt8) (r M : Nat) (hM : M = 2 ^ (8 * r)) (hx : x < M) (hr : M ≤ 16777216) (z : Int) (hz : z = ((c.toNat * M : Nat) : Int)) : bits .or .u32 (x : Int) z = ((x + c.toNat * M : Nat) : Int) := by
 have hy := c.toNat_lt
 have b2 : c.toNat * M ≤ 255 * 16777216 := Nat.mul_le_mul (by omega) hr
 rw [hz, bits_or32 _ _ (by omega) (by omega)]
 congr 1
 rw [Nat.or_comm, Nat.add_comm, Nat.mul_comm, hM]
 rw [hM] at hx
 exact (Nat.two_pow_add_eq_or_of_lt hx _).symm
theorem ofImage_any (what : ByteArray) (c : Int) (w : World) : Calls Tryz.prog 132 #[.string what, .int .i64 c] w fun e w' => e = .returned (atE what (imI c)) ∧ w' = w := by
 go_enter Tryz.func132, Tryz.ntmps132
 go_wp2
 go_ret
 exact ⟨rfl, rfl⟩
theorem isSize_any (a b : Int) (ha : 0 ≤ a) (ha2 : a < 4294967296) (hb : 0 ≤ b) (hb2 : b < 9223372036854775807) (w : World) : Calls Tryz.prog 158 #[.int .u32 a, .int .i64 b] w fun e w' => e = .returned (.bool (decide (a = b))) ∧ w' = w := by
 have e1 : IntKind.u64.wrap a = a := by rw [IntKind.wrap_u64]; omega
 have e2 : IntKind.u64.wrap b = b := by rw [IntKind.wrap_u64]; omega
 go_enter Tryz.func158, Tryz.ntmps158
 go_wp2
 go_ret
 exact ⟨rfl, rfl⟩
set_option maxHeartbeats 800000 in
theorem little_any (s : ByteArray) (hs : s.size = 4) (w : World) : Calls Tryz.prog 131 #[.string s] w fun e w' => e = .returned (.int .u32 (le4 s 4 : Nat)) ∧ w' = w := by
 have i0 : ∀ w, (Instr.index 9 (.string s) (.int .i64 0)).run Tryz.prog w = .ok (.int .u8 (C8 ((bytesOf s).getD 0 0))) w := strAt s 0 (by omega)
 have i1 : ∀ w, (Instr.index 9 (.string s) (.int .i64 1)).run Tryz.prog w = .ok (.int .u8 (C8 ((bytesOf s).getD 1 0))) w := strAt s 1 (by omega)
 have i2 : ∀ w, (Instr.index 9 (.string s) (.int .i64 2)).run Tryz.prog w = .ok (.int .u8 (C8 ((bytesOf s).getD 2 0))) w := strAt s 2 (by omega)
 have i3 : ∀ w, (Instr.index 9 (.string s) (.int .i64 3)).run Tryz.prog w = .ok (.int .u8 (C8 ((bytesOf s).getD 3 0))) w := strAt s 3 (by omega)
 obtain ⟨c0, Hc0⟩ : ∃ c, Hid ((bytesOf s).getD 0 0 = c) := ⟨_, hide rfl⟩
 obtain ⟨c1, Hc1⟩ : ∃ c, Hid ((bytesOf s).getD 1 0 = c) := ⟨_, hide rfl⟩
 obtain ⟨c2, Hc2⟩ : ∃ c, Hid ((bytesOf s).getD 2 0 = c) := ⟨_, hide rfl⟩
 obtain ⟨c3, Hc3⟩ : ∃ c, Hid ((bytesOf s).getD 3 0 = c) := ⟨_, hide rfl⟩
 rw [Hc0.out] at i0
 rw [Hc1.out] at i1
 rw [Hc2.out] at i2
 rw [Hc3.out] at i3
 go_enter Tryz.func131, Tryz.ntmps131
 go_wp2
 go_loopw [3, 5] (fun v i wr => ∃ (k : Nat) (z : Int), k ≤ 4 ∧ i = .int .i64 k ∧ v = .int .u32 z ∧ Hid (z = (le4 s k : Nat)) ∧ wr = w) (fun _ i _ => 4 - (intOf i).toNat)
 case atStart => exact ⟨0, 0, Nat.zero_le _, rfl, rfl, hide rfl, rfl⟩
 case round =>
  obtain ⟨k, z, hk, rfl, rfl, Z, rfl⟩ := hrel
  by_cases hlt : k < 4
  ·
   obtain rfl | rfl | rfl | rfl : k = 0 ∨ k = 1 ∨ k = 2 ∨ k = 3 := by omega
   ·
    have e := le4_step s 0 (by omega)
    rw [Hc0.out] at e
    go_wp2_with fail
    refine ⟨⟨1, _, by decide, rfl, rfl, ?_, trivial⟩, by decide⟩
    show _ = _
    rw [Z.out, or4 _ c0 0 1 rfl (le4_lt s 0 (by omega)) (by decide) _ (by have := c0.toNat_lt; unfold C8; omega), e]
   ·
    have e := le4_step s 1 (by omega)
    rw [Hc1.out] at e
    go_wp2_with fail
    refine ⟨⟨2, _, by decide, rfl, rfl, ?_, trivial⟩, by decide⟩
    show _ = _
    rw [Z.out, or4 _ c1 1 256 rfl (le4_lt s 1 (by omega)) (by decide) _ (by have := c1.toNat_lt; unfold C8; omega), e]
   ·
    have e := le4_step s 2 (by omega)
    rw [Hc2.out] at e
    go_wp2_with fail
    refine ⟨⟨3, _, by decide, rfl, rfl, ?_, trivial⟩, by decide⟩
    show _ = _
    rw [Z.out, or4 _ c2 2 65536 rfl (le4_lt s 2 (by omega)) (by decide) _ (by have := c2.toNat_lt; unfold C8; omega), e]
   ·
    have e := le4_step s 3 (by omega)
    rw [Hc3.out] at e
    go_wp2_with fail
    refine ⟨⟨4, _, by decide, rfl, rfl, ?_, trivial⟩, by decide⟩
    show _ = _
    rw [Z.out, or4 _ c3 3 16777216 rfl (le4_lt s 3 (by omega)) (by decide) _ (by have := c3.toNat_lt; unfold C8; omega), e]
  ·
   obtain rfl : k = 4 := by omega
   go_wp2_with fail
   go_returns
   exact ⟨by rw [Z.out]; rfl, rfl⟩
def mgT : ByteArray := ⟨#[76, 65, 84, 67, 72, 73, 77, 71]⟩
theorem mg_list : mgT.toList = [76, 65, 84, 67, 72, 73, 77, 71] := by rw [ByteArray.toList_eq]; rfl
def hdT : ByteArray := ⟨#[116, 104, 101, 32, 104, 101, 97, 100]⟩
def mcT : ByteArray := ⟨#[116, 104, 101, 32, 109, 97, 103, 105, 99]⟩
def rsT47 : ByteArray := ⟨#[116, 104, 101, 32, 104, 101, 97, 100, 39, 115, 32, 114, 101, 115, 116]⟩
def zeT : ByteArray := ⟨#[116, 104, 101, 32, 115, 105, 122, 101]⟩
def z47 : List UInt8 := List.replicate 47 0
theorem zero47 (w : World) : (zeroValue 261).run Tryz.prog w = .ok (.agg (z47.map cv).toArray) w := by kernel_rfl
theorem under47 : Tryz.prog.underlying 261 = some (.array 47 5) := by kernel_rfl
theorem size47 : (Tryz.prog.info? 261).map (·.size) = some 47 := by kernel_rfl
theorem arr47 (b o cap : Nat) (w : World) : (Instr.arrayAt 261 (.slice (some ⟨b, o, none⟩) 47 cap)).run Tryz.prog w = .ok (.pointer (some ⟨b, o, none⟩)) w := by
 simp [Instr.arrayAt, run_underlying under47]
theorem size8w (w : World) : (sizeOf 5).run Tryz.prog w = .ok 1 w := by
 cases hq : Tryz.prog.info? 5 with
 | none => have := sizeOf8; rw [hq] at this; cases this
 | some inf =>
  have hi : inf.size = 1 := by have := sizeOf8; rw [hq] at this; simpa using this
  simp [sizeOf, typeInfo, hq, hi]
theorem eq47 (x y : List UInt8) (hx : x.length = 47) (hy : y.length = 47) (w : World) : (Op.equalIn 10000 261 (.agg (x.map cv).toArray) (.agg (y.map cv).toArray)).run Tryz.prog w = .ok (x == y) w :=
 run_equalIn_bytes (P := Tryz.prog) w 9998 261 5 47 under47 under8' size8w x y hx hy
theorem str_nebI {a b : ByteArray} (h : a ≠ b) : (a.toList == b.toList) = false := by
 rw [beq_eq_false_iff_ne]
 intro e
 rw [ByteArray.toList_eq, ByteArray.toList_eq] at e
 exact h (by rw [← strOf_bytesOf a, ← strOf_bytesOf b]; exact congrArg strOf e)
theorem bytes_sub (s : ByteArray) (a b : Nat) : bytesOf (s.extract a b) = ((bytesOf s).drop a).take (b - a) := by
 unfold bytesOf
 simp only [ByteArray.data_extract, Array.toList_extract, List.extract_eq_take_drop]
theorem sub_size (s : ByteArray) (a b : Nat) (h : b ≤ s.size) : (s.extract a b).size = b - a := by
 rw [← bytesOf_length, bytes_sub, List.length_take, List.length_drop, bytesOf_length]; omega
noncomputable def mkE (s : ByteArray) : Value :=
 if s.size < 192 then atE hdT (imI 5) else if s.extract 0 8 = mgT then (if bytesOf (s.extract 17 64) = z47 then (if le4 (s.extract 12 16) 4 = s.size - 192 then .nilIface else atE zeT (imI 8)) else atE rsT47 (imI 7)) else atE mcT (imI 6)
set_option maxRecDepth 100000 in
set_option maxHeartbeats 2000000 in
theorem checkMake_any (s : ByteArray) (hm : s.size ≤ maxLen) (w : World) : Calls Tryz.prog 130 #[.string s] w fun e w' => e = .returned (mkE s) ∧ Below w.heap.size w w' := by
 have Hm := hide hm
 clear hm
 have hz := zero47
 go_enter Tryz.func130, Tryz.ntmps130
 by_cases h1 : s.size < 192
 ·
  have EE : Hid (mkE s = atE hdT (imI 5)) := by show _ = _; unfold mkE; rw [if_pos h1]
  have h1' : (s.size : Int) < 192 := by omega
  clear h1
  go_wp2_with fail
  refine (ofImage_any hdT 5 _).mono ?_
  rintro e W1 ⟨rfl, hw⟩
  have hw' := hw.symm
  subst hw'
  clear hw
  go_wp2_with fail
  go_returns
  exact ⟨by rw [EE.out]; rfl, Below.refl _ _⟩
 have h1' : (192 : Int) ≤ (s.size : Int) := by omega
 have h8 : (8 : Int) ≤ (s.size : Int) := by omega
 have h64 : (64 : Int) ≤ (s.size : Int) := by omega
 have h16 : (16 : Int) ≤ (s.size : Int) := by omega
 have H192 : Hid (192 ≤ s.size) := by show _ ≤ _; omega
 clear h1
 obtain ⟨A, EA⟩ : ∃ A, Hid (A = s.extract 0 8) := ⟨_, hide rfl⟩
 have hxA : s.extract 0 8 = A := EA.out.symm
 by_cases h2 : A = mgT
 case neg =>
  have EE : Hid (mkE s = atE mcT (imI 6)) := by show _ = _; unfold mkE; rw [if_neg (by have := H192.out; omega), if_neg (by rw [hxA]; exact h2)]
  have hne : (A.toList == [76, 65, 84, 67, 72, 73, 77, 71]) = false := by rw [← mg_list]; exact str_nebI h2
  clear h2
  go_wp2_with fail
  refine (ofImage_any mcT 6 _).mono ?_
  rintro e W1 ⟨rfl, hw⟩
  have hw' := hw.symm
  subst hw'
  clear hw
  go_wp2_with fail
  go_returns
  exact ⟨by rw [EE.out]; rfl, Below.refl _ _⟩
 case pos =>
 have heq : (A.toList == [76, 65, 84, 67, 72, 73, 77, 71]) = true := by rw [h2, mg_list]; rfl
 have H2 := hide h2
 clear h2
 obtain ⟨T, ET⟩ : ∃ A, Hid (A = s.extract 17 64) := ⟨_, hide rfl⟩
 have hxT : s.extract 17 64 = T := ET.out.symm
 have T47 : Hid (T.size = 47) := by show _ = _; rw [ET.out, sub_size _ _ _ (by have := H192.out; omega)]
 obtain ⟨cap, W1, hcv, hR, hB, hSz⟩ := conv_bytes 9 89 5 underStr underSl8 underU8 T w
 rw [T47.out] at hcv
 obtain ⟨q, hq⟩ : ∃ q, q = w.heap.size := ⟨_, rfl⟩
 rw [← hq] at hcv hR
 clear hq hSz
 obtain ⟨M1, EM1⟩ : ∃ M, Hid (M = (bytesOf T).map cv) := ⟨_, hide rfl⟩
 rw [← EM1.out] at hR
 have HR := hide hR
 have HB := hide hB
 clear hR hB
 have lk : (bytesOf T).length = 47 := by rw [bytesOf_length, T47.out]
 have HM1 : Hid ((Tryz.prog.info? 261).map (·.size) = some M1.length) := by show _ = _; rw [size47, EM1.out, List.length_map, lk]
 have ha1 := arr47
 have heq47 : ∀ w, (Op.equalIn 10000 261 (.agg M1.toArray) (.agg (z47.map cv).toArray)).run Tryz.prog w = .ok (bytesOf T == z47) w := by rw [EM1.out]; exact eq47 _ _ lk rfl
 clear lk
 obtain ⟨Z, EZ⟩ : ∃ Z, Hid (Z = (z47.map cv).toArray) := ⟨_, hide rfl⟩
 rw [← EZ.out] at hz heq47
 obtain ⟨B, EB⟩ : ∃ B, Hid (B = (bytesOf T == z47)) := ⟨_, hide rfl⟩
 rw [← EB.out] at heq47
 cases hBv : B
 case false =>
  have EE : Hid (mkE s = atE rsT47 (imI 7)) := by
   show _ = _
   unfold mkE
   rw [if_neg (by have := H192.out; omega), hxA, if_pos H2.out, hxT, if_neg (by intro h; have e := EB.out; rw [hBv, h] at e; revert e; simp)]
  subst hBv
  go_wp2_with (first
   | (refine wpList_load_mid (by rfl) 261 (.tmp 14) (by rfl) q 0 (by rfl) M1 _ HR.out under47 rfl HM1.out ?_))
  refine (ofImage_any rsT47 7 _).mono ?_
  rintro e W2 ⟨rfl, hw⟩
  have hw' := hw.symm
  subst hw'
  clear hw
  go_wp2_with fail
  go_returns
  exact ⟨by rw [EE.out]; rfl, HB.out⟩
 case true =>
 have H3 : Hid (bytesOf T = z47) := by have e := EB.out; rw [hBv] at e; exact (beq_iff_eq.1 e.symm)
 subst hBv
 obtain ⟨D, ED⟩ : ∃ A, Hid (A = s.extract 12 16) := ⟨_, hide rfl⟩
 have hxD : s.extract 12 16 = D := ED.out.symm
 have D4 : Hid (D.size = 4) := by show _ = _; rw [ED.out, sub_size _ _ _ (by have := H192.out; omega)]
 go_wp2_with (first
   | (refine wpList_load_mid (by rfl) 261 (.tmp 14) (by rfl) q 0 (by rfl) M1 _ HR.out under47 rfl HM1.out ?_))
 refine (little_any D D4.out _).mono ?_
 rintro e W2 ⟨rfl, hw⟩
 have hw' := hw.symm
 subst hw'
 clear hw
 obtain ⟨n, En⟩ : ∃ n : Nat, Hid (n = le4 D 4) := ⟨_, hide rfl⟩
 have ln : n < 4294967296 := by rw [En.out]; exact le4_lt D 4 (by have := D4.out; omega)
 rw [← En.out]
 have hsub : IntKind.i64.wrap ((s.size : Int) - 192) = (s.size : Int) - 192 := by
  have := Hm.out
  unfold maxLen at this
  rw [IntKind.wrap_i64]; omega
 go_wp2_with fail
 have HI := isSize_any (n : Int) ((s.size : Int) - 192) (by omega) (by omega) (by omega) (by have := Hm.out; unfold maxLen at this; omega) W1
 by_cases c : n = s.size - 192
 ·
  rw [decide_eq_true (show (n : Int) = (s.size : Int) - 192 by have := H192.out; omega)] at HI
  have EE : Hid (mkE s = .nilIface) := by
   show _ = _
   unfold mkE
   rw [if_neg (by have := H192.out; omega), hxA, if_pos H2.out, hxT, if_pos H3.out, hxD, ← En.out, if_pos c]
  refine HI.mono ?_
  rintro e W2 ⟨rfl, hw⟩
  have hw' := hw.symm
  subst hw'
  clear hw HI c
  go_wp2_with fail
  go_returns
  exact ⟨by rw [EE.out]; rfl, HB.out⟩
 ·
  rw [decide_eq_false (show ¬ (n : Int) = (s.size : Int) - 192 by have := H192.out; omega)] at HI
  have EE : Hid (mkE s = atE zeT (imI 8)) := by
   show _ = _
   unfold mkE
   rw [if_neg (by have := H192.out; omega), hxA, if_pos H2.out, hxT, if_pos H3.out, hxD, ← En.out, if_neg c]
  refine HI.mono ?_
  rintro e W2 ⟨rfl, hw⟩
  have hw' := hw.symm
  subst hw'
  clear hw HI c
  go_wp2_with fail
  refine (ofImage_any zeT 8 _).mono ?_
  rintro e W2 ⟨rfl, hw⟩
  have hw' := hw.symm
  subst hw'
  clear hw
  go_wp2_with fail
  go_returns
  exact ⟨by rw [EE.out]; rfl, HB.out⟩
def imgL (v k : Int) (p sg : ByteArray) (S D : List UInt8) : List Value := .int .u32 v :: .int .i64 k :: .string p :: .string sg :: (S.map cv ++ D.map cv)
def imgA (v k : Int) (p sg : ByteArray) (S D : List UInt8) : Array Value := (imgL v k p sg S D).toArray
def dgT : ByteArray := ⟨#[116, 104, 101, 32, 100, 105, 103, 101, 115, 116]⟩
theorem img_c2 {w : World} {g : Nat} {v k : Int} {p sg : ByteArray} {S D : List UInt8} {T : TypeId} {fr : Nat × Nat} (h : w.heap[g]? = some (.cells (imgA v k p sg S D) T fr)) : w.cell? ⟨g, 2, none⟩ = some (.string p) := by rw [cell_of_row w g 2 _ T _ h]; rfl
theorem img_dg {w : World} {g : Nat} {v k : Int} {p sg : ByteArray} {S D : List UInt8} {T : TypeId} {fr : Nat × Nat} (hS : S.length = 64) (h : w.heap[g]? = some (.cells (imgA v k p sg S D) T fr)) : w.rangeAt g 68 (D.map cv) := by
 intro j v hv
 have l64 : (S.map cv).length = 64 := by rw [List.length_map, hS]
 rw [cell_of_row w g (68 + j) _ T _ h, imgA, List.getElem?_toArray, imgL, show 68 + j = (64 + j) + 1 + 1 + 1 + 1 by omega, List.getElem?_cons_succ, List.getElem?_cons_succ, List.getElem?_cons_succ, List.getElem?_cons_succ, List.getElem?_append_right (by rw [l64]; omega), l64, show 64 + j - 64 = j by omega]
 exact hv
theorem hrunLoadStr {a : Act} {o : Oper} (x : Operand) (ho : o.op = .load 9 x) (ad : Addr) (hx : a.eval x = .pointer (some ad)) (v : Value) (w : World) (h : w.cell? ad = some v) :
  (execOp a.eval o).run Tryz.prog w = .ok (.value v) w := by
 unfold execOp
 simp only [ho, hx]
 go_simp
theorem eq64 (x y : List UInt8) (hx : x.length = 64) (hy : y.length = 64) (w : World) : (Op.equalIn 10000 102 (.agg (x.map cv).toArray) (.agg (y.map cv).toArray)).run Tryz.prog w = .ok (x == y) w :=
 run_equalIn_bytes (P := Tryz.prog) w 9998 102 5 64 under64 under8' size8w x y hx hy
theorem hrunNeq64 {a : Act} {o : Oper} (x y : Operand) (ho : o.op = .binOp .neq 102 x y 102) (X Y : Array Value) (B : Bool) (h : ∀ w, (Op.equalIn 10000 102 (.agg X) (.agg Y)).run Tryz.prog w = .ok B w) (hx : a.eval x = .agg X) (hy : a.eval y = .agg Y) (w : World) :
  (execOp a.eval o).run Tryz.prog w = .ok (.value (.bool (!B))) w := by
 unfold execOp
 simp only [ho, hx, hy]
 go_simp
theorem yld64 {ops : Array Oper} {S : World → Prop} {op : Oper} {a : Act} (hw : Region.wanted op (yielded ops a.tmps) = true) (x : Operand) (ho : op.op = .load 102 x)
  (b o : Nat) (L : List Value) (hL : L.length = 64) (M : Array Value) (hM : L.toArray = M) (hx : a.eval x = .pointer (some ⟨b, o, none⟩)) (hS : ∀ w, S w → w.rangeAt b o L) : YieldsIf Tryz.prog ops S op (.agg M) a :=
 yld_load hw _ x ho b o hx L M hM _ hS under64 rfl (by rw [size64, hL])
theorem hrunDgOf {a : Act} {o : Oper} (x : Operand) (ho : o.op = .call { callee := .value (.func 48), args := #[x], argTypes := #[9] }) (v1 : Value) (hx : a.eval x = v1) (w : World) :
  (execOp a.eval o).run Tryz.prog w = .ok (.enter 48 #[v1]) w := by
 unfold execOp
 simp only [ho]
 subst hx
 go_simp
theorem dgOfN (s : ByteArray) (hs : s.size ≤ maxLen) (M : Array Value) (hM : M = ((hashOf (bytesOf s)).map cv).toArray) (w : World) (hK : Tab w) :
  Calls Tryz.prog 48 #[.string s] w fun e w' => e = .returned (.agg M) ∧ Below w.heap.size w w' := by rw [hM]; exact of_any s w hK hs
noncomputable def ckE (p : ByteArray) (D : List UInt8) : Value := if hashOf (bytesOf p) = D then .nilIface else atE dgT (imI 11)
theorem imgA_size (v k : Int) (p sg : ByteArray) (S D : List UInt8) : (imgA v k p sg S D).size = 4 + (S.length + D.length) := by simp [imgA, imgL]; omega
section
attribute [local irreducible] imgA imgL
set_option maxRecDepth 100000 in
set_option maxHeartbeats 2000000 in
theorem checkDigest_any (v k : Int) (p sg : ByteArray) (S D : List UInt8) (hS : S.length = 64) (hD : D.length = 64) (hp : p.size ≤ maxLen) (w : World) (hK : Tab w) :
  Calls Tryz.prog 133 #[.agg (imgA v k p sg S D)] w fun e w' => e = .returned (ckE p D) ∧ Below w.heap.size w w' := by
 have HK := hide hK
 have Hp := hide hp
 have HS := hide hS
 have HD := hide hD
 clear hK hp hS hD
 go_enter Tryz.func133, Tryz.ntmps133
 go_upto_region 1 with fail
 obtain ⟨W0, hW0⟩ : ∃ W, W = w.alloc (.cells (imgA v k p sg S D) 114) := ⟨_, rfl⟩
 have R0 : Hid (W0.heap[w.heap.size]? = some (.cells (imgA v k p sg S D) 114 (0, 0))) := by rw [hW0]; exact heap_alloc_new _ _
 have B0 : Hid (Below w.heap.size w W0) := by rw [hW0]; exact (Below.refl _ _).alloc (Nat.le_refl _) _
 rw [← hW0]
 clear hW0
 have K0 := hide (HK.out.below B0.out HK.out.lt)
 obtain ⟨M1, EM1⟩ : ∃ M, Hid (M = ((hashOf (bytesOf p)).map cv).toArray) := ⟨_, hide rfl⟩
 obtain ⟨M2, EM2⟩ : ∃ M, Hid ((D.map cv).toArray = M) := ⟨_, hide rfl⟩
 obtain ⟨B, EB⟩ : ∃ B, Hid (B = (hashOf (bytesOf p) == D)) := ⟨_, hide rfl⟩
 have HE : Hid (∀ w, (Op.equalIn 10000 102 (.agg M1) (.agg M2)).run Tryz.prog w = .ok B w) := by
  show ∀ w, _
  rw [EM1.out, ← EM2.out, EB.out]
  exact eq64 _ _ (hashOf_length _) HD.out
 have l0 := hide (lt_row R0.out)
 have SAT : Hid (∀ V : World, Below W0.heap.size W0 V → V.cell? ⟨w.heap.size, 2, none⟩ = some (.string p) ∧ V.rangeAt w.heap.size 68 (D.map cv)) := fun _ hB => ⟨(hB.cell l0.out).trans (img_c2 R0.out), range_below (img_dg HS.out R0.out) hB l0.out⟩
 refine wp_region_held_drew (S := fun w' => w'.cell? ⟨w.heap.size, 2, none⟩ = some (.string p) ∧ w'.rangeAt w.heap.size 68 (D.map cv)) (by kernel_rfl) (SAT.out _ (Below.refl _ _).drew) (fun hHeld => ?_)
 have KV1 : Hid (Below W0.heap.size W0 W0.drew) := (Below.refl _ _).drew
 obtain ⟨V1, hV1⟩ : ∃ V, V = W0.drew := ⟨_, rfl⟩
 rw [← hV1] at hHeld KV1 ⊢
 clear hV1
 refine wpAnyH_take (i := 0) (oi := ⟨some 3, .fieldAddr 114 (.tmp 1) 2, 0, "image.go:81", #[], none⟩) (v := .pointer (some ⟨w.heap.size, 2, none⟩)) rfl (by kernel_rfl) (by kernel_rfl) (by kernel_rfl) (fun _ _ _ h => h) (Or.inl ⟨by rfl, fun w _ => by go_simp⟩) hHeld ?_
 simp only [zaP, zsT, zsZ, zsS]
 refine wpAnyH_take (i := 1) (oi := ⟨some 4, .load 9 (.tmp 3), 9, "image.go:81", #[zeD 0], none⟩) (v := .string p) rfl (by kernel_rfl) (by kernel_rfl) (by kernel_rfl) (fun _ _ _ h => h) (Or.inl ⟨by rfl, fun v h => hrunLoadStr _ rfl _ rfl _ v h.1⟩) hHeld ?_
 simp only [zaP, zsT, zsZ, zsS]
 refine wpAnyH_take (i := 3) (oi := ⟨some 6, .fieldAddr 114 (.tmp 1) 5, 0, "image.go:81", #[], none⟩) (v := .pointer (some ⟨w.heap.size, 68, none⟩)) rfl (by kernel_rfl) (by kernel_rfl) (by kernel_rfl) (fun _ _ _ h => h) (Or.inl ⟨by rfl, fun w _ => by go_simp⟩) hHeld ?_
 simp only [zaP, zsT, zsZ, zsS]
 refine wpAnyH_take (i := 4) (oi := ⟨some 7, .load 102 (.tmp 6), 102, "image.go:81", #[zeD 3], none⟩) (v := .agg M2) rfl (by kernel_rfl) (by kernel_rfl) (by kernel_rfl) (fun _ _ _ h => h) (yld64 (by rfl) _ rfl (w.heap.size) 68 (D.map cv) (by rw [List.length_map, HD.out]) M2 EM2.out rfl (fun w h => h.2)) hHeld ?_
 simp only [zaP, zsT, zsZ, zsS]
 refine wpAnyH_ready (rs := [2]) (by kernel_rfl) (by simp) ?_
 refine AllReadyH.cons (o := ⟨some 5, .call ⟨.value (.func 48), #[.tmp 4], #[9]⟩, 102, "image.go:81", #[zeD 1], none⟩) rfl (fun K hK => ?_) AllReadyH.nil
 refine step_callTo (by rfl) _ _ (hrunDgOf _ rfl (.string p) rfl V1) _ _ (dgOfN p Hp.out M1 EM1.out V1 (K0.out.below KV1.out K0.out.lt)) (fun V2 HBx => ?_)
 have KV2 := kTr KV1 HBx
 clear HBx
 refine hK.out _ _ ?_ (fun hHeld => ?_)
 · exact SAT.out _ KV2.out
 clear hK K
 try simp only [zaP, zsT, zsZ, zsS]
 refine wpAnyH_take (i := 5) (oi := ⟨some 8, .binOp .neq 102 (.tmp 5) (.tmp 7) 102, 4, "image.go:81", #[zeD 2, zeD 4], none⟩) (v := .bool (!B)) rfl (by kernel_rfl) (by kernel_rfl) (by kernel_rfl) (fun _ _ _ h => h) (Or.inl ⟨by rfl, fun v _ => hrunNeq64 _ _ rfl M1 M2 B HE.out rfl rfl v⟩) hHeld ?_
 simp only [zaP, zsT, zsZ, zsS]
 refine wpAnyH_done (by kernel_rfl) ?_ _
 have KF : Hid (Below W0.heap.size W0 V2) := KV2
 obtain ⟨W1, hW1⟩ : ∃ W, W = V2 := ⟨_, rfl⟩
 rw [← hW1] at KF ⊢
 clear hW1
 have B1 := hide (B0.out.trans (KF.out.mono B0.out.size))
 cases hBv : B
 case false =>
  have EE : Hid (ckE p D = atE dgT (imI 11)) := by
   show _ = _
   unfold ckE
   rw [if_neg (by intro h; have e := EB.out; rw [hBv, h] at e; revert e; simp)]
  subst hBv
  go_wp2_with fail
  refine (ofImage_any dgT 11 _).mono ?_
  rintro e W2 ⟨rfl, hw⟩
  have hw' := hw.symm
  subst hw'
  clear hw
  go_wp2_with fail
  go_returns
  exact ⟨by rw [EE.out]; rfl, B1.out⟩
 case true =>
  have EE : Hid (ckE p D = .nilIface) := by
   show _ = _
   unfold ckE
   rw [if_pos (by have e := EB.out; rw [hBv] at e; exact (beq_iff_eq.1 e.symm))]
  subst hBv
  go_wp2_with fail
  go_returns
  exact ⟨by rw [EE.out]; rfl, B1.out⟩
end
end Go.Proofs.YtccgfabojbjmjaaGreatDoor
