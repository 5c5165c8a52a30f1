import Derived.Test.YtemdlpcljjdfjaaDoorRefTx
import Derived.Lib.BufferWrite
/- latchkeep: pick, bytes, base, zero, minusOne. -/
namespace Go.Proofs.YtemdlpcljjdfjaaDoor
open Go.RowKit
/-- The first n bytes of a text, noughts behind. -/
def padB (s : ByteArray) (n : Nat) : List UInt8 := (bytesOf s).take n ++ List.replicate (n - s.size) 0
def zN (n : Nat) : Array Value := ((List.replicate n (0 : UInt8)).map cv).toArray
theorem make15 (w : World) : (Instr.makeSlice 51 (.int .i64 15) (.int .i64 15)).run Tryd.prog w = .ok (.slice (some ⟨w.heap.size, 0, none⟩) 15 15) (w.alloc (.cells (zN 15) 5)) := by kernel_rfl
theorem make31 (w : World) : (Instr.makeSlice 51 (.int .i64 31) (.int .i64 31)).run Tryd.prog w = .ok (.slice (some ⟨w.heap.size, 0, none⟩) 31 31) (w.alloc (.cells (zN 31) 5)) := by kernel_rfl
theorem make32' (w : World) : (Instr.makeSlice 51 (.int .i64 32) (.int .i64 32)).run Tryd.prog w = .ok (.slice (some ⟨w.heap.size, 0, none⟩) 32 32) (w.alloc (.cells (zN 32) 5)) := by kernel_rfl
theorem make64 (w : World) : (Instr.makeSlice 51 (.int .i64 64) (.int .i64 64)).run Tryd.prog w = .ok (.slice (some ⟨w.heap.size, 0, none⟩) 64 64) (w.alloc (.cells (zN 64) 5)) := by kernel_rfl
theorem makeN (n : Nat) (h : n = 15 ∨ n = 31 ∨ n = 32 ∨ n = 64) (w : World) : (Instr.makeSlice 51 (.int .i64 (n : Int)) (.int .i64 (n : Int))).run Tryd.prog w = .ok (.slice (some ⟨w.heap.size, 0, none⟩) n n) (w.alloc (.cells (zN n) 5)) := by
  rcases h with rfl | rfl | rfl | rfl
  · exact make15 w
  · exact make31 w
  · exact make32' w
  · exact make64 w
theorem convN (n : Nat) (w : World) (q : Nat) (l : List UInt8) (hl : l.length = n) (T : TypeId) (h : w.heap[q]? = some (.cells (l.map cv).toArray T (0, 0))) :
    (convert 51 9 (.slice (some ⟨q, 0, none⟩) n n)).run Tryd.prog w = .ok (.string (strOf l)) w := by
  have e := run_convert_bytes_back (P := Tryd.prog) w 51 9 5 ⟨q, 0, none⟩ n l underSl8 underU8 underStr (fun i hi => by
    rw [Addr.add_mid, Nat.zero_add, cell_of_row w q i _ T _ h]
    rw [List.getElem?_toArray, List.getElem?_map, List.getElem?_eq_getElem hi]; rfl)
  rw [hl] at e
  exact e
theorem padB_len (s : ByteArray) (n : Nat) : (padB s n).length = n := by
  unfold padB
  rw [List.length_append, List.length_take, List.length_replicate]
  have : (bytesOf s).length = s.size := by unfold bytesOf; rw [Array.length_toList]; rfl
  rw [this]; omega
theorem pad_cut (s : ByteArray) (n : Nat) (h : n < s.size) : s.extract 0 n = strOf (padB s n) := by
  have e : ∀ a b : ByteArray, a.data = b.data → a = b := by intro a b h; cases a; cases b; simpa using h
  apply e
  unfold padB strOf bytesOf
  rw [show n - s.size = 0 by omega, List.replicate_zero, List.append_nil]
  apply Array.ext'
  simp only [ByteArray.data_extract, Array.toList_extract, List.extract_eq_take_drop, List.drop_zero, Nat.sub_zero]
theorem pad_row (s : ByteArray) (n : Nat) (h : s.size ≤ n) : ((zN n).toList.take 0 ++ Lib.byteCells s.data.toList ++ (zN n).toList.drop (0 + s.size)).toArray = ((padB s n).map cv).toArray := by
  have hl : (bytesOf s).length = s.size := by unfold bytesOf; rw [Array.length_toList]; rfl
  have e1 : (bytesOf s).take n = bytesOf s := List.take_of_length_le (by omega)
  unfold padB zN
  rw [e1, List.map_append, List.take_zero, List.nil_append, Nat.zero_add, List.map_replicate, List.drop_replicate, List.map_replicate]
  rfl
theorem size8K : (Tryd.prog.info? 5).map (·.size) = some 1 := by kernel_rfl
/-- 'copy', its run known. -/
theorem wpList_copy_to {P : Program} (w : World) {ops : Array Oper} {rest : List Oper} {o : Oper} {a : Act} {Q : Exit → Act → World → Prop} (hgd : o.guard = none) (d s : Operand) (t t' : TypeId)
    (ho : o.op = .call { callee := .builtin .copy, args := #[d, s], argTypes := #[t, t'] }) (v u : Value) (hd : a.eval d = v) (hs : a.eval s = u) {v' : Value} {w' : World}
    (hr : (Builtin.copy_ #[t, t'] o.type #[v, u]).run P w = .ok v' w') (h : wpList P ops Q rest (a.put o.dst v') w') : wpList P ops Q (o :: rest) a w := by
  refine wpList_plain hgd fun K hK => ?_
  unfold Oper.wp execOp
  simp only [ho, resolve, invoke, builtin, Sem.run_bind, Sem.run_pure, Result.andThen_ok, List.map_toArray, List.map_cons, List.map_nil, hd, hs, hr]
  exact hK _ _ h
section
set_option maxRecDepth 100000 in
set_option maxHeartbeats 1000000 in
theorem bytesA' (s : ByteArray) (n : Nat) (hn : n = 15 ∨ n = 31 ∨ n = 32 ∨ n = 64) (w : World) :
    Calls Tryd.prog 17 #[.string s, .int .i64 (n : Int)] w fun e w' => e = .returned (.string (strOf (padB s n))) ∧ Below w.heap.size w w' := by
  have HN := hide hn
  have hmk := makeN n hn
  clear hn
  go_enter Tryd.func17, Tryd.ntmps17
  by_cases hlt : n < s.size
  · have b1 : (n : Int) < (s.size : Int) := by omega
    go_wp2_with fail
    go_returns
    refine ⟨?_, Below.refl _ _⟩
    rw [pad_cut s n hlt]; rfl
  · have b1 : (s.size : Int) ≤ (n : Int) := by omega
    have hcp := Lib.run_copy_row_string (P := Tryd.prog) (w.alloc (.cells (zN n) 5)) 51 9 3 5 w.heap.size 0 n n s (zN n) 5 underSl8 size8K (heap_alloc_new _ _) (by omega) (by unfold zN; simp; omega)
    rw [pad_row s n (by omega)] at hcp
    have R1 : Hid (((w.alloc (.cells (zN n) 5)).setRow w.heap.size ((padB s n).map cv).toArray).heap[w.heap.size]? = some (.cells ((padB s n).map cv).toArray 5 (0, 0))) := setRow_heap _ _ _ _ _ _ (heap_alloc_new _ _)
    have hcv := convN n _ w.heap.size (padB s n) (padB_len s n) 5 R1.out
    have B1 : Hid (Below w.heap.size w ((w.alloc (.cells (zN n) 5)).setRow w.heap.size ((padB s n).map cv).toArray)) := below_setRow (by show Below _ _ _; go_grown) (Nat.le_refl _) _
    generalize hW1 : World.setRow _ _ _ = W1 at *
    obtain ⟨T, HT⟩ : ∃ T, Hid (T = strOf (padB s n)) := ⟨_, hide rfl⟩
    rw [← HT.out] at hcv ⊢
    clear hW1
    go_wp2_with (at_builtin; refine wpList_copy_to _ rfl _ _ 51 9 rfl _ _ rfl rfl hcp ?_)
    go_returns
    exact ⟨rfl, B1.out⟩
end
theorem ret_i64K {a b : Int} (h : a = b) : Ending.returned (.int .i64 a) = .returned (.int .i64 b) := by rw [h]
set_option maxHeartbeats 400000 in
theorem pickA (c n : Int) (w : World) (c0 : -9223372036854775808 ≤ c) (c1 : c ≤ 9223372036854775807) (n0 : 0 < n) (n1 : n ≤ 9223372036854775807) :
    Calls Tryd.prog 36 #[.int .i64 c, .int .i64 n] w fun e w' => ∃ m : Nat, e = .returned (.int .i64 m) ∧ (m : Int) < n ∧ w' = w := by
  by_cases hc : c < 0
  · have e0 : -((c + 1).tmod n) = (-(c + 1)) % n := by rw [← Int.neg_tmod, Int.tmod_eq_emod_of_nonneg (by omega)]
    have p0 := Int.emod_nonneg (-(c + 1)) (by omega : n ≠ 0)
    have p1 := Int.emod_lt_of_pos (-(c + 1)) n0
    have HE : Hid (-((c + 1).tmod n) = (((-(c + 1)) % n).toNat : Int) ∧ (((-(c + 1)) % n).toNat : Int) < n) := ⟨by rw [e0]; exact (Int.toNat_of_nonneg p0).symm, by rw [Int.toNat_of_nonneg p0]; exact p1⟩
    clear e0 p0 p1
    go_enter Tryd.func36, Tryd.ntmps36
    go_wp2
    go_ret
    exact ⟨((-(c + 1)) % n).toNat, ret_i64K HE.out.1, HE.out.2, rfl⟩
  · have p0 := Int.emod_nonneg c (by omega : n ≠ 0)
    have p1 := Int.emod_lt_of_pos c n0
    have HE : Hid (c % n = ((c % n).toNat : Int) ∧ ((c % n).toNat : Int) < n) := ⟨(Int.toNat_of_nonneg p0).symm, by rw [Int.toNat_of_nonneg p0]; exact p1⟩
    clear p0 p1
    go_enter Tryd.func36, Tryd.ntmps36
    go_wp2
    go_ret
    exact ⟨(c % n).toNat, ret_i64K HE.out.1, HE.out.2, rfl⟩
/-- B's text on its way in base: k bytes 0x66. -/
def r66 (k : Nat) : List UInt8 := List.replicate k 102 ++ List.replicate (32 - k) 0
theorem r66_step (k : Nat) (h : k < 32) : (r66 k).set k 102 = r66 (k + 1) := by
  unfold r66
  rw [show 32 - k = (32 - (k + 1)) + 1 by omega, List.replicate_succ, List.set_append_right _ _ (by simp), List.length_replicate, Nat.sub_self, List.set_cons_zero, List.replicate_succ' , List.append_assoc]
  rfl
theorem r66_len (k : Nat) (h : k ≤ 32) : (r66 k).length = 32 := by unfold r66; simp; omega
def bT : List UInt8 := 88 :: List.replicate 31 102
theorem r66_last : (r66 32).set 0 88 = bT := by decide
theorem idxSl (g i : Nat) (hi : i < 32) (w : World) : (Instr.indexAt 51 (.slice (some ⟨g, 0, none⟩) 32 32) (.int .i64 i)).run Tryd.prog w = .ok (.pointer (some ⟨g, i, none⟩)) w := by
  cases hq : Tryd.prog.info? 5 with
  | none => have := size8K; rw [hq] at this; cases this
  | some inf =>
    have hs : inf.size = 1 := by have := size8K; rw [hq] at this; simpa using this
    simp [Instr.indexAt, asIntOf, run_underlying underSl8, sizeOf, typeInfo, hq, hs, Addr.add_mid]
    intro h; omega
section
set_option maxRecDepth 100000 in
set_option maxHeartbeats 1000000 in
theorem baseK (w : World) : Calls Tryd.prog 21 #[] w fun e w' => e = .returned (.string (strOf bT)) ∧ Below w.heap.size w w' := by
  have hmk := make32' 
  go_enter Tryd.func21, Tryd.ntmps21
  go_wp2_with fail
  go_loopw [2] (fun i wr => ∃ k : Nat, k ≤ 32 ∧ i = .int .i64 k ∧ Hid (wr.heap[w.heap.size]? = some (.cells ((r66 k).map cv).toArray 5 (0, 0))) ∧ Hid (Below w.heap.size w wr)) (fun i _ => 32 - (intOf i).toNat)
  case atStart => exact ⟨0, by omega, rfl, heap_alloc_new _ _, by show Below _ _ _; go_grown⟩
  case round =>
    obtain ⟨k, hk, rfl, H0, HB⟩ := hrel
    by_cases hlt : k < 32
    · have bk : (k : Int) < 32 := by omega
      have hix := idxSl w.heap.size k hlt
      have c1 : wr.cell? ⟨w.heap.size, k, none⟩ = some (cv ((r66 k).getD k 0)) := by
        rw [cell_of_row wr _ k _ _ _ H0.out, List.getElem?_toArray, List.getElem?_map, List.getElem?_eq_getElem (by rw [r66_len k hk]; exact hlt)]
        simp [List.getD, r66_len k hk, hlt]
      have f1 := frozen_of_row wr w.heap.size k _ _ H0.out
      go_wp2_with fail
      refine ⟨⟨k + 1, by omega, by go_num, ?_, HB.out.setCell (by show _ ≤ _; simp) _⟩, by simp [intOf]; omega⟩
      have e := row_store H0.out k (cv 102)
      rw [← List.map_set, r66_step k hlt] at e
      exact e
    · obtain rfl : k = 32 := by omega
      have bk : (32 : Int) ≤ ((32 : Nat) : Int) := by omega
      have hix := idxSl w.heap.size 0 (by decide)
      have c1 : wr.cell? ⟨w.heap.size, 0, none⟩ = some (cv 102) := by
        rw [cell_of_row wr _ 0 _ _ _ H0.out]; rfl
      have f1 := frozen_of_row wr w.heap.size 0 _ _ H0.out
      have e := row_store H0.out 0 (cv 88)
      rw [← List.map_set, r66_last] at e
      have e' : (wr.setCell ⟨w.heap.size, 0, none⟩ (.int .u8 88)).heap[w.heap.size]? = some (.cells (bT.map cv).toArray 5 (0, 0)) := e
      have B1 : Hid (Below w.heap.size w (wr.setCell ⟨w.heap.size, 0, none⟩ (.int .u8 88))) := HB.out.setCell (by show _ ≤ _; simp) _
      have hcv := convN 32 _ w.heap.size bT rfl 5 e'
      clear e'
      obtain ⟨T, HT⟩ : ∃ T, Hid (T = strOf bT) := ⟨_, hide rfl⟩
      rw [← HT.out] at hcv
      clear e
      go_wp2_with fail
      go_returns
      exact ⟨by rw [HT.out]; rfl, B1.out⟩
end
/-- The zero's text. -/
def zT : ByteArray := strOf (padB ⟨#[1]⟩ 32)
theorem zeroK (w : World) : Calls Tryd.prog 16 #[] w fun e w' => e = .returned (.string zT) ∧ Below w.heap.size w w' := by
  go_enter Tryd.func16, Tryd.ntmps16
  go_wp2_with fail
  refine (bytesA' ⟨#[1]⟩ 32 (by decide) _).mono ?_
  rintro e W1 ⟨rfl, hB⟩
  have HB := hide hB
  clear hB
  obtain ⟨T, HT⟩ : ∃ T, Hid (T = strOf (padB ⟨#[1]⟩ 32)) := ⟨_, hide rfl⟩
  rw [← HT.out]
  go_wp2_with fail
  go_returns
  exact ⟨by rw [HT.out]; rfl, HB.out⟩
/-- The text of (0, -1) on its way. -/
def mT (k : Nat) : ByteArray := ⟨((236 : UInt8) :: List.replicate k 255).toArray⟩
theorem mT_step (k : Nat) : mT k ++ ⟨#[255]⟩ = mT (k + 1) := by
  have e : ∀ a b : ByteArray, a.data = b.data → a = b := by intro a b h; cases a; cases b; simpa using h
  apply e
  rw [ByteArray.data_append]
  unfold mT
  rw [List.replicate_succ', show (#[255] : Array UInt8) = [255].toArray from rfl, List.append_toArray]
  rfl
theorem mT_size (k : Nat) : (mT k).size = k + 1 := by
  show ((236 : UInt8) :: List.replicate k 255).toArray.size = k + 1
  simp
def strSzK : Value → Nat
  | .string s => s.size
  | _ => 0
def moT : ByteArray := mT 30 ++ ⟨#[127]⟩
set_option maxRecDepth 100000 in
set_option maxHeartbeats 400000 in
theorem minusOneK (w : World) : Calls Tryd.prog 37 #[] w fun e w' => e = .returned (.string moT) ∧ w' = w := by
  go_enter Tryd.func37, Tryd.ntmps37
  go_wp2_with fail
  go_loopw [1] (fun v wr => ∃ k : Nat, k ≤ 30 ∧ v = .string (mT k) ∧ wr = w) (fun v _ => 32 - strSzK v)
  case atStart => exact ⟨0, Nat.zero_le _, rfl, rfl⟩
  case round =>
    obtain ⟨k, hk, rfl, rfl⟩ := hrel
    have hsz : (mT k).size = k + 1 := mT_size k
    by_cases hlt : k < 30
    · have bk : ((mT k).size : Int) < 31 := by rw [hsz]; omega
      have hst := mT_step k
      go_wp2_with fail
      exact ⟨⟨k + 1, by omega, rfl, trivial⟩, by simp only [strSzK]; rw [mT_size, mT_size]; omega⟩
    · obtain rfl : k = 30 := by omega
      have bk : (31 : Int) ≤ ((mT 30).size : Int) := by rw [hsz]; decide
      have hst : mT 30 ++ ⟨#[127]⟩ = moT := rfl
      go_wp2_with fail
      go_returns
      exact ⟨rfl, rfl⟩
end Go.Proofs.YtemdlpcljjdfjaaDoor
