import Derived.Test.YtemdlpcljjdfjaaDoorLatAdd
import Derived.Test.YtemdlpcljjdfjaaDoorRefAdd
/- The program's Add and the document's are one. Plain mathematics. -/
namespace Go.Proofs.YtemdlpcljjdfjaaDoor
theorem ofb_iff (m : Nat) : ofbB m = decide (m = m % P) := by
  unfold ofbB
  congr 1
  apply propext
  constructor
  · intro h; exact (Nat.mod_eq_of_lt h).symm
  · intro h; rw [h]; exact Nat.mod_lt _ P_pos
theorem ks_32 {s : ByteArray} (h : s.size = 32) : ksN s = valLE (bytesOf s) := by unfold ksN ksB; rw [if_pos h]
theorem dcY_yOf {s : ByteArray} (h : s.size = 32) : dcY (ksN s) = yOf s := by rw [ks_32 h]; rfl
theorem dcO_odd {s : ByteArray} (h : s.size = 32) : dcO (ksN s) = oddOf s := by
  rw [← dcO_top _ (ksN_lt s)]
  unfold oddOf
  rw [byteLE_nat, ks_32 h, valLE_byte]
/-- What both answer, of a text of 32 bytes. -/
theorem poB_32 {s : ByteArray} (h : s.size = 32) : poB s = pofB dN s := by
  unfold poB pofB dcB ksO
  rw [dcY_yOf h, dcO_odd h, decide_eq_true h, Bool.true_and, Bool.true_and, ofb_iff]
  by_cases hy : yOf s = yOf s % P
  · rw [decide_eq_true hy, Bool.true_and, Bool.true_and]
    have e : ofbV (yOf s) = yOf s % P := by
      unfold ofbV
      rw [if_pos (by rw [hy]; exact Nat.mod_lt _ P_pos)]; exact hy
    rw [e, ok_same]
  · rw [decide_eq_false hy, Bool.false_and, Bool.false_and]
theorem poB_same (s : ByteArray) : poB s = pofB dN s := by
  by_cases h : s.size = 32
  · exact poB_32 h
  · unfold poB pofB ksO
    rw [decide_eq_false h, Bool.false_and, Bool.false_and]
theorem pofB_parts {s : ByteArray} (h : pofB dN s = true) : s.size = 32 ∧ yOf s = yOf s % P ∧ rootDB (pofA dN (yOf s % P)) = true := by
  unfold pofB at h
  rw [Bool.and_eq_true, Bool.and_eq_true, Bool.and_eq_true] at h
  exact ⟨of_decide_eq_true h.1, of_decide_eq_true h.2.1, h.2.2.1⟩
/-- A point that is one: both hold the same x, y. -/
theorem point_same {s : ByteArray} (h : pofB dN s = true) : ∃ x y, x < P ∧ y < P ∧ poP s = ptOf x y ∧ pofQ dN s = q3Of x y := by
  obtain ⟨h32, hy, hr⟩ := pofB_parts h
  have hb : poB s = true := by rw [poB_same]; exact h
  have hd : dcB (ksN s) = true := by
    unfold poB at hb
    rw [Bool.and_eq_true] at hb
    exact hb.2
  refine ⟨xsN (yOf s % P) (oddOf s), yOf s % P, ?_, Nat.mod_lt _ P_pos, ?_, ?_⟩
  · rw [← xs_same]; exact pofX_lt _ _ _
  · unfold poP
    rw [hb, if_pos rfl]
    unfold dcP
    rw [hd, if_pos rfl, dcY_yOf h32, dcO_odd h32]
    have e : ofbV (yOf s) = yOf s % P := by
      unfold ofbV
      rw [if_pos (by rw [hy]; exact Nat.mod_lt _ P_pos)]; exact hy
    rw [e]
    unfold xofV
    rw [← rootDB_root, hr, if_pos rfl]
  · unfold pofQ
    rw [h, if_pos rfl, xs_same]
    rfl
/-- THE SUMS' TEXTS ARE ONE. -/
theorem text_same {s t : ByteArray} (hs : pofB dN s = true) (ht : pofB dN t = true) : strOf (leB (cdN (addP (poP s) (poP t))) 32) = codeD (plusD dN (pofQ dN s) (pofQ dN t)) := by
  obtain ⟨x, y, hx, hy, e1, e2⟩ := point_same hs
  obtain ⟨u, v, hu, hv, e3, e4⟩ := point_same ht
  rw [e1, e2, e3, e4, plusD_plusQ]
  obtain ⟨c1, c2⟩ := code_same (y := y) (v := v) hx hu
  unfold codeX at c1 c2
  unfold codeD cdN
  rw [invD_invN, c1, c2]
theorem add_same_S (s t : ByteArray) : lAddS s t = addS crvD s t := by
  rw [crvD_dN]
  unfold lAddS addS
  rw [poB_same, poB_same]
  cases hs : pofB dN s
  · rw [Bool.false_and, if_neg (by decide), if_neg (by decide)]
  · cases ht : pofB dN t
    · rw [Bool.and_false, if_neg (by decide), if_neg (by decide)]
    · rw [Bool.and_true, if_pos rfl, if_pos rfl]; exact text_same hs ht
theorem add_same_E (s t : ByteArray) : lAddE s t = addE crvD s t := by
  rw [crvD_dN]
  unfold lAddE addE
  rw [poB_same, poB_same]
end Go.Proofs.YtemdlpcljjdfjaaDoor
/- latchlaw.Adds: the walk. -/
namespace Go.Proofs.YtemdlpcljjdfjaaDoor
open Go.RowKit
/-- B's text on its way: 0x58, and k bytes 0x66. -/
def bs (k : Nat) : ByteArray := ⟨((88 : UInt8) :: List.replicate k 102).toArray⟩
theorem bs_step (k : Nat) : bs k ++ ⟨#[102]⟩ = bs (k + 1) := by
  have e : ∀ a b : ByteArray, a.data = b.data → a = b := by intro a b h; cases a; cases b; simpa using h
  apply e
  rw [ByteArray.data_append]
  unfold bs
  rw [List.replicate_succ', show (#[102] : Array UInt8) = [102].toArray from rfl, List.append_toArray]
  rfl
theorem bs_size (k : Nat) : (bs k).size = k + 1 := by
  show ((88 : UInt8) :: List.replicate k 102).toArray.size = k + 1
  simp
def strSz : Value → Nat
  | .string s => s.size
  | _ => 0
/-- THE CLOSED PART: B and B, by the kernel. -/
theorem dbl_B : poB (bs 31) = true := by decide +kernel
theorem dbl_N : cdN (addP (poP (bs 31)) (poP (bs 31))) = 15549675580280190176352668710449542251549572066445060580507079593062643049417 := by decide +kernel
def dblT : ByteArray := ⟨#[201, 163, 248, 106, 174, 70, 95, 14, 86, 81, 56, 100, 81, 15, 57, 151, 86, 31, 162, 201, 232, 94, 162, 29, 194, 41, 35, 9, 243, 205, 96, 34]⟩
theorem dbl_T : strOf (leB 15549675580280190176352668710449542251549572066445060580507079593062643049417 32) = dblT := by
  have e : ∀ a b : ByteArray, a.data = b.data → a = b := by intro a b h; cases a; cases b; simpa using h
  apply e
  decide +kernel
theorem dbl_S : lAddS (bs 31) (bs 31) = dblT ∧ lAddE (bs 31) (bs 31) = 0 := by
  obtain ⟨e1, e2⟩ := lAdd_yes (s := bs 31) (t := bs 31) (by rw [dbl_B]; rfl)
  exact ⟨by rw [e1, dbl_N, dbl_T], e2⟩
section
attribute [local irreducible] lAddS lAddE addS addE crvD
set_option maxRecDepth 100000 in
set_option maxHeartbeats 400000 in
theorem adds1_any (s t : ByteArray) (w : World) (hG : Gl w) :
    Calls Tryd.prog 10 #[.string s, .string t] w fun e w' => e = .returned (.bool true) ∧ Below w.heap.size w w' := by
  have HG := hide hG
  clear hG
  go_enter Tryd.func10, Tryd.ntmps10
  go_wp2_with fail
  refine (latchAddA s t w HG.out).mono ?_
  rintro e W1 ⟨rfl, hB1⟩
  have HB1 := hide hB1
  clear hB1
  obtain ⟨T, HT⟩ : ∃ T, Hid (T = lAddS s t) := ⟨_, rfl⟩
  obtain ⟨n, Hn⟩ : ∃ n, Hid (n = lAddE s t) := ⟨_, rfl⟩
  rw [← HT.out, ← Hn.out]
  go_wp2_with fail
  refine (refAddA s t W1).mono ?_
  rintro e W2 ⟨rfl, hB2⟩
  have HB2 : Hid (Below w.heap.size w W2) := HB1.out.trans (hB2.mono HB1.out.size)
  clear hB2
  rw [← add_same_S, ← add_same_E, ← HT.out, ← Hn.out]
  go_wp2
  go_returns
  exact ⟨rfl, HB2.out⟩
set_option maxRecDepth 100000 in
set_option maxHeartbeats 400000 in
theorem adds_any (s t : ByteArray) (w : World) (hG : Gl w) :
    Calls Tryd.prog 4 #[.string s, .string t] w fun e w' => e = .returned (.bool true) ∧ Below w.heap.size w w' := by
  have HG := hide hG
  clear hG
  go_enter Tryd.func4, Tryd.ntmps4
  go_wp2_with fail
  go_loopw [5] (fun v wr => ∃ k : Nat, k ≤ 31 ∧ v = .string (bs k) ∧ wr = w) (fun v _ => 32 - strSz v)
  case atStart => exact ⟨0, Nat.zero_le _, rfl, rfl⟩
  case round =>
    obtain ⟨k, hk, rfl, rfl⟩ := hrel
    by_cases hlt : k < 31
    · have hsz : (bs k).size = k + 1 := bs_size k
      have bk : ((bs k).size : Int) < 32 := by rw [hsz]; omega
      have hst := bs_step k
      go_wp2_with fail
      exact ⟨⟨k + 1, by omega, rfl, trivial⟩, by simp only [strSz]; rw [bs_size, bs_size]; omega⟩
    · obtain rfl : k = 31 := by omega
      have hsz : (bs 31).size = 32 := bs_size 31
      have bk : (32 : Int) ≤ ((bs 31).size : Int) := by rw [hsz]; decide
      obtain ⟨B, HBs⟩ : ∃ B, Hid (B = bs 31) := ⟨_, rfl⟩
      obtain ⟨e1, e2⟩ := dbl_S
      rw [← HBs.out] at e1 e2 hsz bk ⊢
      have E1 := hide e1
      have E2 := hide e2
      clear e1 e2
      go_wp2_with fail
      refine (latchAddA B B _ HG.out).mono ?_
      rintro e W1 ⟨rfl, hB1⟩
      have HB1 := hide hB1
      have HG1 : Hid (Gl W1) := HG.out.keep hB1
      clear hB1
      rw [E1.out, E2.out]
      unfold dblT
      go_wp2_with fail
      refine (adds1_any s t _ HG1.out).mono ?_
      rintro e W2 ⟨rfl, hB2⟩
      have HB2 := hide (HB1.out.trans (hB2.mono HB1.out.size))
      clear hB2
      go_wp2_with fail
      go_ret
      exact ⟨rfl, HB2.out⟩
end
end Go.Proofs.YtemdlpcljjdfjaaDoor
