import Derived.Test.YtemdlpcljjdfjaaDoorRefReduce
import Derived.Test.YtemdlpcljjdfjaaDoorRedFace
/- latchlaw.Reduces. -/
namespace Go.Proofs.YtemdlpcljjdfjaaDoor
open Go.RowKit
section
attribute [local irreducible] wd V
set_option maxRecDepth 100000 in
set_option maxHeartbeats 400000 in
theorem reduces1_any (s : ByteArray) (hs : s.size ≤ 140737488351232) (w : World) (hO : OrdAt w) :
    Calls Tryd.prog 8 #[.string s] w fun e w' => e = .returned (.bool true) ∧ Below w.heap.size w w' := by
  have HS := hide hs
  have HO := hide hO
  clear hs hO
  go_enter Tryd.func8, Tryd.ntmps8
  go_wp2_with fail
  refine (latchReduce_any s w HO.out).mono ?_
  rintro e W1 ⟨h1, h2, hB1⟩
  have HB1 := hide hB1
  by_cases h64 : s.size = 64
  · have e1 := h1 h64
    subst e1
    have H64 := hide h64
    clear h1 h2 hB1 h64
    obtain ⟨T, HT⟩ : ∃ T, Hid (T = strOf (leB (valLE (bytesOf s) % Lord) 32)) := ⟨_, rfl⟩
    rw [← HT.out]
    go_wp2_with fail
    refine (refReduce_any s HS.out W1).mono ?_
    rintro e W2 ⟨h1, h2, hB2⟩
    have e1 := h1 H64.out
    rw [show strOf (leB (valLE (bytesOf s) % 7237005577332262213973186563042994240857116359379907606001950938285454250989) 32) = T from HT.out.symm] at e1
    subst e1
    have HB2 : Hid (Below w.heap.size w W2) := HB1.out.trans (hB2.mono HB1.out.size)
    clear h1 h2 hB2
    go_wp2
    go_returns
    exact ⟨rfl, HB2.out⟩
  · have e1 := h2 h64
    subst e1
    have H64 := hide h64
    clear h1 h2 hB1 h64
    go_wp2_with fail
    refine (refReduce_any s HS.out W1).mono ?_
    rintro e W2 ⟨h1, h2, hB2⟩
    have e1 := h2 H64.out
    subst e1
    have HB2 : Hid (Below w.heap.size w W2) := HB1.out.trans (hB2.mono HB1.out.size)
    clear h1 h2 hB2
    go_wp2
    go_returns
    exact ⟨rfl, HB2.out⟩
/-- So many bytes 255. -/
def ffs (k : Nat) : ByteArray := ⟨(List.replicate k (255 : UInt8)).toArray⟩
theorem ffs_step (k : Nat) : ffs k ++ ⟨#[255]⟩ = ffs (k + 1) := by
  have e : ∀ a b : ByteArray, a.data = b.data → a = b := by intro a b h; cases a; cases b; simpa using h
  apply e
  rw [ByteArray.data_append]
  unfold ffs
  rw [List.replicate_succ', show (#[255] : Array UInt8) = [255].toArray from rfl, List.append_toArray]
theorem ffs_size (k : Nat) : (ffs k).size = k := by
  show (List.replicate k (255 : UInt8)).toArray.size = k
  simp
set_option maxRecDepth 100000 in
set_option maxHeartbeats 400000 in
theorem reduces_any (s : ByteArray) (hs : s.size ≤ 140737488351232) (w : World) (hO : OrdAt w) :
    Calls Tryd.prog 3 #[.string s] w fun e w' => e = .returned (.bool true) ∧ Below w.heap.size w w' := by
  have HS := hide hs
  have HO := hide hO
  clear hs hO
  go_enter Tryd.func3, Tryd.ntmps3
  go_wp2_with fail
  go_loopw [3, 4] (fun v i wr => ∃ k : Nat, k ≤ 64 ∧ i = .int .i64 k ∧ v = .string (ffs k) ∧ wr = w) (fun _ i _ => 64 - (intOf i).toNat)
  case atStart => exact ⟨0, Nat.zero_le _, rfl, rfl, rfl⟩
  case round =>
    obtain ⟨k, hk, rfl, rfl, rfl⟩ := hrel
    by_cases hlt : k < 64
    · have bk : (k : Int) < 64 := by omega
      have hst := ffs_step k
      have hsz := ffs_size k
      go_wp2_with fail
      exact ⟨⟨k + 1, by omega, by go_num, rfl, trivial⟩, by simp [intOf]; omega⟩
    · obtain rfl : k = 64 := by omega
      have bk : (64 : Int) ≤ ((64 : Nat) : Int) := by omega
      go_wp2_with fail
      refine (reduces1_any (ffs 64) (by decide) _ HO.out).mono ?_
      rintro e W1 ⟨rfl, hB1⟩
      have HB1 := hide hB1
      have HO1 : Hid (OrdAt W1) := HO.out.below hB1 HO.out.lt
      clear hB1
      go_wp2_with fail
      refine (reduces1_any s HS.out _ HO1.out).mono ?_
      rintro e W2 ⟨rfl, hB2⟩
      have HB2 := hide (HB1.out.trans (hB2.mono HB1.out.size))
      clear hB2
      go_wp2_with fail
      go_ret
      exact ⟨rfl, HB2.out⟩
end
end Go.Proofs.YtemdlpcljjdfjaaDoor
