import Derived.Test.YtcnbhpghcjcejaaDoorAbc
import Derived.Test.YtcnbhpghcjcejaaDoorSame
import Derived.Test.YtcnbhpghcjcejaaDoorRefHash
/- The walk of latchlaw.Hashes. -/
namespace Go.Proofs.YtcnbhpghcjcejaaDoor
open Go.RowKit

theorem abc64 : strOf abcBytes = ⟨#[221, 175, 53, 161, 147, 97, 122, 186, 204, 65, 115, 73, 174, 32, 65, 49, 18, 230, 250, 78, 137, 169, 126, 162, 10, 158, 238, 230, 75, 85, 211, 154, 33, 146, 153, 42, 39, 79, 193, 168, 54, 186, 60, 35, 163, 254, 235, 189, 69, 77, 68, 35, 100, 60, 232, 14, 42, 154, 201, 79, 165, 76, 164, 159]⟩ := rfl

/-- The document's answer is the program's hash. -/
theorem refHash_same (s : ByteArray) (w : World) (hs : s.size ≤ 140737488351232) :
    Calls Tryd.prog 7 #[.string s] w fun e w' => e = .returned (.string (strOf (hashOf (bytesOf s)))) ∧ Below w.heap.size w w' := by
  refine (refHash_any s w hs).mono ?_
  rintro e w' ⟨NB, hNB, rfl, hB⟩
  refine ⟨?_, hB⟩
  rw [same_hash (bytesOf s) NB hNB (by rw [bytesOf_length]; omega)]
  rfl

set_option maxRecDepth 100000 in
set_option maxHeartbeats 4000000 in
theorem hashes_any (s : ByteArray) (w : World) (hK : Tab w) (hs : s.size ≤ 140737488351232) :
    Calls Tryd.prog 3 #[.string s] w fun e w' => e = .returned (.bool true) ∧ Below w.heap.size w w' := by
  have HK := hide hK
  have HSM : Hid (s.size ≤ maxLen) := by show _ ≤ _; unfold maxLen; omega
  clear hK
  go_enter Tryd.func3, Tryd.ntmps3
  go_wp2_with fail
  refine (hash_any ⟨#[97, 98, 99]⟩ w HK.out (by decide)).mono ?_
  rintro e W1 ⟨rfl, hB1⟩
  have HB1 := hide hB1
  have HK1 : Hid (Tab W1) := HK.out.below hB1 HK.out.lt
  clear hB1
  rw [show bytesOf ⟨#[97, 98, 99]⟩ = [97, 98, 99] from rfl, hash_abc]
  obtain ⟨X3, HX3⟩ : ∃ X3, Hid (X3 = strOf abcBytes) := ⟨_, rfl⟩
  rw [← HX3.out]
  have hX3 : X3 = ⟨#[221, 175, 53, 161, 147, 97, 122, 186, 204, 65, 115, 73, 174, 32, 65, 49, 18, 230, 250, 78, 137, 169, 126, 162, 10, 158, 238, 230, 75, 85, 211, 154, 33, 146, 153, 42, 39, 79, 193, 168, 54, 186, 60, 35, 163, 254, 235, 189, 69, 77, 68, 35, 100, 60, 232, 14, 42, 154, 201, 79, 165, 76, 164, 159]⟩ := by rw [HX3.out]; exact abc64
  have HX := hide hX3
  clear hX3
  go_wp2_with fail
  refine (hash_any s W1 HK1.out HSM.out).mono ?_
  rintro e W2 ⟨rfl, hB2⟩
  have HB2 : Hid (Below w.heap.size w W2) := HB1.out.trans (hB2.mono HB1.out.size)
  clear hB2 HB1 HK1
  obtain ⟨D, HD⟩ : ∃ D, Hid (D = strOf (hashOf (bytesOf s))) := ⟨_, rfl⟩
  rw [← HD.out]
  go_wp2_with fail
  refine (refHash_same s W2 hs).mono ?_
  rintro e W3 ⟨rfl, hB3⟩
  have HB3 : Hid (Below w.heap.size w W3) := HB2.out.trans (hB3.mono HB2.out.size)
  clear hB3 HB2
  rw [← HD.out]
  have hX3 := HX.out
  clear HX HX3
  go_wp2_with fail
  go_ret
  exact ⟨rfl, HB3.out⟩
end Go.Proofs.YtcnbhpghcjcejaaDoor
