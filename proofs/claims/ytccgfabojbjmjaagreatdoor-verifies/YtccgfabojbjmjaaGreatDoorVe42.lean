import Derived.Test.YtccgfabojbjmjaaGreatDoorVe35
import Derived.Test.YtccgfabojbjmjaaGreatDoorVe41
import Derived.Test.YtccgfabojbjmjaaGreatDoorVe39
namespace Go.Proofs.YtccgfabojbjmjaaGreatDoor
open Go.RowKit
def ofSzV (what t : ByteArray) (n : Int) : Value := if (t.size : Int) = n then .nilIface else atE what (szI t.size n)
theorem ofSize_any (what t : ByteArray) (n : Int) (w : World) : Calls Tryz.prog 55 #[.string what, .string t, .int .i64 n] w fun e w' => e = .returned (ofSzV what t n) ∧ w' = w := by
 go_enter Tryz.func55, Tryz.ntmps55
 unfold ofSzV
 by_cases h : (t.size : Int) = n
 ·
  go_wp2
  go_ret
  exact ⟨rfl, rfl⟩
 ·
  go_wp2
  go_ret
  exact ⟨rfl, rfl⟩
theorem zeroSz (w : World) : (zeroValue 134).run Tryz.prog w = .ok (.agg #[.int .i64 0, .int .i64 0]) w := by kernel_rfl
theorem zeroIm (w : World) : (zeroValue 136).run Tryz.prog w = .ok (.agg #[.int .i64 0]) w := by kernel_rfl
theorem codeOf_nil (w : World) : Calls Tryz.prog 30 #[.nilIface] w fun e w' => e = .returned (.int .i64 0) ∧ Below w.heap.size w w' := by
 have h1 := zeroSz
 have h2 := zeroIm
 go_enter Tryz.func30, Tryz.ntmps30
 go_wp2
 go_ret
 exact ⟨rfl, ((Below.refl _ _).alloc (Nat.le_refl _) _).alloc (by simp) _⟩
theorem codeOf_size (what : ByteArray) (h k : Int) (w : World) (hE : w.cell? ⟨3, 0, none⟩ = some (rtV 66)) : Calls Tryz.prog 30 #[atE what (szI h k)] w fun e w' => e = .returned (.int .i64 1) ∧ Below w.heap.size w w' := by
 have h1 := zeroSz
 have h2 := zeroIm
 obtain ⟨E, HE⟩ : ∃ E, Hid (E = Value.agg #[.string what, szI h k]) := ⟨_, rfl⟩
 unfold atE
 rw [← HE.out]
 go_enter Tryz.func30, Tryz.ntmps30
 go_wp2_with fail
 rw [HE.out]
 refine (as_size what h k w.heap.size _ ?_ ?_).mono ?_
 · exact (World.cell?_of_block ((heap_alloc_old _ _ (by have := World.block_lt_of_cell? w _ hE; simp at *; omega)).trans (heap_alloc_old _ _ (World.block_lt_of_cell? w _ hE)))).trans hE
 · exact heap_alloc2_old _ _ _
 rintro e W ⟨rfl, hB⟩
 have BW : Hid (Below w.heap.size w W) := (((Below.refl _ _).alloc (Nat.le_refl _) _).alloc (by simp) _).trans hB
 clear hB h1 h2
 go_wp2
 go_ret
 exact ⟨rfl, BW.out⟩
end Go.Proofs.YtccgfabojbjmjaaGreatDoor
