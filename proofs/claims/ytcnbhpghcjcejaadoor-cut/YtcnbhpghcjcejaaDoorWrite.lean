import Derived.Test.YtcnbhpghcjcejaaDoorPuts
namespace Go.Proofs.YtcnbhpghcjcejaaDoor
open Go.RowKit
def strLen : Value → Nat
  | .string s => s.size
  | _ => 0
def bytesOf (s : ByteArray) : List UInt8 := s.data.toList
theorem bytesOf_length (s : ByteArray) : (bytesOf s).length = s.size := rfl
theorem bytesOf_extract (s : ByteArray) (n : Nat) : bytesOf (s.extract n s.size) = (bytesOf s).drop n := by
  unfold bytesOf
  simp only [ByteArray.data_extract, Array.toList_extract, List.extract_eq_take_drop]
  exact List.take_of_length_le (by rw [List.length_drop]; exact Nat.le_refl _)
theorem extract_size (s : ByteArray) (n : Nat) : (s.extract n s.size).size = s.size - n := by simp
theorem sizeSl39 : Tryd.prog.underlying 39 = some (.slice 5) := by kernel_rfl
section
attribute [local go_sem] U_and U_or U_xor U_not U_add U_add_one
attribute [local go_sem ↓] Go.wp_at_zero Go.wp_at_succ
set_option maxHeartbeats 4000000 in
theorem write_any (b : Nat) (T : TypeId) (H : HS) (s : ByteArray) (w : World) (h : Has w b T H) (hK : Tab w) (hb0 : 0 ≠ b) (hs : s.size ≤ maxLen) :
    Calls Tryd.prog 18 #[.pointer (some ⟨b, 0, none⟩), .string s] w fun e w' => e = .returned (.tuple #[]) ∧ Has w' b T (H.puts (bytesOf s)) ∧ Turn b w w' := by
  unfold maxLen at hs
  have HH : Hid (Has w b T H) := h
  have HK : Hid (Tab w) := hK
  clear h hK
  go_enter Tryd.func18, Tryd.ntmps18
  go_wp2_with fail
  go_loopw [1] (fun v wr => ∃ (t : ByteArray) (J : HS), v = .string t ∧ t.size ≤ 9223372036854775807 ∧ Hid (J.puts (bytesOf t) = H.puts (bytesOf s)) ∧ Hid (Has wr b T J) ∧ Hid (Turn b w wr)) (fun v _ => strLen v)
  case atStart => exact ⟨s, H, rfl, hs, rfl, HH, Turn.refl _ _⟩
  case round =>
    obtain ⟨t, J, rfl, ht, HJ, hJ, hT⟩ := hrel
    by_cases hpos : 0 < t.size
    · obtain ⟨f, hf⟩ : ∃ f, f = J.filled := ⟨_, rfl⟩
      have hf1 : f < 128 := by rw [hf]; exact J.filled_lt
      obtain ⟨n, hn⟩ : ∃ n, n = Nat.min t.size (128 - f) := ⟨_, rfl⟩
      have hn1 : n ≤ t.size := by rw [hn]; exact Nat.min_le_left _ _
      have hn2 : n ≤ 128 - f := by rw [hn]; exact Nat.min_le_right _ _
      have hn0 : 0 < n := by rw [hn]; exact Nat.lt_min.2 ⟨hpos, by omega⟩
      have hsl := slice128 b 8 (f : Int) f rfl hf1
      obtain ⟨X, hX⟩ : ∃ X, X = J.row.take (8 + f) ++ ((bytesOf t).take n).map cv ++ J.row.drop (8 + f + n) := ⟨_, rfl⟩
      have hcp : (Builtin.copy_ #[39, 9] 3 #[.slice (some ⟨b, 8 + f, none⟩) (128 - f) (128 - f), .string t]).run Tryd.prog wr.drew = .ok (goInt n) (wr.drew.setRow b X.toArray) := by
        rw [hX]
        exact run_copy_str wr.drew _ _ _ 5 b (8 + f) (128 - f) (128 - f) t J.row T n sizeSl39 sizeU8 hJ.out.heap hn.symm (by rw [J.row_length hJ.out.len]; omega)
      have HX : Hid (X = J.row.take (8 + f) ++ ((bytesOf t).take n).map cv ++ J.row.drop (8 + f + n)) := hX
      have HF : Hid (f = J.filled) := hf
      clear hX hf hn
      go_wp2_with fail
      go_region_held3 (fun w' => w'.heap = wr.heap ∨ w'.heap = (wr.setRow b X.toArray).heap) (first | exact Or.inl rfl | exact Or.inr rfl)
        (first | (go_at_call 20; refine (filled_any b T J wr.drew ⟨hJ.out.heap, hJ.out.len⟩).mono ?_; rintro e w' ⟨rfl, rfl⟩; rw [← HF.out]))
      obtain ⟨W1, hW1⟩ : ∃ W1, W1 = wr.drew.setRow b X.toArray := ⟨_, rfl⟩
      rw [← hW1]
      obtain ⟨J1, hJ1⟩ : ∃ J1 : HS, J1 = { J with blk := splice J.blk f ((bytesOf t).take n) } := ⟨_, rfl⟩
      have hl : ((bytesOf t).take n).length = n := by rw [List.length_take, bytesOf_length]; omega
      have hA1 : Hid (Has W1 b T J1) := by
        refine ⟨?_, ?_⟩
        · rw [hW1, setRow_heap wr.drew b _ X.toArray T (0, 0) hJ.out.heap, HX.out, hJ1]
          have e := J.row_splice f ((bytesOf t).take n) (by rw [hl, hJ.out.len]; omega)
          rw [hl] at e
          rw [e]
        · rw [hJ1]; exact (length_splice _ _ _ (by rw [hl, hJ.out.len]; omega)).trans hJ.out.len
      have hT1 : Hid (Turn b w W1) := by
        rw [hW1]
        exact hT.out.trans ⟨rfl, rfl, rfl, by simp, fun k _ hk => setRow_other wr.drew b k _ hk⟩
      have HC : Hid ((J1.count n).done.puts (bytesOf (t.extract n t.size)) = H.puts (bytesOf s)) := by
        show _ = _
        rw [bytesOf_extract, ← HJ.out]
        have e1 : (J1.count n).done = J.chunk ((bytesOf t).take n) := by
          unfold HS.chunk; rw [hl, ← HF.out, hJ1]; rfl
        rw [e1, HS.chunk_puts _ J (by intro e; rw [e] at hl; simp at hl; omega) hJ.out.len (by rw [hl, ← HF.out]; omega), ← HS.puts_append, List.take_append_drop]
      clear hW1 hJ1 hcp hsl hJ hT HX HJ HF
      go_wp2_with fail
      refine (count_any b T J1 _ n (by omega) (by omega) W1 hA1.out).mono ?_
      rintro e W2 ⟨rfl, hA2, hT2⟩
      have hA2' : Hid (Has W2 b T (J1.count n)) := hA2
      have hT2' : Hid (Turn b w W2) := hT1.out.trans hT2
      clear hA2 hT2 hA1 hT1
      go_wp2_with fail
      refine (filled_any b T (J1.count n) W2 hA2'.out).mono ?_
      rintro e w' ⟨rfl, rfl⟩
      by_cases h0 : (J1.count n).filled = 0
      · have hq : (((J1.count n).filled : Int) == 0) = true := by rw [h0]; rfl
        have HD : Hid ((J1.count n).done = (J1.count n).mix) := by show _ = _; unfold HS.done; rw [if_pos h0]
        clear h0
        go_wp2_with fail
        refine (mixBlock_any b T (J1.count n) w' hA2'.out (HK.out.turn hT2'.out hb0) hb0).mono ?_
        rintro e W3 ⟨rfl, hA3, hT3⟩
        rw [HD.out] at HC
        have hA3' : Hid (Has W3 b T (J1.count n).mix) := hA3
        have hT3' : Hid (Turn b w W3) := hT2'.out.trans hT3
        clear hA3 hT3 hA2' hT2'
        go_wp2_with fail
        go_roundw
        case rel => exact ⟨_, _, rfl, by rw [extract_size]; omega, HC, hA3', hT3'⟩
        case measure => simp only [strLen, extract_size]; omega
      · have hq : (((J1.count n).filled : Int) == 0) = false := by simpa using h0
        have HD : Hid ((J1.count n).done = J1.count n) := by show _ = _; unfold HS.done; rw [if_neg h0]
        clear h0
        rw [HD.out] at HC
        go_wp2_with fail
        go_roundw
        case rel => exact ⟨_, _, rfl, by rw [extract_size]; omega, HC, hA2', hT2'⟩
        case measure => simp only [strLen, extract_size]; omega
    · have h0 : t.size = 0 := by omega
      have hb : bytesOf t = [] := List.eq_nil_of_length_eq_zero h0
      have HE : Hid (J = H.puts (bytesOf s)) := by have := HJ.out; rw [hb] at this; exact this
      have hp : ¬ (0 : Int) < (t.size : Int) := by omega
      clear hpos h0 hb HJ
      go_wp2_with fail
      go_end0
      exact ⟨rfl, by rw [← HE.out]; exact hJ.out, hT.out⟩
end
end Go.Proofs.YtcnbhpghcjcejaaDoor
