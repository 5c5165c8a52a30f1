import Derived.Test.YtccgfabojbjmjaaGreatDoorSd31
import Derived.Test.YtccgfabojbjmjaaGreatDoorSd26
import Derived.Laws.CopyOwn
import Derived.Lib.BufferWrite
namespace Go.Proofs.YtccgfabojbjmjaaGreatDoor
open Go.RowKit
end Go.Proofs.YtccgfabojbjmjaaGreatDoor
namespace Go.Proofs.YtccgfabojbjmjaaGreatDoor
open Go.RowKit
theorem pr11 : Pr 11 := trial_prime 11 2 (by decide) (by decide +kernel) (by decide)
theorem pr23 : Pr 23 := trial_prime 23 3 (by decide) (by decide +kernel) (by decide)
theorem pr41 : Pr 41 := trial_prime 41 5 (by decide) (by decide +kernel) (by decide)
theorem pr43 : Pr 43 := trial_prime 43 5 (by decide) (by decide +kernel) (by decide)
theorem pr73 : Pr 73 := trial_prime 73 7 (by decide) (by decide +kernel) (by decide)
theorem pr269 : Pr 269 := trial_prime 269 15 (by decide) (by decide +kernel) (by decide)
theorem pr307 : Pr 307 := trial_prime 307 16 (by decide) (by decide +kernel) (by decide)
theorem pr1361 : Pr 1361 := trial_prime 1361 35 (by decide) (by decide +kernel) (by decide)
theorem pr2851 : Pr 2851 := trial_prime 2851 52 (by decide) (by decide +kernel) (by decide)
theorem pr5879 : Pr 5879 := trial_prime 5879 75 (by decide) (by decide +kernel) (by decide)
theorem pr30703 : Pr 30703 := trial_prime 30703 174 (by decide) (by decide +kernel) (by decide)
theorem pr82163 : Pr 82163 := trial_prime 82163 285 (by decide) (by decide +kernel) (by decide)
theorem pr132667 : Pr 132667 := trial_prime 132667 363 (by decide) (by decide +kernel) (by decide)
theorem pr137849 : Pr 137849 := trial_prime 137849 370 (by decide) (by decide +kernel) (by decide)
theorem pr409477 : Pr 409477 := trial_prime 409477 638 (by decide) (by decide +kernel) (by decide)
theorem pr531581 : Pr 531581 := trial_prime 531581 728 (by decide) (by decide +kernel) (by decide)
theorem pr1224481 : Pr 1224481 := trial_prime 1224481 1105 (by decide) (by decide +kernel) (by decide)
theorem prX0 : Pr 14741173 := (pratt 14741173 2 24 [2, 2, 3, 3, 409477] (by decide +kernel) (by intro r hr; simp at hr; rcases hr with rfl | rfl | rfl <;> first | exact pr2 | exact pr3 | exact pr409477) (by decide +kernel) (by decide +kernel) (by decide +kernel) (by decide +kernel)).1
theorem prX1 : Pr 58964693 := (pratt 58964693 2 26 [2, 2, 14741173] (by decide +kernel) (by intro r hr; simp at hr; rcases hr with rfl | rfl <;> first | exact pr2 | exact prX0) (by decide +kernel) (by decide +kernel) (by decide +kernel) (by decide +kernel)).1
theorem prX2 : Pr 292386187 := (pratt 292386187 2 29 [2, 3, 3, 3, 3, 307, 5879] (by decide +kernel) (by intro r hr; simp at hr; rcases hr with rfl | rfl | rfl | rfl <;> first | exact pr2 | exact pr3 | exact pr307 | exact pr5879) (by decide +kernel) (by decide +kernel) (by decide +kernel) (by decide +kernel)).1
theorem prX3 : Pr 213441916511 := (pratt 213441916511 13 38 [2, 5, 73, 292386187] (by decide +kernel) (by intro r hr; simp at hr; rcases hr with rfl | rfl | rfl | rfl <;> first | exact pr2 | exact pr5 | exact pr73 | exact prX2) (by decide +kernel) (by decide +kernel) (by decide +kernel) (by decide +kernel)).1
theorem prX4 : Pr 1257559732178653 := (pratt 1257559732178653 2 51 [2, 2, 3, 7, 23, 531581, 1224481] (by decide +kernel) (by intro r hr; simp at hr; rcases hr with rfl | rfl | rfl | rfl | rfl | rfl <;> first | exact pr2 | exact pr3 | exact pr7 | exact pr23 | exact pr531581 | exact pr1224481) (by decide +kernel) (by decide +kernel) (by decide +kernel) (by decide +kernel)).1
theorem prX5 : Pr 4434155615661930479 := (pratt 4434155615661930479 17 62 [2, 41, 43, 1257559732178653] (by decide +kernel) (by intro r hr; simp at hr; rcases hr with rfl | rfl | rfl | rfl <;> first | exact pr2 | exact pr41 | exact pr43 | exact prX4) (by decide +kernel) (by decide +kernel) (by decide +kernel) (by decide +kernel)).1
theorem prX6 : Pr 3044861653679985063343 := (pratt 3044861653679985063343 5 72 [2, 3, 11, 30703, 82163, 132667, 137849] (by decide +kernel) (by intro r hr; simp at hr; rcases hr with rfl | rfl | rfl | rfl | rfl | rfl | rfl <;> first | exact pr2 | exact pr3 | exact pr11 | exact pr30703 | exact pr82163 | exact pr132667 | exact pr137849) (by decide +kernel) (by decide +kernel) (by decide +kernel) (by decide +kernel)).1
theorem prX7 : Pr 172054593956031949258510691 := (pratt 172054593956031949258510691 2 88 [2, 5, 1361, 2851, 4434155615661930479] (by decide +kernel) (by intro r hr; simp at hr; rcases hr with rfl | rfl | rfl | rfl | rfl <;> first | exact pr2 | exact pr5 | exact pr1361 | exact pr2851 | exact prX5) (by decide +kernel) (by decide +kernel) (by decide +kernel) (by decide +kernel)).1
theorem prX8 : Pr 198211423230930754013084525763697 := (pratt 198211423230930754013084525763697 5 108 [2, 2, 2, 2, 3, 23, 58964693, 3044861653679985063343] (by decide +kernel) (by intro r hr; simp at hr; rcases hr with rfl | rfl | rfl | rfl | rfl <;> first | exact pr2 | exact pr3 | exact pr23 | exact prX1 | exact prX6) (by decide +kernel) (by decide +kernel) (by decide +kernel) (by decide +kernel)).1
theorem prX9 : Pr 19757330305831588566944191468367130476339 := (pratt 19757330305831588566944191468367130476339 2 134 [2, 269, 213441916511, 172054593956031949258510691] (by decide +kernel) (by intro r hr; simp at hr; rcases hr with rfl | rfl | rfl | rfl <;> first | exact pr2 | exact pr269 | exact prX3 | exact prX7) (by decide +kernel) (by decide +kernel) (by decide +kernel) (by decide +kernel)).1
theorem prX10 : Pr 276602624281642239937218680557139826668747 := (pratt 276602624281642239937218680557139826668747 2 138 [2, 7, 19757330305831588566944191468367130476339] (by decide +kernel) (by intro r hr; simp at hr; rcases hr with rfl | rfl | rfl <;> first | exact pr2 | exact pr7 | exact prX9) (by decide +kernel) (by decide +kernel) (by decide +kernel) (by decide +kernel)).1
theorem prL : Pr Lord := (pratt Lord 2 253 [2, 2, 3, 11, 198211423230930754013084525763697, 276602624281642239937218680557139826668747] (by decide +kernel) (by intro r hr; simp at hr; rcases hr with rfl | rfl | rfl | rfl | rfl <;> first | exact pr2 | exact pr3 | exact pr11 | exact prX8 | exact prX10) (by decide +kernel) (by decide +kernel) (by decide +kernel) (by decide +kernel)).1
noncomputable def HS.done (X : HS) : HS := if X.filled = 0 then X.mix else X
noncomputable def HS.chunk (H : HS) (l : List UInt8) : HS := HS.done { H with blk := splice H.blk H.filled l, n := H.n + l.length }
noncomputable def HS.put (H : HS) (c : UInt8) : HS := H.chunk [c]
noncomputable def HS.puts (H : HS) (l : List UInt8) : HS := l.foldl HS.put H
theorem HS.puts_append (H : HS) (l m : List UInt8) : H.puts (l ++ m) = (H.puts l).puts m := List.foldl_append ..
theorem HS.puts_cons (H : HS) (c : UInt8) (m : List UInt8) : H.puts (c :: m) = (H.put c).puts m := rfl
theorem splice_step {α : Type} (L : List α) (f : Nat) (c : α) (m : List α) (h : f + 1 + m.length ≤ L.length) : splice (splice L f [c]) (f + 1) m = splice L f (c :: m) := by
 unfold splice
 have h1 : (L.take f).length = f := by simp; omega
 have e1 : (L.take f ++ ([c] ++ L.drop (f + [c].length))).take (f + 1) = L.take f ++ [c] := by
  rw [← List.append_assoc, List.take_append_of_le_length (by simp; omega)]
  exact List.take_of_length_le (by simp; omega)
 have e2 : (L.take f ++ ([c] ++ L.drop (f + [c].length))).drop (f + 1 + m.length) = L.drop (f + 1 + m.length) := by
  rw [← List.append_assoc, List.drop_append, List.drop_eq_nil_of_le (by simp; omega), List.nil_append, List.drop_drop]
  congr 1; simp only [List.length_append, h1, List.length_singleton]; omega
 rw [e1, e2]
 simp only [List.append_assoc, List.cons_append, List.nil_append, List.length_cons]
 rw [show f + 1 + m.length = f + (m.length + 1) by omega]
theorem HS.chunk_cons (H : HS) (c : UInt8) (m : List UInt8) (hm : m ≠ []) (hl : H.blk.length = 128) (h : H.filled + (m.length + 1) ≤ 128) : H.chunk (c :: m) = (H.put c).chunk m := by
 have hm0 : 0 < m.length := List.length_pos_iff.2 hm
 have hf := H.filled_lt
 have e : H.put c = { H with blk := splice H.blk H.filled [c], n := H.n + 1 } := by
  unfold HS.put HS.chunk HS.done
  rw [if_neg]; rfl
  show ¬ (H.n + [c].length) % 128 = 0
  have : H.n % 128 = H.filled := rfl
  simp; omega
 have e2 : ({ H with blk := splice H.blk H.filled [c], n := H.n + 1 } : HS).filled = H.filled + 1 := by
  show (H.n + 1) % 128 = H.n % 128 + 1
  have : H.n % 128 = H.filled := rfl
  omega
 rw [e]
 unfold HS.chunk
 rw [e2]
 congr 2
 · exact (splice_step H.blk H.filled c m (by omega)).symm
 · simp; omega
theorem HS.chunk_puts (l : List UInt8) : ∀ (H : HS), l ≠ [] → H.blk.length = 128 → H.filled + l.length ≤ 128 → H.chunk l = H.puts l := by
 induction l with
 | nil => intro H h; exact absurd rfl h
 | cons c m ih =>
  intro H _ hl h
  by_cases hm : m = []
  · subst hm; rfl
  ·
   rw [H.chunk_cons c m hm hl (by simpa using h), H.puts_cons]
   have e : H.put c = { H with blk := splice H.blk H.filled [c], n := H.n + 1 } := by
    have hm0 : 0 < m.length := List.length_pos_iff.2 hm
    unfold HS.put HS.chunk HS.done
    rw [if_neg]; rfl
    show ¬ (H.n + [c].length) % 128 = 0
    have : H.n % 128 = H.filled := rfl
    simp at h ⊢; omega
   refine ih _ hm ?_ ?_
   · rw [e]; exact (length_splice _ _ _ (by have := H.filled_lt; simp; omega)).trans hl
   ·
    rw [e]; show (H.n + 1) % 128 + _ ≤ _
    have hm0 : 0 < m.length := List.length_pos_iff.2 hm
    have : H.n % 128 = H.filled := rfl
    simp at h; omega
theorem HS.row_splice (H : HS) (off : Nat) (l : List UInt8) (h : off + l.length ≤ H.blk.length) :
  H.row.take (8 + off) ++ l.map cv ++ H.row.drop (8 + off + l.length) = ({ H with blk := splice H.blk off l } : HS).row := by
 have h8 : (H.st.words.map uv).length = 8 := rfl
 have e1 : H.row.take (8 + off) = H.st.words.map uv ++ (H.blk.take off).map cv := by
  unfold HS.row
  rw [List.take_append, List.take_of_length_le (by rw [h8]; omega), h8, Nat.add_sub_cancel_left, List.take_append_of_le_length (by simp; omega), List.map_take]
 have e2 : H.row.drop (8 + off + l.length) = (H.blk.drop (off + l.length)).map cv ++ [uv H.hi, uv H.lo] := by
  unfold HS.row
  rw [List.drop_append, List.drop_eq_nil_of_le (by rw [h8]; omega), h8, List.nil_append, List.drop_append, List.map_drop]
  have : 8 + off + l.length - 8 = off + l.length := by omega
  rw [this]
  have h0 : off + l.length - (List.map cv H.blk).length = 0 := by simp; omega
  rw [h0]; rfl
 rw [e1, e2]
 show _ = H.st.words.map uv ++ ((splice H.blk off l).map cv ++ [uv H.hi, uv H.lo])
 simp [splice]
theorem run_copy_str {P : Program} (w : World) (dT sT ty elem : TypeId) (g o dLen dCap : Nat) (s : ByteArray) (cur : List Value) (t : TypeId) (n : Nat)
  (hu : P.underlying dT = some (.slice elem)) (hs : (P.info? elem).map (·.size) = some 1) (hg : w.heap[g]? = some (.cells cur.toArray t (0, 0))) (hn : Nat.min s.size dLen = n) (hfit : o + n ≤ cur.length) :
  (Builtin.copy_ #[dT, sT] ty #[.slice (some ⟨g, o, none⟩) dLen dCap, .string s]).run P w =
   .ok (goInt n) (w.setRow g (cur.take o ++ (s.data.toList.take n).map cv ++ cur.drop (o + n)).toArray) := by
 have hsz : s.size = s.data.toList.length := rfl
 have hln : n ≤ s.data.toList.length := by rw [← hsz, ← hn]; exact Nat.min_le_left _ _
 have hlen : ((s.data.toList.take n).map cv).length = n := by rw [List.length_map, List.length_take]; exact Nat.min_eq_left hln
 have hst := run_storeCells_at P g o t ((s.data.toList.take n).map cv) 0 cur.toArray w hg (by rw [hlen]; simpa using hfit) (by
  intro v hv; obtain ⟨x, _, rfl⟩ := List.mem_map.1 hv; rfl)
 rw [hlen] at hst
 simp only [Nat.add_zero] at hst
 have htk : (Array.map (fun b : UInt8 => Value.int IntKind.u8 (b.toNat : Int)) (s.extract 0 n).data).toList = (s.data.toList.take n).map cv := by
  simp only [Array.toList_map, ByteArray.data_extract, Array.toList_extract, List.extract_eq_take_drop, List.drop_zero, Nat.sub_zero]; rfl
 cases hq : P.info? elem with
 | none => simp [hq] at hs
 | some i =>
  simp only [Builtin.copy_, Sem.run_bind, run_underlying hu, Result.andThen_ok, Builtin.lenOf, Builtin.firstCells, Sem.run_pure, hn, List.getElem?_toArray, List.getElem?_cons_zero, List.getElem?_cons_succ]
  rw [htk]
  simp [sizeOf, typeInfo, hq, hst, -List.map_take]
def strLen : Value → Nat
 | .string s => s.size
 | _ => 0
def bytesOfH (s : ByteArray) : List UInt8 := s.data.toList
theorem bytesOf_lengthH (s : ByteArray) : (bytesOfH s).length = s.size := rfl
theorem bytesOf_extract (s : ByteArray) (n : Nat) : bytesOfH (s.extract n s.size) = (bytesOfH s).drop n := by
 unfold bytesOfH
 simp only [ByteArray.data_extract, Array.toList_extract, List.extract_eq_take_drop]
 exact List.take_of_length_le (by rw [List.length_drop]; exact Nat.le_refl _)
theorem extract_size (s : ByteArray) (n : Nat) : (s.extract n s.size).size = s.size - n := by simp
theorem sizeSl39 : Tryz.prog.underlying 89 = some (.slice 5) := by kernel_rfl
section
attribute [local go_sem] U_and U_or U_xor U_not U_add U_add_one
attribute [local go_sem ↓] Go.wp_at_zero Go.wp_at_succ
set_option maxRecDepth 100000 in
set_option maxHeartbeats 4000000 in
theorem write_any (b : Nat) (T : TypeId) (H : HS) (s : ByteArray) (w : World) (h : Has w b T H) (hK : Tab w) (hb0 : 9 ≠ b) (hs : s.size ≤ maxLen) :
  Calls Tryz.prog 82 #[.pointer (some ⟨b, 0, none⟩), .string s] w fun e w' => e = .returned (.tuple #[]) ∧ Has w' b T (H.puts (bytesOfH s)) ∧ Turn b w w' := by
 unfold maxLen at hs
 have HH : Hid (Has w b T H) := h
 have HK : Hid (Tab w) := hK
 clear h hK
 go_enter Tryz.func82, Tryz.ntmps82
 go_wp2_with fail
 go_loopw [1] (fun v wr => ∃ (t : ByteArray) (J : HS), v = .string t ∧ t.size ≤ 9223372036854775807 ∧ Hid (J.puts (bytesOfH t) = H.puts (bytesOfH s)) ∧ Hid (Has wr b T J) ∧ Hid (Turn b w wr)) (fun v _ => strLen v)
 case atStart => exact ⟨s, H, rfl, hs, rfl, HH, Turn.refl _ _⟩
 case round =>
  obtain ⟨t, J, rfl, ht, HJ, hJ, hT⟩ := hrel
  by_cases hpos : 0 < t.size
  ·
   obtain ⟨f, hf⟩ : ∃ f, f = J.filled := ⟨_, rfl⟩
   have hf1 : f < 128 := by rw [hf]; exact J.filled_lt
   obtain ⟨n, hn⟩ : ∃ n, n = Nat.min t.size (128 - f) := ⟨_, rfl⟩
   have hn1 : n ≤ t.size := by rw [hn]; exact Nat.min_le_left _ _
   have hn2 : n ≤ 128 - f := by rw [hn]; exact Nat.min_le_right _ _
   have hn0 : 0 < n := by rw [hn]; exact Nat.lt_min.2 ⟨hpos, by omega⟩
   have hsl := slice128 b 8 (f : Int) f rfl hf1
   obtain ⟨X, hX⟩ : ∃ X, X = J.row.take (8 + f) ++ ((bytesOfH t).take n).map cv ++ J.row.drop (8 + f + n) := ⟨_, rfl⟩
   have hcp : (Builtin.copy_ #[89, 9] 3 #[.slice (some ⟨b, 8 + f, none⟩) (128 - f) (128 - f), .string t]).run Tryz.prog wr.drew = .ok (goInt n) (wr.drew.setRow b X.toArray) := by
    rw [hX]
    exact run_copy_str wr.drew _ _ _ 5 b (8 + f) (128 - f) (128 - f) t J.row T n sizeSl39 sizeU8H hJ.out.heap hn.symm (by rw [J.row_length hJ.out.len]; omega)
   have HX : Hid (X = J.row.take (8 + f) ++ ((bytesOfH t).take n).map cv ++ J.row.drop (8 + f + n)) := hX
   have HF : Hid (f = J.filled) := hf
   clear hX hf hn
   go_wp2_with fail
   go_region_held3 (fun w' => w'.heap = wr.heap ∨ w'.heap = (wr.setRow b X.toArray).heap) (first | exact Or.inl rfl | exact Or.inr rfl)
    (first | (go_at_call 125; refine (filled_any b T J wr.drew ⟨hJ.out.heap, hJ.out.len⟩).mono ?_; rintro e w' ⟨rfl, rfl⟩; rw [← HF.out]))
   obtain ⟨W1, hW1⟩ : ∃ W1, W1 = wr.drew.setRow b X.toArray := ⟨_, rfl⟩
   rw [← hW1]
   obtain ⟨J1, hJ1⟩ : ∃ J1 : HS, J1 = { J with blk := splice J.blk f ((bytesOfH t).take n) } := ⟨_, rfl⟩
   have hl : ((bytesOfH t).take n).length = n := by rw [List.length_take, bytesOf_lengthH]; omega
   have hA1 : Hid (Has W1 b T J1) := by
    refine ⟨?_, ?_⟩
    ·
     rw [hW1, setRow_heap wr.drew b _ X.toArray T (0, 0) hJ.out.heap, HX.out, hJ1]
     have e := J.row_splice f ((bytesOfH t).take n) (by rw [hl, hJ.out.len]; omega)
     rw [hl] at e
     rw [e]
    · rw [hJ1]; exact (length_splice _ _ _ (by rw [hl, hJ.out.len]; omega)).trans hJ.out.len
   have hT1 : Hid (Turn b w W1) := by
    rw [hW1]
    exact hT.out.trans ⟨rfl, rfl, rfl, by simp, fun k _ hk => setRow_other wr.drew b k _ hk⟩
   have HC : Hid ((J1.count n).done.puts (bytesOfH (t.extract n t.size)) = H.puts (bytesOfH s)) := by
    show _ = _
    rw [bytesOf_extract, ← HJ.out]
    have e1 : (J1.count n).done = J.chunk ((bytesOfH t).take n) := by
     unfold HS.chunk; rw [hl, ← HF.out, hJ1]; rfl
    rw [e1, HS.chunk_puts _ J (by intro e; rw [e] at hl; simp at hl; omega) hJ.out.len (by rw [hl, ← HF.out]; omega), ← HS.puts_append, List.take_append_drop]
   clear hW1 hJ1 hcp hsl hJ hT HX HJ HF
   go_wp2_with fail
   refine (count_any b T J1 _ n (by omega) (by omega) W1 hA1.out).mono ?_
   rintro e W2 ⟨rfl, hA2, hT2⟩
   have hA2' : Hid (Has W2 b T (J1.count n)) := hA2
   have hT2' : Hid (Turn b w W2) := hT1.out.trans hT2
   clear hA2 hT2 hA1 hT1
   go_wp2_with fail
   refine (filled_any b T (J1.count n) W2 hA2'.out).mono ?_
   rintro e w' ⟨rfl, rfl⟩
   by_cases h0 : (J1.count n).filled = 0
   ·
    have hq : (((J1.count n).filled : Int) == 0) = true := by rw [h0]; rfl
    have HD : Hid ((J1.count n).done = (J1.count n).mix) := by show _ = _; unfold HS.done; rw [if_pos h0]
    clear h0
    go_wp2_with fail
    refine (mixBlock_any b T (J1.count n) w' hA2'.out (HK.out.turn hT2'.out hb0) hb0).mono ?_
    rintro e W3 ⟨rfl, hA3, hT3⟩
    rw [HD.out] at HC
    have hA3' : Hid (Has W3 b T (J1.count n).mix) := hA3
    have hT3' : Hid (Turn b w W3) := hT2'.out.trans hT3
    clear hA3 hT3 hA2' hT2'
    go_wp2_with fail
    go_roundw
    case rel => exact ⟨_, _, rfl, by rw [extract_size]; omega, HC, hA3', hT3'⟩
    case measure => simp only [strLen, extract_size]; omega
   ·
    have hq : (((J1.count n).filled : Int) == 0) = false := by simpa using h0
    have HD : Hid ((J1.count n).done = J1.count n) := by show _ = _; unfold HS.done; rw [if_neg h0]
    clear h0
    rw [HD.out] at HC
    go_wp2_with fail
    go_roundw
    case rel => exact ⟨_, _, rfl, by rw [extract_size]; omega, HC, hA2', hT2'⟩
    case measure => simp only [strLen, extract_size]; omega
  ·
   have h0 : t.size = 0 := by omega
   have hb : bytesOfH t = [] := List.eq_nil_of_length_eq_zero h0
   have HE : Hid (J = H.puts (bytesOfH s)) := by have := HJ.out; rw [hb] at this; exact this
   have hp : ¬ (0 : Int) < (t.size : Int) := by omega
   clear hpos h0 hb HJ
   go_wp2_with fail
   go_end0
   exact ⟨rfl, by rw [← HE.out]; exact hJ.out, hT.out⟩
end
theorem zeroU8 (w : World) : (zeroValue 5).run Tryz.prog w = .ok (.int .u8 0) w := by kernel_rfl
theorem zeroCells_u8 (n : Nat) : (Builtin.zeroCells (Value.int .u8 0).cells n).toList = (List.replicate n (0 : UInt8)).map cv := by
 have e : (Value.int .u8 0).cells = #[Value.int .u8 0] := rfl
 rw [e]
 unfold Builtin.zeroCells
 apply List.ext_getElem?
 intro i
 by_cases hi : i < n
 ·
  have h1 : i % 1 = 0 := Nat.mod_one i
  simp [hi]
  rw [h1]; rfl
 · simp [hi]
theorem run_clear_bytes (w : World) (ty : TypeId) (g o n cap : Nat) (cur : List Value) (t : TypeId) (hn : 0 < n) (hg : w.heap[g]? = some (.cells cur.toArray t (0, 0))) (hfit : o + n ≤ cur.length) :
  (Builtin.clear_ #[89] ty #[.slice (some ⟨g, o, none⟩) n cap]).run Tryz.prog w =
   .ok (.tuple #[]) (w.setRow g (cur.take o ++ (List.replicate n (0 : UInt8)).map cv ++ cur.drop (o + n)).toArray) := by
 obtain ⟨m, rfl⟩ : ∃ m, n = m + 1 := ⟨n - 1, by omega⟩
 have hlen : ((List.replicate (m + 1) (0 : UInt8)).map cv).length = m + 1 := by simp
 have hst := run_storeCells_at Tryz.prog g o t ((List.replicate (m + 1) (0 : UInt8)).map cv) 0 cur.toArray w hg (by rw [hlen]; simpa using hfit) (by
  intro v hv; obtain ⟨x, _, rfl⟩ := List.mem_map.1 hv; rfl)
 rw [hlen] at hst
 simp only [Nat.add_zero] at hst
 simp only [Builtin.clear_, Sem.run_bind, run_underlying sizeSl39, Result.andThen_ok, Sem.run_pure, List.getElem?_toArray, List.getElem?_cons_zero]
 simp only [zeroU8, Result.andThen_ok, zeroCells_u8]
 rw [hst]
 rfl
theorem run_clear_none (w : World) (ty : TypeId) (a : Option Addr) (cap : Nat) : (Builtin.clear_ #[89] ty #[.slice a 0 cap]).run Tryz.prog w = .ok (.tuple #[]) w := by
 cases a <;> simp [Builtin.clear_, run_underlying sizeSl39]
theorem slice128_end (b o : Nat) (w : World) :
  (Instr.sliceAt 164 (.pointer (some ⟨b, o, none⟩)) (some (.int .i64 128)) none none).run Tryz.prog w = .ok (.slice (some ⟨b, o, none⟩) 0 0) w := by
 cases hq : Tryz.prog.info? 5 with
 | none => have := sizeU8H; rw [hq] at this; cases this
 | some i =>
  have hi : i.size = 1 := by have := sizeU8H; rw [hq] at this; simpa using this
  simp [Instr.sliceAt, Instr.sureAddr, run_underlying under128, Instr.sliceBounds, run_sliceBound, sizeOf, typeInfo, hq, hi]
theorem slice128_all (b o : Nat) (w : World) :
  (Instr.sliceAt 164 (.pointer (some ⟨b, o, none⟩)) none none none).run Tryz.prog w = .ok (.slice (some ⟨b, o, none⟩) 128 128) w := by
 cases hq : Tryz.prog.info? 5 with
 | none => have := sizeU8H; rw [hq] at this; cases this
 | some i =>
  simp [Instr.sliceAt, Instr.sureAddr, run_underlying under128, Instr.sliceBounds, sizeOf, typeInfo, hq, Addr.add]
def layB (l : List UInt8) (off : Nat) (x : BitVec 64) : Nat → List UInt8
 | 0 => l
 | k + 1 => (layB l off x k).set (off + k) (byteOf x k)
theorem layB_length (l : List UInt8) (off : Nat) (x : BitVec 64) (k : Nat) : (layB l off x k).length = l.length := by
 induction k with
 | zero => rfl
 | succ k ih => simp [layB, ih]
theorem lay_row (H : HS) (off : Nat) (x : BitVec 64) (k : Nat) (h : off + k ≤ H.blk.length) : lay H.row (8 + off) x k = ({ H with blk := layB H.blk off x k } : HS).row := by
 induction k with
 | zero => cases H; rfl
 | succ k ih =>
  have e := HS.set_blk { H with blk := layB H.blk off x k } (off + k) (by show _ < (layB H.blk off x k).length; rw [layB_length]; omega) (byteOf x k)
  show (lay H.row (8 + off) x k).set (8 + off + k) (cv (byteOf x k)) = _
  rw [ih (by omega), Nat.add_assoc, e]
  rfl
def be8 (x : BitVec 64) : List UInt8 := [byteOf x 0, byteOf x 1, byteOf x 2, byteOf x 3, byteOf x 4, byteOf x 5, byteOf x 6, byteOf x 7]
theorem layB_all (l : List UInt8) (off : Nat) (x : BitVec 64) (h : off + 8 ≤ l.length) : layB l off x 8 = l.take off ++ (be8 x ++ l.drop (off + 8)) := by
 apply List.ext_getElem?
 intro i
 have ht : (l.take off).length = off := by simp; omega
 by_cases h1 : i < off
 ·
  rw [List.getElem?_append_left (by omega), List.getElem?_take, if_pos h1]
  simp only [layB]
  rw [List.getElem?_set_ne (by omega), List.getElem?_set_ne (by omega), List.getElem?_set_ne (by omega), List.getElem?_set_ne (by omega), List.getElem?_set_ne (by omega), List.getElem?_set_ne (by omega), List.getElem?_set_ne (by omega), List.getElem?_set_ne (by omega)]
 ·
  obtain ⟨j, rfl⟩ : ∃ j, i = off + j := ⟨i - off, by omega⟩
  rw [List.getElem?_append_right (by omega), ht, Nat.add_sub_cancel_left]
  by_cases h2 : j < 8
  ·
   rw [List.getElem?_append_left (by exact h2)]
   have hj : j = 0 ∨ j = 1 ∨ j = 2 ∨ j = 3 ∨ j = 4 ∨ j = 5 ∨ j = 6 ∨ j = 7 := by omega
   have hl : ∀ k, k < 8 → off + k < l.length := fun k hk => by omega
   have hl0 : off < l.length := by omega
   rcases hj with rfl | rfl | rfl | rfl | rfl | rfl | rfl | rfl <;> simp [layB, be8, hl, hl0]
  ·
   rw [List.getElem?_append_right (by show 8 ≤ j; omega), List.getElem?_drop]
   simp only [layB]
   have e : off + 8 + (j - (be8 x).length) = off + j := by show off + 8 + (j - 8) = _; omega
   rw [e, List.getElem?_set_ne (by omega), List.getElem?_set_ne (by omega), List.getElem?_set_ne (by omega), List.getElem?_set_ne (by omega), List.getElem?_set_ne (by omega), List.getElem?_set_ne (by omega), List.getElem?_set_ne (by omega), List.getElem?_set_ne (by omega)]
def HS.marked (H : HS) : HS := { H with blk := H.blk.take H.filled ++ (128 :: List.replicate (127 - H.filled) 0) }
noncomputable def HS.roomed (H : HS) : HS := if 112 ≤ H.filled then { H.marked.mix with blk := List.replicate 128 0 } else H.marked
def HS.hi3 (H : HS) : BitVec 64 := H.hi <<< 3 ||| H.lo >>> 61
def HS.lo3 (H : HS) : BitVec 64 := H.lo <<< 3
noncomputable def HS.ended (H : HS) : HS := HS.mix { H.roomed with blk := layB (layB H.roomed.blk 112 H.hi3 8) 120 H.lo3 8 }
theorem HS.marked_length (H : HS) (h : H.blk.length = 128) : H.marked.blk.length = 128 := by
 have := H.filled_lt
 simp [HS.marked, h]; omega
theorem HS.roomed_n (H : HS) : H.roomed.n = H.n := by
 unfold HS.roomed; split <;> cases H <;> rfl
theorem U_shl3 (a : BitVec 64) : IntKind.u64.wrap (U a * (8 : Int)) = U (a <<< 3) := U_shl a 3
theorem U_shr61 (a : BitVec 64) : U a / (2305843009213693952 : Int) = U (a >>> 61) := U_shr a 61
theorem take_set_snoc (l : List UInt8) (f : Nat) (c : UInt8) (h : f < l.length) : (l.set f c).take (f + 1) = l.take f ++ [c] := by
 rw [List.take_succ_eq_append_getElem (by simpa using h), List.take_set_of_le (Nat.le_refl _)]
 simp
theorem HS.marked_row (H : HS) (h : H.blk.length = 128) :
  (H.row.set (8 + H.filled) (cv 128)).take (8 + H.filled + 1) ++ (List.replicate (127 - H.filled) (0 : UInt8)).map cv ++ (H.row.set (8 + H.filled) (cv 128)).drop (8 + H.filled + 1 + (127 - H.filled)) = H.marked.row := by
 have hf := H.filled_lt
 rw [H.set_blk H.filled (by omega) 128]
 have e := HS.row_splice { H with blk := H.blk.set H.filled 128 } (H.filled + 1) (List.replicate (127 - H.filled) 0) (by simp [h]; omega)
 rw [List.length_replicate] at e
 rw [Nat.add_assoc 8 H.filled 1, e]
 unfold HS.marked
 congr 2
 unfold splice
 rw [List.drop_eq_nil_of_le (by simp [h]; omega), List.append_nil, take_set_snoc _ _ _ (by omega)]
 simp
theorem clear_all {b : Nat} {T : TypeId} {J : HS} {w W : World} (h : Has W b T J) (ht : Turn b w W) :
  ∃ W4, (Builtin.clear_ #[89] 0 #[.slice (some ⟨b, 8, none⟩) 128 128]).run Tryz.prog W = .ok (.tuple #[]) W4 ∧ Hid (Has W4 b T { J with blk := List.replicate 128 0 }) ∧ Hid (Turn b w W4) := by
 refine ⟨_, run_clear_bytes _ 0 b 8 128 128 _ T (by omega) h.heap (by rw [J.row_length h.len]; omega), ⟨?_, by simp⟩, ht.trans ⟨rfl, rfl, rfl, by simp, fun k _ hk => setRow_other _ b k _ hk⟩⟩
 have e := J.row_splice 0 (List.replicate 128 0) (by simp [h.len])
 rw [List.length_replicate] at e
 have e2 : splice J.blk 0 (List.replicate 128 0) = List.replicate 128 0 := by
  unfold splice; rw [List.drop_eq_nil_of_le (by rw [h.len]; simp)]; simp
 rw [e2] at e
 rw [setRow_heap _ b _ _ T (0, 0) h.heap, ← e]
theorem has_lay {b off : Nat} {T : TypeId} {J : HS} {V1 : World} {x : BitVec 64} (hJ : J.blk.length = 128) (ho : off + 8 ≤ 128) (h : V1.heap[b]? = some (.cells (lay J.row (8 + off) x 8).toArray T (0, 0))) :
  Has V1 b T { J with blk := layB J.blk off x 8 } := by
 rw [lay_row J off x 8 (by omega)] at h
 exact ⟨h, by show (layB J.blk off x 8).length = 128; rw [layB_length]; exact hJ⟩
theorem has_hi {b off : Nat} {T : TypeId} {J : HS} {V1 : World} {x z : BitVec 64} (h : Has V1 b T { J with blk := layB J.blk off x 8 }) (hz : J.hi = z) : V1.cell? ⟨b, 136, none⟩ = some (.int .u64 (U z)) := by
 rw [h.cell 136, HS.row_hi _ h.len, ← hz]; rfl
theorem has_lo {b off : Nat} {T : TypeId} {J : HS} {V1 : World} {x z : BitVec 64} (h : Has V1 b T { J with blk := layB J.blk off x 8 }) (hz : J.lo = z) : V1.cell? ⟨b, 137, none⟩ = some (.int .u64 (U z)) := by
 rw [h.cell 137, HS.row_lo _ h.len, ← hz]; rfl
theorem Turn.drewed {b : Nat} {V V1 : World} (h : Turn b V.drew V1) : Turn b V V1 := ⟨h.os, h.tape, h.output, h.size, h.block⟩
section
attribute [local go_sem] U_and U_or U_xor U_not U_add U_add_one
attribute [local go_sem ↓] Go.wp_at_zero Go.wp_at_succ
set_option maxRecDepth 100000 in
set_option maxHeartbeats 4000000 in
theorem putEnd_any (b : Nat) (T : TypeId) (H : HS) (w : World) (h : Has w b T H) (hK : Tab w) (hb0 : 9 ≠ b) :
  Calls Tryz.prog 128 #[.pointer (some ⟨b, 0, none⟩)] w fun e w' => e = .returned (.tuple #[]) ∧ Has w' b T H.ended ∧ Turn b w w' := by
 have HH : Hid (Has w b T H) := h
 have HK : Hid (Tab w) := hK
 clear h hK
 obtain ⟨f, hf⟩ : ∃ f, f = H.filled := ⟨_, rfl⟩
 have hf1 : f < 128 := by rw [hf]; exact H.filled_lt
 have HF : Hid (f = H.filled) := hf
 have bf : (f : Int) < 128 := by omega
 clear hf
 obtain ⟨v0, hv0⟩ : ∃ v0, w.cell? ⟨b, 8 + f, none⟩ = some v0 := ⟨_, (HH.out.cell (8 + f)).trans (H.row_blk f (by rw [HH.out.len]; exact hf1))⟩
 have hfz := HH.out.frozen (8 + f)
 -- the world behind the mark and the first clear
 obtain ⟨W2, hcl, hcl2, hA2, hT2⟩ : ∃ W2, (f < 127 → (Builtin.clear_ #[89] 0 #[.slice (some ⟨b, 8 + (f + 1), none⟩) (127 - f) (127 - f)]).run Tryz.prog (w.setCell ⟨b, 8 + f, none⟩ (.int .u8 128)) = .ok (.tuple #[]) W2) ∧
   (f = 127 → w.setCell ⟨b, 8 + f, none⟩ (.int .u8 128) = W2) ∧ (Hid (Has W2 b T H.marked)) ∧ Hid (Turn b w W2) := by
  have hr1 : (w.setCell ⟨b, 8 + f, none⟩ (.int .u8 128)).heap[b]? = some (.cells (H.row.set (8 + f) (cv 128)).toArray T (0, 0)) := row_store HH.out.heap _ _
  have ht1 : Turn b w (w.setCell ⟨b, 8 + f, none⟩ (.int .u8 128)) := (Turn.refl b w).setCell (p := ⟨b, 8 + f, none⟩) rfl _
  have hlen : (H.row.set (8 + f) (cv 128)).length = 138 := by rw [List.length_set]; exact H.row_length HH.out.len
  have hm := H.marked_row HH.out.len
  rw [← HF.out] at hm
  by_cases h127 : f < 127
  ·
   refine ⟨_, fun _ => run_clear_bytes _ 0 b (8 + (f + 1)) (127 - f) (127 - f) _ T (by omega) hr1 (by rw [hlen]; omega), fun h => absurd h127 (by omega), ⟨?_, H.marked_length HH.out.len⟩, ?_⟩
   · rw [setRow_heap _ b _ _ T (0, 0) hr1, ← hm]; rfl
   · exact ht1.trans ⟨rfl, rfl, rfl, by simp, fun k _ hk => setRow_other _ b k _ hk⟩
  ·
   refine ⟨_, fun h => absurd h h127, fun _ => rfl, ⟨?_, H.marked_length HH.out.len⟩, ht1⟩
   have h0 : 127 - f = 0 := by omega
   rw [h0] at hm
   simp only [List.replicate_zero, List.map_nil, List.append_nil, Nat.add_zero, List.take_append_drop] at hm
   rw [hr1, ← hm]
 go_enter Tryz.func128, Tryz.ntmps128
 go_wp2_with fail
 refine (filled_any b T H w HH.out).mono ?_
 rintro e w' ⟨rfl, rfl⟩
 rw [← HF.out]
 rcases (show f < 112 ∨ (112 ≤ f ∧ f < 127) ∨ f = 127 by omega) with h112 | ⟨h112, h127⟩ | h127
 ·
  have hsl := slice128 b 8 ((f : Int) + 1) (f + 1) (by omega) (by omega)
  have hcl' := hcl (by omega)
  have HR : Hid (H.roomed = H.marked) := by show _ = _; unfold HS.roomed; rw [if_neg (by rw [← HF.out]; omega)]
  have i1 : (f : Int) < 112 := by omega
  clear hcl hcl2 h112
  go_wp2_with fail
  obtain ⟨V, hV⟩ : ∃ V, V = W2 := ⟨_, rfl⟩
  rw [← hV]
  have hA : Hid (Has V b T H.roomed) := by rw [hV, HR.out]; exact hA2.out
  have hT : Hid (Turn b w' V) := by rw [hV]; exact hT2.out
  clear hV
  have hc6 := hA.out.cell 136
  rw [HS.row_hi _ hA.out.len] at hc6
  have hc7 := hA.out.cell 137
  rw [HS.row_lo _ hA.out.len] at hc7
  have hq6 : H.roomed.hi = H.hi := by unfold HS.hi; rw [H.roomed_n]
  have hq7 : H.roomed.lo = H.lo := by unfold HS.lo; rw [H.roomed_n]
  rw [hq6] at hc6
  rw [hq7] at hc7
  have HQ6 : Hid (H.roomed.hi = H.hi) := hq6
  have HQ7 : Hid (H.roomed.lo = H.lo) := hq7
  clear hq6 hq7
  have s1 := slice128 b 8 112 112 rfl (by omega)
  have s2 := slice128 b 8 120 120 rfl (by omega)
  have x1 := U_shl3 H.hi
  have x2 := U_shr61 H.lo
  have x3 := U_shl3 H.lo
  clear HR
  obtain ⟨x, hx⟩ : ∃ x, x = H.hi <<< 3 ||| H.lo >>> 61 := ⟨_, rfl⟩
  have x4 := U_or (H.hi <<< 3) (H.lo >>> 61)
  rw [← hx] at x4
  have HX : Hid (x = H.hi3) := hx
  obtain ⟨y, hy⟩ : ∃ y, y = H.lo <<< 3 := ⟨_, rfl⟩
  rw [← hy] at x3
  have HY : Hid (y = H.lo3) := hy
  clear hx hy
  go_region_held3 (fun w' => w'.cell? ⟨b, 136, none⟩ = some (.int .u64 (U H.hi)) ∧ w'.cell? ⟨b, 137, none⟩ = some (.int .u64 (U H.lo))) (first | exact ⟨k6, k7⟩ | go_keep)
   (first | (go_at_call 129; refine (putWord_any b 120 16 16 T H.roomed.row x V.drew (by omega) (by omega) hA.out.heap (by rw [HS.row_length _ hA.out.len]; omega)).mono ?_; rintro e V1 ⟨rfl, hrow1, hturn1⟩; have hA1 := hide (has_lay (off := 112) hA.out.len (by omega) hrow1); have hT1 : Hid (Turn b w' V1) := hT.out.trans hturn1.drewed; have k6 : V1.cell? ⟨b, 136, none⟩ = some (.int .u64 (U H.hi)) := has_hi hA1.out HQ6.out; have k7 : V1.cell? ⟨b, 137, none⟩ = some (.int .u64 (U H.lo)) := has_lo hA1.out HQ7.out; clear hrow1 hturn1))
  clear hA hT hc6 hc7
  go_wp2_with fail
  go_region_held3 (fun w' => w'.cell? ⟨b, 137, none⟩ = some (.int .u64 (U H.lo))) (first | exact m7 | go_keep)
   (first | (go_at_call 129; refine (putWord_any b 128 8 8 T _ y V1.drew (by omega) (by omega) hA1.out.heap (by rw [HS.row_length _ hA1.out.len]; omega)).mono ?_; rintro e V2 ⟨rfl, hrow2, hturn2⟩; have hA2' := hide (has_lay (off := 120) hA1.out.len (by omega) hrow2); have hT2' : Hid (Turn b w' V2) := hT1.out.trans hturn2.drewed; have m7 : V2.cell? ⟨b, 137, none⟩ = some (.int .u64 (U H.lo)) := has_lo hA2'.out HQ7.out; clear hrow2 hturn2))
  clear hA1 hT1 k6 k7
  go_wp2_with fail
  refine (mixBlock_any b T _ V2 hA2'.out (HK.out.turn hT2'.out hb0) hb0).mono ?_
  rintro e V3 ⟨rfl, hA3, hT3⟩
  have HE := hide hA3
  have HT3 := hide (hT2'.out.trans hT3)
  clear hA3 hT3
  go_wp2_with fail
  go_end0
  refine ⟨rfl, ?_, HT3.out⟩
  have e := HE.out
  rw [HX.out, HY.out] at e
  exact e
 ·
  have hsl := slice128 b 8 ((f : Int) + 1) (f + 1) (by omega) (by omega)
  have hcl' := hcl (by omega)
  have HR : Hid (H.roomed = { H.marked.mix with blk := List.replicate 128 0 }) := by show _ = _; unfold HS.roomed; rw [if_pos (by rw [← HF.out]; omega)]
  have i1 : (112 : Int) ≤ (f : Int) := by omega
  have hsl2 := slice128_all b 8
  clear hcl hcl2 h112
  go_wp2_with fail
  refine (mixBlock_any b T H.marked W2 hA2.out (HK.out.turn hT2.out hb0) hb0).mono ?_
  rintro e W3 ⟨rfl, hA3, hT3⟩
  obtain ⟨W4, hcl4, hA4, hT4⟩ := clear_all hA3 (hT2.out.trans hT3)
  clear hA3 hT3 hcl' hsl
  go_wp2_with fail
  obtain ⟨V, hV⟩ : ∃ V, V = W4 := ⟨_, rfl⟩
  rw [← hV]
  have hA : Hid (Has V b T H.roomed) := by rw [hV, HR.out]; exact hA4.out
  have hT : Hid (Turn b w' V) := by rw [hV]; exact hT4.out
  clear hV
  have hc6 := hA.out.cell 136
  rw [HS.row_hi _ hA.out.len] at hc6
  have hc7 := hA.out.cell 137
  rw [HS.row_lo _ hA.out.len] at hc7
  have hq6 : H.roomed.hi = H.hi := by unfold HS.hi; rw [H.roomed_n]
  have hq7 : H.roomed.lo = H.lo := by unfold HS.lo; rw [H.roomed_n]
  rw [hq6] at hc6
  rw [hq7] at hc7
  have HQ6 : Hid (H.roomed.hi = H.hi) := hq6
  have HQ7 : Hid (H.roomed.lo = H.lo) := hq7
  clear hq6 hq7
  have s1 := slice128 b 8 112 112 rfl (by omega)
  have s2 := slice128 b 8 120 120 rfl (by omega)
  have x1 := U_shl3 H.hi
  have x2 := U_shr61 H.lo
  have x3 := U_shl3 H.lo
  clear HR
  obtain ⟨x, hx⟩ : ∃ x, x = H.hi <<< 3 ||| H.lo >>> 61 := ⟨_, rfl⟩
  have x4 := U_or (H.hi <<< 3) (H.lo >>> 61)
  rw [← hx] at x4
  have HX : Hid (x = H.hi3) := hx
  obtain ⟨y, hy⟩ : ∃ y, y = H.lo <<< 3 := ⟨_, rfl⟩
  rw [← hy] at x3
  have HY : Hid (y = H.lo3) := hy
  clear hx hy
  go_region_held3 (fun w' => w'.cell? ⟨b, 136, none⟩ = some (.int .u64 (U H.hi)) ∧ w'.cell? ⟨b, 137, none⟩ = some (.int .u64 (U H.lo))) (first | exact ⟨k6, k7⟩ | go_keep)
   (first | (go_at_call 129; refine (putWord_any b 120 16 16 T H.roomed.row x V.drew (by omega) (by omega) hA.out.heap (by rw [HS.row_length _ hA.out.len]; omega)).mono ?_; rintro e V1 ⟨rfl, hrow1, hturn1⟩; have hA1 := hide (has_lay (off := 112) hA.out.len (by omega) hrow1); have hT1 : Hid (Turn b w' V1) := hT.out.trans hturn1.drewed; have k6 : V1.cell? ⟨b, 136, none⟩ = some (.int .u64 (U H.hi)) := has_hi hA1.out HQ6.out; have k7 : V1.cell? ⟨b, 137, none⟩ = some (.int .u64 (U H.lo)) := has_lo hA1.out HQ7.out; clear hrow1 hturn1))
  clear hA hT hc6 hc7
  go_wp2_with fail
  go_region_held3 (fun w' => w'.cell? ⟨b, 137, none⟩ = some (.int .u64 (U H.lo))) (first | exact m7 | go_keep)
   (first | (go_at_call 129; refine (putWord_any b 128 8 8 T _ y V1.drew (by omega) (by omega) hA1.out.heap (by rw [HS.row_length _ hA1.out.len]; omega)).mono ?_; rintro e V2 ⟨rfl, hrow2, hturn2⟩; have hA2' := hide (has_lay (off := 120) hA1.out.len (by omega) hrow2); have hT2' : Hid (Turn b w' V2) := hT1.out.trans hturn2.drewed; have m7 : V2.cell? ⟨b, 137, none⟩ = some (.int .u64 (U H.lo)) := has_lo hA2'.out HQ7.out; clear hrow2 hturn2))
  clear hA1 hT1 k6 k7
  go_wp2_with fail
  refine (mixBlock_any b T _ V2 hA2'.out (HK.out.turn hT2'.out hb0) hb0).mono ?_
  rintro e V3 ⟨rfl, hA3, hT3⟩
  have HE := hide hA3
  have HT3 := hide (hT2'.out.trans hT3)
  clear hA3 hT3
  go_wp2_with fail
  go_end0
  refine ⟨rfl, ?_, HT3.out⟩
  have e := HE.out
  rw [HX.out, HY.out] at e
  exact e
 ·
  have hsl : ∀ w, (Instr.sliceAt 164 (.pointer (some ⟨b, 8, none⟩)) (some (.int .i64 ((f : Int) + 1))) none none).run Tryz.prog w = .ok (.slice (some ⟨b, 8, none⟩) 0 0) w := by subst h127; exact slice128_end b 8
  have hcl' := fun w => run_clear_none w 0 (some ⟨b, 8, none⟩) 0
  have HR : Hid (H.roomed = { H.marked.mix with blk := List.replicate 128 0 }) := by show _ = _; unfold HS.roomed; rw [if_pos (by rw [← HF.out]; omega)]
  have i1 : (112 : Int) ≤ (f : Int) := by omega
  have hsl2 := slice128_all b 8
  have HW : Hid (w'.setCell ⟨b, 8 + f, none⟩ (.int .u8 128) = W2) := hcl2 h127
  clear hcl hcl2 h127
  go_wp2_with fail
  rw [HW.out]
  refine (mixBlock_any b T H.marked W2 hA2.out (HK.out.turn hT2.out hb0) hb0).mono ?_
  rintro e W3 ⟨rfl, hA3, hT3⟩
  obtain ⟨W4, hcl4, hA4, hT4⟩ := clear_all hA3 (hT2.out.trans hT3)
  clear hA3 hT3 hcl' hsl
  go_wp2_with fail
  obtain ⟨V, hV⟩ : ∃ V, V = W4 := ⟨_, rfl⟩
  rw [← hV]
  have hA : Hid (Has V b T H.roomed) := by rw [hV, HR.out]; exact hA4.out
  have hT : Hid (Turn b w' V) := by rw [hV]; exact hT4.out
  clear hV
  have hc6 := hA.out.cell 136
  rw [HS.row_hi _ hA.out.len] at hc6
  have hc7 := hA.out.cell 137
  rw [HS.row_lo _ hA.out.len] at hc7
  have hq6 : H.roomed.hi = H.hi := by unfold HS.hi; rw [H.roomed_n]
  have hq7 : H.roomed.lo = H.lo := by unfold HS.lo; rw [H.roomed_n]
  rw [hq6] at hc6
  rw [hq7] at hc7
  have HQ6 : Hid (H.roomed.hi = H.hi) := hq6
  have HQ7 : Hid (H.roomed.lo = H.lo) := hq7
  clear hq6 hq7
  have s1 := slice128 b 8 112 112 rfl (by omega)
  have s2 := slice128 b 8 120 120 rfl (by omega)
  have x1 := U_shl3 H.hi
  have x2 := U_shr61 H.lo
  have x3 := U_shl3 H.lo
  clear HR
  obtain ⟨x, hx⟩ : ∃ x, x = H.hi <<< 3 ||| H.lo >>> 61 := ⟨_, rfl⟩
  have x4 := U_or (H.hi <<< 3) (H.lo >>> 61)
  rw [← hx] at x4
  have HX : Hid (x = H.hi3) := hx
  obtain ⟨y, hy⟩ : ∃ y, y = H.lo <<< 3 := ⟨_, rfl⟩
  rw [← hy] at x3
  have HY : Hid (y = H.lo3) := hy
  clear hx hy
  go_region_held3 (fun w' => w'.cell? ⟨b, 136, none⟩ = some (.int .u64 (U H.hi)) ∧ w'.cell? ⟨b, 137, none⟩ = some (.int .u64 (U H.lo))) (first | exact ⟨k6, k7⟩ | go_keep)
   (first | (go_at_call 129; refine (putWord_any b 120 16 16 T H.roomed.row x V.drew (by omega) (by omega) hA.out.heap (by rw [HS.row_length _ hA.out.len]; omega)).mono ?_; rintro e V1 ⟨rfl, hrow1, hturn1⟩; have hA1 := hide (has_lay (off := 112) hA.out.len (by omega) hrow1); have hT1 : Hid (Turn b w' V1) := hT.out.trans hturn1.drewed; have k6 : V1.cell? ⟨b, 136, none⟩ = some (.int .u64 (U H.hi)) := has_hi hA1.out HQ6.out; have k7 : V1.cell? ⟨b, 137, none⟩ = some (.int .u64 (U H.lo)) := has_lo hA1.out HQ7.out; clear hrow1 hturn1))
  clear hA hT hc6 hc7
  go_wp2_with fail
  go_region_held3 (fun w' => w'.cell? ⟨b, 137, none⟩ = some (.int .u64 (U H.lo))) (first | exact m7 | go_keep)
   (first | (go_at_call 129; refine (putWord_any b 128 8 8 T _ y V1.drew (by omega) (by omega) hA1.out.heap (by rw [HS.row_length _ hA1.out.len]; omega)).mono ?_; rintro e V2 ⟨rfl, hrow2, hturn2⟩; have hA2' := hide (has_lay (off := 120) hA1.out.len (by omega) hrow2); have hT2' : Hid (Turn b w' V2) := hT1.out.trans hturn2.drewed; have m7 : V2.cell? ⟨b, 137, none⟩ = some (.int .u64 (U H.lo)) := has_lo hA2'.out HQ7.out; clear hrow2 hturn2))
  clear hA1 hT1 k6 k7
  go_wp2_with fail
  refine (mixBlock_any b T _ V2 hA2'.out (HK.out.turn hT2'.out hb0) hb0).mono ?_
  rintro e V3 ⟨rfl, hA3, hT3⟩
  have HE := hide hA3
  have HT3 := hide (hT2'.out.trans hT3)
  clear hA3 hT3
  go_wp2_with fail
  go_end0
  refine ⟨rfl, ?_, HT3.out⟩
  have e := HE.out
  rw [HX.out, HY.out] at e
  exact e
end
def padB (s : ByteArray) (n : Nat) : List UInt8 := (bytesOf s).take n ++ List.replicate (n - s.size) 0
def zN (n : Nat) : Array Value := ((List.replicate n (0 : UInt8)).map cv).toArray
theorem make15 (w : World) : (Instr.makeSlice 89 (.int .i64 15) (.int .i64 15)).run Tryz.prog w = .ok (.slice (some ⟨w.heap.size, 0, none⟩) 15 15) (w.alloc (.cells (zN 15) 5)) := by kernel_rfl
theorem make31 (w : World) : (Instr.makeSlice 89 (.int .i64 31) (.int .i64 31)).run Tryz.prog w = .ok (.slice (some ⟨w.heap.size, 0, none⟩) 31 31) (w.alloc (.cells (zN 31) 5)) := by kernel_rfl
theorem make32' (w : World) : (Instr.makeSlice 89 (.int .i64 32) (.int .i64 32)).run Tryz.prog w = .ok (.slice (some ⟨w.heap.size, 0, none⟩) 32 32) (w.alloc (.cells (zN 32) 5)) := by kernel_rfl
theorem make64 (w : World) : (Instr.makeSlice 89 (.int .i64 64) (.int .i64 64)).run Tryz.prog w = .ok (.slice (some ⟨w.heap.size, 0, none⟩) 64 64) (w.alloc (.cells (zN 64) 5)) := by kernel_rfl
theorem makeN (n : Nat) (h : n = 15 ∨ n = 31 ∨ n = 32 ∨ n = 64) (w : World) : (Instr.makeSlice 89 (.int .i64 (n : Int)) (.int .i64 (n : Int))).run Tryz.prog w = .ok (.slice (some ⟨w.heap.size, 0, none⟩) n n) (w.alloc (.cells (zN n) 5)) := by
 rcases h with rfl | rfl | rfl | rfl
 · exact make15 w
 · exact make31 w
 · exact make32' w
 · exact make64 w
theorem convN (n : Nat) (w : World) (q : Nat) (l : List UInt8) (hl : l.length = n) (T : TypeId) (h : w.heap[q]? = some (.cells (l.map cv).toArray T (0, 0))) :
  (convert 89 9 (.slice (some ⟨q, 0, none⟩) n n)).run Tryz.prog w = .ok (.string (strOf l)) w := by
 have e := run_convert_bytes_back (P := Tryz.prog) w 89 9 5 ⟨q, 0, none⟩ n l underSl8 underU8 underStr (fun i hi => by
  rw [Addr.add_mid, Nat.zero_add, cell_of_row w q i _ T _ h]
  rw [List.getElem?_toArray, List.getElem?_map, List.getElem?_eq_getElem hi]; rfl)
 rw [hl] at e
 exact e
theorem padB_len (s : ByteArray) (n : Nat) : (padB s n).length = n := by
 unfold padB
 rw [List.length_append, List.length_take, List.length_replicate]
 have : (bytesOf s).length = s.size := by unfold bytesOf; rw [Array.length_toList]; rfl
 rw [this]; omega
theorem pad_cut (s : ByteArray) (n : Nat) (h : n < s.size) : s.extract 0 n = strOf (padB s n) := by
 have e : ∀ a b : ByteArray, a.data = b.data → a = b := by intro a b h; cases a; cases b; simpa using h
 apply e
 unfold padB strOf bytesOf
 rw [show n - s.size = 0 by omega, List.replicate_zero, List.append_nil]
 apply Array.ext'
 simp only [ByteArray.data_extract, Array.toList_extract, List.extract_eq_take_drop, List.drop_zero, Nat.sub_zero]
theorem pad_row (s : ByteArray) (n : Nat) (h : s.size ≤ n) : ((zN n).toList.take 0 ++ Lib.byteCells s.data.toList ++ (zN n).toList.drop (0 + s.size)).toArray = ((padB s n).map cv).toArray := by
 have hl : (bytesOf s).length = s.size := by unfold bytesOf; rw [Array.length_toList]; rfl
 have e1 : (bytesOf s).take n = bytesOf s := List.take_of_length_le (by omega)
 unfold padB zN
 rw [e1, List.map_append, List.take_zero, List.nil_append, Nat.zero_add, List.map_replicate, List.drop_replicate, List.map_replicate]
 rfl
theorem size8K : (Tryz.prog.info? 5).map (·.size) = some 1 := by kernel_rfl
theorem wpList_copy_to {P : Program} (w : World) {ops : Array Oper} {rest : List Oper} {o : Oper} {a : Act} {Q : Exit → Act → World → Prop} (hgd : o.guard = none) (d s : Operand) (t t' : TypeId)
  (ho : o.op = .call { callee := .builtin .copy, args := #[d, s], argTypes := #[t, t'] }) (v u : Value) (hd : a.eval d = v) (hs : a.eval s = u) {v' : Value} {w' : World}
  (hr : (Builtin.copy_ #[t, t'] o.type #[v, u]).run P w = .ok v' w') (h : wpList P ops Q rest (a.put o.dst v') w') : wpList P ops Q (o :: rest) a w := by
 refine wpList_plain hgd fun K hK => ?_
 unfold Oper.wp execOp
 simp only [ho, resolve, invoke, builtin, Sem.run_bind, Sem.run_pure, Result.andThen_ok, List.map_toArray, List.map_cons, List.map_nil, hd, hs, hr]
 exact hK _ _ h
section
set_option maxRecDepth 100000 in
set_option maxHeartbeats 1000000 in
theorem bytesA' (s : ByteArray) (n : Nat) (hn : n = 15 ∨ n = 31 ∨ n = 32 ∨ n = 64) (w : World) :
  Calls Tryz.prog 16 #[.string s, .int .i64 (n : Int)] w fun e w' => e = .returned (.string (strOf (padB s n))) ∧ Below w.heap.size w w' := by
 have HN := hide hn
 have hmk := makeN n hn
 clear hn
 go_enter Tryz.func16, Tryz.ntmps16
 by_cases hlt : n < s.size
 ·
  have b1 : (n : Int) < (s.size : Int) := by omega
  go_wp2_with fail
  go_returns
  refine ⟨?_, Below.refl _ _⟩
  rw [pad_cut s n hlt]; rfl
 ·
  have b1 : (s.size : Int) ≤ (n : Int) := by omega
  have hcp := Lib.run_copy_row_string (P := Tryz.prog) (w.alloc (.cells (zN n) 5)) 89 9 3 5 w.heap.size 0 n n s (zN n) 5 underSl8 size8K (heap_alloc_new _ _) (by omega) (by unfold zN; simp; omega)
  rw [pad_row s n (by omega)] at hcp
  have R1 : Hid (((w.alloc (.cells (zN n) 5)).setRow w.heap.size ((padB s n).map cv).toArray).heap[w.heap.size]? = some (.cells ((padB s n).map cv).toArray 5 (0, 0))) := setRow_heap _ _ _ _ _ _ (heap_alloc_new _ _)
  have hcv := convN n _ w.heap.size (padB s n) (padB_len s n) 5 R1.out
  have B1 : Hid (Below w.heap.size w ((w.alloc (.cells (zN n) 5)).setRow w.heap.size ((padB s n).map cv).toArray)) := below_setRow (by show Below _ _ _; go_grown) (Nat.le_refl _) _
  generalize hW1 : World.setRow _ _ _ = W1 at *
  obtain ⟨T, HT⟩ : ∃ T, Hid (T = strOf (padB s n)) := ⟨_, hide rfl⟩
  rw [← HT.out] at hcv ⊢
  clear hW1
  go_wp2_with (at_builtin; refine wpList_copy_to _ rfl _ _ 89 9 rfl _ _ rfl rfl hcp ?_)
  go_returns
  exact ⟨rfl, B1.out⟩
end
def r66 (k : Nat) : List UInt8 := List.replicate k 102 ++ List.replicate (32 - k) 0
theorem r66_step (k : Nat) (h : k < 32) : (r66 k).set k 102 = r66 (k + 1) := by
 unfold r66
 rw [show 32 - k = (32 - (k + 1)) + 1 by omega, List.replicate_succ, List.set_append_right _ _ (by simp), List.length_replicate, Nat.sub_self, List.set_cons_zero, List.replicate_succ' , List.append_assoc]
 rfl
theorem r66_len (k : Nat) (h : k ≤ 32) : (r66 k).length = 32 := by unfold r66; simp; omega
def bT : List UInt8 := 88 :: List.replicate 31 102
theorem r66_last : (r66 32).set 0 88 = bT := by decide
theorem idxSl (g i : Nat) (hi : i < 32) (w : World) : (Instr.indexAt 89 (.slice (some ⟨g, 0, none⟩) 32 32) (.int .i64 i)).run Tryz.prog w = .ok (.pointer (some ⟨g, i, none⟩)) w := by
 cases hq : Tryz.prog.info? 5 with
 | none => have := size8K; rw [hq] at this; cases this
 | some inf =>
  have hs : inf.size = 1 := by have := size8K; rw [hq] at this; simpa using this
  simp [Instr.indexAt, asIntOf, run_underlying underSl8, sizeOf, typeInfo, hq, hs, Addr.add_mid]
  intro h; omega
section
set_option maxRecDepth 100000 in
set_option maxHeartbeats 1000000 in
theorem baseK (w : World) : Calls Tryz.prog 44 #[] w fun e w' => e = .returned (.string (strOf bT)) ∧ Below w.heap.size w w' := by
 have hmk := make32' 
 go_enter Tryz.func44, Tryz.ntmps44
 go_wp2_with fail
 go_loopw [2] (fun i wr => ∃ k : Nat, k ≤ 32 ∧ i = .int .i64 k ∧ Hid (wr.heap[w.heap.size]? = some (.cells ((r66 k).map cv).toArray 5 (0, 0))) ∧ Hid (Below w.heap.size w wr)) (fun i _ => 32 - (intOf i).toNat)
 case atStart => exact ⟨0, by omega, rfl, heap_alloc_new _ _, by show Below _ _ _; go_grown⟩
 case round =>
  obtain ⟨k, hk, rfl, H0, HB⟩ := hrel
  by_cases hlt : k < 32
  ·
   have bk : (k : Int) < 32 := by omega
   have hix := idxSl w.heap.size k hlt
   have c1 : wr.cell? ⟨w.heap.size, k, none⟩ = some (cv ((r66 k).getD k 0)) := by
    rw [cell_of_row wr _ k _ _ _ H0.out, List.getElem?_toArray, List.getElem?_map, List.getElem?_eq_getElem (by rw [r66_len k hk]; exact hlt)]
    simp [List.getD, r66_len k hk, hlt]
   have f1 := frozen_of_row wr w.heap.size k _ _ H0.out
   go_wp2_with fail
   refine ⟨⟨k + 1, by omega, by go_num, ?_, HB.out.setCell (by show _ ≤ _; simp) _⟩, by simp [intOf]; omega⟩
   have e := row_store H0.out k (cv 102)
   rw [← List.map_set, r66_step k hlt] at e
   exact e
  ·
   obtain rfl : k = 32 := by omega
   have bk : (32 : Int) ≤ ((32 : Nat) : Int) := by omega
   have hix := idxSl w.heap.size 0 (by decide)
   have c1 : wr.cell? ⟨w.heap.size, 0, none⟩ = some (cv 102) := by
    rw [cell_of_row wr _ 0 _ _ _ H0.out]; rfl
   have f1 := frozen_of_row wr w.heap.size 0 _ _ H0.out
   have e := row_store H0.out 0 (cv 88)
   rw [← List.map_set, r66_last] at e
   have e' : (wr.setCell ⟨w.heap.size, 0, none⟩ (.int .u8 88)).heap[w.heap.size]? = some (.cells (bT.map cv).toArray 5 (0, 0)) := e
   have B1 : Hid (Below w.heap.size w (wr.setCell ⟨w.heap.size, 0, none⟩ (.int .u8 88))) := HB.out.setCell (by show _ ≤ _; simp) _
   have hcv := convN 32 _ w.heap.size bT rfl 5 e'
   clear e'
   obtain ⟨T, HT⟩ : ∃ T, Hid (T = strOf bT) := ⟨_, hide rfl⟩
   rw [← HT.out] at hcv
   clear e
   go_wp2_with fail
   go_returns
   exact ⟨by rw [HT.out]; rfl, B1.out⟩
end
theorem pad_size (s : ByteArray) (n : Nat) : (strOf (padB s n)).size = n := padB_len s n
end Go.Proofs.YtccgfabojbjmjaaGreatDoor
