import Derived.Test.YtccgfabojbjmjaaGreatDoorVe24
import Derived.Laws.CopyOwn
import Derived.ArgAppend
import Derived.Laws.IdiomStrings
import Derived.OwnWalk
import Derived.Deep.Draws
import Derived.Test.YtccgfabojbjmjaaGreatDoorVe22
import Derived.Deep.AppendLies
import Derived.Maps.AppendAt
import Derived.Deep.RegionHeld3
import Derived.Test.YtccgfabojbjmjaaGreatDoorVe23
namespace Go.Proofs.YtccgfabojbjmjaaGreatDoor
open Go.RowKit
def ksB (s : ByteArray) : List UInt8 := if s.size = 32 then bytesOf s else List.replicate 32 0
def ksO (s : ByteArray) : Bool := decide (s.size = 32)
theorem ksB_length (s : ByteArray) : (ksB s).length = 32 := by
 unfold ksB; split
 · rename_i h; rw [bytesOf_length, h]
 · simp
noncomputable def HS.done (X : HS) : HS := if X.filled = 0 then X.mix else X
noncomputable def HS.chunk (H : HS) (l : List UInt8) : HS := HS.done { H with blk := splice H.blk H.filled l, n := H.n + l.length }
noncomputable def HS.put (H : HS) (c : UInt8) : HS := H.chunk [c]
noncomputable def HS.puts (H : HS) (l : List UInt8) : HS := l.foldl HS.put H
theorem HS.puts_append (H : HS) (l m : List UInt8) : H.puts (l ++ m) = (H.puts l).puts m := List.foldl_append ..
theorem HS.puts_cons (H : HS) (c : UInt8) (m : List UInt8) : H.puts (c :: m) = (H.put c).puts m := rfl
theorem splice_step {α : Type} (L : List α) (f : Nat) (c : α) (m : List α) (h : f + 1 + m.length ≤ L.length) : splice (splice L f [c]) (f + 1) m = splice L f (c :: m) := by
 unfold splice
 have h1 : (L.take f).length = f := by simp; omega
 have e1 : (L.take f ++ ([c] ++ L.drop (f + [c].length))).take (f + 1) = L.take f ++ [c] := by
  rw [← List.append_assoc, List.take_append_of_le_length (by simp; omega)]
  exact List.take_of_length_le (by simp; omega)
 have e2 : (L.take f ++ ([c] ++ L.drop (f + [c].length))).drop (f + 1 + m.length) = L.drop (f + 1 + m.length) := by
  rw [← List.append_assoc, List.drop_append, List.drop_eq_nil_of_le (by simp; omega), List.nil_append, List.drop_drop]
  congr 1; simp only [List.length_append, h1, List.length_singleton]; omega
 rw [e1, e2]
 simp only [List.append_assoc, List.cons_append, List.nil_append, List.length_cons]
 rw [show f + 1 + m.length = f + (m.length + 1) by omega]
theorem HS.chunk_cons (H : HS) (c : UInt8) (m : List UInt8) (hm : m ≠ []) (hl : H.blk.length = 128) (h : H.filled + (m.length + 1) ≤ 128) : H.chunk (c :: m) = (H.put c).chunk m := by
 have hm0 : 0 < m.length := List.length_pos_iff.2 hm
 have hf := H.filled_lt
 have e : H.put c = { H with blk := splice H.blk H.filled [c], n := H.n + 1 } := by
  unfold HS.put HS.chunk HS.done
  rw [if_neg]; rfl
  show ¬ (H.n + [c].length) % 128 = 0
  have : H.n % 128 = H.filled := rfl
  simp; omega
 have e2 : ({ H with blk := splice H.blk H.filled [c], n := H.n + 1 } : HS).filled = H.filled + 1 := by
  show (H.n + 1) % 128 = H.n % 128 + 1
  have : H.n % 128 = H.filled := rfl
  omega
 rw [e]
 unfold HS.chunk
 rw [e2]
 congr 2
 · exact (splice_step H.blk H.filled c m (by omega)).symm
 · simp; omega
theorem HS.chunk_puts (l : List UInt8) : ∀ (H : HS), l ≠ [] → H.blk.length = 128 → H.filled + l.length ≤ 128 → H.chunk l = H.puts l := by
 induction l with
 | nil => intro H h; exact absurd rfl h
 | cons c m ih =>
  intro H _ hl h
  by_cases hm : m = []
  · subst hm; rfl
  ·
   rw [H.chunk_cons c m hm hl (by simpa using h), H.puts_cons]
   have e : H.put c = { H with blk := splice H.blk H.filled [c], n := H.n + 1 } := by
    have hm0 : 0 < m.length := List.length_pos_iff.2 hm
    unfold HS.put HS.chunk HS.done
    rw [if_neg]; rfl
    show ¬ (H.n + [c].length) % 128 = 0
    have : H.n % 128 = H.filled := rfl
    simp at h ⊢; omega
   refine ih _ hm ?_ ?_
   · rw [e]; exact (length_splice _ _ _ (by have := H.filled_lt; simp; omega)).trans hl
   ·
    rw [e]; show (H.n + 1) % 128 + _ ≤ _
    have hm0 : 0 < m.length := List.length_pos_iff.2 hm
    have : H.n % 128 = H.filled := rfl
    simp at h; omega
theorem HS.row_splice (H : HS) (off : Nat) (l : List UInt8) (h : off + l.length ≤ H.blk.length) :
  H.row.take (8 + off) ++ l.map cv ++ H.row.drop (8 + off + l.length) = ({ H with blk := splice H.blk off l } : HS).row := by
 have h8 : (H.st.words.map uv).length = 8 := rfl
 have e1 : H.row.take (8 + off) = H.st.words.map uv ++ (H.blk.take off).map cv := by
  unfold HS.row
  rw [List.take_append, List.take_of_length_le (by rw [h8]; omega), h8, Nat.add_sub_cancel_left, List.take_append_of_le_length (by simp; omega), List.map_take]
 have e2 : H.row.drop (8 + off + l.length) = (H.blk.drop (off + l.length)).map cv ++ [uv H.hi, uv H.lo] := by
  unfold HS.row
  rw [List.drop_append, List.drop_eq_nil_of_le (by rw [h8]; omega), h8, List.nil_append, List.drop_append, List.map_drop]
  have : 8 + off + l.length - 8 = off + l.length := by omega
  rw [this]
  have h0 : off + l.length - (List.map cv H.blk).length = 0 := by simp; omega
  rw [h0]; rfl
 rw [e1, e2]
 show _ = H.st.words.map uv ++ ((splice H.blk off l).map cv ++ [uv H.hi, uv H.lo])
 simp [splice]
theorem run_copy_str {P : Program} (w : World) (dT sT ty elem : TypeId) (g o dLen dCap : Nat) (s : ByteArray) (cur : List Value) (t : TypeId) (n : Nat)
  (hu : P.underlying dT = some (.slice elem)) (hs : (P.info? elem).map (·.size) = some 1) (hg : w.heap[g]? = some (.cells cur.toArray t (0, 0))) (hn : Nat.min s.size dLen = n) (hfit : o + n ≤ cur.length) :
  (Builtin.copy_ #[dT, sT] ty #[.slice (some ⟨g, o, none⟩) dLen dCap, .string s]).run P w =
   .ok (goInt n) (w.setRow g (cur.take o ++ (s.data.toList.take n).map cv ++ cur.drop (o + n)).toArray) := by
 have hsz : s.size = s.data.toList.length := rfl
 have hln : n ≤ s.data.toList.length := by rw [← hsz, ← hn]; exact Nat.min_le_left _ _
 have hlen : ((s.data.toList.take n).map cv).length = n := by rw [List.length_map, List.length_take]; exact Nat.min_eq_left hln
 have hst := run_storeCells_at P g o t ((s.data.toList.take n).map cv) 0 cur.toArray w hg (by rw [hlen]; simpa using hfit) (by
  intro v hv; obtain ⟨x, _, rfl⟩ := List.mem_map.1 hv; rfl)
 rw [hlen] at hst
 simp only [Nat.add_zero] at hst
 have htk : (Array.map (fun b : UInt8 => Value.int IntKind.u8 (b.toNat : Int)) (s.extract 0 n).data).toList = (s.data.toList.take n).map cv := by
  simp only [Array.toList_map, ByteArray.data_extract, Array.toList_extract, List.extract_eq_take_drop, List.drop_zero, Nat.sub_zero]; rfl
 cases hq : P.info? elem with
 | none => simp [hq] at hs
 | some i =>
  simp only [Builtin.copy_, Sem.run_bind, run_underlying hu, Result.andThen_ok, Builtin.lenOf, Builtin.firstCells, Sem.run_pure, hn, List.getElem?_toArray, List.getElem?_cons_zero, List.getElem?_cons_succ]
  rw [htk]
  simp [sizeOf, typeInfo, hq, hst, -List.map_take]
def strLen : Value → Nat
 | .string s => s.size
 | _ => 0
def bytesOfH (s : ByteArray) : List UInt8 := s.data.toList
theorem bytesOf_lengthH (s : ByteArray) : (bytesOfH s).length = s.size := rfl
theorem bytesOf_extract (s : ByteArray) (n : Nat) : bytesOfH (s.extract n s.size) = (bytesOfH s).drop n := by
 unfold bytesOfH
 simp only [ByteArray.data_extract, Array.toList_extract, List.extract_eq_take_drop]
 exact List.take_of_length_le (by rw [List.length_drop]; exact Nat.le_refl _)
theorem extract_size (s : ByteArray) (n : Nat) : (s.extract n s.size).size = s.size - n := by simp
theorem sizeSl39 : Tryz.prog.underlying 89 = some (.slice 5) := by kernel_rfl
section
attribute [local go_sem] U_and U_or U_xor U_not U_add U_add_one
attribute [local go_sem ↓] Go.wp_at_zero Go.wp_at_succ
set_option maxRecDepth 100000 in
set_option maxHeartbeats 4000000 in
theorem write_any (b : Nat) (T : TypeId) (H : HS) (s : ByteArray) (w : World) (h : Has w b T H) (hK : Tab w) (hb0 : 9 ≠ b) (hs : s.size ≤ maxLen) :
  Calls Tryz.prog 82 #[.pointer (some ⟨b, 0, none⟩), .string s] w fun e w' => e = .returned (.tuple #[]) ∧ Has w' b T (H.puts (bytesOfH s)) ∧ Turn b w w' := by
 unfold maxLen at hs
 have HH : Hid (Has w b T H) := h
 have HK : Hid (Tab w) := hK
 clear h hK
 go_enter Tryz.func82, Tryz.ntmps82
 go_wp2_with fail
 go_loopw [1] (fun v wr => ∃ (t : ByteArray) (J : HS), v = .string t ∧ t.size ≤ 9223372036854775807 ∧ Hid (J.puts (bytesOfH t) = H.puts (bytesOfH s)) ∧ Hid (Has wr b T J) ∧ Hid (Turn b w wr)) (fun v _ => strLen v)
 case atStart => exact ⟨s, H, rfl, hs, rfl, HH, Turn.refl _ _⟩
 case round =>
  obtain ⟨t, J, rfl, ht, HJ, hJ, hT⟩ := hrel
  by_cases hpos : 0 < t.size
  ·
   obtain ⟨f, hf⟩ : ∃ f, f = J.filled := ⟨_, rfl⟩
   have hf1 : f < 128 := by rw [hf]; exact J.filled_lt
   obtain ⟨n, hn⟩ : ∃ n, n = Nat.min t.size (128 - f) := ⟨_, rfl⟩
   have hn1 : n ≤ t.size := by rw [hn]; exact Nat.min_le_left _ _
   have hn2 : n ≤ 128 - f := by rw [hn]; exact Nat.min_le_right _ _
   have hn0 : 0 < n := by rw [hn]; exact Nat.lt_min.2 ⟨hpos, by omega⟩
   have hsl := slice128 b 8 (f : Int) f rfl hf1
   obtain ⟨X, hX⟩ : ∃ X, X = J.row.take (8 + f) ++ ((bytesOfH t).take n).map cv ++ J.row.drop (8 + f + n) := ⟨_, rfl⟩
   have hcp : (Builtin.copy_ #[89, 9] 3 #[.slice (some ⟨b, 8 + f, none⟩) (128 - f) (128 - f), .string t]).run Tryz.prog wr.drew = .ok (goInt n) (wr.drew.setRow b X.toArray) := by
    rw [hX]
    exact run_copy_str wr.drew _ _ _ 5 b (8 + f) (128 - f) (128 - f) t J.row T n sizeSl39 sizeU8H hJ.out.heap hn.symm (by rw [J.row_length hJ.out.len]; omega)
   have HX : Hid (X = J.row.take (8 + f) ++ ((bytesOfH t).take n).map cv ++ J.row.drop (8 + f + n)) := hX
   have HF : Hid (f = J.filled) := hf
   clear hX hf hn
   go_wp2_with fail
   go_region_held3 (fun w' => w'.heap = wr.heap ∨ w'.heap = (wr.setRow b X.toArray).heap) (first | exact Or.inl rfl | exact Or.inr rfl)
    (first | (go_at_call 125; refine (filled_any b T J wr.drew ⟨hJ.out.heap, hJ.out.len⟩).mono ?_; rintro e w' ⟨rfl, rfl⟩; rw [← HF.out]))
   obtain ⟨W1, hW1⟩ : ∃ W1, W1 = wr.drew.setRow b X.toArray := ⟨_, rfl⟩
   rw [← hW1]
   obtain ⟨J1, hJ1⟩ : ∃ J1 : HS, J1 = { J with blk := splice J.blk f ((bytesOfH t).take n) } := ⟨_, rfl⟩
   have hl : ((bytesOfH t).take n).length = n := by rw [List.length_take, bytesOf_lengthH]; omega
   have hA1 : Hid (Has W1 b T J1) := by
    refine ⟨?_, ?_⟩
    ·
     rw [hW1, setRow_heap wr.drew b _ X.toArray T (0, 0) hJ.out.heap, HX.out, hJ1]
     have e := J.row_splice f ((bytesOfH t).take n) (by rw [hl, hJ.out.len]; omega)
     rw [hl] at e
     rw [e]
    · rw [hJ1]; exact (length_splice _ _ _ (by rw [hl, hJ.out.len]; omega)).trans hJ.out.len
   have hT1 : Hid (Turn b w W1) := by
    rw [hW1]
    exact hT.out.trans ⟨rfl, rfl, rfl, by simp, fun k _ hk => setRow_other wr.drew b k _ hk⟩
   have HC : Hid ((J1.count n).done.puts (bytesOfH (t.extract n t.size)) = H.puts (bytesOfH s)) := by
    show _ = _
    rw [bytesOf_extract, ← HJ.out]
    have e1 : (J1.count n).done = J.chunk ((bytesOfH t).take n) := by
     unfold HS.chunk; rw [hl, ← HF.out, hJ1]; rfl
    rw [e1, HS.chunk_puts _ J (by intro e; rw [e] at hl; simp at hl; omega) hJ.out.len (by rw [hl, ← HF.out]; omega), ← HS.puts_append, List.take_append_drop]
   clear hW1 hJ1 hcp hsl hJ hT HX HJ HF
   go_wp2_with fail
   refine (count_any b T J1 _ n (by omega) (by omega) W1 hA1.out).mono ?_
   rintro e W2 ⟨rfl, hA2, hT2⟩
   have hA2' : Hid (Has W2 b T (J1.count n)) := hA2
   have hT2' : Hid (Turn b w W2) := hT1.out.trans hT2
   clear hA2 hT2 hA1 hT1
   go_wp2_with fail
   refine (filled_any b T (J1.count n) W2 hA2'.out).mono ?_
   rintro e w' ⟨rfl, rfl⟩
   by_cases h0 : (J1.count n).filled = 0
   ·
    have hq : (((J1.count n).filled : Int) == 0) = true := by rw [h0]; rfl
    have HD : Hid ((J1.count n).done = (J1.count n).mix) := by show _ = _; unfold HS.done; rw [if_pos h0]
    clear h0
    go_wp2_with fail
    refine (mixBlock_any b T (J1.count n) w' hA2'.out (HK.out.turn hT2'.out hb0) hb0).mono ?_
    rintro e W3 ⟨rfl, hA3, hT3⟩
    rw [HD.out] at HC
    have hA3' : Hid (Has W3 b T (J1.count n).mix) := hA3
    have hT3' : Hid (Turn b w W3) := hT2'.out.trans hT3
    clear hA3 hT3 hA2' hT2'
    go_wp2_with fail
    go_roundw
    case rel => exact ⟨_, _, rfl, by rw [extract_size]; omega, HC, hA3', hT3'⟩
    case measure => simp only [strLen, extract_size]; omega
   ·
    have hq : (((J1.count n).filled : Int) == 0) = false := by simpa using h0
    have HD : Hid ((J1.count n).done = J1.count n) := by show _ = _; unfold HS.done; rw [if_neg h0]
    clear h0
    rw [HD.out] at HC
    go_wp2_with fail
    go_roundw
    case rel => exact ⟨_, _, rfl, by rw [extract_size]; omega, HC, hA2', hT2'⟩
    case measure => simp only [strLen, extract_size]; omega
  ·
   have h0 : t.size = 0 := by omega
   have hb : bytesOfH t = [] := List.eq_nil_of_length_eq_zero h0
   have HE : Hid (J = H.puts (bytesOfH s)) := by have := HJ.out; rw [hb] at this; exact this
   have hp : ¬ (0 : Int) < (t.size : Int) := by omega
   clear hpos h0 hb HJ
   go_wp2_with fail
   go_end0
   exact ⟨rfl, by rw [← HE.out]; exact hJ.out, hT.out⟩
end
theorem zeroU8 (w : World) : (zeroValue 5).run Tryz.prog w = .ok (.int .u8 0) w := by kernel_rfl
theorem zeroCells_u8 (n : Nat) : (Builtin.zeroCells (Value.int .u8 0).cells n).toList = (List.replicate n (0 : UInt8)).map cv := by
 have e : (Value.int .u8 0).cells = #[Value.int .u8 0] := rfl
 rw [e]
 unfold Builtin.zeroCells
 apply List.ext_getElem?
 intro i
 by_cases hi : i < n
 ·
  have h1 : i % 1 = 0 := Nat.mod_one i
  simp [hi]
  rw [h1]; rfl
 · simp [hi]
theorem run_clear_bytes (w : World) (ty : TypeId) (g o n cap : Nat) (cur : List Value) (t : TypeId) (hn : 0 < n) (hg : w.heap[g]? = some (.cells cur.toArray t (0, 0))) (hfit : o + n ≤ cur.length) :
  (Builtin.clear_ #[89] ty #[.slice (some ⟨g, o, none⟩) n cap]).run Tryz.prog w =
   .ok (.tuple #[]) (w.setRow g (cur.take o ++ (List.replicate n (0 : UInt8)).map cv ++ cur.drop (o + n)).toArray) := by
 obtain ⟨m, rfl⟩ : ∃ m, n = m + 1 := ⟨n - 1, by omega⟩
 have hlen : ((List.replicate (m + 1) (0 : UInt8)).map cv).length = m + 1 := by simp
 have hst := run_storeCells_at Tryz.prog g o t ((List.replicate (m + 1) (0 : UInt8)).map cv) 0 cur.toArray w hg (by rw [hlen]; simpa using hfit) (by
  intro v hv; obtain ⟨x, _, rfl⟩ := List.mem_map.1 hv; rfl)
 rw [hlen] at hst
 simp only [Nat.add_zero] at hst
 simp only [Builtin.clear_, Sem.run_bind, run_underlying sizeSl39, Result.andThen_ok, Sem.run_pure, List.getElem?_toArray, List.getElem?_cons_zero]
 simp only [zeroU8, Result.andThen_ok, zeroCells_u8]
 rw [hst]
 rfl
theorem run_clear_none (w : World) (ty : TypeId) (a : Option Addr) (cap : Nat) : (Builtin.clear_ #[89] ty #[.slice a 0 cap]).run Tryz.prog w = .ok (.tuple #[]) w := by
 cases a <;> simp [Builtin.clear_, run_underlying sizeSl39]
theorem slice128_end (b o : Nat) (w : World) :
  (Instr.sliceAt 164 (.pointer (some ⟨b, o, none⟩)) (some (.int .i64 128)) none none).run Tryz.prog w = .ok (.slice (some ⟨b, o, none⟩) 0 0) w := by
 cases hq : Tryz.prog.info? 5 with
 | none => have := sizeU8H; rw [hq] at this; cases this
 | some i =>
  have hi : i.size = 1 := by have := sizeU8H; rw [hq] at this; simpa using this
  simp [Instr.sliceAt, Instr.sureAddr, run_underlying under128, Instr.sliceBounds, run_sliceBound, sizeOf, typeInfo, hq, hi]
theorem slice128_all (b o : Nat) (w : World) :
  (Instr.sliceAt 164 (.pointer (some ⟨b, o, none⟩)) none none none).run Tryz.prog w = .ok (.slice (some ⟨b, o, none⟩) 128 128) w := by
 cases hq : Tryz.prog.info? 5 with
 | none => have := sizeU8H; rw [hq] at this; cases this
 | some i =>
  simp [Instr.sliceAt, Instr.sureAddr, run_underlying under128, Instr.sliceBounds, sizeOf, typeInfo, hq, Addr.add]
def layB (l : List UInt8) (off : Nat) (x : BitVec 64) : Nat → List UInt8
 | 0 => l
 | k + 1 => (layB l off x k).set (off + k) (byteOf x k)
theorem layB_length (l : List UInt8) (off : Nat) (x : BitVec 64) (k : Nat) : (layB l off x k).length = l.length := by
 induction k with
 | zero => rfl
 | succ k ih => simp [layB, ih]
theorem lay_row (H : HS) (off : Nat) (x : BitVec 64) (k : Nat) (h : off + k ≤ H.blk.length) : lay H.row (8 + off) x k = ({ H with blk := layB H.blk off x k } : HS).row := by
 induction k with
 | zero => cases H; rfl
 | succ k ih =>
  have e := HS.set_blk { H with blk := layB H.blk off x k } (off + k) (by show _ < (layB H.blk off x k).length; rw [layB_length]; omega) (byteOf x k)
  show (lay H.row (8 + off) x k).set (8 + off + k) (cv (byteOf x k)) = _
  rw [ih (by omega), Nat.add_assoc, e]
  rfl
def be8 (x : BitVec 64) : List UInt8 := [byteOf x 0, byteOf x 1, byteOf x 2, byteOf x 3, byteOf x 4, byteOf x 5, byteOf x 6, byteOf x 7]
theorem layB_all (l : List UInt8) (off : Nat) (x : BitVec 64) (h : off + 8 ≤ l.length) : layB l off x 8 = l.take off ++ (be8 x ++ l.drop (off + 8)) := by
 apply List.ext_getElem?
 intro i
 have ht : (l.take off).length = off := by simp; omega
 by_cases h1 : i < off
 ·
  rw [List.getElem?_append_left (by omega), List.getElem?_take, if_pos h1]
  simp only [layB]
  rw [List.getElem?_set_ne (by omega), List.getElem?_set_ne (by omega), List.getElem?_set_ne (by omega), List.getElem?_set_ne (by omega), List.getElem?_set_ne (by omega), List.getElem?_set_ne (by omega), List.getElem?_set_ne (by omega), List.getElem?_set_ne (by omega)]
 ·
  obtain ⟨j, rfl⟩ : ∃ j, i = off + j := ⟨i - off, by omega⟩
  rw [List.getElem?_append_right (by omega), ht, Nat.add_sub_cancel_left]
  by_cases h2 : j < 8
  ·
   rw [List.getElem?_append_left (by exact h2)]
   have hj : j = 0 ∨ j = 1 ∨ j = 2 ∨ j = 3 ∨ j = 4 ∨ j = 5 ∨ j = 6 ∨ j = 7 := by omega
   have hl : ∀ k, k < 8 → off + k < l.length := fun k hk => by omega
   have hl0 : off < l.length := by omega
   rcases hj with rfl | rfl | rfl | rfl | rfl | rfl | rfl | rfl <;> simp [layB, be8, hl, hl0]
  ·
   rw [List.getElem?_append_right (by show 8 ≤ j; omega), List.getElem?_drop]
   simp only [layB]
   have e : off + 8 + (j - (be8 x).length) = off + j := by show off + 8 + (j - 8) = _; omega
   rw [e, List.getElem?_set_ne (by omega), List.getElem?_set_ne (by omega), List.getElem?_set_ne (by omega), List.getElem?_set_ne (by omega), List.getElem?_set_ne (by omega), List.getElem?_set_ne (by omega), List.getElem?_set_ne (by omega), List.getElem?_set_ne (by omega)]
def HS.marked (H : HS) : HS := { H with blk := H.blk.take H.filled ++ (128 :: List.replicate (127 - H.filled) 0) }
noncomputable def HS.roomed (H : HS) : HS := if 112 ≤ H.filled then { H.marked.mix with blk := List.replicate 128 0 } else H.marked
def HS.hi3 (H : HS) : BitVec 64 := H.hi <<< 3 ||| H.lo >>> 61
def HS.lo3 (H : HS) : BitVec 64 := H.lo <<< 3
noncomputable def HS.ended (H : HS) : HS := HS.mix { H.roomed with blk := layB (layB H.roomed.blk 112 H.hi3 8) 120 H.lo3 8 }
theorem HS.marked_length (H : HS) (h : H.blk.length = 128) : H.marked.blk.length = 128 := by
 have := H.filled_lt
 simp [HS.marked, h]; omega
theorem HS.roomed_n (H : HS) : H.roomed.n = H.n := by
 unfold HS.roomed; split <;> cases H <;> rfl
theorem U_shl3 (a : BitVec 64) : IntKind.u64.wrap (U a * (8 : Int)) = U (a <<< 3) := U_shl a 3
theorem U_shr61 (a : BitVec 64) : U a / (2305843009213693952 : Int) = U (a >>> 61) := U_shr a 61
theorem take_set_snoc (l : List UInt8) (f : Nat) (c : UInt8) (h : f < l.length) : (l.set f c).take (f + 1) = l.take f ++ [c] := by
 rw [List.take_succ_eq_append_getElem (by simpa using h), List.take_set_of_le (Nat.le_refl _)]
 simp
theorem HS.marked_row (H : HS) (h : H.blk.length = 128) :
  (H.row.set (8 + H.filled) (cv 128)).take (8 + H.filled + 1) ++ (List.replicate (127 - H.filled) (0 : UInt8)).map cv ++ (H.row.set (8 + H.filled) (cv 128)).drop (8 + H.filled + 1 + (127 - H.filled)) = H.marked.row := by
 have hf := H.filled_lt
 rw [H.set_blk H.filled (by omega) 128]
 have e := HS.row_splice { H with blk := H.blk.set H.filled 128 } (H.filled + 1) (List.replicate (127 - H.filled) 0) (by simp [h]; omega)
 rw [List.length_replicate] at e
 rw [Nat.add_assoc 8 H.filled 1, e]
 unfold HS.marked
 congr 2
 unfold splice
 rw [List.drop_eq_nil_of_le (by simp [h]; omega), List.append_nil, take_set_snoc _ _ _ (by omega)]
 simp
theorem clear_all {b : Nat} {T : TypeId} {J : HS} {w W : World} (h : Has W b T J) (ht : Turn b w W) :
  ∃ W4, (Builtin.clear_ #[89] 0 #[.slice (some ⟨b, 8, none⟩) 128 128]).run Tryz.prog W = .ok (.tuple #[]) W4 ∧ Hid (Has W4 b T { J with blk := List.replicate 128 0 }) ∧ Hid (Turn b w W4) := by
 refine ⟨_, run_clear_bytes _ 0 b 8 128 128 _ T (by omega) h.heap (by rw [J.row_length h.len]; omega), ⟨?_, by simp⟩, ht.trans ⟨rfl, rfl, rfl, by simp, fun k _ hk => setRow_other _ b k _ hk⟩⟩
 have e := J.row_splice 0 (List.replicate 128 0) (by simp [h.len])
 rw [List.length_replicate] at e
 have e2 : splice J.blk 0 (List.replicate 128 0) = List.replicate 128 0 := by
  unfold splice; rw [List.drop_eq_nil_of_le (by rw [h.len]; simp)]; simp
 rw [e2] at e
 rw [setRow_heap _ b _ _ T (0, 0) h.heap, ← e]
theorem has_lay {b off : Nat} {T : TypeId} {J : HS} {V1 : World} {x : BitVec 64} (hJ : J.blk.length = 128) (ho : off + 8 ≤ 128) (h : V1.heap[b]? = some (.cells (lay J.row (8 + off) x 8).toArray T (0, 0))) :
  Has V1 b T { J with blk := layB J.blk off x 8 } := by
 rw [lay_row J off x 8 (by omega)] at h
 exact ⟨h, by show (layB J.blk off x 8).length = 128; rw [layB_length]; exact hJ⟩
theorem has_hi {b off : Nat} {T : TypeId} {J : HS} {V1 : World} {x z : BitVec 64} (h : Has V1 b T { J with blk := layB J.blk off x 8 }) (hz : J.hi = z) : V1.cell? ⟨b, 136, none⟩ = some (.int .u64 (U z)) := by
 rw [h.cell 136, HS.row_hi _ h.len, ← hz]; rfl
theorem has_lo {b off : Nat} {T : TypeId} {J : HS} {V1 : World} {x z : BitVec 64} (h : Has V1 b T { J with blk := layB J.blk off x 8 }) (hz : J.lo = z) : V1.cell? ⟨b, 137, none⟩ = some (.int .u64 (U z)) := by
 rw [h.cell 137, HS.row_lo _ h.len, ← hz]; rfl
theorem Turn.drewed {b : Nat} {V V1 : World} (h : Turn b V.drew V1) : Turn b V V1 := ⟨h.os, h.tape, h.output, h.size, h.block⟩
section
attribute [local go_sem] U_and U_or U_xor U_not U_add U_add_one
attribute [local go_sem ↓] Go.wp_at_zero Go.wp_at_succ
set_option maxRecDepth 100000 in
set_option maxHeartbeats 4000000 in
theorem putEnd_any (b : Nat) (T : TypeId) (H : HS) (w : World) (h : Has w b T H) (hK : Tab w) (hb0 : 9 ≠ b) :
  Calls Tryz.prog 128 #[.pointer (some ⟨b, 0, none⟩)] w fun e w' => e = .returned (.tuple #[]) ∧ Has w' b T H.ended ∧ Turn b w w' := by
 have HH : Hid (Has w b T H) := h
 have HK : Hid (Tab w) := hK
 clear h hK
 obtain ⟨f, hf⟩ : ∃ f, f = H.filled := ⟨_, rfl⟩
 have hf1 : f < 128 := by rw [hf]; exact H.filled_lt
 have HF : Hid (f = H.filled) := hf
 have bf : (f : Int) < 128 := by omega
 clear hf
 obtain ⟨v0, hv0⟩ : ∃ v0, w.cell? ⟨b, 8 + f, none⟩ = some v0 := ⟨_, (HH.out.cell (8 + f)).trans (H.row_blk f (by rw [HH.out.len]; exact hf1))⟩
 have hfz := HH.out.frozen (8 + f)
 -- the world behind the mark and the first clear
 obtain ⟨W2, hcl, hcl2, hA2, hT2⟩ : ∃ W2, (f < 127 → (Builtin.clear_ #[89] 0 #[.slice (some ⟨b, 8 + (f + 1), none⟩) (127 - f) (127 - f)]).run Tryz.prog (w.setCell ⟨b, 8 + f, none⟩ (.int .u8 128)) = .ok (.tuple #[]) W2) ∧
   (f = 127 → w.setCell ⟨b, 8 + f, none⟩ (.int .u8 128) = W2) ∧ (Hid (Has W2 b T H.marked)) ∧ Hid (Turn b w W2) := by
  have hr1 : (w.setCell ⟨b, 8 + f, none⟩ (.int .u8 128)).heap[b]? = some (.cells (H.row.set (8 + f) (cv 128)).toArray T (0, 0)) := row_store HH.out.heap _ _
  have ht1 : Turn b w (w.setCell ⟨b, 8 + f, none⟩ (.int .u8 128)) := (Turn.refl b w).setCell (p := ⟨b, 8 + f, none⟩) rfl _
  have hlen : (H.row.set (8 + f) (cv 128)).length = 138 := by rw [List.length_set]; exact H.row_length HH.out.len
  have hm := H.marked_row HH.out.len
  rw [← HF.out] at hm
  by_cases h127 : f < 127
  ·
   refine ⟨_, fun _ => run_clear_bytes _ 0 b (8 + (f + 1)) (127 - f) (127 - f) _ T (by omega) hr1 (by rw [hlen]; omega), fun h => absurd h127 (by omega), ⟨?_, H.marked_length HH.out.len⟩, ?_⟩
   · rw [setRow_heap _ b _ _ T (0, 0) hr1, ← hm]; rfl
   · exact ht1.trans ⟨rfl, rfl, rfl, by simp, fun k _ hk => setRow_other _ b k _ hk⟩
  ·
   refine ⟨_, fun h => absurd h h127, fun _ => rfl, ⟨?_, H.marked_length HH.out.len⟩, ht1⟩
   have h0 : 127 - f = 0 := by omega
   rw [h0] at hm
   simp only [List.replicate_zero, List.map_nil, List.append_nil, Nat.add_zero, List.take_append_drop] at hm
   rw [hr1, ← hm]
 go_enter Tryz.func128, Tryz.ntmps128
 go_wp2_with fail
 refine (filled_any b T H w HH.out).mono ?_
 rintro e w' ⟨rfl, rfl⟩
 rw [← HF.out]
 rcases (show f < 112 ∨ (112 ≤ f ∧ f < 127) ∨ f = 127 by omega) with h112 | ⟨h112, h127⟩ | h127
 ·
  have hsl := slice128 b 8 ((f : Int) + 1) (f + 1) (by omega) (by omega)
  have hcl' := hcl (by omega)
  have HR : Hid (H.roomed = H.marked) := by show _ = _; unfold HS.roomed; rw [if_neg (by rw [← HF.out]; omega)]
  have i1 : (f : Int) < 112 := by omega
  clear hcl hcl2 h112
  go_wp2_with fail
  obtain ⟨V, hV⟩ : ∃ V, V = W2 := ⟨_, rfl⟩
  rw [← hV]
  have hA : Hid (Has V b T H.roomed) := by rw [hV, HR.out]; exact hA2.out
  have hT : Hid (Turn b w' V) := by rw [hV]; exact hT2.out
  clear hV
  have hc6 := hA.out.cell 136
  rw [HS.row_hi _ hA.out.len] at hc6
  have hc7 := hA.out.cell 137
  rw [HS.row_lo _ hA.out.len] at hc7
  have hq6 : H.roomed.hi = H.hi := by unfold HS.hi; rw [H.roomed_n]
  have hq7 : H.roomed.lo = H.lo := by unfold HS.lo; rw [H.roomed_n]
  rw [hq6] at hc6
  rw [hq7] at hc7
  have HQ6 : Hid (H.roomed.hi = H.hi) := hq6
  have HQ7 : Hid (H.roomed.lo = H.lo) := hq7
  clear hq6 hq7
  have s1 := slice128 b 8 112 112 rfl (by omega)
  have s2 := slice128 b 8 120 120 rfl (by omega)
  have x1 := U_shl3 H.hi
  have x2 := U_shr61 H.lo
  have x3 := U_shl3 H.lo
  clear HR
  obtain ⟨x, hx⟩ : ∃ x, x = H.hi <<< 3 ||| H.lo >>> 61 := ⟨_, rfl⟩
  have x4 := U_or (H.hi <<< 3) (H.lo >>> 61)
  rw [← hx] at x4
  have HX : Hid (x = H.hi3) := hx
  obtain ⟨y, hy⟩ : ∃ y, y = H.lo <<< 3 := ⟨_, rfl⟩
  rw [← hy] at x3
  have HY : Hid (y = H.lo3) := hy
  clear hx hy
  go_region_held3 (fun w' => w'.cell? ⟨b, 136, none⟩ = some (.int .u64 (U H.hi)) ∧ w'.cell? ⟨b, 137, none⟩ = some (.int .u64 (U H.lo))) (first | exact ⟨k6, k7⟩ | go_keep)
   (first | (go_at_call 129; refine (putWord_any b 120 16 16 T H.roomed.row x V.drew (by omega) (by omega) hA.out.heap (by rw [HS.row_length _ hA.out.len]; omega)).mono ?_; rintro e V1 ⟨rfl, hrow1, hturn1⟩; have hA1 := hide (has_lay (off := 112) hA.out.len (by omega) hrow1); have hT1 : Hid (Turn b w' V1) := hT.out.trans hturn1.drewed; have k6 : V1.cell? ⟨b, 136, none⟩ = some (.int .u64 (U H.hi)) := has_hi hA1.out HQ6.out; have k7 : V1.cell? ⟨b, 137, none⟩ = some (.int .u64 (U H.lo)) := has_lo hA1.out HQ7.out; clear hrow1 hturn1))
  clear hA hT hc6 hc7
  go_wp2_with fail
  go_region_held3 (fun w' => w'.cell? ⟨b, 137, none⟩ = some (.int .u64 (U H.lo))) (first | exact m7 | go_keep)
   (first | (go_at_call 129; refine (putWord_any b 128 8 8 T _ y V1.drew (by omega) (by omega) hA1.out.heap (by rw [HS.row_length _ hA1.out.len]; omega)).mono ?_; rintro e V2 ⟨rfl, hrow2, hturn2⟩; have hA2' := hide (has_lay (off := 120) hA1.out.len (by omega) hrow2); have hT2' : Hid (Turn b w' V2) := hT1.out.trans hturn2.drewed; have m7 : V2.cell? ⟨b, 137, none⟩ = some (.int .u64 (U H.lo)) := has_lo hA2'.out HQ7.out; clear hrow2 hturn2))
  clear hA1 hT1 k6 k7
  go_wp2_with fail
  refine (mixBlock_any b T _ V2 hA2'.out (HK.out.turn hT2'.out hb0) hb0).mono ?_
  rintro e V3 ⟨rfl, hA3, hT3⟩
  have HE := hide hA3
  have HT3 := hide (hT2'.out.trans hT3)
  clear hA3 hT3
  go_wp2_with fail
  go_end0
  refine ⟨rfl, ?_, HT3.out⟩
  have e := HE.out
  rw [HX.out, HY.out] at e
  exact e
 ·
  have hsl := slice128 b 8 ((f : Int) + 1) (f + 1) (by omega) (by omega)
  have hcl' := hcl (by omega)
  have HR : Hid (H.roomed = { H.marked.mix with blk := List.replicate 128 0 }) := by show _ = _; unfold HS.roomed; rw [if_pos (by rw [← HF.out]; omega)]
  have i1 : (112 : Int) ≤ (f : Int) := by omega
  have hsl2 := slice128_all b 8
  clear hcl hcl2 h112
  go_wp2_with fail
  refine (mixBlock_any b T H.marked W2 hA2.out (HK.out.turn hT2.out hb0) hb0).mono ?_
  rintro e W3 ⟨rfl, hA3, hT3⟩
  obtain ⟨W4, hcl4, hA4, hT4⟩ := clear_all hA3 (hT2.out.trans hT3)
  clear hA3 hT3 hcl' hsl
  go_wp2_with fail
  obtain ⟨V, hV⟩ : ∃ V, V = W4 := ⟨_, rfl⟩
  rw [← hV]
  have hA : Hid (Has V b T H.roomed) := by rw [hV, HR.out]; exact hA4.out
  have hT : Hid (Turn b w' V) := by rw [hV]; exact hT4.out
  clear hV
  have hc6 := hA.out.cell 136
  rw [HS.row_hi _ hA.out.len] at hc6
  have hc7 := hA.out.cell 137
  rw [HS.row_lo _ hA.out.len] at hc7
  have hq6 : H.roomed.hi = H.hi := by unfold HS.hi; rw [H.roomed_n]
  have hq7 : H.roomed.lo = H.lo := by unfold HS.lo; rw [H.roomed_n]
  rw [hq6] at hc6
  rw [hq7] at hc7
  have HQ6 : Hid (H.roomed.hi = H.hi) := hq6
  have HQ7 : Hid (H.roomed.lo = H.lo) := hq7
  clear hq6 hq7
  have s1 := slice128 b 8 112 112 rfl (by omega)
  have s2 := slice128 b 8 120 120 rfl (by omega)
  have x1 := U_shl3 H.hi
  have x2 := U_shr61 H.lo
  have x3 := U_shl3 H.lo
  clear HR
  obtain ⟨x, hx⟩ : ∃ x, x = H.hi <<< 3 ||| H.lo >>> 61 := ⟨_, rfl⟩
  have x4 := U_or (H.hi <<< 3) (H.lo >>> 61)
  rw [← hx] at x4
  have HX : Hid (x = H.hi3) := hx
  obtain ⟨y, hy⟩ : ∃ y, y = H.lo <<< 3 := ⟨_, rfl⟩
  rw [← hy] at x3
  have HY : Hid (y = H.lo3) := hy
  clear hx hy
  go_region_held3 (fun w' => w'.cell? ⟨b, 136, none⟩ = some (.int .u64 (U H.hi)) ∧ w'.cell? ⟨b, 137, none⟩ = some (.int .u64 (U H.lo))) (first | exact ⟨k6, k7⟩ | go_keep)
   (first | (go_at_call 129; refine (putWord_any b 120 16 16 T H.roomed.row x V.drew (by omega) (by omega) hA.out.heap (by rw [HS.row_length _ hA.out.len]; omega)).mono ?_; rintro e V1 ⟨rfl, hrow1, hturn1⟩; have hA1 := hide (has_lay (off := 112) hA.out.len (by omega) hrow1); have hT1 : Hid (Turn b w' V1) := hT.out.trans hturn1.drewed; have k6 : V1.cell? ⟨b, 136, none⟩ = some (.int .u64 (U H.hi)) := has_hi hA1.out HQ6.out; have k7 : V1.cell? ⟨b, 137, none⟩ = some (.int .u64 (U H.lo)) := has_lo hA1.out HQ7.out; clear hrow1 hturn1))
  clear hA hT hc6 hc7
  go_wp2_with fail
  go_region_held3 (fun w' => w'.cell? ⟨b, 137, none⟩ = some (.int .u64 (U H.lo))) (first | exact m7 | go_keep)
   (first | (go_at_call 129; refine (putWord_any b 128 8 8 T _ y V1.drew (by omega) (by omega) hA1.out.heap (by rw [HS.row_length _ hA1.out.len]; omega)).mono ?_; rintro e V2 ⟨rfl, hrow2, hturn2⟩; have hA2' := hide (has_lay (off := 120) hA1.out.len (by omega) hrow2); have hT2' : Hid (Turn b w' V2) := hT1.out.trans hturn2.drewed; have m7 : V2.cell? ⟨b, 137, none⟩ = some (.int .u64 (U H.lo)) := has_lo hA2'.out HQ7.out; clear hrow2 hturn2))
  clear hA1 hT1 k6 k7
  go_wp2_with fail
  refine (mixBlock_any b T _ V2 hA2'.out (HK.out.turn hT2'.out hb0) hb0).mono ?_
  rintro e V3 ⟨rfl, hA3, hT3⟩
  have HE := hide hA3
  have HT3 := hide (hT2'.out.trans hT3)
  clear hA3 hT3
  go_wp2_with fail
  go_end0
  refine ⟨rfl, ?_, HT3.out⟩
  have e := HE.out
  rw [HX.out, HY.out] at e
  exact e
 ·
  have hsl : ∀ w, (Instr.sliceAt 164 (.pointer (some ⟨b, 8, none⟩)) (some (.int .i64 ((f : Int) + 1))) none none).run Tryz.prog w = .ok (.slice (some ⟨b, 8, none⟩) 0 0) w := by subst h127; exact slice128_end b 8
  have hcl' := fun w => run_clear_none w 0 (some ⟨b, 8, none⟩) 0
  have HR : Hid (H.roomed = { H.marked.mix with blk := List.replicate 128 0 }) := by show _ = _; unfold HS.roomed; rw [if_pos (by rw [← HF.out]; omega)]
  have i1 : (112 : Int) ≤ (f : Int) := by omega
  have hsl2 := slice128_all b 8
  have HW : Hid (w'.setCell ⟨b, 8 + f, none⟩ (.int .u8 128) = W2) := hcl2 h127
  clear hcl hcl2 h127
  go_wp2_with fail
  rw [HW.out]
  refine (mixBlock_any b T H.marked W2 hA2.out (HK.out.turn hT2.out hb0) hb0).mono ?_
  rintro e W3 ⟨rfl, hA3, hT3⟩
  obtain ⟨W4, hcl4, hA4, hT4⟩ := clear_all hA3 (hT2.out.trans hT3)
  clear hA3 hT3 hcl' hsl
  go_wp2_with fail
  obtain ⟨V, hV⟩ : ∃ V, V = W4 := ⟨_, rfl⟩
  rw [← hV]
  have hA : Hid (Has V b T H.roomed) := by rw [hV, HR.out]; exact hA4.out
  have hT : Hid (Turn b w' V) := by rw [hV]; exact hT4.out
  clear hV
  have hc6 := hA.out.cell 136
  rw [HS.row_hi _ hA.out.len] at hc6
  have hc7 := hA.out.cell 137
  rw [HS.row_lo _ hA.out.len] at hc7
  have hq6 : H.roomed.hi = H.hi := by unfold HS.hi; rw [H.roomed_n]
  have hq7 : H.roomed.lo = H.lo := by unfold HS.lo; rw [H.roomed_n]
  rw [hq6] at hc6
  rw [hq7] at hc7
  have HQ6 : Hid (H.roomed.hi = H.hi) := hq6
  have HQ7 : Hid (H.roomed.lo = H.lo) := hq7
  clear hq6 hq7
  have s1 := slice128 b 8 112 112 rfl (by omega)
  have s2 := slice128 b 8 120 120 rfl (by omega)
  have x1 := U_shl3 H.hi
  have x2 := U_shr61 H.lo
  have x3 := U_shl3 H.lo
  clear HR
  obtain ⟨x, hx⟩ : ∃ x, x = H.hi <<< 3 ||| H.lo >>> 61 := ⟨_, rfl⟩
  have x4 := U_or (H.hi <<< 3) (H.lo >>> 61)
  rw [← hx] at x4
  have HX : Hid (x = H.hi3) := hx
  obtain ⟨y, hy⟩ : ∃ y, y = H.lo <<< 3 := ⟨_, rfl⟩
  rw [← hy] at x3
  have HY : Hid (y = H.lo3) := hy
  clear hx hy
  go_region_held3 (fun w' => w'.cell? ⟨b, 136, none⟩ = some (.int .u64 (U H.hi)) ∧ w'.cell? ⟨b, 137, none⟩ = some (.int .u64 (U H.lo))) (first | exact ⟨k6, k7⟩ | go_keep)
   (first | (go_at_call 129; refine (putWord_any b 120 16 16 T H.roomed.row x V.drew (by omega) (by omega) hA.out.heap (by rw [HS.row_length _ hA.out.len]; omega)).mono ?_; rintro e V1 ⟨rfl, hrow1, hturn1⟩; have hA1 := hide (has_lay (off := 112) hA.out.len (by omega) hrow1); have hT1 : Hid (Turn b w' V1) := hT.out.trans hturn1.drewed; have k6 : V1.cell? ⟨b, 136, none⟩ = some (.int .u64 (U H.hi)) := has_hi hA1.out HQ6.out; have k7 : V1.cell? ⟨b, 137, none⟩ = some (.int .u64 (U H.lo)) := has_lo hA1.out HQ7.out; clear hrow1 hturn1))
  clear hA hT hc6 hc7
  go_wp2_with fail
  go_region_held3 (fun w' => w'.cell? ⟨b, 137, none⟩ = some (.int .u64 (U H.lo))) (first | exact m7 | go_keep)
   (first | (go_at_call 129; refine (putWord_any b 128 8 8 T _ y V1.drew (by omega) (by omega) hA1.out.heap (by rw [HS.row_length _ hA1.out.len]; omega)).mono ?_; rintro e V2 ⟨rfl, hrow2, hturn2⟩; have hA2' := hide (has_lay (off := 120) hA1.out.len (by omega) hrow2); have hT2' : Hid (Turn b w' V2) := hT1.out.trans hturn2.drewed; have m7 : V2.cell? ⟨b, 137, none⟩ = some (.int .u64 (U H.lo)) := has_lo hA2'.out HQ7.out; clear hrow2 hturn2))
  clear hA1 hT1 k6 k7
  go_wp2_with fail
  refine (mixBlock_any b T _ V2 hA2'.out (HK.out.turn hT2'.out hb0) hb0).mono ?_
  rintro e V3 ⟨rfl, hA3, hT3⟩
  have HE := hide hA3
  have HT3 := hide (hT2'.out.trans hT3)
  clear hA3 hT3
  go_wp2_with fail
  go_end0
  refine ⟨rfl, ?_, HT3.out⟩
  have e := HE.out
  rw [HX.out, HY.out] at e
  exact e
end
def sumTo (ws : List (BitVec 64)) (k : Nat) : List UInt8 := (ws.take k).flatMap be8 ++ List.replicate (64 - 8 * k) 0
theorem be8_length (x : BitVec 64) : (be8 x).length = 8 := rfl
theorem flat_length (ws : List (BitVec 64)) : (ws.flatMap be8).length = 8 * ws.length := by
 induction ws with
 | nil => rfl
 | cons x l ih => simp only [List.flatMap_cons, List.length_append, ih, be8_length, List.length_cons]; omega
theorem sumTo_length (ws : List (BitVec 64)) (k : Nat) (hw : ws.length = 8) (hk : k ≤ 8) : (sumTo ws k).length = 64 := by
 unfold sumTo; rw [List.length_append, flat_length, List.length_take, List.length_replicate]; omega
theorem layB_cv (l : List UInt8) (off : Nat) (x : BitVec 64) (k : Nat) : lay (l.map cv) off x k = (layB l off x k).map cv := by
 induction k with
 | zero => rfl
 | succ k ih => simp only [lay, layB, ih, List.map_set]
theorem sumTo_step (ws : List (BitVec 64)) (k : Nat) (hw : ws.length = 8) (hk : k < 8) : layB (sumTo ws k) (8 * k) (ws.getD k 0) 8 = sumTo ws (k + 1) := by
 rw [layB_all _ _ _ (by rw [sumTo_length ws k hw (by omega)]; omega)]
 have hl : ((ws.take k).flatMap be8).length = 8 * k := by rw [flat_length, List.length_take]; omega
 have e1 : (sumTo ws k).take (8 * k) = (ws.take k).flatMap be8 := by
  unfold sumTo; rw [List.take_append_of_le_length (by omega)]; exact List.take_of_length_le (by omega)
 have e2 : (sumTo ws k).drop (8 * k + 8) = List.replicate (64 - 8 * (k + 1)) 0 := by
  unfold sumTo; rw [List.drop_append, List.drop_eq_nil_of_le (by omega), hl, List.drop_replicate, List.nil_append]
  congr 1; omega
 rw [e1, e2]
 unfold sumTo
 have e3 : ws.take (k + 1) = ws.take k ++ [ws.getD k 0] := by
  rw [List.take_succ_eq_append_getElem (by omega)]; simp [List.getD, List.getElem?_eq_getElem (show k < ws.length by omega)]
 rw [e3, List.flatMap_append, List.append_assoc]
 simp
noncomputable def HS.sum (H : HS) : List UInt8 := H.ended.st.words.flatMap be8
theorem HS.sum_length (H : HS) : H.sum.length = 64 := by unfold HS.sum; rw [flat_length]; rfl
theorem sumTo_all (H : HS) : sumTo H.ended.st.words 8 = H.sum := by
 unfold sumTo HS.sum
 rw [List.take_of_length_le (by rw [S8.words_length]; exact Nat.le_refl _)]; simp
theorem under64H : Tryz.prog.underlying 102 = some (.array 64 5) := by kernel_rfl
theorem size64H : (Tryz.prog.info? 102).map (·.size) = some 64 := by kernel_rfl
theorem underH : ∃ fs, Tryz.prog.underlying 166 = some (.struct fs) := ⟨_, Tryz.underlying166⟩
theorem sizeH : (Tryz.prog.info? 166).map (·.size) = some 138 := by kernel_rfl
def z64H : Array Value := ((List.replicate 64 (0 : UInt8)).map cv).toArray
theorem zero64 (w : World) : (zeroValue 102).run Tryz.prog w = .ok (.agg z64H) w := by kernel_rfl
def zH : Array Value := (HS.row ⟨⟨0, 0, 0, 0, 0, 0, 0, 0⟩, List.replicate 128 0, 0⟩).toArray
theorem zeroH (w : World) : (zeroValue 166).run Tryz.prog w = .ok (.agg zH) w := by kernel_rfl
theorem slice64 (b o : Nat) (z : Int) (l : Nat) (hz : z = l) (hl : l < 64) (w : World) :
  (Instr.sliceAt 102 (.pointer (some ⟨b, o, none⟩)) (some (.int .i64 z)) none none).run Tryz.prog w = .ok (.slice (some ⟨b, o + l, none⟩) (64 - l) (64 - l)) w := by
 subst hz
 have h1 : ((l : Int) ≤ 64) := by omega
 have h2 : ¬ 64 = l := by omega
 cases hq : Tryz.prog.info? 5 with
 | none => have := sizeU8H; rw [hq] at this; cases this
 | some i =>
  have hi : i.size = 1 := by have := sizeU8H; rw [hq] at this; simpa using this
  simp [Instr.sliceAt, Instr.sureAddr, run_underlying under64H, Instr.sliceBounds, run_sliceBound, sizeOf, typeInfo, hq, hi, h1, h2, Addr.add]
theorem index8w (s : S8) (j : Nat) (hj : j < 8) : ∀ w, (Instr.index 163 (.agg (w8 s).toArray) (.int .i64 j)).run Tryz.prog w = .ok (.int .u64 (U (s.words.getD j 0))) w := index8 s j hj
theorem row_cell (H : HS) : ∀ v ∈ H.row, v.oneCell' = true := by
 intro v hv
 unfold HS.row at hv
 rcases List.mem_append.1 hv with h | h
 · obtain ⟨x, _, rfl⟩ := List.mem_map.1 h; rfl
 ·
  rcases List.mem_append.1 h with h | h
  · obtain ⟨x, _, rfl⟩ := List.mem_map.1 h; rfl
  · simp at h; rcases h with rfl | rfl <;> rfl
theorem cvs_cell (l : List UInt8) : ∀ v ∈ l.map cv, v.oneCell' = true := by
 intro v hv; obtain ⟨x, _, rfl⟩ := List.mem_map.1 hv; rfl
theorem has_range {w : World} {b : Nat} {T : TypeId} {H : HS} (h : Has w b T H) : w.rangeAt b 0 (w8 H.st) := by
 intro j v hv
 have hj : j < 8 := by
  rcases Nat.lt_or_ge j 8 with g | g
  · exact g
  · rw [List.getElem?_eq_none (by simpa [w8, S8.words] using g)] at hv; cases hv
 rw [Nat.zero_add, h.cell j]
 unfold HS.row; rw [List.getElem?_append_left (by simpa [S8.words] using hj)]; exact hv
section
attribute [local go_sem] U_and U_or U_xor U_not U_add U_add_one
attribute [local go_sem ↓] Go.wp_at_zero Go.wp_at_succ
set_option maxRecDepth 100000 in
set_option maxHeartbeats 4000000 in
theorem sum_any (b : Nat) (T : TypeId) (H : HS) (w : World) (h : Has w b T H) (hK : Tab w) :
  Calls Tryz.prog 83 #[.pointer (some ⟨b, 0, none⟩)] w fun e w' => e = .returned (.agg (H.sum.map cv).toArray) ∧ Below w.heap.size w w' := by
 have hz := zero64
 have hzH := zeroH
 have HH : Hid (Has w b T H) := h
 have HK : Hid (Tab w) := hK
 have hb : b < w.heap.size := h.lt
 obtain ⟨fs, huH⟩ := underH
 have HU : Hid (Tryz.prog.underlying 166 = some (.struct fs)) := huH
 clear h hK huH
 obtain ⟨R, HR⟩ : ∃ R, Hid (R = H.row) := ⟨_, rfl⟩
 have hRl : R.length = 138 := by rw [HR.out]; exact H.row_length HH.out.len
 have HSz : Hid ((Tryz.prog.info? 166).map (·.size) = some R.toArray.size) := by show _ = _; rw [sizeH]; simp [hRl]
 have HO : Hid (zH.size = R.toArray.size) := by show _ = _; simp [hRl]; rfl
 have HA : Hid (R.toArray.all (·.oneCell') = true) := by rw [HR.out]; exact all_oneCell_toArray (row_cell H)
 have HG : Hid ((w.alloc (.cells z64H 102)).heap[b]? = some (.cells R.toArray T (0, 0))) := by
  rw [HR.out]; exact (heap_alloc_old w _ hb).trans HH.out.heap
 clear hRl
 go_enter Tryz.func83, Tryz.ntmps83
 go_wp2_with (first
  | (refine wpList_load_row (by rfl) 166 (.tmp 8) (by rfl) b (by rfl) T R.toArray (0, 0) _ HG.out HU.out rfl HSz.out ?_)
  | (refine wpList_store_row (by rfl) 166 (.tmp 3) (.tmp 9) (by rfl) (w.heap.size + 1) R.toArray (by rfl) (by rfl) 166 _ (heap_alloc2_new _ _ _) HSz.out HO.out HA.out ?_))
 obtain ⟨W1, hW1⟩ : ∃ W1, W1 = ((w.alloc (.cells z64H 102)).alloc (.cells zH 166)).setRow (w.heap.size + 1) R.toArray := ⟨_, rfl⟩
 rw [← hW1]
 obtain ⟨g, hg⟩ : ∃ g, g = w.heap.size + 1 := ⟨_, rfl⟩
 rw [← hg]
 have hgs : w.heap.size < g := by omega
 have hA1 : Has W1 g 166 H := by
  refine ⟨?_, HH.out.len⟩
  rw [hW1, hg, setRow_heap _ _ _ _ _ _ (heap_alloc2_new _ _ _), HR.out]
 have hB1 : Below w.heap.size w W1 := by
  rw [hW1]; exact below_setRow (((Below.refl _ _).alloc (Nat.le_refl _) _).alloc (by simp) _) (by omega) _
 have hR1 : W1.heap[w.heap.size]? = some (.cells z64H 102 (0, 0)) := by
  rw [hW1, setRow_other _ _ _ _ (by omega)]; exact heap_alloc2_old _ _ _
 clear hW1 hg HG HA HO HSz HU HR hz hzH
 refine (putEnd_any g 166 H W1 hA1 (HK.out.below hB1 (by have := HK.out.lt; omega)) (by have := HK.out.lt; omega)).mono ?_
 rintro e W2 ⟨rfl, hA2, hT2⟩
 have hB2 : Hid (Below w.heap.size w W2) := hB1.trans (hT2.below (by omega) hB1.size)
 have hR2 : Hid (W2.heap[w.heap.size]? = some (.cells z64H 102 (0, 0))) := (hT2.block _ (by have := hA1.lt; omega) (by omega)).trans hR1
 have hA2' : Hid (W2.rangeAt g 0 (w8 H.ended.st)) := has_range hA2
 have hg2 : g < W2.heap.size := hA2.lt
 clear hA1 hB1 hR1 hA2 hT2
 obtain ⟨S, HS'⟩ : ∃ S, Hid (S = H.ended.st) := ⟨_, rfl⟩
 rw [← HS'.out] at hA2'
 have hz := zero64
 have HRA : Hid ((W2.alloc (.cells z64H 102)).rangeAt g 0 (w8 S)) := World.rangeAt_alloc hA2'.out _
 go_wp2_with (first | (refine wpList_load_mid (by rfl) 163 (.tmp 11) (by rfl) g 0 (by rfl) (w8 S) _ HRA.out under8 rfl size8 ?_))
 clear hz HRA
 obtain ⟨q, hq⟩ : ∃ q, q = W2.heap.size := ⟨_, rfl⟩
 rw [← hq]
 go_loopw [13] (fun i wr => ∃ k : Nat, k ≤ 8 ∧ i = .int .i64 k ∧ Hid (wr.heap[q]? = some (.cells ((sumTo S.words k).map cv).toArray 102 (0, 0))) ∧ Hid (wr.heap[w.heap.size]? = some (.cells z64H 102 (0, 0))) ∧ Hid (Below w.heap.size w wr)) (fun i _ => 8 - (intOf i).toNat)
 case atStart => exact ⟨0, Nat.zero_le _, rfl, by rw [hq]; exact heap_alloc_new W2 _, (heap_alloc_old W2 _ (by omega)).trans hR2.out, hB2.out.alloc (by omega) _⟩
 case round =>
  have hqs : Hid (w.heap.size < q) := by rw [hq]; show _ < _; omega
  clear hR2 hB2 hA2' hg2 hgs hq
  obtain ⟨k, hk, rfl, hr, hr0, hbel⟩ := hrel
  by_cases hlt : k < 8
  ·
   have bk : (k : Int) < 8 := by omega
   have hidx := index8w S k hlt
   have hsl := slice64 q 0 (8 * (k : Int)) (8 * k) (by omega) (by omega)
   generalize hx : S.words.getD k 0 = x at hidx
   have HX : Hid (S.words.getD k 0 = x) := hx
   clear hx
   go_wp2_with fail
   refine (putWord_any q (8 * k) (64 - 8 * k) (64 - 8 * k) 102 _ x wr (by omega) (by omega) hr.out (by rw [List.length_map, sumTo_length _ _ (S8.words_length S) hk]; omega)).mono ?_
   rintro e V ⟨rfl, hrow, hturn⟩
   have hrow' : Hid (V.heap[q]? = some (.cells ((sumTo S.words (k + 1)).map cv).toArray 102 (0, 0))) := by
    have e := hrow
    rw [layB_cv, ← HX.out, sumTo_step _ _ (S8.words_length S) hlt] at e
    exact e
   have hr0' : Hid (V.heap[w.heap.size]? = some (.cells z64H 102 (0, 0))) := (hturn.block _ (by rcases Nat.lt_or_ge w.heap.size wr.heap.size with g | g; exact g; have := hr0.out; rw [Array.getElem?_eq_none g] at this; cases this) (by have := hqs.out; omega)).trans hr0.out
   have hbel' : Hid (Below w.heap.size w V) := hbel.out.trans (hturn.below (by have := hqs.out; omega) hbel.out.size)
   clear hrow hturn hr hr0 hbel
   go_wp2_with fail
   go_roundw
   case rel => exact ⟨k + 1, by omega, by go_num, hrow', hr0', hbel'⟩
   case measure => simp [intOf]; omega
  ·
   have hk8 : k = 8 := by omega
   have hk' : (8 : Int) ≤ (k : Int) := by omega
   obtain ⟨M, HM⟩ : ∃ M, Hid (M = (H.sum.map cv)) := ⟨_, rfl⟩
   have hr' : Hid (wr.heap[q]? = some (.cells M.toArray 102 (0, 0))) := by
    have := hr.out; rw [hk8, HS'.out, sumTo_all, ← HM.out] at this; exact this
   have hMl : M.length = 64 := by rw [HM.out, List.length_map, H.sum_length]
   have HSz : Hid ((Tryz.prog.info? 102).map (·.size) = some M.toArray.size) := by show _ = _; rw [size64H]; simp [hMl]
   have HO : Hid (z64H.size = M.toArray.size) := by show _ = _; simp [hMl]; rfl
   have HA : Hid (M.toArray.all (·.oneCell') = true) := by rw [HM.out]; exact all_oneCell_toArray (cvs_cell _)
   clear hr hk8 hlt hk hMl
   go_wp2_with (first | (refine wpList_load_row (by rfl) 102 (.tmp 4) (by rfl) q (by rfl) 102 M.toArray (0, 0) _ hr'.out under64H rfl HSz.out ?_) | (refine wpList_store_row (by rfl) 102 (.tmp 2) (.tmp 23) (by rfl) w.heap.size M.toArray (by rfl) (by rfl) 102 _ hr0.out HSz.out HO.out HA.out ?_))
   refine bodyPost_ret (v := .agg M.toArray) (results_cell_row Tryz.results83 _ _ w.heap.size 102 M.toArray (0, 0) _ (by rfl) (setRow_heap _ _ _ _ _ _ hr0.out) under64H rfl HSz.out) rfl ⟨by rw [HM.out], below_setRow hbel.out (Nat.le_refl _) _⟩
end
def Own (w : World) (B : Nat) (e : TypeId) (v : Value) (xs : List Value) : Prop :=
 (v = .slice none 0 0 ∧ xs = []) ∨
 ∃ g cap cur fr, v = .slice (some ⟨g, 0, none⟩) xs.length cap ∧ B ≤ g ∧ w.heap[g]? = some (.cells cur e fr) ∧ (fr = (0, 0) ∨ cur.size ≤ fr.1) ∧ xs.length ≤ cap ∧ cap ≤ maxLen ∧ cur.size = cap ∧ cur.toList.take xs.length = xs
theorem Own.nil (w : World) (B : Nat) (e : TypeId) : Own w B e (.slice none 0 0) [] := .inl ⟨rfl, rfl⟩
theorem Own.of_row {w : World} {B : Nat} {e : TypeId} {v : Value} {n : Nat} {xs : List Value} (h : w.ownsRow B e 1 v n xs) : Own w B e v xs := by
 obtain ⟨hl, ⟨rfl, rfl⟩ | ⟨g, cap, cur, rfl, h1, h2, h3, h4, h5, h6⟩⟩ := h
 · exact .inl ⟨rfl, List.eq_nil_of_length_eq_zero (by simpa using hl)⟩
 ·
  rw [Nat.mul_one] at hl h5 h6
  subst hl
  exact .inr ⟨g, cap, cur, (0, 0), rfl, h1, h2, .inl rfl, h3, h4, h5, h6⟩
theorem Own.mono {w : World} {B B' : Nat} {e : TypeId} {v : Value} {xs : List Value} (h : Own w B e v xs) (hB : B' ≤ B) : Own w B' e v xs := by
 rcases h with h | ⟨g, cap, cur, fr, h0, h1, h2⟩
 · exact .inl h
 · exact .inr ⟨g, cap, cur, fr, h0, Nat.le_trans hB h1, h2⟩
theorem Own.form {w : World} {B : Nat} {e : TypeId} {v : Value} {xs : List Value} (h : Own w B e v xs) (hx : 0 < xs.length) :
  ∃ g cap, v = .slice (some ⟨g, 0, none⟩) xs.length cap ∧ B ≤ g ∧ g < w.heap.size ∧ xs.length ≤ cap ∧ cap ≤ maxLen ∧ ∀ i, i < xs.length → w.cell? ⟨g, i, none⟩ = xs[i]? := by
 rcases h with ⟨_, rfl⟩ | ⟨g, cap, cur, fr, h0, h1, h2, _, h4, h5, h6, h7⟩
 · simp at hx
 ·
  refine ⟨g, cap, h0, h1, ?_, h4, h5, fun i hi => ?_⟩
  ·
   rcases Nat.lt_or_ge g w.heap.size with q | q
   · exact q
   · rw [Array.getElem?_eq_none q] at h2; cases h2
  ·
   rw [cell_of_row w g i cur e fr h2]
   have e1 : (cur.toList.take xs.length)[i]? = xs[i]? := by rw [h7]
   rw [List.getElem?_take, if_pos hi] at e1
   simpa using e1
theorem Own.kept {w w' : World} {B : Nat} {e : TypeId} {v : Value} {xs : List Value} (h : Own w B e v xs) (hk : ∀ g, v.ownBlock = some g → w'.heap[g]? = w.heap[g]?) : Own w' B e v xs := by
 rcases h with h | ⟨g, cap, cur, fr, h0, h1, h2, h3⟩
 · exact .inl h
 · exact .inr ⟨g, cap, cur, fr, h0, h1, (hk g (by rw [h0]; rfl)).trans h2, h3⟩
theorem Own.alloc {w : World} {B : Nat} {e : TypeId} {v : Value} {xs : List Value} (h : Own w B e v xs) (o : Obj) : Own (w.alloc o) B e v xs := by
 rcases h with h | ⟨g, cap, cur, fr, h0, h1, h2, h3⟩
 · exact .inl h
 ·
  refine .inr ⟨g, cap, cur, fr, h0, h1, ?_, h3⟩
  have hg : g < w.heap.size := by
   rcases Nat.lt_or_ge g w.heap.size with q | q
   · exact q
   · rw [Array.getElem?_eq_none q] at h2; cases h2
  exact (heap_alloc_old w o hg).trans h2
theorem _root_.Go.RowKit.Below.drewN {B : Nat} {a w : World} (h : Below B a w) (n : Nat) : Below B a (w.drewN n) := ⟨h.os, h.tape, h.output, h.size, h.block⟩
theorem setCells_row (g : Nat) (t : TypeId) (fr : Nat × Nat) : ∀ (vs : List Value) (o : Nat) (cur : Array Value) (w : World), w.heap[g]? = some (.cells cur t fr) → o + vs.length ≤ cur.size →
  ∃ cur' : Array Value, (w.setCells g o vs).heap[g]? = some (.cells cur' t fr) ∧ cur'.size = cur.size ∧ cur'.toList.take (o + vs.length) = cur.toList.take o ++ vs
 | [], o, cur, w, hg, _ => ⟨cur, hg, rfl, by simp⟩
 | v :: r, o, cur, w, hg, hl => by
  have hl' : o + (r.length + 1) ≤ cur.size := by simpa using hl
  have h1 : (w.setCell ⟨g, o, none⟩ v).heap[g]? = some (.cells (cur.setIfInBounds o v) t fr) := by
   rw [setCell_eq_setRow w g o cur t fr v hg]; exact setRow_heap w g cur _ t fr hg
  obtain ⟨c', a1, a2, a3⟩ := setCells_row g t fr r (o + 1) _ _ h1 (by simp; omega)
  refine ⟨c', a1, by simpa using a2, ?_⟩
  have e1 : o + (v :: r).length = o + 1 + r.length := by simp; omega
  rw [e1, a3]
  have e2 : (cur.setIfInBounds o v).toList.take (o + 1) = cur.toList.take o ++ [v] := by
   rw [Array.toList_setIfInBounds, List.take_succ_eq_append_getElem (by simp; omega), List.take_set_of_le (Nat.le_refl _)]
   simp
  rw [e2]; simp
theorem setCells_other (g k : Nat) (hk : k ≠ g) : ∀ (vs : List Value) (o : Nat) (w : World), (w.setCells g o vs).heap[k]? = w.heap[k]?
 | [], _, _ => rfl
 | v :: r, o, w => by rw [World.setCells, setCells_other g k hk r, Below.heap_setCell _ _ _ _ (by exact hk)]
theorem setCells_size (g : Nat) : ∀ (vs : List Value) (o : Nat) (w : World), (w.setCells g o vs).heap.size = w.heap.size
 | [], _, _ => rfl
 | v :: r, o, w => by rw [World.setCells, setCells_size g r]; simp
theorem setCells_rest (g : Nat) : ∀ (vs : List Value) (o : Nat) (w : World), (w.setCells g o vs).os = w.os ∧ (w.setCells g o vs).tape = w.tape ∧ (w.setCells g o vs).output = w.output
 | [], _, _ => ⟨rfl, rfl, rfl⟩
 | v :: r, o, w => by rw [World.setCells]; exact setCells_rest g r (o + 1) _
section
variable {P : Program} (w : World)
theorem run_append_Own (B : Nat) (t ty e : TypeId) (i : TypeInfo) (z : Value) (bytes : Nat) (ht : P.underlying t = some (.slice e)) (hi : P.info? e = some i) (hz : i.zero = some z)
  (hsize : i.size = 1) (hby : i.bytes = bytes) (hzs : z.cells.size = 1) (v : Value) (xs : List Value) (hown : Own w B e v xs)
  (a : Addr) (m c : Nat) (news : List Value) (hl : news.length = m) (hnews : ∀ j u, news[j]? = some u → w.cell? (a.add j) = some u) (h1 : ∀ u ∈ news, u.oneCell' = true)
  (h63 : xs.length + m ≤ maxLen) (hbytes : (xs.length + m) * bytes ≤ 140737488355328) (hbase : B ≤ w.heap.size) :
  ∃ v' w', (Builtin.append_ #[t, t] ty #[v, .slice (some a) m c]).run P w = .ok v' w' ∧ Own w' B e v' (xs ++ news) ∧ w.grownBy w' v.ownBlock ∧ ∀ g j, v.ownBlock = some g → j < xs.length → w'.cell? ⟨g, j, none⟩ = w.cell? ⟨g, j, none⟩ := by
 rcases hown with ⟨rfl, rfl⟩ | ⟨g, cap, cur, fr, rfl, hB, hg, hfr, hlc, hcm, hcs, htk⟩
 ·
  obtain ⟨v', w', hr, h2, h3, _⟩ := run_append_own (P := P) w B t ty e i z 1 bytes ht hi hz hsize hby hzs (by omega) (.slice none 0 0) 0 [] (World.ownsRow_nil w B e 1) a m c news (by omega) hnews h1 (by simpa using h63) (by simpa using hbytes) hbase
  exact ⟨v', w', hr, Own.of_row h2, h3, fun g j hg => by cases hg⟩
 ·
  have hcells : ∀ j, w.cell? ⟨g, j, none⟩ = cur[j]? := fun j => cell_of_row w g j cur e fr hg
  by_cases hroom : xs.length + m ≤ cap
  ·
   have hr := run_append_room_cells (P := P) w t ty e i ht hi g 0 xs.length cap a m c news (by rw [hsize]; omega) hnews h1 hroom
    (fun j hj => by rw [hsize, Nat.zero_add, Nat.mul_one, hcells]; simp; omega)
    (fun j hj => by
     rw [hsize, Nat.zero_add, Nat.mul_one]
     simp only [World.frozen?, hg]
     rcases hfr with rfl | hfr
     · simp
     · simp; omega)
   rw [hsize, Nat.zero_add, Nat.mul_one] at hr
   obtain ⟨cur', b1, b2, b3⟩ := setCells_row g e fr news xs.length cur w hg (by omega)
   refine ⟨_, _, hr, .inr ⟨g, cap, cur', fr, by rw [List.length_append, hl], hB, b1, by rw [b2]; exact hfr, by rw [List.length_append, hl]; exact hroom, hcm, by rw [b2, hcs], ?_⟩, ?_, ?_⟩
   · rw [List.length_append, b3, htk]
   · exact ⟨(setCells_rest g news _ w).1, (setCells_rest g news _ w).2.1, (setCells_rest g news _ w).2.2, by rw [setCells_size]; exact Nat.le_refl _, fun k _ hk => setCells_other g k (fun e => hk (by simp [Value.ownBlock, e])) news _ w⟩
   ·
    intro g' j hg' hj
    simp [Value.ownBlock] at hg'; subst hg'
    exact World.cell?_setCells_out _ news _ w _ (fun _ _ => Or.inl hj)
  ·
   obtain ⟨v', w', hrun, r1, r2⟩ := run_append_arg_grows (P := P) w t ty e i z 1 bytes ht hi hz hsize hby hzs (by omega) ⟨g, 0, none⟩ xs.length cap xs (by omega) (fun j u hj => by
    have hjl : j < xs.length := (List.getElem?_eq_some_iff.1 hj).1
    rw [Addr.add_lit, Nat.zero_add, hcells]
    have e1 : (cur.toList.take xs.length)[j]? = xs[j]? := by rw [htk]
    rw [List.getElem?_take, if_pos hjl] at e1
    rw [← hj, ← e1]; simp) a m c news (by omega) hnews (by omega) h63 hbytes
   exact ⟨v', w', hrun, (Own.of_row r1).mono hbase, ⟨r2.os, r2.tape, r2.output, r2.size, fun k hk _ => r2.block k hk (by simp)⟩, fun g' j hg' _ => by
    simp [Value.ownBlock] at hg'; subst hg'
    have hlt : g < w.heap.size := by
     rcases Nat.lt_or_ge g w.heap.size with q | q
     · exact q
     · rw [Array.getElem?_eq_none q] at hg; cases hg
    exact World.cell?_of_block (w := w) (r2.block g hlt (by simp))⟩
theorem wpList_append_Own {ops : Array Oper} {rest : List Oper} {o : Oper} {a : Act} {Q : Exit → Act → World → Prop} (hgd : o.guard = none) (s x : Operand) (t : TypeId)
  (ho : o.op = .call { callee := .builtin .append, args := #[s, x], argTypes := #[t, t] })
  (B : Nat) (e : TypeId) (i : TypeInfo) (z : Value) (bytes : Nat) (ht : P.underlying t = some (.slice e)) (hi : P.info? e = some i) (hz : i.zero = some z)
  (hsize : i.size = 1) (hby : i.bytes = bytes) (hzs : z.cells.size = 1)
  (v : Value) (xs : List Value) (hs : a.eval s = v) (hown : Own w B e v xs)
  (ad : Addr) (m c : Nat) (news : List Value) (hx : a.eval x = .slice (some ad) m c) (hl : news.length = m) (hnews : ∀ j u, news[j]? = some u → w.cell? (ad.add j) = some u) (h1 : ∀ u ∈ news, u.oneCell' = true)
  (h63 : xs.length + m ≤ maxLen) (hbytes : (xs.length + m) * bytes ≤ 140737488355328) (hbase : B ≤ w.heap.size)
  (h : ∀ v' w', Hid (Own w' B e v' (xs ++ news)) → Hid (w.grownBy w' v.ownBlock) → wpList P ops Q rest (a.put o.dst v') w') : wpList P ops Q (o :: rest) a w := by
 refine wpList_plain hgd fun _ hK => ?_
 obtain ⟨v', w', hr, h2, h3, _⟩ := run_append_Own (P := P) w B t o.type e i z bytes ht hi hz hsize hby hzs v xs hown ad m c news hl hnews h1 h63 hbytes hbase
 unfold Oper.wp execOp
 simp only [ho, resolve, invoke, builtin, Sem.run_bind, Sem.run_pure, Result.andThen_ok, List.map_toArray, List.map_cons, List.map_nil, hs, hx, hr]
 exact hK _ _ (h v' w' h2 h3)
end
def zcnt (n : Nat) : Nat := (239 - n % 128) % 128
theorem zcnt_lt (n : Nat) : zcnt n < 128 := Nat.mod_lt _ (by decide)
theorem zcnt_end (n : Nat) : (n + 1 + zcnt n) % 128 = 112 := by unfold zcnt; omega
theorem zcnt_not (n k : Nat) (h : k < zcnt n) : (n + 1 + k) % 128 ≠ 112 := by unfold zcnt at h; omega
def cntByte (n i : Nat) : UInt8 := if i = 15 then UInt8.ofNat (8 * (n % 32)) else UInt8.ofNat (n / 32 / 256 ^ (14 - i) % 256)
def cntRow (n j : Nat) : List UInt8 := (List.range 16).map fun i => if 16 - j ≤ i then cntByte n i else 0
theorem cntRow_length (n j : Nat) : (cntRow n j).length = 16 := by simp [cntRow]
theorem cntRow_set (n j : Nat) (h : j < 16) : (cntRow n j).set (15 - j) (cntByte n (15 - j)) = cntRow n (j + 1) := by
 apply List.ext_getElem?
 intro i
 unfold cntRow
 rw [List.getElem?_set]
 by_cases hi : 15 - j = i
 ·
  subst hi
  have : 15 - j < 16 := by omega
  simp [this]
  intro hh; omega
 ·
  rw [if_neg hi]
  by_cases h16 : i < 16
  ·
   simp [h16]
   split <;> split <;> first | rfl | omega
  · simp [h16]
def padZ (l : List UInt8) (k : Nat) : List UInt8 := l ++ 128 :: List.replicate k 0
def padBH (l : List UInt8) : List UInt8 := padZ l (zcnt l.length) ++ cntRow l.length 16
theorem padZ_length (l : List UInt8) (k : Nat) : (padZ l k).length = l.length + 1 + k := by simp [padZ]; omega
theorem padZ_succ (l : List UInt8) (k : Nat) : padZ l k ++ [0] = padZ l (k + 1) := by simp [padZ, List.replicate_succ']
def nAt (n j : Nat) : Nat := if j = 0 then n else n / 32 / 256 ^ (j - 1)
def slLen : Value → Nat
 | .slice _ n _ => n
 | _ => 0
theorem infoU8 : (Tryz.prog.info? 5).map (fun i => (i.zero, i.size, i.bytes)) = some (some (.int .u8 0), 1, 1) := by kernel_rfl
theorem conv_own (w : World) (s : ByteArray) (hs : s.size ≤ 140737488351744) : ∃ cap W1, (convert 9 89 (.string s)).run Tryz.prog w = .ok (.slice (some ⟨w.heap.size, 0, none⟩) s.size cap) W1 ∧
  Hid (Own W1 w.heap.size 5 (.slice (some ⟨w.heap.size, 0, none⟩) s.size cap) ((bytesOfH s).map cv)) ∧ Hid (Below w.heap.size w W1) := by
 refine ⟨_, _, run_bytes_of_string (P := Tryz.prog) w 9 89 5 s (by kernel_rfl) sizeSl39 (by kernel_rfl), ?_, (Below.refl _ _).drew.alloc (Nat.le_refl _) _⟩
 have hge := grownCap_ge w s.size 0 5
 have hsz : s.data.size = s.size := rfl
 refine .inr ⟨w.heap.size, _, _, _, by rw [List.length_map, bytesOf_lengthH], Nat.le_refl _, heap_alloc_new w.drew _, .inr (Nat.le_refl _), by rw [List.length_map, bytesOf_lengthH]; exact hge, grownCap_le_maxLen w s.size 0 _ (by unfold maxLen; omega), ?_, ?_⟩
 · simp only [bytesRow, Array.size_append, Array.size_map, Array.size_replicate]; omega
 ·
  rw [List.length_map, bytesOf_lengthH]
  simp only [bytesRow, Array.toList_append, Array.toList_map]
  rw [List.take_append_of_le_length (by simp)]
  exact List.take_of_length_le (by simp)
theorem cvs_at {w : World} {g : Nat} {t : TypeId} {l : List UInt8} {fr : Nat × Nat} (h : w.heap[g]? = some (.cells (l.map cv).toArray t fr)) (i : Nat) (hi : i < l.length) : w.cell? ⟨g, i, none⟩ = some (.int .u8 (C8 (l.getD i 0))) := by
 rw [cell_of_row w g i _ t fr h]; simp [hi]
theorem cnt_step {w : World} {q p' j n : Nat} {t : TypeId} (h : w.heap[q]? = some (.cells ((cntRow n j).map cv).toArray t (0, 0))) (hp : p' + 1 + j = 16) :
  (w.setCell ⟨q, p', none⟩ (cv (cntByte n p'))).heap[q]? = some (.cells ((cntRow n (j + 1)).map cv).toArray t (0, 0)) := by
 have e := row_store h p' (cv (cntByte n p'))
 have e2 := cntRow_set n j (by omega)
 rw [show 15 - j = p' by omega] at e2
 rw [← List.map_set, e2] at e
 exact e
def z16 : Array Value := ((cntRow 0 0).map cv).toArray
theorem make16 (w : World) : (Instr.makeSlice 89 (.int .i64 16) (.int .i64 16)).run Tryz.prog w = .ok (.slice (some ⟨w.heap.size, 0, none⟩) 16 16) (w.alloc (.cells z16 5)) := by kernel_rfl
section
set_option maxRecDepth 100000 in
set_option maxHeartbeats 4000000 in
theorem padded_any (s : ByteArray) (w : World) (hs : s.size ≤ 140737488351744) :
  Calls Tryz.prog 103 #[.string s] w fun e w' => ∃ g cap, e = .returned (.slice (some ⟨g, 0, none⟩) (padBH (bytesOfH s)).length cap) ∧ w.heap.size ≤ g ∧ (padBH (bytesOfH s)).length ≤ cap ∧ cap ≤ maxLen ∧ g < w'.heap.size ∧
   (∀ i, i < (padBH (bytesOfH s)).length → w'.cell? ⟨g, i, none⟩ = some (.int .u8 (C8 ((padBH (bytesOfH s)).getD i 0)))) ∧ Below w.heap.size w w' := by
 obtain ⟨cap0, W1, hcv, hO1, hB1⟩ := conv_own w s hs
 obtain ⟨i0, hi, hz0, hz1, hz2⟩ := info_parts infoU8
 have HI := hide hi
 have HZ0 := hide hz0
 have HZ1 := hide hz1
 have HZ2 := hide hz2
 clear hi hz0 hz1 hz2
 obtain ⟨Z, hZ⟩ : ∃ Z, Z = zcnt s.size := ⟨_, rfl⟩
 have hZl : Z < 128 := by rw [hZ]; exact zcnt_lt _
 have HZ : Hid (Z = zcnt s.size) := hZ
 clear hZ
 go_enter Tryz.func103, Tryz.ntmps103
 go_wp2_with (first | (at_builtin; refine wpList_append_Own _ (by rfl) (.tmp 10) (.tmp 11) 89 (by rfl) w.heap.size 5 i0 (.int .u8 0) 1 sizeSl39 HI.out HZ0.out HZ1.out HZ2.out rfl _ _ (by rfl) (hO1.out.alloc _) ⟨W1.heap.size, 0, none⟩ 1 1 [.int .u8 128] (by rfl) rfl (cell_one_new _ _ _) (by intro u hu; simp at hu; subst hu; rfl) (by simp [bytesOf_lengthH, maxLen]; omega) (by simp [bytesOf_lengthH]; omega) (by have := hB1.out.size; simp; omega) ?_; intro v1 W2 hO2 hG2))
 have hB2 : Hid (Below w.heap.size w W2) := (hB1.out.alloc hB1.out.size _).grown hG2.out (by have := hB1.out.size; simp; omega) (fun k hk => by simp [Value.ownBlock] at hk; omega)
 have hO2' : Hid (Own W2 w.heap.size 5 v1 ((padZ (bytesOfH s) 0).map cv)) := by
  have e := hO2.out
  have e2 : (bytesOfH s).map cv ++ [Value.int IntKind.u8 128] = (padZ (bytesOfH s) 0).map cv := by simp [padZ, C8]
  rw [e2] at e; exact e
 clear hO1 hB1 hG2 hO2 hcv
 go_loopw [3] (fun v wr => ∃ k n g cap : Nat, k ≤ Z ∧ Hid (n = s.size + 1 + k) ∧ v = .slice (some ⟨g, 0, none⟩) n cap ∧ n ≤ s.size + 129 ∧ Hid (w.heap.size ≤ g ∧ g < wr.heap.size ∧ n ≤ cap ∧ cap ≤ maxLen) ∧ Hid (Own wr w.heap.size 5 v ((padZ (bytesOfH s) k).map cv)) ∧ Hid (Below w.heap.size w wr)) (fun v _ => s.size + 1 + Z - slLen v)
 case atStart =>
  obtain ⟨g, cap, h1, h2, h3, h4, h5, _⟩ := hO2'.out.form (by rw [List.length_map, padZ_length]; omega)
  have e : ((padZ (bytesOfH s) 0).map cv).length = s.size + 1 + 0 := by rw [List.length_map, padZ_length, bytesOf_lengthH]
  rw [e] at h1 h4
  exact ⟨0, _, g, cap, Nat.zero_le _, rfl, h1, by omega, ⟨h2, h3, h4, h5⟩, hO2', hB2⟩
 case round =>
  clear hO2' hB2
  obtain ⟨k, n, g, cap, hk, HN, rfl, hn, HG, hO, hB⟩ := hrel
  have bn : (n : Int) ≤ 140737488351873 := by omega
  have hlen : ((padZ (bytesOfH s) k).map cv).length = n := by rw [List.length_map, padZ_length, bytesOf_lengthH, HN.out]
  by_cases hlt : k < Z
  ·
   have ht : ((n : Int) % 128 != 112) = true := by
    have := zcnt_not s.size k (by rw [← HZ.out]; exact hlt)
    rw [← HN.out] at this
    rw [bne_iff_ne]; omega
   have HL := hide hlen
   clear hlen
   go_wp2_with (first | (at_builtin; refine wpList_append_Own _ (by rfl) (.tmp 17) (.tmp 18) 89 (by rfl) w.heap.size 5 i0 (.int .u8 0) 1 sizeSl39 HI.out HZ0.out HZ1.out HZ2.out rfl _ _ (by rfl) (hO.out.alloc _) ⟨wr.heap.size, 0, none⟩ 1 1 [.int .u8 0] (by rfl) rfl (cell_one_new _ _ _) (by intro u hu; simp at hu; subst hu; rfl) (by rw [HL.out]; unfold maxLen; omega) (by rw [HL.out]; omega) (by have := hB.out.size; simp; omega) ?_; intro v1 W2 hO2 hG2))
   have hB2 : Hid (Below w.heap.size w W2) := (hB.out.alloc hB.out.size _).grown hG2.out (by have := hB.out.size; simp; omega) (fun k hk => by simp [Value.ownBlock] at hk; have := HG.out.1; omega)
   have hO2' : Hid (Own W2 w.heap.size 5 v1 ((padZ (bytesOfH s) (k + 1)).map cv)) := by
    have e := hO2.out
    have e2 : (padZ (bytesOfH s) k).map cv ++ [Value.int IntKind.u8 0] = (padZ (bytesOfH s) (k + 1)).map cv := by rw [← padZ_succ, List.map_append]; rfl
    rw [e2] at e; exact e
   obtain ⟨g', cap', h1, h2, h3, h4, h5, _⟩ := hO2'.out.form (by rw [List.length_map, padZ_length]; omega)
   have e : ((padZ (bytesOfH s) (k + 1)).map cv).length = s.size + 1 + (k + 1) := by rw [List.length_map, padZ_length, bytesOf_lengthH]
   rw [e] at h1 h4
   have HV := hide h1
   have HGG := hide (⟨h2, h3, h4, h5⟩ : w.heap.size ≤ g' ∧ g' < W2.heap.size ∧ s.size + 1 + (k + 1) ≤ cap' ∧ cap' ≤ maxLen)
   clear h1 h2 h3 h4 h5 e hO hB hO2 hG2
   go_wp2
   go_roundw
   case rel => exact ⟨k + 1, _, g', cap', by omega, rfl, HV.out, by omega, HGG, hO2', hB2⟩
   case measure => have := HN.out; rw [HV.out]; simp only [slLen]; omega
  ·
   have hkZ : k = Z := by omega
   have ht : ((n : Int) % 128 != 112) = false := by
    have := zcnt_end s.size
    rw [← HZ.out, ← hkZ, ← HN.out] at this
    rw [bne_eq_false_iff_eq]; omega
   have hmk := make16
   have hO' : Hid (Own wr w.heap.size 5 (.slice (some ⟨g, 0, none⟩) n cap) ((padZ (bytesOfH s) Z).map cv)) := by rw [← hkZ]; exact hO
   have HNZ : Hid (n = s.size + 1 + Z) := by rw [← hkZ]; exact HN
   clear hlt hkZ hO hlen hk HN
   go_wp2_with fail
   clear ht hmk
   obtain ⟨q, hq⟩ : ∃ q, q = wr.heap.size := ⟨_, rfl⟩
   rw [← hq]
   have HQ : Hid (w.heap.size ≤ q ∧ g < q) := by rw [hq]; exact ⟨hB.out.size, HG.out.2.1⟩
   go_loopw [4, 6] (fun nv i wr => ∃ (j p N : Nat) (ivH : Int), i = .int .i64 ivH ∧ nv = .int .i64 N ∧ N ≤ 140737488351744 ∧ Hid (ivH = (p : Int) - 1) ∧ Hid (p + j = 16) ∧ Hid (N = nAt s.size j) ∧ Hid (wr.heap[q]? = some (.cells ((cntRow s.size j).map cv).toArray 5 (0, 0))) ∧
     Hid (Own wr w.heap.size 5 (.slice (some ⟨g, 0, none⟩) n cap) ((padZ (bytesOfH s) Z).map cv)) ∧ Hid (Below w.heap.size w wr)) (fun _ i _ => (intOf i + 1).toNat)
   case atStart => exact ⟨0, 16, s.size, 15, rfl, rfl, hs, rfl, rfl, rfl, by rw [hq]; exact heap_alloc_new wr _, hO'.out.alloc _, hB.out.alloc hB.out.size _⟩
   case round =>
    clear hO' hB hq
    obtain ⟨j, p, N, ivH, rfl, rfl, hNb, HIV, HPJ, HNA, hr, hO, hB⟩ := hrel
    by_cases hp : 0 < p
    ·
     obtain ⟨p', rfl⟩ : ∃ p', p = p' + 1 := ⟨p - 1, by omega⟩
     obtain rfl : ivH = (p' : Int) := by rw [HIV.out]; omega
     have hpj := HPJ.out
     have bp : (p' : Int) < 16 := by omega
     have hcell := cvs_at hr.out p' (by rw [cntRow_length]; omega)
     have hfz := frozen_of_row wr q p' _ _ hr.out
     generalize C8 ((cntRow s.size j).getD p' 0) = old at hcell
     by_cases h15 : p' = 15
     ·
      have hq15 : ((p' : Int) == 15) = true := by rw [h15]; rfl
      have H15 := hide h15
      clear hpj h15
      have HE : Hid (8 * ((N : Int) % 32) = C8 (cntByte s.size p')) := by
       have hj : j = 0 := by have := HPJ.out; have := H15.out; omega
       show _ = _
       rw [HNA.out, hj, H15.out, nAt, if_pos rfl, cntByte, if_pos rfl]
       unfold C8; rw [UInt8.toNat_ofNat']; omega
      go_wp2
      go_roundw
      case rel =>
       have hj : j = 0 := by have := HPJ.out; have := H15.out; omega
       refine ⟨j + 1, p', N / 32, (p' : Int) - 1, rfl, by go_num, by omega, rfl, by show p' + (j + 1) = 16; have := HPJ.out; omega, ?_, ?_, ?_, hB.out.setCell (by exact HQ.out.1) _⟩
       · show N / 32 = nAt s.size (j + 1); rw [HNA.out, hj]; simp [nAt]
       · rw [HE.out]; exact cnt_step hr.out HPJ.out
       · exact hO.out.kept fun k hk => by simp [Value.ownBlock] at hk; subst hk; exact Below.heap_setCell _ _ _ _ (by have := HQ.out.2; show _ ≠ q; omega)
      case measure => simp [intOf]
     ·
      have hq15 : ((p' : Int) == 15) = false := by rw [beq_eq_false_iff_ne]; omega
      have H15 := hide h15
      clear hpj h15
      have HE : Hid ((N : Int) % 256 = C8 (cntByte s.size p')) := by
       have hj : 1 ≤ j := by have := HPJ.out; have := H15.out; omega
       have e1 : j - 1 = 14 - p' := by have := HPJ.out; omega
       show _ = _
       rw [HNA.out, nAt, if_neg (by omega), cntByte, if_neg H15.out, e1]
       unfold C8; rw [UInt8.toNat_ofNat']; omega
      go_wp2
      go_roundw
      case rel =>
       have hj : 1 ≤ j := by have := HPJ.out; have := H15.out; omega
       refine ⟨j + 1, p', N / 256, (p' : Int) - 1, rfl, by go_num, by omega, rfl, by show p' + (j + 1) = 16; have := HPJ.out; omega, ?_, ?_, ?_, hB.out.setCell (by exact HQ.out.1) _⟩
       ·
        show N / 256 = nAt s.size (j + 1)
        obtain ⟨j', rfl⟩ : ∃ j', j = j' + 1 := ⟨j - 1, by omega⟩
        rw [HNA.out]; simp only [nAt, Nat.add_sub_cancel]; rw [if_neg (by omega), if_neg (by omega), Nat.pow_succ, Nat.div_div_eq_div_mul _ (256 ^ j')]
       · rw [HE.out]; exact cnt_step hr.out HPJ.out
       · exact hO.out.kept fun k hk => by simp [Value.ownBlock] at hk; subst hk; exact Below.heap_setCell _ _ _ _ (by have := HQ.out.2; show _ ≠ q; omega)
      case measure => simp [intOf]
    ·
     have hp0 : p = 0 := by omega
     have hj : j = 16 := by have := HPJ.out; omega
     have hiv : ivH < 0 := by rw [HIV.out]; omega
     have hr' : Hid (wr.heap[q]? = some (.cells ((cntRow s.size 16).map cv).toArray 5 (0, 0))) := by rw [← hj]; exact hr
     have HL : Hid (((padZ (bytesOfH s) Z).map cv).length = n) := by show _ = _; rw [List.length_map, padZ_length, bytesOf_lengthH, HNZ.out]
     clear hr hp hp0 hj
     go_wp2_with (first | (at_builtin; refine wpList_append_Own _ (by rfl) (.tmp 44) (.tmp 45) 89 (by rfl) w.heap.size 5 i0 (.int .u8 0) 1 sizeSl39 HI.out HZ0.out HZ1.out HZ2.out rfl _ _ (by rfl) hO.out ⟨q, 0, none⟩ 16 16 ((cntRow s.size 16).map cv) (by rfl) (by rw [List.length_map, cntRow_length]) (by have e := World.news_of_block hr'.out; simpa using e) (by intro u hu; obtain ⟨x, _, rfl⟩ := List.mem_map.1 hu; rfl) (by rw [HL.out]; unfold maxLen; omega) (by rw [HL.out]; omega) hB.out.size ?_; intro v1 W2 hO2 hG2))
     have hB2 : Hid (Below w.heap.size w W2) := hB.out.grown hG2.out hB.out.size (fun k hk => by simp [Value.ownBlock] at hk; have := HG.out.1; omega)
     have hO2' : Own W2 w.heap.size 5 v1 ((padBH (bytesOfH s)).map cv) := by
      have e := hO2.out
      rw [← List.map_append] at e
      unfold padBH; rw [bytesOf_lengthH, ← HZ.out]; exact e
     have hpl : ((padBH (bytesOfH s)).map cv).length = (padBH (bytesOfH s)).length := List.length_map ..
     obtain ⟨g', cap', h1, h2, h3, h4, h5, h6⟩ := hO2'.form (by rw [hpl]; unfold padBH; rw [List.length_append, padZ_length]; omega)
     rw [hpl] at h1 h4 h6
     subst h1
     have H2 := hide h2
     have H3 := hide h3
     have H4 := hide h4
     have H5 := hide h5
     have H6 := hide h6
     clear h2 h3 h4 h5 h6 hO2' hpl hO2 hG2
     generalize hLN : (padBH (bytesOfH s)).length = LN at *
     go_wp2_with fail
     go_ret
     refine ⟨g', cap', rfl, H2.out, H4.out, H5.out, H3.out, fun i hi => ?_, hB2.out⟩
     rw [H6.out i hi]
     have : i < (padBH (bytesOfH s)).length := by rw [hLN]; exact hi
     simp [this]
end
section
variable {P : Program} (w : World)
end
theorem dB_getR (B : Int) (hB : 0 < B) (K k : Nat) (n : Int) (h : k < K) : (dB B K n).getD k 0 = n / B ^ k % B := by
 induction k generalizing K n with
 | zero => cases K with
  | zero => omega
  | succ K => simp [dB]
 | succ k ih => cases K with
  | zero => omega
  | succ K =>
   have := ih K (n / B) (by omega)
   simp only [dB, List.getD_cons_succ, this]
   rw [Int.pow_succ, Int.mul_comm, Int.ediv_ediv_of_nonneg (by omega)]
end Go.Proofs.YtccgfabojbjmjaaGreatDoor
