import Derived.Test.YtcnbhpghcjcejaaDoorMix
import Derived.Laws.CopyOwn
/- Bytes put behind what a hasher has. Plain mathematics; copy out of a string. -/
namespace Go.Proofs.YtcnbhpghcjcejaaDoor
open Go.RowKit

noncomputable def HS.done (X : HS) : HS := if X.filled = 0 then X.mix else X
noncomputable def HS.chunk (H : HS) (l : List UInt8) : HS := HS.done { H with blk := splice H.blk H.filled l, n := H.n + l.length }
noncomputable def HS.put (H : HS) (c : UInt8) : HS := H.chunk [c]
noncomputable def HS.puts (H : HS) (l : List UInt8) : HS := l.foldl HS.put H
theorem HS.puts_append (H : HS) (l m : List UInt8) : H.puts (l ++ m) = (H.puts l).puts m := List.foldl_append ..
theorem HS.puts_cons (H : HS) (c : UInt8) (m : List UInt8) : H.puts (c :: m) = (H.put c).puts m := rfl
theorem HS.puts_nil (H : HS) : H.puts [] = H := rfl

theorem splice_step {α : Type} (L : List α) (f : Nat) (c : α) (m : List α) (h : f + 1 + m.length ≤ L.length) : splice (splice L f [c]) (f + 1) m = splice L f (c :: m) := by
  unfold splice
  have h1 : (L.take f).length = f := by simp; omega
  have e1 : (L.take f ++ ([c] ++ L.drop (f + [c].length))).take (f + 1) = L.take f ++ [c] := by
    rw [← List.append_assoc, List.take_append_of_le_length (by simp; omega)]
    exact List.take_of_length_le (by simp; omega)
  have e2 : (L.take f ++ ([c] ++ L.drop (f + [c].length))).drop (f + 1 + m.length) = L.drop (f + 1 + m.length) := by
    rw [← List.append_assoc, List.drop_append, List.drop_eq_nil_of_le (by simp; omega), List.nil_append, List.drop_drop]
    congr 1; simp only [List.length_append, h1, List.length_singleton]; omega
  rw [e1, e2]
  simp only [List.append_assoc, List.cons_append, List.nil_append, List.length_cons]
  rw [show f + 1 + m.length = f + (m.length + 1) by omega]

theorem HS.chunk_cons (H : HS) (c : UInt8) (m : List UInt8) (hm : m ≠ []) (hl : H.blk.length = 128) (h : H.filled + (m.length + 1) ≤ 128) : H.chunk (c :: m) = (H.put c).chunk m := by
  have hm0 : 0 < m.length := List.length_pos_iff.2 hm
  have hf := H.filled_lt
  have e : H.put c = { H with blk := splice H.blk H.filled [c], n := H.n + 1 } := by
    unfold HS.put HS.chunk HS.done
    rw [if_neg]; rfl
    show ¬ (H.n + [c].length) % 128 = 0
    have : H.n % 128 = H.filled := rfl
    simp; omega
  have e2 : ({ H with blk := splice H.blk H.filled [c], n := H.n + 1 } : HS).filled = H.filled + 1 := by
    show (H.n + 1) % 128 = H.n % 128 + 1
    have : H.n % 128 = H.filled := rfl
    omega
  rw [e]
  unfold HS.chunk
  rw [e2]
  congr 2
  · exact (splice_step H.blk H.filled c m (by omega)).symm
  · simp; omega

theorem HS.chunk_puts (l : List UInt8) : ∀ (H : HS), l ≠ [] → H.blk.length = 128 → H.filled + l.length ≤ 128 → H.chunk l = H.puts l := by
  induction l with
  | nil => intro H h; exact absurd rfl h
  | cons c m ih =>
    intro H _ hl h
    by_cases hm : m = []
    · subst hm; rfl
    · rw [H.chunk_cons c m hm hl (by simpa using h), H.puts_cons]
      have e : H.put c = { H with blk := splice H.blk H.filled [c], n := H.n + 1 } := by
        have hm0 : 0 < m.length := List.length_pos_iff.2 hm
        unfold HS.put HS.chunk HS.done
        rw [if_neg]; rfl
        show ¬ (H.n + [c].length) % 128 = 0
        have : H.n % 128 = H.filled := rfl
        simp at h ⊢; omega
      refine ih _ hm ?_ ?_
      · rw [e]; exact (length_splice _ _ _ (by have := H.filled_lt; simp; omega)).trans hl
      · rw [e]; show (H.n + 1) % 128 + _ ≤ _
        have hm0 : 0 < m.length := List.length_pos_iff.2 hm
        have : H.n % 128 = H.filled := rfl
        simp at h; omega

theorem HS.row_splice (H : HS) (off : Nat) (l : List UInt8) (h : off + l.length ≤ H.blk.length) :
    H.row.take (8 + off) ++ l.map cv ++ H.row.drop (8 + off + l.length) = ({ H with blk := splice H.blk off l } : HS).row := by
  have h8 : (H.st.words.map uv).length = 8 := rfl
  have e1 : H.row.take (8 + off) = H.st.words.map uv ++ (H.blk.take off).map cv := by
    unfold HS.row
    rw [List.take_append, List.take_of_length_le (by rw [h8]; omega), h8, Nat.add_sub_cancel_left, List.take_append_of_le_length (by simp; omega), List.map_take]
  have e2 : H.row.drop (8 + off + l.length) = (H.blk.drop (off + l.length)).map cv ++ [uv H.hi, uv H.lo] := by
    unfold HS.row
    rw [List.drop_append, List.drop_eq_nil_of_le (by rw [h8]; omega), h8, List.nil_append, List.drop_append, List.map_drop]
    have : 8 + off + l.length - 8 = off + l.length := by omega
    rw [this]
    have h0 : off + l.length - (List.map cv H.blk).length = 0 := by simp; omega
    rw [h0]; rfl
  rw [e1, e2]
  show _ = H.st.words.map uv ++ ((splice H.blk off l).map cv ++ [uv H.hi, uv H.lo])
  simp [splice]

/-- 'copy(dst, s)' of a string, dst in a row that is known. -/
theorem run_copy_str {P : Program} (w : World) (dT sT ty elem : TypeId) (g o dLen dCap : Nat) (s : ByteArray) (cur : List Value) (t : TypeId) (n : Nat)
    (hu : P.underlying dT = some (.slice elem)) (hs : (P.info? elem).map (·.size) = some 1) (hg : w.heap[g]? = some (.cells cur.toArray t (0, 0))) (hn : Nat.min s.size dLen = n) (hfit : o + n ≤ cur.length) :
    (Builtin.copy_ #[dT, sT] ty #[.slice (some ⟨g, o, none⟩) dLen dCap, .string s]).run P w =
      .ok (goInt n) (w.setRow g (cur.take o ++ (s.data.toList.take n).map cv ++ cur.drop (o + n)).toArray) := by
  have hsz : s.size = s.data.toList.length := rfl
  have hln : n ≤ s.data.toList.length := by rw [← hsz, ← hn]; exact Nat.min_le_left _ _
  have hlen : ((s.data.toList.take n).map cv).length = n := by rw [List.length_map, List.length_take]; exact Nat.min_eq_left hln
  have hst := run_storeCells_at P g o t ((s.data.toList.take n).map cv) 0 cur.toArray w hg (by rw [hlen]; simpa using hfit) (by
    intro v hv; obtain ⟨x, _, rfl⟩ := List.mem_map.1 hv; rfl)
  rw [hlen] at hst
  simp only [Nat.add_zero] at hst
  have htk : (Array.map (fun b : UInt8 => Value.int IntKind.u8 (b.toNat : Int)) (s.extract 0 n).data).toList = (s.data.toList.take n).map cv := by
    simp only [Array.toList_map, ByteArray.data_extract, Array.toList_extract, List.extract_eq_take_drop, List.drop_zero, Nat.sub_zero]; rfl
  cases hq : P.info? elem with
  | none => simp [hq] at hs
  | some i =>
    simp only [Builtin.copy_, Sem.run_bind, run_underlying hu, Result.andThen_ok, Builtin.lenOf, Builtin.firstCells, Sem.run_pure, hn, List.getElem?_toArray, List.getElem?_cons_zero, List.getElem?_cons_succ]
    rw [htk]
    simp [sizeOf, typeInfo, hq, hst, -List.map_take]
end Go.Proofs.YtcnbhpghcjcejaaDoor
