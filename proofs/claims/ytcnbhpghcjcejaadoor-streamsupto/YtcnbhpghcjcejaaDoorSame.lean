import Derived.Test.YtcnbhpghcjcejaaDoorRefMath
import Derived.Test.YtcnbhpghcjcejaaDoorSum
import Derived.Test.YtcnbhpghcjcejaaDoorTop
/- The program's hash is the document's: pieces against the whole padded text. Plain mathematics. -/
namespace Go.Proofs.YtcnbhpghcjcejaaDoor
open Go.RowKit

theorem take_splice1 (L : List UInt8) (f : Nat) (c : UInt8) (h : f < L.length) : (splice L f [c]).take (f + 1) = L.take f ++ [c] := by
  unfold splice
  rw [← List.append_assoc, List.take_append_of_le_length (by simp; omega)]
  exact List.take_of_length_le (by simp; omega)
theorem st_mixS (H : HS) : H.mix.st = mixS H.st H.blk := by cases H; rfl

/-- What a hasher is behind the first k bytes of l. -/
structure Inv (l : List UInt8) (k : Nat) (H : HS) : Prop where
  len : H.blk.length = 128
  n : H.n = k
  st : H.st = mixTo l iv (k / 128)
  blk : H.blk.take (k % 128) = (l.drop (128 * (k / 128))).take (k % 128)

theorem inv_step (l : List UInt8) (k : Nat) (H : HS) (hk : k < l.length) (h : Inv l k H) : Inv l (k + 1) (H.put (l[k])) := by
  have hf : H.filled = k % 128 := by show H.n % 128 = _; rw [h.n]
  have hfl := H.filled_lt
  have hD : (l.drop (128 * (k / 128))).take (k % 128 + 1) = (l.drop (128 * (k / 128))).take (k % 128) ++ [l[k]] := by
    have hlt : k % 128 < (l.drop (128 * (k / 128))).length := by rw [List.length_drop]; omega
    rw [List.take_succ_eq_append_getElem hlt, List.getElem_drop]
    congr 2
    congr 1; omega
  have hB : (splice H.blk H.filled [l[k]]).take (k % 128 + 1) = (l.drop (128 * (k / 128))).take (k % 128 + 1) := by
    rw [hD, ← h.blk, ← hf, take_splice1 _ _ _ (by rw [h.len]; exact hfl)]
  have hL : (splice H.blk H.filled [l[k]]).length = 128 := (length_splice _ _ _ (by rw [h.len]; simp; omega)).trans h.len
  unfold HS.put HS.chunk HS.done
  by_cases h0 : (k + 1) % 128 = 0
  · have hc : ({ H with blk := splice H.blk H.filled [l[k]], n := H.n + [l[k]].length } : HS).filled = 0 := by show (H.n + 1) % 128 = 0; rw [h.n]; exact h0
    rw [if_pos hc]
    have hq : (k + 1) / 128 = k / 128 + 1 := by omega
    have h127 : k % 128 + 1 = 128 := by omega
    have hblk : splice H.blk H.filled [l[k]] = chunk l (k / 128) := by
      have e := hB
      rw [h127] at e
      rw [List.take_of_length_le (by rw [hL]; exact Nat.le_refl _)] at e
      exact e
    refine ⟨?_, ?_, ?_, ?_⟩
    · rw [blk_mix]; exact hL
    · show H.n + 1 = k + 1; rw [h.n]
    · rw [st_mixS, hq]
      show mixS H.st (splice H.blk H.filled [l[k]]) = mixS (mixTo l iv (k / 128)) (chunk l (k / 128))
      rw [h.st, hblk]
    · rw [h0]; simp
  · have hc : ¬ ({ H with blk := splice H.blk H.filled [l[k]], n := H.n + [l[k]].length } : HS).filled = 0 := by show ¬ (H.n + 1) % 128 = 0; rw [h.n]; exact h0
    rw [if_neg hc]
    have hq : (k + 1) / 128 = k / 128 := by omega
    have hr : (k + 1) % 128 = k % 128 + 1 := by omega
    refine ⟨hL, ?_, ?_, ?_⟩
    · show H.n + 1 = k + 1; rw [h.n]
    · rw [hq]; exact h.st
    · rw [hq, hr]; exact hB
theorem inv_take (l : List UInt8) : ∀ k, k ≤ l.length → Inv l k (H0.puts (l.take k))
  | 0, _ => ⟨H0_len, rfl, rfl, by simp⟩
  | k + 1, hk => by
    have h := inv_step l k _ (by omega) (inv_take l k (by omega))
    rw [List.take_succ_eq_append_getElem (by omega), HS.puts_append]
    exact h
theorem inv_all (l : List UInt8) : Inv l l.length (H0.puts l) := by
  have h := inv_take l l.length (Nat.le_refl _)
  rw [List.take_of_length_le (Nat.le_refl _)] at h
  exact h

theorem mixTo_congr (p l : List UInt8) (s : S8) (q : Nat) (h : ∀ i, i < q → chunk p i = chunk l i) : mixTo p s q = mixTo l s q := by
  induction q with
  | zero => rfl
  | succ q ih =>
    show mixS (mixTo p s q) (chunk p q) = mixS (mixTo l s q) (chunk l q)
    rw [ih (fun i hi => h i (by omega)), h q (by omega)]
theorem chunk_append (l r : List UInt8) (i : Nat) (h : 128 * i + 128 ≤ l.length) : chunk (l ++ r) i = chunk l i := by
  unfold chunk
  rw [List.drop_append_of_le_length (by omega), List.take_append_of_le_length (by rw [List.length_drop]; omega)]

theorem byteOf_eq (x : BitVec 64) (k m : Nat) (h : x.toNat / 2 ^ (56 - 8 * k) % 256 = m % 256) : byteOf x k = UInt8.ofNat m := by
  unfold byteOf
  apply UInt8.toNat.inj
  rw [UInt8.toNat_ofNat', UInt8.toNat_ofNat', BitVec.toNat_ushiftRight, Nat.shiftRight_eq_div_pow]
  exact h
theorem cnt_be8 (H : HS) (n : Nat) (hn : H.n = n) (hb : n < 2305843009213693952) : cntRow n 16 = be8 H.hi3 ++ be8 H.lo3 := by
  have hlo : H.lo.toNat = n := by unfold HS.lo; rw [hn, BitVec.toNat_ofNat]; exact Nat.mod_eq_of_lt (by omega)
  have hhi : H.hi = 0#64 := by
    unfold HS.hi; rw [hn]
    have : n / 18446744073709551616 = 0 := by omega
    rw [this]
  have h3 : H.hi3 = 0#64 := by
    unfold HS.hi3; rw [hhi]
    apply BitVec.eq_of_toNat_eq
    rw [BitVec.toNat_or, BitVec.toNat_ushiftRight, hlo, Nat.shiftRight_eq_div_pow]
    have : n / 2 ^ 61 = 0 := by omega
    rw [this]; simp
  have hl3 : H.lo3.toNat = 8 * n := by
    unfold HS.lo3; rw [BitVec.toNat_shiftLeft, hlo, Nat.shiftLeft_eq]; omega
  have e0 : ∀ k, byteOf 0#64 k = 0 := fun k => by
    rw [byteOf_eq 0#64 k 0 (by simp)]; rfl
  have c0 : ∀ i, i < 8 → cntByte n i = 0 := fun i hi => by
    unfold cntByte; rw [if_neg (by omega)]
    have : n / 32 / 256 ^ (14 - i) = 0 := by
      rw [Nat.div_eq_zero_iff]; right
      have : 256 ^ 7 ≤ 256 ^ (14 - i) := Nat.pow_le_pow_right (by omega) (by omega)
      omega
    rw [this]; rfl
  have c1 : ∀ k, k < 7 → cntByte n (8 + k) = byteOf H.lo3 k := fun k hk => by
    unfold cntByte; rw [if_neg (by omega)]
    refine (byteOf_eq _ _ _ ?_).symm
    rw [hl3]
    have e : 56 - 8 * k = 8 + 8 * (14 - (8 + k)) := by omega
    rw [e, Nat.pow_add, Nat.pow_mul, ← Nat.div_div_eq_div_mul]
    have e2 : 8 * n / 2 ^ 8 = n / 32 := by omega
    rw [e2, Nat.mod_mod]
  have c2 : cntByte n 15 = byteOf H.lo3 7 := by
    unfold cntByte; rw [if_pos rfl]
    refine (byteOf_eq _ _ _ ?_).symm
    rw [hl3]; omega
  have hr : cntRow n 16 = [cntByte n 0, cntByte n 1, cntByte n 2, cntByte n 3, cntByte n 4, cntByte n 5, cntByte n 6, cntByte n 7, cntByte n 8, cntByte n 9, cntByte n 10, cntByte n 11, cntByte n 12, cntByte n 13, cntByte n 14, cntByte n 15] := rfl
  rw [hr, h3]
  unfold be8
  rw [e0, e0, e0, e0, e0, e0, e0, e0, c0 0 (by omega), c0 1 (by omega), c0 2 (by omega), c0 3 (by omega), c0 4 (by omega), c0 5 (by omega), c0 6 (by omega), c0 7 (by omega),
    ← c1 0 (by omega), ← c1 1 (by omega), ← c1 2 (by omega), ← c1 3 (by omega), ← c1 4 (by omega), ← c1 5 (by omega), ← c1 6 (by omega), ← c2]
  rfl

theorem lay2 (M : List UInt8) (x y : BitVec 64) (h : M.length = 128) : layB (layB M 112 x 8) 120 y 8 = M.take 112 ++ (be8 x ++ be8 y) := by
  rw [layB_all (layB M 112 x 8) 120 y (by rw [layB_length]; omega), layB_all M 112 x (by omega)]
  have h1 : (M.take 112).length = 112 := by simp; omega
  have e1 : (M.take 112 ++ (be8 x ++ M.drop (112 + 8))).take 120 = M.take 112 ++ be8 x := by
    rw [← List.append_assoc, List.take_append_of_le_length (by simp [h1, be8_length])]
    exact List.take_of_length_le (by simp [h1, be8_length])
  have e2 : (M.take 112 ++ (be8 x ++ M.drop (112 + 8))).drop (120 + 8) = [] := List.drop_eq_nil_of_le (by simp [be8_length]; omega)
  rw [e1, e2]; simp

theorem mix_with (X : HS) (B : List UInt8) : (HS.mix { X with blk := B }).st = mixS X.st B := by cases X; rfl
theorem ended_st (H : HS) : H.ended.st = mixS H.roomed.st (layB (layB H.roomed.blk 112 H.hi3 8) 120 H.lo3 8) := mix_with _ _
theorem mixTo_mixS (p : List UInt8) (s : S8) (k : Nat) : mixTo p s (k + 1) = mixS (mixTo p s k) (chunk p k) := rfl
theorem marked_st (H : HS) : H.marked.st = H.st := by cases H; rfl
/-- THE TWO HASHES ARE ONE. -/
theorem same_hash (l : List UInt8) (NB : Nat) (hN : (padB l).length = 128 * NB) (hb : l.length < 2305843009213693952) : (mixTo (padB l) iv NB).words.flatMap be8 = hashOf l := by
  have I := inv_all l
  obtain ⟨H, hH⟩ : ∃ H, H = H0.puts l := ⟨_, rfl⟩
  rw [← hH] at I
  unfold hashOf HS.sum
  rw [← hH]
  clear hH
  congr 2
  obtain ⟨q, hq⟩ : ∃ q, q = l.length / 128 := ⟨_, rfl⟩
  obtain ⟨f, hf⟩ : ∃ f, f = l.length % 128 := ⟨_, rfl⟩
  have hfil : H.filled = f := by show H.n % 128 = f; rw [I.n, hf]
  have hD : H.blk.take f = l.drop (128 * q) := by
    rw [hf, hq, I.blk]; exact List.take_of_length_le (by rw [List.length_drop]; omega)
  have hDl : (l.drop (128 * q)).length = f := by rw [List.length_drop]; omega
  have hst : H.st = mixTo (padB l) iv q := by
    rw [I.st, ← hq]
    refine (mixTo_congr _ _ _ _ fun i hi => ?_).symm
    unfold padB padZ
    rw [List.append_assoc]
    exact chunk_append _ _ _ (by omega)
  have hcnt := cnt_be8 H l.length I.n hb
  have hPd : (padB l).drop (128 * q) = l.drop (128 * q) ++ (128 :: List.replicate (zcnt l.length) 0 ++ cntRow l.length 16) := by
    unfold padB padZ
    rw [List.append_assoc, List.drop_append_of_le_length (by omega)]
  have hPl : (padB l).length = l.length + 1 + zcnt l.length + 16 := by unfold padB; rw [List.length_append, padZ_length, cntRow_length]
  have hM : H.marked.blk = l.drop (128 * q) ++ (128 :: List.replicate (127 - f) 0) := by
    unfold HS.marked; rw [hfil, hD]
  rw [ended_st]
  by_cases h112 : f < 112
  · have hz : zcnt l.length = 111 - f := by unfold zcnt; omega
    have hNB : NB = q + 1 := by omega
    have hroom : H.roomed = H.marked := by unfold HS.roomed; rw [if_neg (by rw [hfil]; omega)]
    rw [hroom, hNB, mixTo_mixS, marked_st, hst, lay2 _ _ _ (H.marked_length I.len), hM]
    refine congrArg (mixS _) ?_
    unfold chunk
    rw [hPd, hz, ← hcnt, List.take_of_length_le (by simp [cntRow_length]; omega), List.take_append, List.take_of_length_le (by omega), hDl]
    have e : (128 :: List.replicate (127 - f) (0 : UInt8)).take (112 - f) = 128 :: List.replicate (111 - f) 0 := by
      rw [show 112 - f = (111 - f) + 1 by omega, List.take_succ_cons, List.take_replicate]
      congr 2; omega
    rw [e]; simp
  · have hz : zcnt l.length = 239 - f := by unfold zcnt; omega
    have hNB : NB = q + 1 + 1 := by omega
    have hroom : H.roomed = { H.marked.mix with blk := List.replicate 128 0 } := by unfold HS.roomed; rw [if_pos (by rw [hfil]; omega)]
    have hc1 : chunk (padB l) q = H.marked.blk := by
      unfold chunk
      rw [hPd, hz, hM, List.take_append, List.take_of_length_le (by omega), hDl]
      congr 1
      rw [List.take_append_of_le_length (by simp; omega), show 128 - f = (127 - f) + 1 by omega, List.take_succ_cons, List.take_replicate]
      congr 2; omega
    have hc2 : chunk (padB l) (q + 1) = List.replicate 112 0 ++ (be8 H.hi3 ++ be8 H.lo3) := by
      unfold chunk
      rw [show 128 * (q + 1) = 128 * q + 128 by omega, ← List.drop_drop, hPd, hz, ← hcnt]
      rw [List.drop_append, List.drop_eq_nil_of_le (by omega), hDl, List.nil_append, List.drop_append_of_le_length (by simp; omega)]
      rw [show 128 - f = (127 - f) + 1 by omega]
      rw [List.drop_succ_cons, List.drop_replicate, show 239 - f - (127 - f) = 112 by omega]
      exact List.take_of_length_le (by simp [cntRow_length])
    have hrs : H.roomed.st = mixS H.st H.marked.blk := by rw [hroom, ← marked_st H]; exact st_mixS _
    have hrb : H.roomed.blk = List.replicate 128 0 := by rw [hroom]
    rw [hrs, hrb, hNB, mixTo_mixS, mixTo_mixS, hc1, hc2, ← hst, lay2 _ _ _ (by simp)]
    refine congrArg (mixS _) ?_
    simp
end Go.Proofs.YtcnbhpghcjcejaaDoor
