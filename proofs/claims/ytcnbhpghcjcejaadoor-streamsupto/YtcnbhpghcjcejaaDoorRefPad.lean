import Derived.Test.YtcnbhpghcjcejaaDoorRefLeaf
import Derived.Test.YtcnbhpghcjcejaaDoorRefOwn
import Derived.Test.YtcnbhpghcjcejaaDoorWrite
import Derived.Deep.AppendLies
/- The document's answer: padded. -/
namespace Go.Proofs.YtcnbhpghcjcejaaDoor
open Go.RowKit

/-- How many noughts. -/
def zcnt (n : Nat) : Nat := (239 - n % 128) % 128
theorem zcnt_lt (n : Nat) : zcnt n < 128 := Nat.mod_lt _ (by decide)
theorem zcnt_end (n : Nat) : (n + 1 + zcnt n) % 128 = 112 := by unfold zcnt; omega
theorem zcnt_not (n k : Nat) (h : k < zcnt n) : (n + 1 + k) % 128 ≠ 112 := by unfold zcnt at h; omega
/-- Byte i of the count of bits. -/
def cntByte (n i : Nat) : UInt8 := if i = 15 then UInt8.ofNat (8 * (n % 32)) else UInt8.ofNat (n / 32 / 256 ^ (14 - i) % 256)
def cntRow (n j : Nat) : List UInt8 := (List.range 16).map fun i => if 16 - j ≤ i then cntByte n i else 0
theorem cntRow_length (n j : Nat) : (cntRow n j).length = 16 := by simp [cntRow]
theorem cntRow_set (n j : Nat) (h : j < 16) : (cntRow n j).set (15 - j) (cntByte n (15 - j)) = cntRow n (j + 1) := by
  apply List.ext_getElem?
  intro i
  unfold cntRow
  rw [List.getElem?_set]
  by_cases hi : 15 - j = i
  · subst hi
    have : 15 - j < 16 := by omega
    simp [this]
    intro hh; omega
  · rw [if_neg hi]
    by_cases h16 : i < 16
    · simp [h16]
      split <;> split <;> first | rfl | omega
    · simp [h16]
def padZ (l : List UInt8) (k : Nat) : List UInt8 := l ++ 128 :: List.replicate k 0
def padB (l : List UInt8) : List UInt8 := padZ l (zcnt l.length) ++ cntRow l.length 16
theorem padZ_length (l : List UInt8) (k : Nat) : (padZ l k).length = l.length + 1 + k := by simp [padZ]; omega
theorem padZ_succ (l : List UInt8) (k : Nat) : padZ l k ++ [0] = padZ l (k + 1) := by simp [padZ, List.replicate_succ']
/-- What is left of n ahead of round j. -/
def nAt (n j : Nat) : Nat := if j = 0 then n else n / 32 / 256 ^ (j - 1)
def slLen : Value → Nat
  | .slice _ n _ => n
  | _ => 0
theorem infoU8 : (Tryd.prog.info? 5).map (fun i => (i.zero, i.size, i.bytes)) = some (some (.int .u8 0), 1, 1) := by kernel_rfl

theorem conv_own (w : World) (s : ByteArray) (hs : s.size ≤ 140737488351232) : ∃ cap W1, (convert 9 39 (.string s)).run Tryd.prog w = .ok (.slice (some ⟨w.heap.size, 0, none⟩) s.size cap) W1 ∧
    Hid (Own W1 w.heap.size 5 (.slice (some ⟨w.heap.size, 0, none⟩) s.size cap) ((bytesOf s).map cv)) ∧ Hid (Below w.heap.size w W1) := by
  refine ⟨_, _, run_bytes_of_string (P := Tryd.prog) w 9 39 5 s (by kernel_rfl) sizeSl39 (by kernel_rfl), ?_, (Below.refl _ _).drew.alloc (Nat.le_refl _) _⟩
  have hge := grownCap_ge w s.size 0 5
  have hsz : s.data.size = s.size := rfl
  refine .inr ⟨w.heap.size, _, _, _, by rw [List.length_map, bytesOf_length], Nat.le_refl _, heap_alloc_new w.drew _, .inr (Nat.le_refl _), by rw [List.length_map, bytesOf_length]; exact hge, grownCap_le_maxLen w s.size 0 _ (by unfold maxLen; omega), ?_, ?_⟩
  · simp only [bytesRow, Array.size_append, Array.size_map, Array.size_replicate]; omega
  · rw [List.length_map, bytesOf_length]
    simp only [bytesRow, Array.toList_append, Array.toList_map]
    rw [List.take_append_of_le_length (by simp)]
    exact List.take_of_length_le (by simp)

theorem cvs_at {w : World} {g : Nat} {t : TypeId} {l : List UInt8} {fr : Nat × Nat} (h : w.heap[g]? = some (.cells (l.map cv).toArray t fr)) (i : Nat) (hi : i < l.length) : w.cell? ⟨g, i, none⟩ = some (.int .u8 (C8 (l.getD i 0))) := by
  rw [cell_of_row w g i _ t fr h]; simp [hi]
theorem cnt_step {w : World} {q p' j n : Nat} {t : TypeId} (h : w.heap[q]? = some (.cells ((cntRow n j).map cv).toArray t (0, 0))) (hp : p' + 1 + j = 16) :
    (w.setCell ⟨q, p', none⟩ (cv (cntByte n p'))).heap[q]? = some (.cells ((cntRow n (j + 1)).map cv).toArray t (0, 0)) := by
  have e := row_store h p' (cv (cntByte n p'))
  have e2 := cntRow_set n j (by omega)
  rw [show 15 - j = p' by omega] at e2
  rw [← List.map_set, e2] at e
  exact e
def z16 : Array Value := ((cntRow 0 0).map cv).toArray
theorem make16 (w : World) : (Instr.makeSlice 39 (.int .i64 16) (.int .i64 16)).run Tryd.prog w = .ok (.slice (some ⟨w.heap.size, 0, none⟩) 16 16) (w.alloc (.cells z16 5)) := by kernel_rfl
section
set_option maxRecDepth 100000 in
set_option maxHeartbeats 4000000 in
theorem padded_any (s : ByteArray) (w : World) (hs : s.size ≤ 140737488351232) :
    Calls Tryd.prog 14 #[.string s] w fun e w' => ∃ g cap, e = .returned (.slice (some ⟨g, 0, none⟩) (padB (bytesOf s)).length cap) ∧ w.heap.size ≤ g ∧ (padB (bytesOf s)).length ≤ cap ∧ cap ≤ maxLen ∧ g < w'.heap.size ∧
      (∀ i, i < (padB (bytesOf s)).length → w'.cell? ⟨g, i, none⟩ = some (.int .u8 (C8 ((padB (bytesOf s)).getD i 0)))) ∧ Below w.heap.size w w' := by
  obtain ⟨cap0, W1, hcv, hO1, hB1⟩ := conv_own w s hs
  obtain ⟨i0, hi, hz0, hz1, hz2⟩ := info_parts infoU8
  have HI := hide hi
  have HZ0 := hide hz0
  have HZ1 := hide hz1
  have HZ2 := hide hz2
  clear hi hz0 hz1 hz2
  obtain ⟨Z, hZ⟩ : ∃ Z, Z = zcnt s.size := ⟨_, rfl⟩
  have hZl : Z < 128 := by rw [hZ]; exact zcnt_lt _
  have HZ : Hid (Z = zcnt s.size) := hZ
  clear hZ
  go_enter Tryd.func14, Tryd.ntmps14
  go_wp2_with (first | (at_builtin; refine wpList_append_Own _ (by rfl) (.tmp 10) (.tmp 11) 39 (by rfl) w.heap.size 5 i0 (.int .u8 0) 1 sizeSl39 HI.out HZ0.out HZ1.out HZ2.out rfl _ _ (by rfl) (hO1.out.alloc _) ⟨W1.heap.size, 0, none⟩ 1 1 [.int .u8 128] (by rfl) rfl (cell_one_new _ _ _) (by intro u hu; simp at hu; subst hu; rfl) (by simp [bytesOf_length, maxLen]; omega) (by simp [bytesOf_length]; omega) (by have := hB1.out.size; simp; omega) ?_; intro v1 W2 hO2 hG2))
  have hB2 : Hid (Below w.heap.size w W2) := (hB1.out.alloc hB1.out.size _).grown hG2.out (by have := hB1.out.size; simp; omega) (fun k hk => by simp [Value.ownBlock] at hk; omega)
  have hO2' : Hid (Own W2 w.heap.size 5 v1 ((padZ (bytesOf s) 0).map cv)) := by
    have e := hO2.out
    have e2 : (bytesOf s).map cv ++ [Value.int IntKind.u8 128] = (padZ (bytesOf s) 0).map cv := by simp [padZ, C8]
    rw [e2] at e; exact e
  clear hO1 hB1 hG2 hO2 hcv
  go_loopw [3] (fun v wr => ∃ k n g cap : Nat, k ≤ Z ∧ Hid (n = s.size + 1 + k) ∧ v = .slice (some ⟨g, 0, none⟩) n cap ∧ n ≤ s.size + 129 ∧ Hid (w.heap.size ≤ g ∧ g < wr.heap.size ∧ n ≤ cap ∧ cap ≤ maxLen) ∧ Hid (Own wr w.heap.size 5 v ((padZ (bytesOf s) k).map cv)) ∧ Hid (Below w.heap.size w wr)) (fun v _ => s.size + 1 + Z - slLen v)
  case atStart =>
    obtain ⟨g, cap, h1, h2, h3, h4, h5, _⟩ := hO2'.out.form (by rw [List.length_map, padZ_length]; omega)
    have e : ((padZ (bytesOf s) 0).map cv).length = s.size + 1 + 0 := by rw [List.length_map, padZ_length, bytesOf_length]
    rw [e] at h1 h4
    exact ⟨0, _, g, cap, Nat.zero_le _, rfl, h1, by omega, ⟨h2, h3, h4, h5⟩, hO2', hB2⟩
  case round =>
    clear hO2' hB2
    obtain ⟨k, n, g, cap, hk, HN, rfl, hn, HG, hO, hB⟩ := hrel
    have bn : (n : Int) ≤ 140737488351361 := by omega
    have hlen : ((padZ (bytesOf s) k).map cv).length = n := by rw [List.length_map, padZ_length, bytesOf_length, HN.out]
    by_cases hlt : k < Z
    · have ht : ((n : Int) % 128 != 112) = true := by
        have := zcnt_not s.size k (by rw [← HZ.out]; exact hlt)
        rw [← HN.out] at this
        rw [bne_iff_ne]; omega
      have HL := hide hlen
      clear hlen
      go_wp2_with (first | (at_builtin; refine wpList_append_Own _ (by rfl) (.tmp 17) (.tmp 18) 39 (by rfl) w.heap.size 5 i0 (.int .u8 0) 1 sizeSl39 HI.out HZ0.out HZ1.out HZ2.out rfl _ _ (by rfl) (hO.out.alloc _) ⟨wr.heap.size, 0, none⟩ 1 1 [.int .u8 0] (by rfl) rfl (cell_one_new _ _ _) (by intro u hu; simp at hu; subst hu; rfl) (by rw [HL.out]; unfold maxLen; omega) (by rw [HL.out]; omega) (by have := hB.out.size; simp; omega) ?_; intro v1 W2 hO2 hG2))
      have hB2 : Hid (Below w.heap.size w W2) := (hB.out.alloc hB.out.size _).grown hG2.out (by have := hB.out.size; simp; omega) (fun k hk => by simp [Value.ownBlock] at hk; have := HG.out.1; omega)
      have hO2' : Hid (Own W2 w.heap.size 5 v1 ((padZ (bytesOf s) (k + 1)).map cv)) := by
        have e := hO2.out
        have e2 : (padZ (bytesOf s) k).map cv ++ [Value.int IntKind.u8 0] = (padZ (bytesOf s) (k + 1)).map cv := by rw [← padZ_succ, List.map_append]; rfl
        rw [e2] at e; exact e
      obtain ⟨g', cap', h1, h2, h3, h4, h5, _⟩ := hO2'.out.form (by rw [List.length_map, padZ_length]; omega)
      have e : ((padZ (bytesOf s) (k + 1)).map cv).length = s.size + 1 + (k + 1) := by rw [List.length_map, padZ_length, bytesOf_length]
      rw [e] at h1 h4
      have HV := hide h1
      have HGG := hide (⟨h2, h3, h4, h5⟩ : w.heap.size ≤ g' ∧ g' < W2.heap.size ∧ s.size + 1 + (k + 1) ≤ cap' ∧ cap' ≤ maxLen)
      clear h1 h2 h3 h4 h5 e hO hB hO2 hG2
      go_wp2
      go_roundw
      case rel => exact ⟨k + 1, _, g', cap', by omega, rfl, HV.out, by omega, HGG, hO2', hB2⟩
      case measure => have := HN.out; rw [HV.out]; simp only [slLen]; omega
    · have hkZ : k = Z := by omega
      have ht : ((n : Int) % 128 != 112) = false := by
        have := zcnt_end s.size
        rw [← HZ.out, ← hkZ, ← HN.out] at this
        rw [bne_eq_false_iff_eq]; omega
      have hmk := make16
      have hO' : Hid (Own wr w.heap.size 5 (.slice (some ⟨g, 0, none⟩) n cap) ((padZ (bytesOf s) Z).map cv)) := by rw [← hkZ]; exact hO
      have HNZ : Hid (n = s.size + 1 + Z) := by rw [← hkZ]; exact HN
      clear hlt hkZ hO hlen hk HN
      go_wp2_with fail
      clear ht hmk
      obtain ⟨q, hq⟩ : ∃ q, q = wr.heap.size := ⟨_, rfl⟩
      rw [← hq]
      have HQ : Hid (w.heap.size ≤ q ∧ g < q) := by rw [hq]; exact ⟨hB.out.size, HG.out.2.1⟩
      go_loopw [4, 6] (fun nv i wr => ∃ (j p N : Nat) (iv : Int), i = .int .i64 iv ∧ nv = .int .i64 N ∧ N ≤ 140737488351232 ∧ Hid (iv = (p : Int) - 1) ∧ Hid (p + j = 16) ∧ Hid (N = nAt s.size j) ∧ Hid (wr.heap[q]? = some (.cells ((cntRow s.size j).map cv).toArray 5 (0, 0))) ∧
          Hid (Own wr w.heap.size 5 (.slice (some ⟨g, 0, none⟩) n cap) ((padZ (bytesOf s) Z).map cv)) ∧ Hid (Below w.heap.size w wr)) (fun _ i _ => (intOf i + 1).toNat)
      case atStart => exact ⟨0, 16, s.size, 15, rfl, rfl, hs, rfl, rfl, rfl, by rw [hq]; exact heap_alloc_new wr _, hO'.out.alloc _, hB.out.alloc hB.out.size _⟩
      case round =>
        clear hO' hB hq
        obtain ⟨j, p, N, iv, rfl, rfl, hNb, HIV, HPJ, HNA, hr, hO, hB⟩ := hrel
        by_cases hp : 0 < p
        · obtain ⟨p', rfl⟩ : ∃ p', p = p' + 1 := ⟨p - 1, by omega⟩
          obtain rfl : iv = (p' : Int) := by rw [HIV.out]; omega
          have hpj := HPJ.out
          have bp : (p' : Int) < 16 := by omega
          have hcell := cvs_at hr.out p' (by rw [cntRow_length]; omega)
          have hfz := frozen_of_row wr q p' _ _ hr.out
          generalize C8 ((cntRow s.size j).getD p' 0) = old at hcell
          by_cases h15 : p' = 15
          · have hq15 : ((p' : Int) == 15) = true := by rw [h15]; rfl
            have H15 := hide h15
            clear hpj h15
            have HE : Hid (8 * ((N : Int) % 32) = C8 (cntByte s.size p')) := by
              have hj : j = 0 := by have := HPJ.out; have := H15.out; omega
              show _ = _
              rw [HNA.out, hj, H15.out, nAt, if_pos rfl, cntByte, if_pos rfl]
              unfold C8; rw [UInt8.toNat_ofNat']; omega
            go_wp2
            go_roundw
            case rel =>
              have hj : j = 0 := by have := HPJ.out; have := H15.out; omega
              refine ⟨j + 1, p', N / 32, (p' : Int) - 1, rfl, by go_num, by omega, rfl, by show p' + (j + 1) = 16; have := HPJ.out; omega, ?_, ?_, ?_, hB.out.setCell (by exact HQ.out.1) _⟩
              · show N / 32 = nAt s.size (j + 1); rw [HNA.out, hj]; simp [nAt]
              · rw [HE.out]; exact cnt_step hr.out HPJ.out
              · exact hO.out.kept fun k hk => by simp [Value.ownBlock] at hk; subst hk; exact Below.heap_setCell _ _ _ _ (by have := HQ.out.2; show _ ≠ q; omega)
            case measure => simp [intOf]
          · have hq15 : ((p' : Int) == 15) = false := by rw [beq_eq_false_iff_ne]; omega
            have H15 := hide h15
            clear hpj h15
            have HE : Hid ((N : Int) % 256 = C8 (cntByte s.size p')) := by
              have hj : 1 ≤ j := by have := HPJ.out; have := H15.out; omega
              have e1 : j - 1 = 14 - p' := by have := HPJ.out; omega
              show _ = _
              rw [HNA.out, nAt, if_neg (by omega), cntByte, if_neg H15.out, e1]
              unfold C8; rw [UInt8.toNat_ofNat']; omega
            go_wp2
            go_roundw
            case rel =>
              have hj : 1 ≤ j := by have := HPJ.out; have := H15.out; omega
              refine ⟨j + 1, p', N / 256, (p' : Int) - 1, rfl, by go_num, by omega, rfl, by show p' + (j + 1) = 16; have := HPJ.out; omega, ?_, ?_, ?_, hB.out.setCell (by exact HQ.out.1) _⟩
              · show N / 256 = nAt s.size (j + 1)
                obtain ⟨j', rfl⟩ : ∃ j', j = j' + 1 := ⟨j - 1, by omega⟩
                rw [HNA.out]; simp only [nAt, Nat.add_sub_cancel]; rw [if_neg (by omega), if_neg (by omega), Nat.pow_succ, Nat.div_div_eq_div_mul _ (256 ^ j')]
              · rw [HE.out]; exact cnt_step hr.out HPJ.out
              · exact hO.out.kept fun k hk => by simp [Value.ownBlock] at hk; subst hk; exact Below.heap_setCell _ _ _ _ (by have := HQ.out.2; show _ ≠ q; omega)
            case measure => simp [intOf]
        · have hp0 : p = 0 := by omega
          have hj : j = 16 := by have := HPJ.out; omega
          have hiv : iv < 0 := by rw [HIV.out]; omega
          have hr' : Hid (wr.heap[q]? = some (.cells ((cntRow s.size 16).map cv).toArray 5 (0, 0))) := by rw [← hj]; exact hr
          have HL : Hid (((padZ (bytesOf s) Z).map cv).length = n) := by show _ = _; rw [List.length_map, padZ_length, bytesOf_length, HNZ.out]
          clear hr hp hp0 hj
          go_wp2_with (first | (at_builtin; refine wpList_append_Own _ (by rfl) (.tmp 44) (.tmp 45) 39 (by rfl) w.heap.size 5 i0 (.int .u8 0) 1 sizeSl39 HI.out HZ0.out HZ1.out HZ2.out rfl _ _ (by rfl) hO.out ⟨q, 0, none⟩ 16 16 ((cntRow s.size 16).map cv) (by rfl) (by rw [List.length_map, cntRow_length]) (by have e := World.news_of_block hr'.out; simpa using e) (by intro u hu; obtain ⟨x, _, rfl⟩ := List.mem_map.1 hu; rfl) (by rw [HL.out]; unfold maxLen; omega) (by rw [HL.out]; omega) hB.out.size ?_; intro v1 W2 hO2 hG2))
          have hB2 : Hid (Below w.heap.size w W2) := hB.out.grown hG2.out hB.out.size (fun k hk => by simp [Value.ownBlock] at hk; have := HG.out.1; omega)
          have hO2' : Own W2 w.heap.size 5 v1 ((padB (bytesOf s)).map cv) := by
            have e := hO2.out
            rw [← List.map_append] at e
            unfold padB; rw [bytesOf_length, ← HZ.out]; exact e
          have hpl : ((padB (bytesOf s)).map cv).length = (padB (bytesOf s)).length := List.length_map ..
          obtain ⟨g', cap', h1, h2, h3, h4, h5, h6⟩ := hO2'.form (by rw [hpl]; unfold padB; rw [List.length_append, padZ_length]; omega)
          rw [hpl] at h1 h4 h6
          subst h1
          have H2 := hide h2
          have H3 := hide h3
          have H4 := hide h4
          have H5 := hide h5
          have H6 := hide h6
          clear h2 h3 h4 h5 h6 hO2' hpl hO2 hG2
          generalize hLN : (padB (bytesOf s)).length = LN at *
          go_wp2_with fail
          go_ret
          refine ⟨g', cap', rfl, H2.out, H4.out, H5.out, H3.out, fun i hi => ?_, hB2.out⟩
          rw [H6.out i hi]
          have : i < (padB (bytesOf s)).length := by rw [hLN]; exact hi
          simp [this]
end
end Go.Proofs.YtcnbhpghcjcejaaDoor
