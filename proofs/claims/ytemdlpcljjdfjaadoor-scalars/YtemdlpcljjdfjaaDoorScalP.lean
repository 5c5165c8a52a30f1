import Derived.Test.YtemdlpcljjdfjaaDoorGroupP
import Derived.Test.YtemdlpcljjdfjaaDoorRedFace
import Derived.Test.YtemdlpcljjdfjaaDoorLatTm
/- So many times B: L times is the zero. Plain mathematics. -/
namespace Go.Proofs.YtemdlpcljjdfjaaDoor
theorem LB_code : cdN (mlP (pwN (poP (bs 31))) Lord 64) = 1 := by decide +kernel
theorem cdG_inj {a b : G} (h : cdG a = cdG b) : a = b := by
  have e1 := (dec_code a).2
  have e2 := (dec_code b).2
  rw [h] at e1
  have e3 : ptOf a.x.val a.y.val = ptOf b.x.val b.y.val := e1.symm.trans e2
  exact G.ext' (Fin.ext (congrArg Pt.x e3)) (Fin.ext (congrArg Pt.y e3))
theorem Lord_lt : Lord < 115792089237316195423570985008687907853269984665640564039457584007913129639936 := by decide
/-- L times B. -/
theorem LB {b : G} (hb : RP (poP (bs 31)) b) : gMul Lord b = g0 := by
  apply cdG_inj
  rw [cdG_zero, ← LB_code, code_RP (RP_times hb Lord_lt)]
  rfl
theorem gMul_g0 : ∀ n, gMul n g0 = g0
  | 0 => rfl
  | n + 1 => by rw [gMul_succ, gMul_g0 n, gAdd_zero]
theorem gMul_mod {b : G} (hb : RP (poP (bs 31)) b) (n : Nat) : gMul (n % Lord) b = gMul n b := by
  have e : n = n / Lord * Lord + n % Lord := by rw [Nat.mul_comm]; exact (Nat.div_add_mod n Lord).symm
  have h : gMul n b = gMul (n / Lord * Lord + n % Lord) b := by rw [← e]
  rw [h, gMul_add, gMul_mul, LB hb, gMul_g0, gZero_add]
theorem mod_byte (n : Nat) : n % Lord / 256 ^ 31 ≤ 16 := by
  have h : n % Lord < Lord := Nat.mod_lt _ (by decide)
  have e : Lord / 256 ^ 31 = 16 := by decide
  calc n % Lord / 256 ^ 31 ≤ Lord / 256 ^ 31 := Nat.div_le_div_right (Nat.le_of_lt h)
    _ = 16 := e
theorem valLE_app (a b : List UInt8) : valLE (a ++ b) = valLE a + 256 ^ a.length * valLE b := by
  induction a with
  | nil => simp [valLE]
  | cons c l ih =>
    simp only [List.cons_append, valLE, List.length_cons, ih, Nat.pow_succ]
    rw [Nat.mul_add, Nat.mul_comm (256 ^ l.length) 256, Nat.mul_assoc]
    omega
theorem valLE_zeros : ∀ k, valLE (List.replicate k 0) = 0
  | 0 => rfl
  | k + 1 => by rw [List.replicate_succ, valLE, valLE_zeros k]; rfl
theorem valLE_255 : ∀ k, valLE (List.replicate k 255) + 1 = 256 ^ k
  | 0 => rfl
  | k + 1 => by
    rw [List.replicate_succ, valLE, Nat.pow_succ, ← valLE_255 k]
    show 255 + _ + 1 = _
    omega
end Go.Proofs.YtemdlpcljjdfjaaDoor
/- latchkeep: order, more. -/
namespace Go.Proofs.YtemdlpcljjdfjaaDoor
open Go.RowKit
/-- '[]byte(s)': cells that may be written. -/
theorem conv_bytes2 (s : ByteArray) (w : World) :
    ∃ cap W1, (convert 9 51 (.string s)).run Tryd.prog w = .ok (.slice (some ⟨w.heap.size, 0, none⟩) s.size cap) W1 ∧ W1.rangeAt w.heap.size 0 ((bytesOf s).map cv) ∧ W1.there w.heap.size 0 s.size ∧ Below w.heap.size w W1 := by
  refine ⟨_, _, run_bytes_of_string (P := Tryd.prog) w 9 51 5 s (by kernel_rfl) underSl8 (by kernel_rfl), ?_, ?_, (Below.refl _ _).drew.alloc (Nat.le_refl _) _⟩
  · intro j v hv
    rw [Nat.zero_add, cell_of_row _ w.heap.size j _ _ _ (heap_alloc_new w.drew _)]
    have hj : j < s.data.size := by
      have := (List.getElem?_eq_some_iff.1 hv).1
      simpa [bytesOf] using this
    simp only [bytesRow]
    rw [Array.getElem?_append_left (by simpa using hj)]
    simp [bytesOf, List.getElem?_map] at hv ⊢
    exact hv
  · intro j hj
    have hj' : j < s.data.size := hj
    refine ⟨?_, ?_⟩
    · rw [Nat.zero_add, cell_of_row _ w.heap.size j _ _ _ (heap_alloc_new w.drew _)]
      simp only [bytesRow]
      rw [Array.getElem?_append_left (by simpa using hj'), Array.getElem?_eq_getElem (by simpa using hj')]; rfl
    · have hh := heap_alloc_new w.drew (.cells (bytesRow s (grownCap w s.size 0 5)) 5 ((bytesRow s (grownCap w s.size 0 5)).size, (bytesRow s (grownCap w s.size 0 5)).size + 1))
      have hsz : s.data.size ≤ (bytesRow s (grownCap w s.size 0 5)).size := by simp [bytesRow]
      unfold World.frozen?
      rw [Nat.zero_add]
      have hh2 : (w.drew.alloc (.cells (bytesRow s (grownCap w s.size 0 5)) 5 ((bytesRow s (grownCap w s.size 0 5)).size, (bytesRow s (grownCap w s.size 0 5)).size + 1))).heap[w.heap.size]? = _ := hh
      rw [hh2]
      simp only [Bool.and_eq_false_iff, decide_eq_false_iff_not]
      left; omega
/-- L's text. -/
def oT : ByteArray := (⟨#[237, 211, 245, 92, 26, 99, 18, 88, 214, 156, 247, 162, 222, 249, 222, 20]⟩ ++ strOf (padB ⟨#[]⟩ 15)) ++ ⟨#[16]⟩
theorem oT_val : valLE (bytesOf oT) = Lord := by decide +kernel
theorem oT_size : oT.size = 32 := by decide +kernel
section
attribute [local irreducible] padB
set_option maxRecDepth 100000 in
theorem orderK (w : World) : Calls Tryd.prog 20 #[] w fun e w' => e = .returned (.string oT) ∧ Below w.heap.size w w' := by
  go_enter Tryd.func20, Tryd.ntmps20
  go_wp2_with fail
  refine (bytesA' ⟨#[]⟩ 15 (by decide) _).mono ?_
  rintro e W1 ⟨rfl, hB⟩
  have HB := hide hB
  clear hB
  obtain ⟨t, Et⟩ : ∃ t, Hid (t = strOf (padB ⟨#[]⟩ 15)) := ⟨_, hide rfl⟩
  rw [← Et.out]
  have hs : t.size = 15 := by rw [Et.out]; exact pad_size _ _
  obtain ⟨u, Eu⟩ : ∃ u, Hid (u = ⟨#[237, 211, 245, 92, 26, 99, 18, 88, 214, 156, 247, 162, 222, 249, 222, 20]⟩ ++ t) := ⟨_, hide rfl⟩
  have hu : u.size = 31 := by rw [Eu.out, ByteArray.size_append, hs]; rfl
  have hc1 : (⟨#[237, 211, 245, 92, 26, 99, 18, 88, 214, 156, 247, 162, 222, 249, 222, 20]⟩ : ByteArray) ++ t = u := Eu.out.symm
  obtain ⟨v, Ev⟩ : ∃ v, Hid (v = u ++ ⟨#[16]⟩) := ⟨_, hide rfl⟩
  have hc2 : u ++ ⟨#[16]⟩ = v := Ev.out.symm
  go_wp2_with fail
  go_returns
  exact ⟨by rw [show oT = v by rw [Ev.out, Eu.out, Et.out]; rfl]; rfl, HB.out⟩
end
/-- One more, on its way: i bytes were 255. -/
def mrL (l : List UInt8) (i : Nat) : List UInt8 := List.replicate i 0 ++ l.drop i
theorem mrL_len {l : List UInt8} {i : Nat} (hl : l.length = 32) (hi : i ≤ 32) : (mrL l i).length = 32 := by unfold mrL; simp [hl]; omega
theorem mrL_get {l : List UInt8} {i : Nat} (hl : l.length = 32) (hi : i < 32) : (mrL l i)[i]? = some (l.getD i 0) := by
  unfold mrL
  rw [List.getElem?_append_right (by simp), List.length_replicate, Nat.sub_self, List.getElem?_drop, Nat.add_zero, List.getElem?_eq_getElem (by omega)]
  simp [List.getD, hl, hi]
theorem mrL_set {l : List UInt8} {i : Nat} (hl : l.length = 32) (hi : i < 32) (c : UInt8) : (mrL l i).set i c = List.replicate i 0 ++ c :: l.drop (i + 1) := by
  unfold mrL
  rw [List.set_append_right _ _ (by simp), List.length_replicate, Nat.sub_self, List.drop_eq_getElem_cons (by omega), List.set_cons_zero]
theorem mrL_step {l : List UInt8} {i : Nat} (hl : l.length = 32) (hi : i < 32) : (mrL l i).set i 0 = mrL l (i + 1) := by
  rw [mrL_set hl hi]
  unfold mrL
  rw [List.replicate_succ', List.append_assoc]; rfl
theorem low255 {l : List UInt8} {i : Nat} (hl : l.length = 32) (hi : i ≤ 32) (h : ∀ j, j < i → l.getD j 0 = 255) : l.take i = List.replicate i 255 := by
  apply List.ext_getElem?
  intro j
  by_cases hj : j < i
  · rw [List.getElem?_take, if_pos hj, List.getElem?_replicate, if_pos hj, List.getElem?_eq_getElem (by omega)]
    have := h j hj
    simp only [List.getD, List.getElem?_eq_getElem (show j < l.length by omega), Option.getD_some] at this
    rw [this]
  · rw [List.getElem?_take, if_neg hj, List.getElem?_replicate, if_neg hj]
/-- The number behind it. -/
theorem more_val {l : List UInt8} {i : Nat} (hl : l.length = 32) (hi : i < 32) (h : ∀ j, j < i → l.getD j 0 = 255) {c : UInt8} (hc : c.toNat = (l.getD i 0).toNat + 1) : List.replicate i 0 ++ c :: l.drop (i + 1) = leB (valLE l + 1) 32 := by
  have e1 : l = l.take i ++ (l.getD i 0) :: l.drop (i + 1) := by
    rw [show (l.getD i 0) = l[i] from by simp [List.getD, hl, hi], ← List.drop_eq_getElem_cons (by omega), List.take_append_drop]
  have e2 : valLE (List.replicate i 0 ++ c :: l.drop (i + 1)) = valLE l + 1 := by
    rw [valLE_app, valLE_zeros, List.length_replicate]
    have e3 : valLE l = valLE (List.replicate i 255 ++ (l.getD i 0) :: l.drop (i + 1)) := by rw [← low255 hl (by omega) h, ← e1]
    rw [e3, valLE_app, List.length_replicate]
    have := valLE_255 i
    simp only [valLE, hc]
    generalize valLE (List.replicate i 255) = x at *
    generalize valLE (l.drop (i + 1)) = y
    generalize (l.getD i 0).toNat = z
    rw [← this]
    rw [show z + 1 + 256 * y = (z + 256 * y) + 1 by omega, Nat.mul_add]
    omega
  rw [← e2, leB_valLE]
  simp [hl]; omega
theorem all255 {l : List UInt8} (hl : l.length = 32) (h : ∀ j, j < 32 → l.getD j 0 = 255) : valLE l + 1 = 256 ^ 32 := by
  have := low255 hl (Nat.le_refl _) h
  rw [List.take_of_length_le (by omega)] at this
  rw [this, valLE_255]
theorem idxSlC (g i cap : Nat) (hi : i < 32) (w : World) : (Instr.indexAt 51 (.slice (some ⟨g, 0, none⟩) 32 cap) (.int .i64 i)).run Tryd.prog w = .ok (.pointer (some ⟨g, i, none⟩)) w := by
  cases hq : Tryd.prog.info? 5 with
  | none => have := size8K; rw [hq] at this; cases this
  | some inf =>
    have hs : inf.size = 1 := by have := size8K; rw [hq] at this; simpa using this
    simp [Instr.indexAt, asIntOf, run_underlying underSl8, sizeOf, typeInfo, hq, hs, Addr.add_mid]
    intro h; omega
theorem convC (cap : Nat) (w : World) (q : Nat) (l : List UInt8) (hl : l.length = 32) (h : w.rangeAt q 0 (l.map cv)) :
    (convert 51 9 (.slice (some ⟨q, 0, none⟩) 32 cap)).run Tryd.prog w = .ok (.string (strOf l)) w := by
  have e := run_convert_bytes_back (P := Tryd.prog) w 51 9 5 ⟨q, 0, none⟩ cap l underSl8 underU8 underStr (fun i hi => by
    rw [Addr.add_mid]
    refine h i _ ?_
    rw [List.getElem?_map, List.getElem?_eq_getElem hi]; rfl)
  rw [hl] at e
  exact e
theorem range_set1 {w : World} {g i : Nat} {l : List UInt8} {v : Value} {c : UInt8} (h : w.rangeAt g 0 (l.map cv)) (hv : v = cv c) (hi : i < l.length) : (w.setCell ⟨g, i, none⟩ v).rangeAt g 0 ((l.set i c).map cv) := by
  subst hv
  intro j x hx
  rw [List.map_set] at hx
  by_cases e : j = i
  · subst e
    rw [List.getElem?_set_self (by simpa using hi)] at hx
    rw [Nat.zero_add]
    have := h j (cv l[j]) (by rw [List.getElem?_map, List.getElem?_eq_getElem hi]; rfl)
    rw [Nat.zero_add] at this
    rw [World.cell?_setCell_same _ _ _ this, hx]
  · rw [List.getElem?_set_ne (by omega)] at hx
    rw [World.cell?_setCell_other _ _ _ _ (by simp <;> omega)]
    exact h j x hx
/-- What 'more' answers. -/
def mrB (n : Nat) : Bool := decide (n + 1 < 256 ^ 32)
def mrT (n : Nat) : ByteArray := if mrB n = true then strOf (leB (n + 1) 32) else ⟨#[]⟩
section
set_option maxRecDepth 100000 in
set_option maxHeartbeats 2000000 in
theorem moreK (s : ByteArray) (hs : s.size = 32) (w : World) : Calls Tryd.prog 18 #[.string s] w fun e w' => e = .returned (.tuple #[.string (mrT (valLE (bytesOf s))), .bool (mrB (valLE (bytesOf s)))]) ∧ Below w.heap.size w w' := by
  obtain ⟨cap, W1, hcv, hrd, hth, hB⟩ := conv_bytes2 s w
  rw [hs] at hcv hth
  obtain ⟨l, El⟩ : ∃ l, Hid (l = bytesOf s) := ⟨_, hide rfl⟩
  have HL : Hid (l.length = 32) := by rw [El.out, bytesOf_length]; exact hs
  rw [← El.out] at hrd ⊢
  have HR := hide hrd
  have HT := hide hth
  have HB := hide hB
  obtain ⟨g, hg⟩ : ∃ g, g = w.heap.size := ⟨_, rfl⟩
  rw [← hg] at HR HT hcv
  have lg : w.heap.size ≤ g := by omega
  clear hrd hth hB hg hs
  go_enter Tryd.func18, Tryd.ntmps18
  go_wp2_with fail
  go_loopw [5] (fun v wr => ∃ i : Nat, i ≤ 32 ∧ v = .int .i64 i ∧ Hid (∀ j, j < i → l.getD j 0 = 255) ∧ Hid (wr.rangeAt g 0 ((mrL l i).map cv)) ∧ Hid (wr.there g 0 32) ∧ Hid (Below w.heap.size w wr)) (fun v _ => 32 - (intOf v).toNat)
  case atStart => exact ⟨0, by omega, rfl, hide (fun j hj => absurd hj (by omega)), HR, HT, HB⟩
  case round =>
    clear HR HT HB
    obtain ⟨i, hi, rfl, H255, HR, HT, HB⟩ := hrel
    by_cases hlt : i < 32
    · have bi : (i : Int) < 32 := by omega
      have hix := idxSlC g i cap hlt
      obtain ⟨c, Ec⟩ : ∃ c, Hid (c = l.getD i 0) := ⟨_, hide rfl⟩
      have c1 : wr.cell? ⟨g, i, none⟩ = some (.int .u8 (C8 c)) := by
        have := HR.out i (cv c) (by rw [List.getElem?_map, mrL_get HL.out hlt, Ec.out]; rfl)
        rw [Nat.zero_add] at this
        exact this
      have f1 : wr.frozen? ⟨g, i, none⟩ = false := by
        have := (HT.out i hlt).2
        rw [Nat.zero_add] at this
        exact this
      have c8 := C8_lt c
      have c80 := C8_nonneg c
      by_cases hc : c = 255
      · have ev : C8 c = 255 := by rw [hc]; rfl
        have hw : IntKind.u8.wrap (C8 c + 1) = 0 := by rw [ev]; rfl
        have H255' : Hid (∀ j, j < i + 1 → l.getD j 0 = 255) := by
          show ∀ j, j < i + 1 → l.getD j 0 = 255
          intro j hj
          by_cases e : j = i
          · rw [e, ← Ec.out, hc]
          · exact H255.out j (by omega)
        have c2 : (wr.setCell ⟨g, i, none⟩ (.int .u8 0)).cell? ⟨g, i, none⟩ = some (.int .u8 0) := World.cell?_setCell_same _ _ _ c1
        clear hc ev
        go_wp2_with fail
        refine ⟨⟨i + 1, by omega, by go_num, H255', ?_, ?_, HB.out.setCell (by show _ ≤ _; simp; omega) _⟩, by simp [intOf]; omega⟩
        · rw [← mrL_step HL.out hlt]
          exact range_set1 HR.out rfl (by rw [mrL_len HL.out hi]; exact hlt)
        · exact World.there_setCells HT.out g i [.int .u8 0]
      · have hct : c.toNat < 255 := by
          have h1 := c.toNat_lt
          have h2 : c.toNat ≠ 255 := fun e => hc (UInt8.toNat_inj.1 e)
          omega
        have hw : IntKind.u8.wrap (C8 c + 1) = C8 c + 1 := by unfold C8; rw [IntKind.wrap_u8]; omega
        obtain ⟨d, Ed⟩ : ∃ d : UInt8, Hid (d.toNat = c.toNat + 1) := ⟨UInt8.ofNat (c.toNat + 1), hide (by rw [UInt8.toNat_ofNat']; omega)⟩
        have hcd : (Value.int .u8 (C8 c + 1)) = cv d := by
          show _ = Value.int .u8 (C8 d)
          unfold C8; rw [Ed.out]; congr 1
        have hne : (C8 c + 1 != 0) = true := by rw [bne_iff_ne]; omega
        have c2 : (wr.setCell ⟨g, i, none⟩ (.int .u8 (C8 c + 1))).cell? ⟨g, i, none⟩ = some (.int .u8 (C8 c + 1)) := World.cell?_setCell_same _ _ _ c1
        have RN := range_set1 (c := d) HR.out hcd (by rw [mrL_len HL.out hi]; exact hlt)
        rw [mrL_set HL.out hlt, more_val HL.out hlt H255.out (by rw [Ed.out, Ec.out])] at RN
        have hcv2 := convC cap _ g (leB (valLE l + 1) 32) (leB_length _ _) RN
        have hB2 : Hid (Below w.heap.size w (wr.setCell ⟨g, i, none⟩ (.int .u8 (C8 c + 1)))) := HB.out.setCell (by show _ ≤ _; simp; omega) _
        have hnb : mrB (valLE l) = true := by
          unfold mrB
          apply decide_eq_true
          have h1 : valLE (List.replicate i 0 ++ d :: l.drop (i + 1)) < 256 ^ 32 := by
            have := valLE_lt (List.replicate i 0 ++ d :: l.drop (i + 1))
            have hlen : (List.replicate i (0 : UInt8) ++ d :: l.drop (i + 1)).length = 32 := by simp [HL.out]; omega
            rw [hlen] at this
            exact this
          rw [more_val HL.out hlt H255.out (by rw [Ed.out, Ec.out])] at h1
          have e3 := valLE_lt l
          rw [HL.out] at e3
          rcases Nat.lt_or_ge (valLE l + 1) (256 ^ 32) with q | q
          · exact q
          · exfalso
            have e4 : valLE l + 1 = 256 ^ 32 := by omega
            have e5 : leB (valLE l + 1) 32 = leB 0 32 := by rw [e4]; decide +kernel
            have e6 := more_val HL.out hlt H255.out (show d.toNat = (l.getD i 0).toNat + 1 by rw [Ed.out, Ec.out])
            rw [e5] at e6
            have e7 : (List.replicate i 0 ++ d :: l.drop (i + 1))[i]? = (leB 0 32)[i]? := by rw [e6]
            rw [List.getElem?_append_right (by simp), List.length_replicate, Nat.sub_self, leB_zero, List.getElem?_replicate, if_pos hlt] at e7
            have e8 : d = 0 := by simpa using e7
            have := Ed.out
            rw [e8] at this
            simp at this
        obtain ⟨T, ET⟩ : ∃ T, Hid (T = strOf (leB (valLE l + 1) 32)) := ⟨_, hide rfl⟩
        rw [← ET.out] at hcv2
        clear RN hcd hct hc
        go_wp2_with fail
        go_returns
        refine ⟨?_, hB2.out⟩
        unfold mrT
        rw [hnb, if_pos rfl, ET.out]; rfl
    · obtain rfl : i = 32 := by omega
      have bi : (32 : Int) ≤ ((32 : Nat) : Int) := by omega
      have hnb : mrB (valLE l) = false := by
        unfold mrB
        apply decide_eq_false
        rw [all255 HL.out H255.out]; omega
      clear hlt hi
      go_wp2_with fail
      go_returns
      refine ⟨?_, HB.out⟩
      unfold mrT
      rw [hnb, if_neg (by decide)]; rfl
end
end Go.Proofs.YtemdlpcljjdfjaaDoor
/- latchkeep.Scalars: the walk. -/
namespace Go.Proofs.YtemdlpcljjdfjaaDoor
open Go.RowKit
theorem OrdAt.keep {w w' : World} (h : OrdAt w) (hb : Below w.heap.size w w') : OrdAt w' := by
  obtain ⟨t, fr, e⟩ := h.row
  exact ⟨t, fr, row_keep' e hb⟩
/-- A number's rest, as a text. -/
def rdT (n : Nat) : ByteArray := strOf (leB (n % Lord) 32)
theorem rdT_size (n : Nat) : (rdT n).size = 32 := strOf_size32 _
theorem rd_lt (n : Nat) : n % Lord < 115792089237316195423570985008687907853269984665640564039457584007913129639936 := Nat.lt_trans (Nat.mod_lt _ (by decide)) Lord_lt
theorem rdT_val (n : Nat) : valLE (bytesOf (rdT n)) = n % Lord := by
  unfold rdT
  rw [bytesOf_strOf, valLE_leB _ (rd_lt n)]
theorem rdT_rdT (n : Nat) : rdT (n % Lord) = rdT n := by unfold rdT; rw [Nat.mod_mod]
theorem reduceK {s : ByteArray} (hs : s.size = 64) {n : Nat} (hn : valLE (bytesOf s) = n) (w : World) (hO : OrdAt w) : Calls Tryd.prog 19 #[.string s] w fun e w' => e = .returned (.tuple #[.string (rdT n), .int .i64 0]) ∧ Below w.heap.size w w' := by
  refine (latchReduce_any s w hO).mono ?_
  rintro e w' ⟨h1, _, hB⟩
  refine ⟨?_, hB⟩
  rw [h1 hs, hn]; rfl
theorem bytesOf_append (a b : ByteArray) : bytesOf (a ++ b) = bytesOf a ++ bytesOf b := by unfold bytesOf; simp [ByteArray.data_append]
theorem cat_val {a : ByteArray} (_ : a.size = 32) : valLE (bytesOf (a ++ e32)) = valLE (bytesOf a) := by
  rw [bytesOf_append, valLE_app, e32_val, Nat.mul_zero, Nat.add_zero]
theorem e32_def : e32 = strOf (padB ⟨#[]⟩ 32) := rfl
theorem e32_size : e32.size = 32 := pad_size _ _
theorem cat_size {a : ByteArray} (ha : a.size = 32) : (a ++ e32).size = 64 := by rw [ByteArray.size_append, ha, e32_size]
theorem rd_top (n : Nat) : C8 ((bytesOf (rdT n)).getD 31 0) ≤ 16 := by
  have h := valLE_byte (bytesOf (rdT n)) 31
  rw [rdT_val] at h
  have h2 := mod_byte n
  unfold C8
  rw [← h]
  have : n % Lord / 256 ^ 31 % 256 ≤ 16 := Nat.le_trans (Nat.mod_le _ _) h2
  omega
theorem rd_top' (n : Nat) (h : 31 < (rdT n).size) : (((rdT n)[31]'h).toNat : Int) ≤ 16 := by
  have t := rd_top n
  have h' : 31 < (rdT n).data.size := h
  have e : (bytesOf (rdT n)).getD 31 0 = (rdT n)[31]'h := by
    simp [bytesOf, ByteArray.getElem_eq_getElem_data, Array.getElem?_eq_getElem h']
  rw [e] at t
  exact t
theorem mrT_yes {n : Nat} (h : mrB n = true) : (mrT n).size = 32 ∧ valLE (bytesOf (mrT n)) = n + 1 := by
  have hl : n + 1 < 115792089237316195423570985008687907853269984665640564039457584007913129639936 := of_decide_eq_true h
  unfold mrT
  rw [if_pos h, bytesOf_strOf, valLE_leB _ hl]
  exact ⟨strOf_size32 _, rfl⟩
theorem tmB' {s : ByteArray} (hs : s.size = 32) {n : Nat} (hn : valLE (bytesOf s) = n) {b : G} (hb : RP (poP (bs 31)) b) (w : World) (hG : GlB w) : Calls Tryd.prog 11 #[.string s, .string (strOf bT)] w fun e w' => e = .returned (.tuple #[.string (cdT (gMul n b)), .int .i64 0]) ∧ Below w.heap.size w w' := by
  obtain ⟨e1, e2⟩ := lTm_G hs dbl_B hb
  have := latchTimesA s (strOf bT) w hG
  rw [bT_bs, e1, e2, hn] at this
  rw [bT_bs]
  exact this
section
attribute [local irreducible] cdT zT padB rdT mrT mrB oT e32 bT strOf
set_option maxRecDepth 100000 in
set_option maxHeartbeats 8000000 in
theorem scalars_any (c : Int) (s t u : ByteArray) (c0 : -9223372036854775808 ≤ c) (c1 : c ≤ 9223372036854775807) (w : World) (hG : GlB w) (hO : OrdAt w) :
    Calls Tryd.prog 7 #[.int .i64 c, .string s, .string t, .string u] w fun e w' => e = .returned (.bool true) ∧ Below w.heap.size w w' := by
  have HG := hide hG
  have HO := hide hO
  clear hG hO
  obtain ⟨b, hb⟩ := po_G dbl_B
  have HRB := hide hb
  clear hb
  obtain ⟨B, EB⟩ : ∃ B, Hid (B = strOf bT) := ⟨_, hide rfl⟩
  go_enter Tryd.func7, Tryd.ntmps7
  go_wp2_with fail
  refine (awakeK _ HG.out).mono ?_
  rintro x W1 ⟨rfl, hB⟩
  have HB := hide hB
  clear hB
  go_wp2_with fail
  refine (pointK c s c0 c1 _ (HG.out.keep HB.out)).mono ?_
  rintro x W2 ⟨⟨a, rfl⟩, hB⟩
  have HB : Hid (Below w.heap.size w W2) := HB.out.trans (hB.mono HB.out.size)
  clear hB
  go_wp2_with fail
  refine (bytesA' t 32 (by decide) _).mono ?_
  rintro x W3 ⟨rfl, hB⟩
  have HB : Hid (Below w.heap.size w W3) := HB.out.trans (hB.mono HB.out.size)
  clear hB
  obtain ⟨K, EK⟩ : ∃ B, Hid (B = strOf (padB t 32)) := ⟨_, hide rfl⟩
  rw [← EK.out]
  have hK : K.size = 32 := by rw [EK.out]; exact pad_size t 32
  obtain ⟨k, Ek⟩ : ∃ k, Hid (valLE (bytesOf K) = k) := ⟨_, hide rfl⟩
  go_wp2_with fail
  refine (tmK hK Ek.out a _ (HG.out.keep HB.out)).mono ?_
  rintro x W4 ⟨rfl, hB⟩
  have HB : Hid (Below w.heap.size w W4) := HB.out.trans (hB.mono HB.out.size)
  clear hB
  go_wp2_with fail
  refine (addK (gMul k a) a _ (HG.out.keep HB.out)).mono ?_
  rintro x W5 ⟨rfl, hB⟩
  have HB : Hid (Below w.heap.size w W5) := HB.out.trans (hB.mono HB.out.size)
  clear hB
  rw [← gMul_succ k a]
  go_wp2_with fail
  refine (moreK K hK _).mono ?_
  rintro x W6 ⟨rfl, hB⟩
  have HB : Hid (Below w.heap.size w W6) := HB.out.trans (hB.mono HB.out.size)
  clear hB
  rw [Ek.out]
  obtain ⟨mb, Emb⟩ : ∃ k', Hid (k' = mrB k) := ⟨_, hide rfl⟩
  rw [← Emb.out]
  cases mb
  case' false =>
    go_upto_region 13 with fail
  case' true =>
    obtain ⟨hm1, hm2⟩ := mrT_yes (n := k) Emb.out.symm
    go_wp2_with fail
    refine (tmK hm1 hm2 a _ (HG.out.keep HB.out)).mono ?_
    rintro x W8 ⟨rfl, hB⟩
    have HB : Hid (Below w.heap.size w W8) := HB.out.trans (hB.mono HB.out.size)
    clear hB
    clear hm1 hm2
    go_upto_region 13 with fail
  all_goals
    go_wp2_with fail
    refine (bytesA' u 64 (by decide) _).mono ?_
    rintro x W9 ⟨rfl, hB⟩
    have HB : Hid (Below w.heap.size w W9) := HB.out.trans (hB.mono HB.out.size)
    clear hB
    obtain ⟨X, EX⟩ : ∃ B, Hid (B = strOf (padB u 64)) := ⟨_, hide rfl⟩
    rw [← EX.out]
    have hX : X.size = 64 := by rw [EX.out]; exact pad_size u 64
    obtain ⟨n, En⟩ : ∃ k, Hid (valLE (bytesOf X) = k) := ⟨_, hide rfl⟩
    go_wp2_with fail
    refine (reduceK hX En.out _ (HO.out.keep HB.out)).mono ?_
    rintro x W10 ⟨rfl, hB⟩
    have HB : Hid (Below w.heap.size w W10) := HB.out.trans (hB.mono HB.out.size)
    clear hB
    go_wp2_with fail
    refine (bytesA' ⟨#[]⟩ 32 (by decide) _).mono ?_
    rintro x W11 ⟨rfl, hB⟩
    have HB : Hid (Below w.heap.size w W11) := HB.out.trans (hB.mono HB.out.size)
    clear hB
    rw [show strOf (padB ⟨#[]⟩ 32) = e32 from e32_def.symm]
    have hr := rdT_size n
    have he := e32_size
    have hK2 := hK
    obtain ⟨R2, ER2⟩ : ∃ B, Hid (B = rdT n ++ e32) := ⟨_, hide rfl⟩
    have hcat : rdT n ++ e32 = R2 := ER2.out.symm
    go_wp2_with fail
    refine (reduceK (s := R2) (by rw [ER2.out]; exact cat_size hr) (n := n % Lord) (by rw [ER2.out, cat_val hr, rdT_val]) _ (HO.out.keep HB.out)).mono ?_
    rintro x W12 ⟨rfl, hB⟩
    have HB : Hid (Below w.heap.size w W12) := HB.out.trans (hB.mono HB.out.size)
    clear hB
    rw [rdT_rdT]
    go_wp2_with fail
    refine (orderK _).mono ?_
    rintro x W13 ⟨rfl, hB⟩
    have HB : Hid (Below w.heap.size w W13) := HB.out.trans (hB.mono HB.out.size)
    clear hB
    go_wp2_with fail
    refine (baseK _).mono ?_
    rintro x W14 ⟨rfl, hB⟩
    have HB : Hid (Below w.heap.size w W14) := HB.out.trans (hB.mono HB.out.size)
    clear hB
    go_wp2_with fail
    refine (tmB' oT_size oT_val HRB.out _ (HG.out.keep HB.out)).mono ?_
    rintro x W15 ⟨rfl, hB⟩
    have HB : Hid (Below w.heap.size w W15) := HB.out.trans (hB.mono HB.out.size)
    clear hB
    rw [LB HRB.out]
    go_wp2_with fail
    refine (bytesA' ⟨#[]⟩ 32 (by decide) _).mono ?_
    rintro x W16 ⟨rfl, hB⟩
    have HB : Hid (Below w.heap.size w W16) := HB.out.trans (hB.mono HB.out.size)
    clear hB
    rw [show strOf (padB ⟨#[]⟩ 32) = e32 from e32_def.symm]
    obtain ⟨K2, EK2⟩ : ∃ B, Hid (B = K ++ e32) := ⟨_, hide rfl⟩
    have hcat2 : K ++ e32 = K2 := EK2.out.symm
    go_wp2_with fail
    refine (reduceK (s := K2) (by rw [EK2.out]; exact cat_size hK2) (n := k) (by rw [EK2.out, cat_val hK2, Ek.out]) _ (HO.out.keep HB.out)).mono ?_
    rintro x W17 ⟨rfl, hB⟩
    have HB : Hid (Below w.heap.size w W17) := HB.out.trans (hB.mono HB.out.size)
    clear hB
    go_wp2_with fail
    refine (baseK _).mono ?_
    rintro x W18 ⟨rfl, hB⟩
    have HB : Hid (Below w.heap.size w W18) := HB.out.trans (hB.mono HB.out.size)
    clear hB
    go_wp2_with fail
    refine (tmB' hK2 Ek.out HRB.out _ (HG.out.keep HB.out)).mono ?_
    rintro x W19 ⟨rfl, hB⟩
    have HB : Hid (Below w.heap.size w W19) := HB.out.trans (hB.mono HB.out.size)
    clear hB
    go_wp2_with fail
    refine (baseK _).mono ?_
    rintro x W20 ⟨rfl, hB⟩
    have HB : Hid (Below w.heap.size w W20) := HB.out.trans (hB.mono HB.out.size)
    clear hB
    go_wp2_with fail
    refine (tmB' (rdT_size k) (rdT_val k) HRB.out _ (HG.out.keep HB.out)).mono ?_
    rintro x W21 ⟨rfl, hB⟩
    have HB : Hid (Below w.heap.size w W21) := HB.out.trans (hB.mono HB.out.size)
    clear hB
    rw [gMul_mod HRB.out k]
    have h31 : 31 < (rdT n).size := by rw [hr]; decide
    have hy := rd_top' n h31
    go_wp2_with fail
    refine (zeroK' _).mono ?_
    rintro x W22 ⟨rfl, hB⟩
    have HB : Hid (Below w.heap.size w W22) := HB.out.trans (hB.mono HB.out.size)
    clear hB
    go_wp2_with fail
    go_returns
    exact ⟨rfl, HB.out⟩
end
end Go.Proofs.YtemdlpcljjdfjaaDoor
/- latchkeep.Scalars: the row, and the card. -/
namespace Go.Proofs.YtemdlpcljjdfjaaDoor
open Go.ChangeShapes Go.WideShapes Go.ChangeAt Go.RowKit
open Go.ChangeMaps (open_string shut_string)

theorem int_inS {n : Int} (h : (Lit.int .i64 n).wf = true) : -9223372036854775808 ≤ n ∧ n ≤ 9223372036854775807 := by
  simp [Lit.wf, IntKind.min, IntKind.max, IntKind.signed, IntKind.bits] at h
  omega
set_option maxRecDepth 100000 in
theorem scalars_contract (H : Type) (enc : TypeId × Value → H) (W : World) (base : Nat) (args : Array Value) (ds gs : List (DataW H)) (before : List MemPlace)
    (hval : ∀ (j : Nat) t v, Tryd.f7.params[j]? = some t → args[j]? = some v → Value.okWide Tryd.prog W .any base t v)
    (hW : DataW.Whole enc Tryd.prog Tryd.f7.params.toList Rows.scalarsSpec.vars false W args.toList ds gs before)
    (_hsz : (DataW.weightsEach Tryd.prog (Tryd.f7.params.toList ++ (OpenSpec.ofChange Rows.scalarsSpec).bare.plain.varTypes Tryd.prog) (ds ++ gs)).all (· ≤ reachBytes) = true)
    (hL : laidMetH Tryd.prog Rows.scalarsRow.laid W) :
    Calls Tryd.prog 7 args W fun e W' => ∃ v, e = .returned v ∧ Rows.scalarsSpec.post enc Tryd.prog Tryd.f7 false true false false W args v W' := by

  have hW' := hW
  obtain ⟨p, q, hA0, hV, rfl, hfz, hnd⟩ := hW
  have hA : DataW.TrodAll enc Tryd.prog W 0 (fun _ => true) true Tryd.f7.params.toList args.toList ds p := hA0
  rw [Tryd.params7] at hA hval
  obtain ⟨v0, vs0, d0, ds0, p0, q0, hargs, rfl, rfl, h0, r0⟩ := trodAll_cons hA
  obtain ⟨v1, vs1, d1, ds1, p1, q1, hargs1, rfl, rfl, h1, r1⟩ := trodAll_cons r0
  obtain ⟨v2, vs2, d2, ds2, p2, q2, hargs2, rfl, rfl, h2, r2⟩ := trodAll_cons r1
  obtain ⟨v3, vs3, d3, ds3, p3, q3, hargs3, rfl, rfl, h3, r3⟩ := trodAll_cons r2
  obtain ⟨rfl, rfl, rfl⟩ := trodAll_nil r3
  obtain rfl : args = #[v0, v1, v2, v3] := by cases args; simp_all
  obtain ⟨rfl, rfl⟩ := trodVars_none hV
  obtain ⟨a0, rfl, rfl, rfl, w0⟩ := open_int Tryd.underlying3 (hval 0 3 v0 rfl rfl) h0
  obtain ⟨a1, rfl, rfl, rfl, w1⟩ := open_string Tryd.underlying9 (hval 1 9 v1 rfl rfl) h1
  obtain ⟨a2, rfl, rfl, rfl, w2⟩ := open_string Tryd.underlying9 (hval 2 9 v2 rfl rfl) h2
  obtain ⟨a3, rfl, rfl, rfl, w3⟩ := open_string Tryd.underlying9 (hval 3 9 v3 rfl rfl) h3
  clear hA0
  have b0 := int_inS w0
  have hO : OrdAt W := order_met (laidMetH.filter (fun x => x.1 == "latch/scalar.order") hL)
  refine (scalars_any a0 a1 a2 a3 b0.1 b0.2 W (glB_of hL (by kernel_rfl) (by kernel_rfl) (by kernel_rfl) (by kernel_rfl) (by kernel_rfl) (by kernel_rfl)) hO).mono fun e W' ⟨he, bel⟩ => ?_
  subst he
  exact ⟨_, rfl, _, _, _, [], _, [], hW', trodAll_mk1 (shut_bool Tryd.underlying4 _), (trodAll_cons_mk (shut_int Tryd.underlying3 w0) (trodAll_cons_mk (shut_string Tryd.underlying9 w1) (trodAll_cons_mk (shut_string Tryd.underlying9 w2) (trodAll_cons_mk (shut_string Tryd.underlying9 w3) trodAll_mk0)))), rfl, bel.frame _, fun h => by cases h⟩

/-- A WORLD FOR THE WITNESS. -/
noncomputable def laidWorldS (os : Os) : World :=
  { laidWorldB os with heap := putR 3 (ordints.map fun z => Value.int .u64 z).toArray (laidWorldB os).heap }
theorem scalars_laid_met (os : Os) : laidMet Tryd.prog Rows.scalarsRow.laid ((laidWorldS os).forCall (fun _ _ => 0) ⟨#[], #[.int .i64 0, .string ByteArray.empty, .string ByteArray.empty, .string ByteArray.empty], []⟩).memory :=
  laidMet_of_run' 200 (by kernel_rfl) (by kernel_rfl)

set_option maxRecDepth 100000 in
theorem scalars_lifted (os : Os) (started : os.Started) (H : Type) (enc : TypeId × Value → H) (F : Stop.Interp) :
    ReturnsInHanded {} Tryd.checked os 7 .any ((OpenSpec.ofChange Rows.scalarsSpec).preRow enc Tryd.prog Tryd.f7 Rows.scalarsRow.domain false Rows.scalarsRow.laid) (((OpenSpec.ofChange Rows.scalarsSpec).at F).post enc Tryd.prog Tryd.f7 false true false false) := by
  refine returnsInHanded_of_row (C := Tryd.checked) (s := OpenSpec.ofChange Rows.scalarsSpec) own started (by kernel_rfl) Tryd.func7
    (witness_row_at (enc := enc) (C := Tryd.checked) false (laidWorldS os) #[.int .i64 0, .string ByteArray.empty, .string ByteArray.empty, .string ByteArray.empty] rfl (by kernel_rfl) (by kernel_rfl) (by kernel_rfl)
      (OpenSpec.preRow_of_cond (x := ([.lit (.int .i64 0), .lit (.string []), .lit (.string []), .lit (.string [])], [], [])) 8 (by kernel_rfl) (by kernel_rfl) (fun k hk => by cases hk) (by kernel_rfl) (scalars_laid_met os))) ?_
  intro W base args ds gs before hval hW _ _ hsz hL _ _
  exact scalars_contract H enc W base args ds gs before hval hW hsz hL

theorem scalars_said : Rows.ScalarsSaid :=
  OpenClaim.holds_of_cond 7 Tryd.f7 rfl rfl rfl rfl rfl rfl rfl ⟨rfl, rfl, rfl, rfl, rfl⟩ rfl rfl rfl rfl rfl (by kernel_rfl) Tryd.func7 (by kernel_rfl)
    (of_decide_eq_true (by kernel_rfl)) (by unfold Func.isWrapper; first | (rw [if_pos (by decide +kernel)]; kernel_rfl) | (rw [if_neg (by decide +kernel)]; exact ⟨rfl, rfl⟩))
    (fun os started H enc _ F => by rw [OpenClaim.pre_eq_preRow]; exact scalars_lifted os started H enc F)

theorem scalars_plain (f : FuncId) (fn : Func) (hf : Tryd.pinned.checked.prog.funcNamed "latch/latchkeep.Scalars" = some f) (hfn : Tryd.pinned.checked.prog.funcs[f]? = some fn) :
    false = Tryd.pinned.checked.prog.looks [] ∧ ∀ (j : Nat) t, fn.params[j]? = some t → Tryd.pinned.checked.prog.wantsStandIn t = false := by
  obtain rfl : f = 7 := Option.some.inj ((show Tryd.prog.funcNamed "latch/latchkeep.Scalars" = some 7 by kernel_rfl).symm.trans hf) |>.symm
  obtain rfl : fn = Tryd.f7 := (Option.some.inj (Tryd.func7.symm.trans hfn)).symm
  refine ⟨by kernel_rfl, fun j t ht => ?_⟩
  rw [Tryd.params7] at ht
  have key : (#[3, 9, 9, 9] : Array TypeId).all (fun t => !(Tryd.prog.wantsStandIn t)) = true := by kernel_rfl
  have := (Array.all_eq_true_iff_forall_mem.1 key) t (Array.mem_of_getElem? ht)
  have h2 : Tryd.prog.wantsStandIn t = false := by simpa using this
  exact h2

/-- THE CARD. -/
theorem scalars_card : Rows.ScalarsCardSaid :=
  Claim7.holds_tied_plain_at .later [] _ _ _ _ scalars_said (fun _ h => by cases h) (by kernel_rfl) (fun _ h => by cases h) scalars_row_tie rfl ⟨rfl, rfl⟩ (by kernel_rfl) rfl scalars_plain (by kernel_rfl)
#print axioms scalars_card
end Go.Proofs.YtemdlpcljjdfjaaDoor
