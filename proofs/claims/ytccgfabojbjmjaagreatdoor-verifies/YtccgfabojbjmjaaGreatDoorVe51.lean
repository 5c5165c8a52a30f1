import Derived.Test.YtccgfabojbjmjaaGreatDoorVe50
namespace Go.Proofs.YtccgfabojbjmjaaGreatDoor
open Go.RowKit
abbrev oRefVer15 : Oper := ⟨some 13, .alloc 98, 0, "sign.go:64", #[], none⟩
abbrev oRefVer16 : Oper := ⟨none, .store 98 (.tmp 13) (.tmp 62), 0, "sign.go:64", #[zeD 11, zeD 10, zeC 10, zeP 0, zeP 1, zeP 2, zeP 3, zeP 4, zeP 5, zeP 6, zeP 7, zeP 8, zeP 9, zeP 10, zeP 11], none⟩
theorem hrunOrd {a : Act} {o : Oper} (ho : o.op = .call { callee := .value (.func 77), args := #[], argTypes := #[] }) (w : World) :
  (execOp a.eval o).run Tryz.prog w = .ok (.enter 77 #[]) w := by
 unfold execOp
 simp only [ho]
 go_simp
theorem hrunBelow {a : Act} {o : Oper} (x y : Operand) (ho : o.op = .call { callee := .value (.func 76), args := #[x, y], argTypes := #[91, 91] }) (v1 v2 : Value) (hx : a.eval x = v1) (hy : a.eval y = v2) (w : World) :
  (execOp a.eval o).run Tryz.prog w = .ok (.enter 76 #[v1, v2]) w := by
 unfold execOp
 simp only [ho]
 subst hx hy
 go_simp
theorem hrunPlusD {a : Act} {o : Oper} (x y z : Operand) (ho : o.op = .call { callee := .value (.func 67), args := #[x, y, z], argTypes := #[95, 98, 98] }) (v1 v2 v3 : Value) (hx : a.eval x = v1) (hy : a.eval y = v2) (hz : a.eval z = v3) (w : World) :
  (execOp a.eval o).run Tryz.prog w = .ok (.enter 67 #[v1, v2, v3]) w := by
 unfold execOp
 simp only [ho]
 subst hx hy hz
 go_simp
theorem ordN (R : Array Value) (hR : R = (Lrow.map iv).toArray) (w : World) : Calls Tryz.prog 77 #[] w fun e w' => e = .returned (.agg R) ∧ Below w.heap.size w w' := by rw [hR]; exact order_any w
theorem LI_L : LI = ((Lord : Nat) : Int) := rfl
theorem belowN (n : Nat) (hn : n < 115792089237316195423570985008687907853269984665640564039457584007913129639936) (l : List UInt8) (hl : l = leB n 32) (R : Array Value) (hR : R = (Lrow.map iv).toArray) (w : World) :
  Calls Tryz.prog 76 #[.agg (sA l), .agg R] w fun e w' => e = .returned (.bool (decide (n < Lord))) ∧ Below w.heap.size w w' := by
 have h := below_row (dB 65536 17 (n : Int)) (dB_length _ _ _) (dB_lt _ (by decide) _ _) R hR w
 rw [vB_full n hn, LI_L] at h
 rw [hl, sA_dB n hn]
 refine h.mono ?_
 rintro e w' ⟨rfl, hB⟩
 refine ⟨?_, hB⟩
 have : decide ((n : Int) < ((Lord : Nat) : Int)) = decide (n < Lord) := by
  by_cases c : n < Lord
  · rw [decide_eq_true c, decide_eq_true (Int.ofNat_lt.2 c)]
  · rw [decide_eq_false c, decide_eq_false (fun h => c (Int.ofNat_lt.1 h))]
 rw [this]
theorem setCells_full (g : Nat) (t : TypeId) (fr : Nat × Nat) : ∀ (vs : List Value) (o : Nat) (cur : List Value) (w : World), w.heap[g]? = some (.cells cur.toArray t fr) → o + vs.length ≤ cur.length →
  (w.setCells g o vs).heap[g]? = some (.cells (cur.take o ++ vs ++ cur.drop (o + vs.length)).toArray t fr)
 | [], o, cur, w, hg, _ => by simpa [World.setCells] using hg
 | v :: r, o, cur, w, hg, hl => by
  have hl' : o + (r.length + 1) ≤ cur.length := by simpa using hl
  have h1 : (w.setCell ⟨g, o, none⟩ v).heap[g]? = some (.cells (cur.set o v).toArray t fr) := by
   rw [setCell_eq_setRow w g o cur.toArray t fr v hg]
   have := setRow_heap w g cur.toArray (cur.toArray.setIfInBounds o v) t fr hg
   simpa using this
  have ih := setCells_full g t fr r (o + 1) (cur.set o v) _ h1 (by simp; omega)
  show ((w.setCell ⟨g, o, none⟩ v).setCells g (o + 1) r).heap[g]? = _
  rw [ih]
  have e1 : (cur.set o v).take (o + 1) = cur.take o ++ [v] := by
   rw [List.take_succ_eq_append_getElem (by simp; omega), List.take_set_of_le (Nat.le_refl _)]; simp
  have e2 : (cur.set o v).drop (o + 1 + r.length) = cur.drop (o + (v :: r).length) := by
   rw [List.drop_set_of_lt (by omega)]; congr 1; simp; omega
  rw [e1, e2]; simp
theorem q_head {w : World} {g x : Nat} {p : Q3} {T : TypeId} {fr : Nat × Nat} (h : w.heap[g]? = some (.cells (qA p) T fr)) : (w.setCells g 0 (fL x)).heap[g]? = some (.cells (qA ⟨x, p.y, p.z⟩) T fr) := by
 have e := setCells_full g T fr (fL x) 0 (qL p) w h (by rw [fL_len, qL_len]; decide)
 rw [e]
 unfold qA qL
 rw [List.take_zero, List.nil_append, Nat.zero_add, fL_len, List.append_assoc, List.append_assoc, ← fL_len p.x, List.drop_left]
theorem q_there {w : World} {g : Nat} {p : Q3} {T : TypeId} (h : w.heap[g]? = some (.cells (qA p) T (0, 0))) : w.there g 0 10 := fun j hj => by
 refine ⟨?_, frozen_of_row w g (0 + j) _ _ h⟩
 rw [cell_of_row w g (0 + j) _ T _ h, qA, List.getElem?_toArray, List.getElem?_eq_getElem (by rw [qL_len]; omega)]
 rfl
theorem below_cells {B : Nat} {a w : World} (h : Below B a w) {g : Nat} (hg : B ≤ g) (o : Nat) (vs : List Value) : Below B a (w.setCells g o vs) := by
 obtain ⟨h1, h2, h3⟩ := setCells_rest g vs o w
 exact ⟨h1.trans h.os, h2.trans h.tape, h3.trans h.output, by rw [setCells_size]; exact h.size, fun k hk => (setCells_other g k (by omega) vs o w).trans (h.block k hk)⟩
theorem str_neb {a b : ByteArray} (h : a ≠ b) : (a.toList == b.toList) = false := by
 rw [beq_eq_false_iff_ne]
 intro e
 rw [ByteArray.toList_eq, ByteArray.toList_eq] at e
 exact h (by rw [← strOf_bytesOf a, ← strOf_bytesOf b]; exact congrArg strOf e)
theorem str_eqb {a b : ByteArray} (h : a = b) : (a.toList == b.toList) = true := by rw [h]; exact beq_self_eq_true _
theorem fA_L (x : Nat) : (fA x).toList = fL x := rfl
theorem size_drop (s : ByteArray) (n : Nat) (_ : n ≤ s.size) : (s.extract n s.size).size = s.size - n := by
 rw [← strOf_bytesOf s, strOf_drop, strOf_sizeS, List.length_drop, strOf_sizeS]
theorem bytes_drop (s : ByteArray) (n : Nat) : bytesOf (s.extract n s.size) = (bytesOf s).drop n := by
 have := strOf_drop (bytesOf s) n
 rw [strOf_bytesOf] at this
 rw [this, bytesOf_strOf]
theorem bytes_take (s : ByteArray) (n : Nat) : bytesOf (s.extract 0 n) = (bytesOf s).take n := by
 have := strOf_take (bytesOf s) n
 rw [strOf_bytesOf] at this
 rw [this, bytesOf_strOf]
noncomputable def rvK (k m g : ByteArray) : Nat := valLE (hashOf ((bytesOf g).take 32 ++ bytesOf k ++ bytesOf m)) % Lord
noncomputable def rvQ (k m g : ByteArray) : Q3 := plusD crvD (tmQ crvD ((bytesOf g).drop 32) (pofQ crvD bqT) 256) (tmQ crvD (leB (rvK k m g) 32) ⟨sP 0 (pofQ crvD k).x, (pofQ crvD k).y, (pofQ crvD k).z⟩ 256)
noncomputable def rvE (k m g : ByteArray) : Int := if k.size = 32 ∧ g.size = 64 then (if pofB crvD k = true then (if valLE ((bytesOf g).drop 32) < Lord then (if codeD (rvQ k m g) = g.extract 0 32 then 0 else 4) else 3) else 2) else 1
section
attribute [local irreducible] fA fL qA qL sA sLs crvD pofB pofQ codeD tmQ plusD
set_option maxRecDepth 100000 in
set_option maxHeartbeats 4000000 in
theorem refVerifyA (ky m g : ByteArray) (hm : m.size ≤ 140737488351232) (w : World) :
  Calls Tryz.prog 42 #[.string ky, .string m, .string g] w fun e w' => e = .returned (.int .i64 (rvE ky m g)) ∧ Below w.heap.size w w' := by
 have hz := zeroFA
 have hzq := zeroQ
 have hzs := zeroS
 have Hm := hide hm
 clear hm
 go_enter Tryz.func42, Tryz.ntmps42
 by_cases h32 : ky.size = 32
 case neg =>
  have b32 : ((ky.size : Int) != 32) = true := by rw [bne_iff_ne]; omega
  have HN := hide h32
  clear h32
  go_wp2_with fail
  go_returns
  refine ⟨?_, Below.refl _ _⟩
  unfold rvE
  rw [if_neg (fun h => HN.out h.1)]; rfl
 case pos =>
 have b32 : ((ky.size : Int) != 32) = false := by rw [h32]; rfl
 have Hk := hide h32
 clear h32
 by_cases h64 : g.size = 64
 case neg =>
  have b64 : ((g.size : Int) != 64) = true := by rw [bne_iff_ne]; omega
  have HN := hide h64
  clear h64
  go_wp2_with fail
  go_returns
  refine ⟨?_, Below.refl _ _⟩
  unfold rvE
  rw [if_neg (fun h => HN.out h.2)]; rfl
 case pos =>
 have b64 : ((g.size : Int) != 64) = false := by rw [h64]; rfl
 have Hg := hide h64
 clear h64
 go_wp2_with fail
 refine (curveA _).mono ?_
 rintro e W1 ⟨rfl, hB⟩
 have BL := hide hB
 clear hB b32 b64
 obtain ⟨d, Ed⟩ : ∃ d, Hid (d = crvD) := ⟨_, hide rfl⟩
 have Hd : Hid (d < P) := by rw [Ed.out]; exact crvD_lt
 rw [← Ed.out]
 go_upto_region 4 with (first | (refine wpList_store_row (by rfl) 95 (.tmp 7) (.tmp 23) (by rfl) W1.heap.size (fA d) (by rfl) (by rfl) 95 _ (heap_alloc_new _ _) (fA_size _) (fA_old _ _) (fA_all _) ?_))
 try rw [put_none']
 obtain ⟨g7, hg7⟩ : ∃ q, q = W1.heap.size := ⟨_, rfl⟩
 generalize hW2 : World.setRow _ _ _ = W2
 have RD : Hid (W2.heap[g7]? = some (.cells (fA d) 95 (0, 0))) := by rw [← hW2, hg7]; exact setRow_heap _ _ _ _ _ _ (heap_alloc_new _ _)
 have BL : Hid (Below w.heap.size w W2) := by rw [← hW2]; exact below_setRow (BL.out.alloc BL.out.size _) BL.out.size _
 rw [← hg7]
 clear hW2 hg7
 go_wp2_with (first | (refine wpList_load_row (by rfl) 95 (.tmp 7) (by rfl) (g7) (by rfl) 95 (fA d) (0, 0) _ RD.out underF rfl (fA_size _) ?_))
 refine (pointOfA d ky Hd.out _).mono ?_
 rintro e W3 ⟨rfl, hB⟩
 have RD := hide (row_keep' RD.out hB)
 have BL := kTr BL hB
 clear hB
 obtain ⟨p, Ep⟩ : ∃ p, Hid (p = pofQ d ky) := ⟨_, hide rfl⟩
 obtain ⟨b1, Eb1⟩ : ∃ b, Hid (b = pofB d ky) := ⟨_, hide rfl⟩
 have Hp : Hid p.Ok := by rw [Ep.out]; exact pofQ_ok _ _
 rw [← Ep.out, ← Eb1.out]
 go_upto_region 5 with (first | (refine wpList_store_row (by rfl) 98 (.tmp 8) (.tmp 28) (by rfl) W3.heap.size (qA p) (by rfl) (by rfl) 98 _ (heap_alloc_new _ _) (qA_size _) (qA_old _ _) (qA_all _) ?_))
 try rw [put_none']
 obtain ⟨g8, hg8⟩ : ∃ q, q = W3.heap.size := ⟨_, rfl⟩
 generalize hW4 : World.setRow _ _ _ = W4
 have K4 : Hid (Below W3.heap.size W3 W4) := by rw [← hW4]; exact below_setRow ((Below.refl _ _).alloc (Nat.le_refl _) _) (Nat.le_refl _) _
 have RA : Hid (W4.heap[g8]? = some (.cells (qA p) 98 (0, 0))) := by rw [← hW4, hg8]; exact setRow_heap _ _ _ _ _ _ (heap_alloc_new _ _)
 have hgz : w.heap.size ≤ g8 := by rw [hg8]; exact BL.out.size
 have h87 : g7 < g8 := by rw [hg8]; exact lt_row RD.out
 have RD := hide (row_keep' RD.out K4.out)
 have BL : Hid (Below w.heap.size w W4) := BL.out.trans (K4.out.mono BL.out.size)
 rw [← hg8]
 clear hW4 hg8 K4
 cases b1
 case false =>
  go_wp2_with fail
  go_returns
  refine ⟨?_, BL.out⟩
  unfold rvE
  rw [if_pos ⟨Hk.out, Hg.out⟩, ← Ed.out, ← Eb1.out, if_neg (by decide)]; rfl
 case true =>
  obtain ⟨T2, ET2⟩ : ∃ T, Hid (T = g.extract 32 g.size) := ⟨_, hide rfl⟩
  have HT2 : Hid (T2.size = 32) := by show _ = _; rw [ET2.out, size_drop g 32 (by rw [Hg.out]; decide), Hg.out]
  have bT2 : Hid (bytesOf T2 = (bytesOf g).drop 32) := by show _ = _; rw [ET2.out]; exact bytes_drop g 32
  have hg1 : (32 : Int) ≤ (g.size : Int) := by have := Hg.out; omega
  have hx1 : g.extract 32 g.size = T2 := ET2.out.symm
  go_wp2_with fail
  try rw [hx1]
  refine (scalarOfA T2 HT2.out _).mono ?_
  rintro e W4b ⟨rfl, hB⟩
  have RD := hide (row_keep' RD.out hB)
  have RA := hide (row_keep' RA.out hB)
  have BL := kTr BL hB
  clear hB
  obtain ⟨ls, Els0⟩ : ∃ l, Hid (l = bytesOf T2) := ⟨_, hide rfl⟩
  rw [← Els0.out]
  have lls : ls.length = 32 := by rw [Els0.out, bytesOf_length, HT2.out]
  obtain ⟨sn, Esn⟩ : ∃ l, Hid (l = valLE ls) := ⟨_, hide rfl⟩
  have Els : Hid (ls = leB sn 32) := by show _ = _; rw [Esn.out]; exact (leB_valLE ls lls).symm
  have Hsn : Hid (sn < 115792089237316195423570985008687907853269984665640564039457584007913129639936) := by rw [Esn.out]; exact valLE_lt32 ls lls
  have EsN : Hid (sn = valLE ((bytesOf g).drop 32)) := by show _ = _; rw [Esn.out, Els0.out, bT2.out]
  clear lls
  go_upto_region 8 with (first | (refine wpList_store_row (by rfl) 91 (.tmp 10) (.tmp 34) (by rfl) W4b.heap.size (sA ls) (by rfl) (by rfl) 91 _ (heap_alloc_new _ _) (sA_size _) (sA_old _) (sA_all _) ?_))
  try rw [put_none']
  obtain ⟨g10, hg10⟩ : ∃ q, q = W4b.heap.size := ⟨_, rfl⟩
  generalize hW5 : World.setRow _ _ _ = W5
  have K5 : Hid (Below W4b.heap.size W4b W5) := by rw [← hW5]; exact below_setRow ((Below.refl _ _).alloc (Nat.le_refl _) _) (Nat.le_refl _) _
  have RS : Hid (W5.heap[g10]? = some (.cells (sA ls) 91 (0, 0))) := by rw [← hW5, hg10]; exact setRow_heap _ _ _ _ _ _ (heap_alloc_new _ _)
  have h108 : g8 < g10 := by rw [hg10]; exact lt_row RA.out
  have RD := hide (row_keep' RD.out K5.out)
  have RA := hide (row_keep' RA.out K5.out)
  have BL : Hid (Below w.heap.size w W5) := BL.out.trans (K5.out.mono BL.out.size)
  rw [← hg10]
  clear hW5 hg10 K5
  obtain ⟨RO, ERO⟩ : ∃ R, Hid (R = (Lrow.map iv).toArray) := ⟨_, hide rfl⟩
  refine wp_region_held_drew (S := fun w' => w'.rangeAt g10 0 (sLs ls)) (by kernel_rfl) (rangeS RS.out) (fun hHeld => ?_)
  have KV1 : Hid (Below W5.heap.size W5 W5.drew) := (Below.refl _ _).drew
  obtain ⟨V1, hV1⟩ : ∃ V, V = W5.drew := ⟨_, rfl⟩
  rw [← hV1] at hHeld KV1 ⊢
  clear hV1
  refine wpAnyH_take (i := 0) (oi := ⟨some 35, .load 91 (.tmp 10), 91, "sign.go:58", #[], none⟩) (v := .agg (sA ls)) rfl (by kernel_rfl) (by kernel_rfl) (by kernel_rfl) (fun _ _ _ h => h) (yldS (by rfl) _ rfl g10 0 ls rfl (fun w h => h)) hHeld ?_
  simp only [zaP, zsT, zsZ, zsS]
  refine wpAnyH_ready (rs := [1]) (by kernel_rfl) (by simp) ?_
  refine AllReadyH.cons (o := ⟨some 36, .call ⟨.value (.func 77), #[], #[]⟩, 91, "sign.go:58", #[], none⟩) rfl (fun K hK => ?_) AllReadyH.nil
  refine step_callTo (by rfl) _ _ (hrunOrd rfl V1) _ _ (ordN RO ERO.out V1) (fun V2 HBx => ?_)
  have KV2 := kTr KV1 HBx
  clear HBx
  refine hK.out _ _ ?_ (fun hHeld => ?_)
  · exact range_below (rangeS RS.out) KV2.out (lt_row RS.out)
  clear hK K
  try simp only [zaP, zsT, zsZ, zsS]
  refine wpAnyH_ready (rs := [2]) (by kernel_rfl) (by simp) ?_
  refine AllReadyH.cons (o := ⟨some 37, .call ⟨.value (.func 76), #[.tmp 35, .tmp 36], #[91, 91]⟩, 4, "sign.go:58", #[zeD 0, zeD 1, zeC 1], none⟩) rfl (fun K hK => ?_) AllReadyH.nil
  refine step_callTo (by rfl) _ _ (hrunBelow _ _ rfl (.agg (sA ls)) (.agg RO) rfl rfl V2) _ _ (belowN sn Hsn.out ls Els.out RO ERO.out V2) (fun V3 HBx => ?_)
  have KV3 := kTr KV2 HBx
  clear HBx
  refine hK.out _ _ ?_ (fun hHeld => ?_)
  · exact range_below (rangeS RS.out) KV3.out (lt_row RS.out)
  clear hK K
  try simp only [zaP, zsT, zsZ, zsS]
  refine wpAnyH_take (i := 3) (oi := ⟨some 11, .assign (.tmp 37), 4, "sign.go:58", #[zeD 2, zeC 2, zeP 0, zeP 1, zeP 2], none⟩) (v := .bool (decide (sn < Lord))) rfl (by kernel_rfl) (by kernel_rfl) (by kernel_rfl) (fun _ _ _ h => h) (Or.inl ⟨by rfl, fun w _ => by go_simp⟩) hHeld ?_
  simp only [zaP, zsT, zsZ, zsS]
  refine wpAnyH_done (by kernel_rfl) ?_ _
  have KF : Hid (Below W5.heap.size W5 V3) := KV3
  obtain ⟨W6, hW6⟩ : ∃ W, W = V3 := ⟨_, rfl⟩
  rw [← hW6] at KF ⊢
  clear hW6
  have RD := hide (row_keep' RD.out KF.out)
  have RA := hide (row_keep' RA.out KF.out)
  have RS := hide (row_keep' RS.out KF.out)
  have BL : Hid (Below w.heap.size w W6) := BL.out.trans (KF.out.mono BL.out.size)
  clear KF
  by_cases hlt : sn < Lord
  case neg =>
   rw [decide_eq_false hlt]
   have HN := hide hlt
   clear hlt
   go_wp2_with fail
   go_returns
   refine ⟨?_, BL.out⟩
   unfold rvE
   rw [if_pos ⟨Hk.out, Hg.out⟩, ← Ed.out, ← Eb1.out, if_pos rfl, ← EsN.out, if_neg HN.out]; rfl
  case pos =>
   rw [decide_eq_true hlt]
   have Hlt := hide hlt
   clear hlt
   obtain ⟨T1, ET1⟩ : ∃ T, Hid (T = g.extract 0 32) := ⟨_, hide rfl⟩
   have bT1 : Hid (bytesOf T1 = (bytesOf g).take 32) := by show _ = _; rw [ET1.out]; exact bytes_take g 32
   have HT1 : Hid (T1.size = 32) := by show _ = _; rw [← bytesOf_length, bT1.out, List.length_take, bytesOf_length, Hg.out]; rfl
   have hx2 : g.extract 0 32 = T1 := ET1.out.symm
   have hs2 : T1.size + ky.size ≤ 9223372036854775807 := by have := HT1.out; have := Hk.out; omega
   have hs3 : (T1 ++ ky).size + m.size ≤ 9223372036854775807 := by rw [size_add]; have := Hm.out; have := HT1.out; have := Hk.out; omega
   go_wp2_with fail
   clear hs2 hs3
   try rw [hx2]
   obtain ⟨k, Ek⟩ : ∃ r, Hid (r = rvK ky m g) := ⟨_, hide rfl⟩
   refine (refHashed (T1 ++ ky ++ m) (by have := Hm.out; rw [size_add, size_add, HT1.out, Hk.out]; omega) k (by rw [Ek.out, bytesOf_add, bytesOf_add, bT1.out]; rfl) _).mono ?_
   rintro e W7 ⟨rfl, hB⟩
   have RD := hide (row_keep' RD.out hB)
   have RA := hide (row_keep' RA.out hB)
   have RS := hide (row_keep' RS.out hB)
   have BL := kTr BL hB
   clear hB
   obtain ⟨lk, Elk⟩ : ∃ l, Hid (l = leB k 32) := ⟨_, hide rfl⟩
   rw [← Elk.out]
   go_upto_region 12 with (first | (refine wpList_store_row (by rfl) 91 (.tmp 12) (.tmp 46) (by rfl) W7.heap.size (sA lk) (by rfl) (by rfl) 91 _ (heap_alloc_new _ _) (sA_size _) (sA_old _) (sA_all _) ?_))
   try rw [put_none']
   obtain ⟨g12, hg12⟩ : ∃ q, q = W7.heap.size := ⟨_, rfl⟩
   generalize hW7c : World.setRow _ _ _ = W7c
   have K7 : Hid (Below W7.heap.size W7 W7c) := by rw [← hW7c]; exact below_setRow ((Below.refl _ _).alloc (Nat.le_refl _) _) (Nat.le_refl _) _
   have RK : Hid (W7c.heap[g12]? = some (.cells (sA lk) 91 (0, 0))) := by rw [← hW7c, hg12]; exact setRow_heap _ _ _ _ _ _ (heap_alloc_new _ _)
   have h1210 : g10 < g12 := by rw [hg12]; exact lt_row RS.out
   have RD := hide (row_keep' RD.out K7.out)
   have RA := hide (row_keep' RA.out K7.out)
   have RS := hide (row_keep' RS.out K7.out)
   have BL : Hid (Below w.heap.size w W7c) := BL.out.trans (K7.out.mono BL.out.size)
   rw [← hg12]
   clear hW7c hg12 K7
   have rQ := hide (rangeQ RA.out).1
   have hfo : (fL p.x).toArray = fA p.x := by rw [← fA_L]
   go_wp2_with (first | (refine wpList_load_mid (by rfl) 95 (.tmp 48) (by rfl) g8 0 (by rfl) (fL p.x) _ rQ.out underF rfl (fL_size _) ?_))
   refine (subA' 0 p.x zero_lt Hp.out.x _).mono ?_
   rintro e W7d ⟨rfl, hB⟩
   have RD := hide (row_keep' RD.out hB)
   have RA := hide (row_keep' RA.out hB)
   have RS := hide (row_keep' RS.out hB)
   have RK := hide (row_keep' RK.out hB)
   have BL := kTr BL hB
   clear hB rQ hfo
   obtain ⟨x', Ex'⟩ : ∃ r, Hid (r = sP 0 p.x) := ⟨_, hide rfl⟩
   rw [← Ex'.out]
   have hx'P : Hid (x' < P) := by rw [Ex'.out]; exact sP_lt _ _
   have fs : Hid ((fA x').size = 10) := by show _ = _; rw [← Array.length_toList, fA_L, fL_len]
   go_upto_region 13 with (first | (refine wpList_store_mid (by rfl) 95 (.tmp 51) (.tmp 50) (by rfl) g8 0 (fA x') (by rfl) (by rfl) (by rw [fs.out]; exact q_there RA.out) (fA_size _) (fA_all _) ?_))
   try rw [put_none']
   generalize hW8 : World.setCells _ _ _ _ = W8
   obtain ⟨a, Ea⟩ : ∃ a : Q3, Hid (a = ⟨x', p.y, p.z⟩) := ⟨_, hide rfl⟩
   have Ha : Hid a.Ok := by rw [Ea.out]; exact ⟨hx'P.out, Hp.out.y, Hp.out.z⟩
   have RA : Hid (W8.heap[g8]? = some (.cells (qA a) 98 (0, 0))) := by rw [← hW8, fA_L, Ea.out]; exact q_head RA.out
   have RD : Hid (W8.heap[g7]? = some (.cells (fA d) 95 (0, 0))) := by rw [← hW8]; exact (setCells_other _ _ (by omega) _ _ _).trans RD.out
   have RS : Hid (W8.heap[g10]? = some (.cells (sA ls) 91 (0, 0))) := by rw [← hW8]; exact (setCells_other _ _ (by omega) _ _ _).trans RS.out
   have RK : Hid (W8.heap[g12]? = some (.cells (sA lk) 91 (0, 0))) := by rw [← hW8]; exact (setCells_other _ _ (by omega) _ _ _).trans RK.out
   have BL : Hid (Below w.heap.size w W8) := by rw [← hW8]; exact below_cells BL.out hgz _ _
   clear hW8
   obtain ⟨Bq, EBq⟩ : ∃ d, Hid (d = pofQ crvD bqT) := ⟨_, hide rfl⟩
   have HBq : Hid Bq.Ok := by rw [EBq.out]; exact pofQ_ok _ _
   have lD := lt_row RD.out
   have lS := lt_row RS.out
   have lK := lt_row RK.out
   have lA := lt_row RA.out
   have sat13 : ∀ {V : World}, Below W8.heap.size W8 V → V.rangeAt g7 0 (fL d) ∧ V.rangeAt g10 0 (sLs ls) ∧ V.rangeAt g12 0 (sLs lk) ∧ V.rangeAt g8 0 (qL a) := fun h =>
    ⟨range_below (rangeF RD.out) h lD, range_below (rangeS RS.out) h lS, range_below (rangeS RK.out) h lK, range_below (rangeQA RA.out) h lA⟩
   have satset13 : ∀ {V : World} {q : Nat} {cs : Array Value}, Below W8.heap.size W8 V → W8.heap.size ≤ q → (V.setRow q cs).rangeAt g7 0 (fL d) ∧ (V.setRow q cs).rangeAt g10 0 (sLs ls) ∧ (V.setRow q cs).rangeAt g12 0 (sLs lk) ∧ (V.setRow q cs).rangeAt g8 0 (qL a) := fun h hq =>
    ⟨range_set (sat13 h).1 (by omega), range_set (sat13 h).2.1 (by omega), range_set (sat13 h).2.2.1 (by omega), range_set (sat13 h).2.2.2 (by omega)⟩
   go_cut [13] from 52 to 62 (fun s' wx => ∃ g, s' = .pointer (some ⟨g, 0, none⟩) ∧ Hid (wx.heap[g]? = some (.cells (qA (plusD d (tmQ d ls Bq 256) (tmQ d lk a 256))) 98 (0, 0))) ∧ Hid (Below W8.heap.size W8 wx))
   case first =>
    refine wp_region_held_drew (S := fun w' => w'.rangeAt g7 0 (fL d) ∧ w'.rangeAt g10 0 (sLs ls) ∧ w'.rangeAt g12 0 (sLs lk) ∧ w'.rangeAt g8 0 (qL a)) (by kernel_rfl) ⟨rangeF RD.out, rangeS RS.out, rangeS RK.out, rangeQA RA.out⟩ (fun hHeld => ?_)
    have KV1 : Hid (Below W8.heap.size W8 W8.drew) := (Below.refl _ _).drew
    obtain ⟨V1, hV1⟩ : ∃ V, V = W8.drew := ⟨_, rfl⟩
    rw [← hV1] at hHeld KV1 ⊢
    clear hV1
    refine wpAnyH_take (i := 0) (oi := ⟨some 52, .load 95 (.tmp 7), 95, "sign.go:64", #[], none⟩) (v := .agg (fA d)) rfl (by kernel_rfl) (by kernel_rfl) (by kernel_rfl) (fun _ _ _ h => h) (yldF (by rfl) _ rfl g7 0 d rfl (fun w h => h.1)) hHeld ?_
    simp only [zaP, zsT, zsZ, zsS]
    refine wpAnyH_take (i := 1) (oi := ⟨some 53, .load 95 (.tmp 7), 95, "sign.go:64", #[], none⟩) (v := .agg (fA d)) rfl (by kernel_rfl) (by kernel_rfl) (by kernel_rfl) (fun _ _ _ h => h) (yldF (by rfl) _ rfl g7 0 d rfl (fun w h => h.1)) hHeld ?_
    simp only [zaP, zsT, zsZ, zsS]
    refine wpAnyH_take (i := 2) (oi := ⟨some 54, .load 91 (.tmp 10), 91, "sign.go:64", #[], none⟩) (v := .agg (sA ls)) rfl (by kernel_rfl) (by kernel_rfl) (by kernel_rfl) (fun _ _ _ h => h) (yldS (by rfl) _ rfl g10 0 ls rfl (fun w h => h.2.1)) hHeld ?_
    simp only [zaP, zsT, zsZ, zsS]
    refine wpAnyH_take (i := 3) (oi := ⟨some 55, .load 95 (.tmp 7), 95, "sign.go:64", #[], none⟩) (v := .agg (fA d)) rfl (by kernel_rfl) (by kernel_rfl) (by kernel_rfl) (fun _ _ _ h => h) (yldF (by rfl) _ rfl g7 0 d rfl (fun w h => h.1)) hHeld ?_
    simp only [zaP, zsT, zsZ, zsS]
    refine wpAnyH_take (i := 6) (oi := ⟨some 58, .load 95 (.tmp 7), 95, "sign.go:64", #[], none⟩) (v := .agg (fA d)) rfl (by kernel_rfl) (by kernel_rfl) (by kernel_rfl) (fun _ _ _ h => h) (yldF (by rfl) _ rfl g7 0 d rfl (fun w h => h.1)) hHeld ?_
    simp only [zaP, zsT, zsZ, zsS]
    refine wpAnyH_take (i := 7) (oi := ⟨some 59, .load 91 (.tmp 12), 91, "sign.go:64", #[], none⟩) (v := .agg (sA lk)) rfl (by kernel_rfl) (by kernel_rfl) (by kernel_rfl) (fun _ _ _ h => h) (yldS (by rfl) _ rfl g12 0 lk rfl (fun w h => h.2.2.1)) hHeld ?_
    simp only [zaP, zsT, zsZ, zsS]
    refine wpAnyH_take (i := 8) (oi := ⟨some 60, .load 98 (.tmp 8), 98, "sign.go:64", #[], none⟩) (v := .agg (qA a)) rfl (by kernel_rfl) (by kernel_rfl) (by kernel_rfl) (fun _ _ _ h => h) (yldQ (by rfl) _ rfl g8 0 a rfl (fun w h => h.2.2.2)) hHeld ?_
    simp only [zaP, zsT, zsZ, zsS]
    refine wpAnyH_ready (rs := [4, 11]) (by kernel_rfl) (by simp) ?_
    refine AllReadyH.cons (o := ⟨some 56, .call ⟨.value (.func 35), #[.tmp 55], #[95]⟩, 98, "sign.go:64", #[zeD 3], none⟩) rfl (fun K hK => ?_) ?_
    ·
     refine step_callTo (by rfl) _ _ (hrunBaseD _ rfl (.agg (fA d)) rfl V1) _ _ (refBase d Ed.out Bq EBq.out V1) (fun V2 HBx => ?_)
     have KV2 := kTr KV1 HBx
     clear HBx
     refine hK.out _ _ ?_ (fun hHeld => ?_)
     · exact sat13 KV2.out
     clear hK K
     try simp only [zaP, zsT, zsZ, zsS]
     refine wpAnyH_ready (rs := [5, 11]) (by kernel_rfl) (by simp) ?_
     refine AllReadyH.cons (o := ⟨some 57, .call ⟨.value (.func 34), #[.tmp 53, .tmp 54, .tmp 56], #[95, 91, 98]⟩, 98, "sign.go:64", #[zeD 1, zeD 2, zeD 4, zeC 4], none⟩) rfl (fun K hK => ?_) ?_
     ·
      refine step_callTo (by rfl) _ _ (hrunTimesD _ _ _ rfl (.agg (fA d)) (.agg (sA ls)) (.agg (qA Bq)) rfl rfl rfl V2) _ _ (timesA d Hd.out ls Bq HBq.out V2) (fun V3 HBx => ?_)
      have KV3 := kTr KV2 HBx
      clear HBx
      refine hK.out _ _ ?_ (fun hHeld => ?_)
      · exact sat13 KV3.out
      clear hK K
      try simp only [zaP, zsT, zsZ, zsS]
      refine wpAnyH_ready (rs := [9, 11]) (by kernel_rfl) (by simp) ?_
      refine AllReadyH.cons (o := ⟨some 61, .call ⟨.value (.func 34), #[.tmp 58, .tmp 59, .tmp 60], #[95, 91, 98]⟩, 98, "sign.go:64", #[zeD 6, zeD 7, zeD 8, zeC 5], none⟩) rfl (fun K hK => ?_) ?_
      ·
       refine step_callTo (by rfl) _ _ (hrunTimesD _ _ _ rfl (.agg (fA d)) (.agg (sA lk)) (.agg (qA a)) rfl rfl rfl V3) _ _ (timesA d Hd.out lk a Ha.out V3) (fun V4 HBx => ?_)
       have KV4 := kTr KV3 HBx
       clear HBx
       refine hK.out _ _ ?_ (fun hHeld => ?_)
       · exact sat13 KV4.out
       clear hK K
       try simp only [zaP, zsT, zsZ, zsS]
       refine wpAnyH_ready (rs := [10, 11]) (by kernel_rfl) (by simp) ?_
       refine AllReadyH.cons (o := ⟨some 62, .call ⟨.value (.func 67), #[.tmp 52, .tmp 57, .tmp 61], #[95, 98, 98]⟩, 98, "sign.go:64", #[zeD 0, zeD 5, zeD 9, zeC 9], none⟩) rfl (fun K hK => ?_) ?_
       ·
        refine step_callTo (by rfl) _ _ (hrunPlusD _ _ _ rfl (.agg (fA d)) (.agg (qA (tmQ d ls Bq 256))) (.agg (qA (tmQ d lk a 256))) rfl rfl rfl V4) _ _ (plusA d (tmQ d ls Bq 256) (tmQ d lk a 256) Hd.out (tmQ_ok _ _ _ _) (tmQ_ok _ _ _ _) V4) (fun V5 HBx => ?_)
        have KV5 := kTr KV4 HBx
        clear HBx
        refine hK.out _ _ ?_ (fun hHeld => ?_)
        · exact sat13 KV5.out
        clear hK K
        try simp only [zaP, zsT, zsZ, zsS]
        refine wpAnyH_ready (rs := [11]) (by kernel_rfl) (by simp) ?_
        refine AllReadyH.cons (o := oRefVer15) rfl (fun K hK => ?_) AllReadyH.nil
        refine step_runTo (w' := V5.alloc (.cells (qA q0) 98)) (by rfl) (.pointer (some ⟨V5.heap.size, 0, none⟩)) (hrunAllocQ rfl V5) ?_
        obtain ⟨gg6, hgg6⟩ : ∃ g, g = V5.heap.size := ⟨_, rfl⟩
        have ZN : Hid ((V5.alloc (.cells (qA q0) 98)).heap[gg6]? = some (.cells (qA q0) 98 (0, 0))) := by rw [hgg6]; exact heap_alloc_new _ _
        have KV6 : Hid (Below W8.heap.size W8 (V5.alloc (.cells (qA q0) 98))) := KV5.out.alloc KV5.out.size _
        have GG : Hid (W8.heap.size ≤ gg6) := by rw [hgg6]; exact KV5.out.size
        rw [← hgg6]
        obtain ⟨V6, hV6⟩ : ∃ V, V = V5.alloc (.cells (qA q0) 98) := ⟨_, rfl⟩
        rw [← hV6] at ZN KV6 ⊢
        clear hV6 hgg6
        refine hK.out _ _ ?_ (fun hHeld => ?_)
        · exact sat13 KV6.out
        clear hK K
        try simp only [zaP, zsT, zsZ, zsS]
        refine wpAnyH_ready (rs := [12]) (by kernel_rfl) (by simp) ?_
        refine AllReadyH.cons (o := oRefVer16) rfl (fun K hK => ?_) AllReadyH.nil
        refine step_store_row _ (by rfl) 98 (.tmp 13) (.tmp 62) (by rfl) (gg6) (qA (plusD d (tmQ d ls Bq 256) (tmQ d lk a 256))) (by rfl) (by rfl) 98 _ ZN.out (qA_size _) (qA_old _ _) (qA_all _) ?_
        rw [put_none']
        refine hK.out _ _ ?_ (fun hHeld => ?_)
        · exact satset13 KV6.out GG.out
        clear hK K
        try simp only [zaP, zsT, zsZ, zsS]
        refine wpAnyH_done (by kernel_rfl) ?_ _
        go_wp2_with fail
        go_meet
        case rel => exact ⟨gg6, rfl, hide (setRow_heap _ _ _ _ _ _ ZN.out), hide (below_setRow KV6.out GG.out _)⟩
       refine AllReadyH.cons (o := oRefVer15) rfl (fun K hK => ?_) ?_
       ·
        refine step_runTo (w' := V4.alloc (.cells (qA q0) 98)) (by rfl) (.pointer (some ⟨V4.heap.size, 0, none⟩)) (hrunAllocQ rfl V4) ?_
        obtain ⟨gg8, hgg8⟩ : ∃ g, g = V4.heap.size := ⟨_, rfl⟩
        have ZN : Hid ((V4.alloc (.cells (qA q0) 98)).heap[gg8]? = some (.cells (qA q0) 98 (0, 0))) := by rw [hgg8]; exact heap_alloc_new _ _
        have KV8 : Hid (Below W8.heap.size W8 (V4.alloc (.cells (qA q0) 98))) := KV4.out.alloc KV4.out.size _
        have GG : Hid (W8.heap.size ≤ gg8) := by rw [hgg8]; exact KV4.out.size
        rw [← hgg8]
        obtain ⟨V8, hV8⟩ : ∃ V, V = V4.alloc (.cells (qA q0) 98) := ⟨_, rfl⟩
        rw [← hV8] at ZN KV8 ⊢
        clear hV8 hgg8
        refine hK.out _ _ ?_ (fun hHeld => ?_)
        · exact sat13 KV8.out
        clear hK K
        try simp only [zaP, zsT, zsZ, zsS]
        refine wpAnyH_ready (rs := [10]) (by kernel_rfl) (by simp) ?_
        refine AllReadyH.cons (o := ⟨some 62, .call ⟨.value (.func 67), #[.tmp 52, .tmp 57, .tmp 61], #[95, 98, 98]⟩, 98, "sign.go:64", #[zeD 0, zeD 5, zeD 9, zeC 9], none⟩) rfl (fun K hK => ?_) AllReadyH.nil
        refine step_callTo (by rfl) _ _ (hrunPlusD _ _ _ rfl (.agg (fA d)) (.agg (qA (tmQ d ls Bq 256))) (.agg (qA (tmQ d lk a 256))) rfl rfl rfl V8) _ _ (plusA d (tmQ d ls Bq 256) (tmQ d lk a 256) Hd.out (tmQ_ok _ _ _ _) (tmQ_ok _ _ _ _) V8) (fun V9 HBx => ?_)
        have KV9 := kTr KV8 HBx
        have ZN : Hid (V9.heap[gg8]? = _) := row_keep' ZN.out HBx
        clear HBx
        refine hK.out _ _ ?_ (fun hHeld => ?_)
        · exact sat13 KV9.out
        clear hK K
        try simp only [zaP, zsT, zsZ, zsS]
        refine wpAnyH_ready (rs := [12]) (by kernel_rfl) (by simp) ?_
        refine AllReadyH.cons (o := oRefVer16) rfl (fun K hK => ?_) AllReadyH.nil
        refine step_store_row _ (by rfl) 98 (.tmp 13) (.tmp 62) (by rfl) (gg8) (qA (plusD d (tmQ d ls Bq 256) (tmQ d lk a 256))) (by rfl) (by rfl) 98 _ ZN.out (qA_size _) (qA_old _ _) (qA_all _) ?_
        rw [put_none']
        refine hK.out _ _ ?_ (fun hHeld => ?_)
        · exact satset13 KV9.out GG.out
        clear hK K
        try simp only [zaP, zsT, zsZ, zsS]
        refine wpAnyH_done (by kernel_rfl) ?_ _
        go_wp2_with fail
        go_meet
        case rel => exact ⟨gg8, rfl, hide (setRow_heap _ _ _ _ _ _ ZN.out), hide (below_setRow KV9.out GG.out _)⟩
       exact AllReadyH.nil
      refine AllReadyH.cons (o := oRefVer15) rfl (fun K hK => ?_) ?_
      ·
       refine step_runTo (w' := V3.alloc (.cells (qA q0) 98)) (by rfl) (.pointer (some ⟨V3.heap.size, 0, none⟩)) (hrunAllocQ rfl V3) ?_
       obtain ⟨gg11, hgg11⟩ : ∃ g, g = V3.heap.size := ⟨_, rfl⟩
       have ZN : Hid ((V3.alloc (.cells (qA q0) 98)).heap[gg11]? = some (.cells (qA q0) 98 (0, 0))) := by rw [hgg11]; exact heap_alloc_new _ _
       have KV11 : Hid (Below W8.heap.size W8 (V3.alloc (.cells (qA q0) 98))) := KV3.out.alloc KV3.out.size _
       have GG : Hid (W8.heap.size ≤ gg11) := by rw [hgg11]; exact KV3.out.size
       rw [← hgg11]
       obtain ⟨V11, hV11⟩ : ∃ V, V = V3.alloc (.cells (qA q0) 98) := ⟨_, rfl⟩
       rw [← hV11] at ZN KV11 ⊢
       clear hV11 hgg11
       refine hK.out _ _ ?_ (fun hHeld => ?_)
       · exact sat13 KV11.out
       clear hK K
       try simp only [zaP, zsT, zsZ, zsS]
       refine wpAnyH_ready (rs := [9]) (by kernel_rfl) (by simp) ?_
       refine AllReadyH.cons (o := ⟨some 61, .call ⟨.value (.func 34), #[.tmp 58, .tmp 59, .tmp 60], #[95, 91, 98]⟩, 98, "sign.go:64", #[zeD 6, zeD 7, zeD 8, zeC 5], none⟩) rfl (fun K hK => ?_) AllReadyH.nil
       refine step_callTo (by rfl) _ _ (hrunTimesD _ _ _ rfl (.agg (fA d)) (.agg (sA lk)) (.agg (qA a)) rfl rfl rfl V11) _ _ (timesA d Hd.out lk a Ha.out V11) (fun V12 HBx => ?_)
       have KV12 := kTr KV11 HBx
       have ZN : Hid (V12.heap[gg11]? = _) := row_keep' ZN.out HBx
       clear HBx
       refine hK.out _ _ ?_ (fun hHeld => ?_)
       · exact sat13 KV12.out
       clear hK K
       try simp only [zaP, zsT, zsZ, zsS]
       refine wpAnyH_ready (rs := [10]) (by kernel_rfl) (by simp) ?_
       refine AllReadyH.cons (o := ⟨some 62, .call ⟨.value (.func 67), #[.tmp 52, .tmp 57, .tmp 61], #[95, 98, 98]⟩, 98, "sign.go:64", #[zeD 0, zeD 5, zeD 9, zeC 9], none⟩) rfl (fun K hK => ?_) AllReadyH.nil
       refine step_callTo (by rfl) _ _ (hrunPlusD _ _ _ rfl (.agg (fA d)) (.agg (qA (tmQ d ls Bq 256))) (.agg (qA (tmQ d lk a 256))) rfl rfl rfl V12) _ _ (plusA d (tmQ d ls Bq 256) (tmQ d lk a 256) Hd.out (tmQ_ok _ _ _ _) (tmQ_ok _ _ _ _) V12) (fun V13 HBx => ?_)
       have KV13 := kTr KV12 HBx
       have ZN : Hid (V13.heap[gg11]? = _) := row_keep' ZN.out HBx
       clear HBx
       refine hK.out _ _ ?_ (fun hHeld => ?_)
       · exact sat13 KV13.out
       clear hK K
       try simp only [zaP, zsT, zsZ, zsS]
       refine wpAnyH_ready (rs := [12]) (by kernel_rfl) (by simp) ?_
       refine AllReadyH.cons (o := oRefVer16) rfl (fun K hK => ?_) AllReadyH.nil
       refine step_store_row _ (by rfl) 98 (.tmp 13) (.tmp 62) (by rfl) (gg11) (qA (plusD d (tmQ d ls Bq 256) (tmQ d lk a 256))) (by rfl) (by rfl) 98 _ ZN.out (qA_size _) (qA_old _ _) (qA_all _) ?_
       rw [put_none']
       refine hK.out _ _ ?_ (fun hHeld => ?_)
       · exact satset13 KV13.out GG.out
       clear hK K
       try simp only [zaP, zsT, zsZ, zsS]
       refine wpAnyH_done (by kernel_rfl) ?_ _
       go_wp2_with fail
       go_meet
       case rel => exact ⟨gg11, rfl, hide (setRow_heap _ _ _ _ _ _ ZN.out), hide (below_setRow KV13.out GG.out _)⟩
      exact AllReadyH.nil
     refine AllReadyH.cons (o := oRefVer15) rfl (fun K hK => ?_) ?_
     ·
      refine step_runTo (w' := V2.alloc (.cells (qA q0) 98)) (by rfl) (.pointer (some ⟨V2.heap.size, 0, none⟩)) (hrunAllocQ rfl V2) ?_
      obtain ⟨gg15, hgg15⟩ : ∃ g, g = V2.heap.size := ⟨_, rfl⟩
      have ZN : Hid ((V2.alloc (.cells (qA q0) 98)).heap[gg15]? = some (.cells (qA q0) 98 (0, 0))) := by rw [hgg15]; exact heap_alloc_new _ _
      have KV15 : Hid (Below W8.heap.size W8 (V2.alloc (.cells (qA q0) 98))) := KV2.out.alloc KV2.out.size _
      have GG : Hid (W8.heap.size ≤ gg15) := by rw [hgg15]; exact KV2.out.size
      rw [← hgg15]
      obtain ⟨V15, hV15⟩ : ∃ V, V = V2.alloc (.cells (qA q0) 98) := ⟨_, rfl⟩
      rw [← hV15] at ZN KV15 ⊢
      clear hV15 hgg15
      refine hK.out _ _ ?_ (fun hHeld => ?_)
      · exact sat13 KV15.out
      clear hK K
      try simp only [zaP, zsT, zsZ, zsS]
      refine wpAnyH_ready (rs := [5]) (by kernel_rfl) (by simp) ?_
      refine AllReadyH.cons (o := ⟨some 57, .call ⟨.value (.func 34), #[.tmp 53, .tmp 54, .tmp 56], #[95, 91, 98]⟩, 98, "sign.go:64", #[zeD 1, zeD 2, zeD 4, zeC 4], none⟩) rfl (fun K hK => ?_) AllReadyH.nil
      refine step_callTo (by rfl) _ _ (hrunTimesD _ _ _ rfl (.agg (fA d)) (.agg (sA ls)) (.agg (qA Bq)) rfl rfl rfl V15) _ _ (timesA d Hd.out ls Bq HBq.out V15) (fun V16 HBx => ?_)
      have KV16 := kTr KV15 HBx
      have ZN : Hid (V16.heap[gg15]? = _) := row_keep' ZN.out HBx
      clear HBx
      refine hK.out _ _ ?_ (fun hHeld => ?_)
      · exact sat13 KV16.out
      clear hK K
      try simp only [zaP, zsT, zsZ, zsS]
      refine wpAnyH_ready (rs := [9]) (by kernel_rfl) (by simp) ?_
      refine AllReadyH.cons (o := ⟨some 61, .call ⟨.value (.func 34), #[.tmp 58, .tmp 59, .tmp 60], #[95, 91, 98]⟩, 98, "sign.go:64", #[zeD 6, zeD 7, zeD 8, zeC 5], none⟩) rfl (fun K hK => ?_) AllReadyH.nil
      refine step_callTo (by rfl) _ _ (hrunTimesD _ _ _ rfl (.agg (fA d)) (.agg (sA lk)) (.agg (qA a)) rfl rfl rfl V16) _ _ (timesA d Hd.out lk a Ha.out V16) (fun V17 HBx => ?_)
      have KV17 := kTr KV16 HBx
      have ZN : Hid (V17.heap[gg15]? = _) := row_keep' ZN.out HBx
      clear HBx
      refine hK.out _ _ ?_ (fun hHeld => ?_)
      · exact sat13 KV17.out
      clear hK K
      try simp only [zaP, zsT, zsZ, zsS]
      refine wpAnyH_ready (rs := [10]) (by kernel_rfl) (by simp) ?_
      refine AllReadyH.cons (o := ⟨some 62, .call ⟨.value (.func 67), #[.tmp 52, .tmp 57, .tmp 61], #[95, 98, 98]⟩, 98, "sign.go:64", #[zeD 0, zeD 5, zeD 9, zeC 9], none⟩) rfl (fun K hK => ?_) AllReadyH.nil
      refine step_callTo (by rfl) _ _ (hrunPlusD _ _ _ rfl (.agg (fA d)) (.agg (qA (tmQ d ls Bq 256))) (.agg (qA (tmQ d lk a 256))) rfl rfl rfl V17) _ _ (plusA d (tmQ d ls Bq 256) (tmQ d lk a 256) Hd.out (tmQ_ok _ _ _ _) (tmQ_ok _ _ _ _) V17) (fun V18 HBx => ?_)
      have KV18 := kTr KV17 HBx
      have ZN : Hid (V18.heap[gg15]? = _) := row_keep' ZN.out HBx
      clear HBx
      refine hK.out _ _ ?_ (fun hHeld => ?_)
      · exact sat13 KV18.out
      clear hK K
      try simp only [zaP, zsT, zsZ, zsS]
      refine wpAnyH_ready (rs := [12]) (by kernel_rfl) (by simp) ?_
      refine AllReadyH.cons (o := oRefVer16) rfl (fun K hK => ?_) AllReadyH.nil
      refine step_store_row _ (by rfl) 98 (.tmp 13) (.tmp 62) (by rfl) (gg15) (qA (plusD d (tmQ d ls Bq 256) (tmQ d lk a 256))) (by rfl) (by rfl) 98 _ ZN.out (qA_size _) (qA_old _ _) (qA_all _) ?_
      rw [put_none']
      refine hK.out _ _ ?_ (fun hHeld => ?_)
      · exact satset13 KV18.out GG.out
      clear hK K
      try simp only [zaP, zsT, zsZ, zsS]
      refine wpAnyH_done (by kernel_rfl) ?_ _
      go_wp2_with fail
      go_meet
      case rel => exact ⟨gg15, rfl, hide (setRow_heap _ _ _ _ _ _ ZN.out), hide (below_setRow KV18.out GG.out _)⟩
     exact AllReadyH.nil
    refine AllReadyH.cons (o := oRefVer15) rfl (fun K hK => ?_) ?_
    ·
     refine step_runTo (w' := V1.alloc (.cells (qA q0) 98)) (by rfl) (.pointer (some ⟨V1.heap.size, 0, none⟩)) (hrunAllocQ rfl V1) ?_
     obtain ⟨gg20, hgg20⟩ : ∃ g, g = V1.heap.size := ⟨_, rfl⟩
     have ZN : Hid ((V1.alloc (.cells (qA q0) 98)).heap[gg20]? = some (.cells (qA q0) 98 (0, 0))) := by rw [hgg20]; exact heap_alloc_new _ _
     have KV20 : Hid (Below W8.heap.size W8 (V1.alloc (.cells (qA q0) 98))) := KV1.out.alloc KV1.out.size _
     have GG : Hid (W8.heap.size ≤ gg20) := by rw [hgg20]; exact KV1.out.size
     rw [← hgg20]
     obtain ⟨V20, hV20⟩ : ∃ V, V = V1.alloc (.cells (qA q0) 98) := ⟨_, rfl⟩
     rw [← hV20] at ZN KV20 ⊢
     clear hV20 hgg20
     refine hK.out _ _ ?_ (fun hHeld => ?_)
     · exact sat13 KV20.out
     clear hK K
     try simp only [zaP, zsT, zsZ, zsS]
     refine wpAnyH_ready (rs := [4]) (by kernel_rfl) (by simp) ?_
     refine AllReadyH.cons (o := ⟨some 56, .call ⟨.value (.func 35), #[.tmp 55], #[95]⟩, 98, "sign.go:64", #[zeD 3], none⟩) rfl (fun K hK => ?_) AllReadyH.nil
     refine step_callTo (by rfl) _ _ (hrunBaseD _ rfl (.agg (fA d)) rfl V20) _ _ (refBase d Ed.out Bq EBq.out V20) (fun V21 HBx => ?_)
     have KV21 := kTr KV20 HBx
     have ZN : Hid (V21.heap[gg20]? = _) := row_keep' ZN.out HBx
     clear HBx
     refine hK.out _ _ ?_ (fun hHeld => ?_)
     · exact sat13 KV21.out
     clear hK K
     try simp only [zaP, zsT, zsZ, zsS]
     refine wpAnyH_ready (rs := [5]) (by kernel_rfl) (by simp) ?_
     refine AllReadyH.cons (o := ⟨some 57, .call ⟨.value (.func 34), #[.tmp 53, .tmp 54, .tmp 56], #[95, 91, 98]⟩, 98, "sign.go:64", #[zeD 1, zeD 2, zeD 4, zeC 4], none⟩) rfl (fun K hK => ?_) AllReadyH.nil
     refine step_callTo (by rfl) _ _ (hrunTimesD _ _ _ rfl (.agg (fA d)) (.agg (sA ls)) (.agg (qA Bq)) rfl rfl rfl V21) _ _ (timesA d Hd.out ls Bq HBq.out V21) (fun V22 HBx => ?_)
     have KV22 := kTr KV21 HBx
     have ZN : Hid (V22.heap[gg20]? = _) := row_keep' ZN.out HBx
     clear HBx
     refine hK.out _ _ ?_ (fun hHeld => ?_)
     · exact sat13 KV22.out
     clear hK K
     try simp only [zaP, zsT, zsZ, zsS]
     refine wpAnyH_ready (rs := [9]) (by kernel_rfl) (by simp) ?_
     refine AllReadyH.cons (o := ⟨some 61, .call ⟨.value (.func 34), #[.tmp 58, .tmp 59, .tmp 60], #[95, 91, 98]⟩, 98, "sign.go:64", #[zeD 6, zeD 7, zeD 8, zeC 5], none⟩) rfl (fun K hK => ?_) AllReadyH.nil
     refine step_callTo (by rfl) _ _ (hrunTimesD _ _ _ rfl (.agg (fA d)) (.agg (sA lk)) (.agg (qA a)) rfl rfl rfl V22) _ _ (timesA d Hd.out lk a Ha.out V22) (fun V23 HBx => ?_)
     have KV23 := kTr KV22 HBx
     have ZN : Hid (V23.heap[gg20]? = _) := row_keep' ZN.out HBx
     clear HBx
     refine hK.out _ _ ?_ (fun hHeld => ?_)
     · exact sat13 KV23.out
     clear hK K
     try simp only [zaP, zsT, zsZ, zsS]
     refine wpAnyH_ready (rs := [10]) (by kernel_rfl) (by simp) ?_
     refine AllReadyH.cons (o := ⟨some 62, .call ⟨.value (.func 67), #[.tmp 52, .tmp 57, .tmp 61], #[95, 98, 98]⟩, 98, "sign.go:64", #[zeD 0, zeD 5, zeD 9, zeC 9], none⟩) rfl (fun K hK => ?_) AllReadyH.nil
     refine step_callTo (by rfl) _ _ (hrunPlusD _ _ _ rfl (.agg (fA d)) (.agg (qA (tmQ d ls Bq 256))) (.agg (qA (tmQ d lk a 256))) rfl rfl rfl V23) _ _ (plusA d (tmQ d ls Bq 256) (tmQ d lk a 256) Hd.out (tmQ_ok _ _ _ _) (tmQ_ok _ _ _ _) V23) (fun V24 HBx => ?_)
     have KV24 := kTr KV23 HBx
     have ZN : Hid (V24.heap[gg20]? = _) := row_keep' ZN.out HBx
     clear HBx
     refine hK.out _ _ ?_ (fun hHeld => ?_)
     · exact sat13 KV24.out
     clear hK K
     try simp only [zaP, zsT, zsZ, zsS]
     refine wpAnyH_ready (rs := [12]) (by kernel_rfl) (by simp) ?_
     refine AllReadyH.cons (o := oRefVer16) rfl (fun K hK => ?_) AllReadyH.nil
     refine step_store_row _ (by rfl) 98 (.tmp 13) (.tmp 62) (by rfl) (gg20) (qA (plusD d (tmQ d ls Bq 256) (tmQ d lk a 256))) (by rfl) (by rfl) 98 _ ZN.out (qA_size _) (qA_old _ _) (qA_all _) ?_
     rw [put_none']
     refine hK.out _ _ ?_ (fun hHeld => ?_)
     · exact satset13 KV24.out GG.out
     clear hK K
     try simp only [zaP, zsT, zsZ, zsS]
     refine wpAnyH_done (by kernel_rfl) ?_ _
     go_wp2_with fail
     go_meet
     case rel => exact ⟨gg20, rfl, hide (setRow_heap _ _ _ _ _ _ ZN.out), hide (below_setRow KV24.out GG.out _)⟩
    exact AllReadyH.nil
   case rest =>
    obtain ⟨g13, rfl, RN, X9⟩ := hcut
    have BL : Hid (Below w.heap.size w wc) := BL.out.trans (X9.out.mono BL.out.size)
    obtain ⟨r, Er⟩ : ∃ c, Hid (c = plusD d (tmQ d ls Bq 256) (tmQ d lk a 256)) := ⟨_, hide rfl⟩
    have Hr : Hid r.Ok := by rw [Er.out]; exact plusD_ok _ _ _
    have EQ : Hid (r = rvQ ky m g) := by show _ = _; rw [Er.out, Ea.out, Ex'.out, Ep.out, Elk.out, Ek.out, EBq.out, Els0.out, bT2.out, Ed.out]; rfl
    rw [← Er.out] at RN
    clear sat13 satset13 RD RS RK RA X9
    go_wp2_with (first | (refine wpList_load_row (by rfl) 98 (.tmp 13) (by rfl) g13 (by rfl) 98 (qA r) (0, 0) _ RN.out Tryz.underlying98 rfl (qA_size _) ?_))
    refine (codeA r Hr.out _).mono ?_
    rintro e W9 ⟨rfl, hB⟩
    have BL := kTr BL hB
    clear hB RN
    obtain ⟨T, HT⟩ : ∃ T, Hid (T = codeD r) := ⟨_, hide rfl⟩
    have HTE : Hid (T = codeD (rvQ ky m g)) := by show _ = _; rw [HT.out, EQ.out]
    rw [← HT.out]
    by_cases hc : T = T1
    ·
     have hbq := str_eqb hc
     have HC := hide hc
     clear hc
     go_wp2_with fail
     go_returns
     refine ⟨?_, BL.out⟩
     unfold rvE
     rw [if_pos ⟨Hk.out, Hg.out⟩, ← Ed.out, ← Eb1.out, if_pos rfl, ← EsN.out, if_pos Hlt.out, ← HTE.out, ← ET1.out, if_pos HC.out]; rfl
    ·
     have hbq := str_neb hc
     have HC := hide hc
     clear hc
     go_wp2_with fail
     go_returns
     refine ⟨?_, BL.out⟩
     unfold rvE
     rw [if_pos ⟨Hk.out, Hg.out⟩, ← Ed.out, ← Eb1.out, if_pos rfl, ← EsN.out, if_pos Hlt.out, ← HTE.out, ← ET1.out, if_neg HC.out]; rfl
end
end Go.Proofs.YtccgfabojbjmjaaGreatDoor
