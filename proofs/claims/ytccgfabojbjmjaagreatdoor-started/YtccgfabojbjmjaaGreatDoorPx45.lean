import Derived.Test.YtccgfabojbjmjaaGreatDoorPx42
namespace Go.Proofs.YtccgfabojbjmjaaGreatDoor
open Go.RowKit
theorem rangePub {w : World} {g b m : Nat} {f : Nat → Pt} {T : TypeId} {fr : Nat × Nat} (h : w.heap[g]? = some (.cells (pubA b m f) T fr)) : w.rangeAt g 0 (pubL b m f) := by
 intro j v hv
 rw [Nat.zero_add, cell_of_row w g j _ T _ h, pubA, List.getElem?_toArray]
 exact hv
theorem yldPub {ops : Array Oper} {S : World → Prop} {op : Oper} {a : Act} (hw : Region.wanted op (yielded ops a.tmps) = true) (x : Operand) (ho : op.op = .load 153 x)
  (g o b m : Nat) (f : Nat → Pt) (hx : a.eval x = .pointer (some ⟨g, o, none⟩)) (hS : ∀ w, S w → w.rangeAt g o (pubL b m f)) : YieldsIf Tryz.prog ops S op (.agg (pubA b m f)) a :=
 yld_load hw _ x ho g o hx (pubL b m f) (pubA b m f) rfl _ hS Tryz.underlying153 rfl (by rw [pubL_len]; exact sizePub)
theorem hrunConvS {a : Act} {o : Oper} (x : Operand) (ho : o.op = .convert 9 89 x) (s : ByteArray) (hx : a.eval x = .string s) (v : Value) (w w' : World) (h : (convert 9 89 (.string s)).run Tryz.prog w = .ok v w') :
  (execOp a.eval o).run Tryz.prog w = .ok (.value v) w' := by
 unfold execOp
 simp only [ho, hx]
 go_simp
theorem arr64 (b cap : Nat) (w : World) : (Instr.arrayAt 102 (.slice (some ⟨b, 0, none⟩) 64 cap)).run Tryz.prog w = .ok (.pointer (some ⟨b, 0, none⟩)) w := by
 simp [Instr.arrayAt, run_underlying under64]
theorem hrunPubVer {a : Act} {o : Oper} (x y z : Operand) (ho : o.op = .call { callee := .value (.func 75), args := #[x, y, z], argTypes := #[153, 9, 102] }) (v1 v2 v3 : Value) (hx : a.eval x = v1) (hy : a.eval y = v2) (hz : a.eval z = v3) (w : World) :
  (execOp a.eval o).run Tryz.prog w = .ok (.enter 75 #[v1, v2, v3]) w := by
 unfold execOp
 simp only [ho]
 subst hx hy hz
 go_simp
theorem pubVerN (b m : Nat) (msg : ByteArray) (L : List UInt8) (hL : L.length = 64) (hmsg : msg.size ≤ maxLen) (hd : dcB m = true) (F : Nat → Pt) (hF : F = pofF m) (M : Array Value) (hM : M = (L.map cv).toArray) (sA gA : Addr) (w : World) (hG : GlB w) (hK : Tab w) (hO : OrdAt w) (h7 : 13 ≤ b) (hN : BaseAny w b)
  (hS : SentP w 2 sA) (hGs : SentP w 4 gA) (hgb : gA.block ≠ b) (E : Value) (hE : E = pvE sA gA m msg L) :
  Calls Tryz.prog 75 #[.agg (pubA b m F), .string msg, .agg M] w fun e w' => e = .returned E ∧ Bex b w w' ∧ BaseAny w' b := by
 rw [hF, hM, hE]; exact pubVerify b m msg L hL hmsg hd sA gA w hG hK hO h7 hN hS hGs hgb
noncomputable def svE (p s g : Addr) (k m sg : ByteArray) : Value :=
 if k.size = 32 then (if sg.size = 64 then (if dcB (valLE (bytesOf k)) = true then pvE s g (valLE (bytesOf k)) m (bytesOf sg) else atE keyTxt (esI p)) else atE sgTxt (szI sg.size 64)) else atE keyTxt (szI k.size 32)
theorem sent_blk {w : World} {g : Nat} {a : Addr} (h : SentP w g a) : a.block < w.heap.size := by
 obtain ⟨c, t, e⟩ := h.b
 exact lt_row e
section
attribute [local irreducible] num4A nL pA psA psL pL bA bL bpP dcP dcB pubA pubZ pubL baseZ
set_option maxRecDepth 100000 in
set_option maxHeartbeats 4000000 in
theorem sigVerify (ky m g : ByteArray) (hm : m.size ≤ maxLen) (w : World) (k p s gA : Addr) (hG : GlB w) (hK : Tab w) (hO : OrdAt w) (hS : Sents w k p s gA) :
  Calls Tryz.prog 41 #[.string ky, .string m, .string g] w fun e w' => e = .returned (svE p s gA ky m g) ∧ Below w.heap.size w w' := by
 have hzb := zeroBase
 have hzp := zeroPub
 have HG := hide hG
 have HK := hide hK
 have HO := hide hO
 have HS := hide hS
 have Hm := hide hm
 have h7 := hG.seven
 clear hG hK hO hS hm
 go_enter Tryz.func41, Tryz.ntmps41
 go_wp2_with fail
 refine (ofSize_any keyTxt ky 32 _).mono ?_
 rintro e W1 ⟨rfl, hw⟩
 have hw' := hw.symm
 subst hw'
 clear hw
 unfold ofSzV
 by_cases h32 : ky.size = 32
 case neg =>
  rw [if_neg (by omega)]
  have EE : Hid (svE p s gA ky m g = atE keyTxt (szI ky.size 32)) := by show _ = _; unfold svE; rw [if_neg h32]
  obtain ⟨E, HE⟩ : ∃ E, Hid (E = Value.agg #[.string keyTxt, szI ky.size 32]) := ⟨_, hide rfl⟩
  rw [show atE keyTxt (szI ky.size 32) = .iface 173 E by rw [HE.out]; rfl]
  clear h32
  go_wp2_with fail
  go_returns
  exact ⟨by rw [EE.out, HE.out]; rfl, Below.refl _ _⟩
 case pos =>
 rw [if_pos (by omega)]
 have Hk := hide h32
 clear h32
 go_wp2_with fail
 refine (ofSize_any sgTxt g 64 _).mono ?_
 rintro e W1 ⟨rfl, hw⟩
 have hw' := hw.symm
 subst hw'
 clear hw
 unfold ofSzV
 by_cases h64 : g.size = 64
 case neg =>
  rw [if_neg (by omega)]
  have EE : Hid (svE p s gA ky m g = atE sgTxt (szI g.size 64)) := by show _ = _; unfold svE; rw [if_pos Hk.out, if_neg h64]
  obtain ⟨E, HE⟩ : ∃ E, Hid (E = Value.agg #[.string sgTxt, szI g.size 64]) := ⟨_, hide rfl⟩
  rw [show atE sgTxt (szI g.size 64) = .iface 173 E by rw [HE.out]; rfl]
  clear h64
  go_wp2_with fail
  go_returns
  exact ⟨by rw [EE.out, HE.out]; rfl, Below.refl _ _⟩
 case pos =>
 rw [if_pos (by omega)]
 have Hg := hide h64
 clear h64
 obtain ⟨W0, hW0⟩ : ∃ W, W = w.alloc (.cells baseZ 86) := ⟨_, rfl⟩
 have RB : Hid (W0.heap[w.heap.size]? = some (.cells baseZ 86 (0, 0))) := by rw [hW0]; exact heap_alloc_new _ _
 have B0 : Hid (Below w.heap.size w W0) := by rw [hW0]; exact (Below.refl _ _).alloc (Nat.le_refl _) _
 obtain ⟨cap, W1, hcv, hR, hB, hSz⟩ := conv_bytes 9 89 5 underStr underSl8 underU8 ky W0
 rw [Hk.out] at hcv
 obtain ⟨q, hq⟩ : ∃ q, q = W0.heap.size := ⟨_, rfl⟩
 rw [← hq] at hcv hR
 clear hq
 have RB := hide (row_keep' RB.out hB)
 have B1 := kTr B0 hB
 obtain ⟨M1, EM1⟩ : ∃ M, Hid (M = (bytesOf ky).map cv) := ⟨_, hide rfl⟩
 rw [← EM1.out] at hR
 have HR := hide hR
 obtain ⟨kN, EkN⟩ : ∃ n, Hid (n = valLE (bytesOf ky)) := ⟨_, hide rfl⟩
 have lk : (bytesOf ky).length = 32 := by rw [bytesOf_length, Hk.out]
 have HM1 : Hid ((Tryz.prog.info? 62).map (·.size) = some M1.length) := by show _ = _; rw [sizeCode, EM1.out, List.length_map, lk]
 have EB1 : M1.toArray = bA kN := by rw [EM1.out, EkN.out]; exact half_bA _ lk
 have HkN : Hid (kN < 115792089237316195423570985008687907853269984665640564039457584007913129639936) := by rw [EkN.out]; exact valLE_lt32P _ lk
 have ha1 := arrCode
 rw [hW0] at hcv
 clear hR hB hW0 lk B0 hSz
 go_wp2_with (first
  | (refine wpList_load_mid (by rfl) 62 (.tmp 25) (by rfl) q 0 (by rfl) M1 _ HR.out underCode rfl HM1.out ?_; rw [EB1]))
 have S1 := hide (HS.out.below B1.out)
 refine (publicOfA w.heap.size kN HkN.out p W1 (HG.out.keep B1.out) h7 (Or.inl (baseZ_new RB.out)) S1.out.fp (by have := sent_blk HS.out.fp; omega)).mono ?_
 rintro e W2 ⟨rfl, hX, hA⟩
 have B2 : Hid (Below w.heap.size w W2) := B1.out.trans (hX.below B1.out.size)
 have A2 := hide hA
 clear hX hA RB HR B1 S1 hcv ha1
 have hgb : gA.block ≠ w.heap.size := by have := sent_blk HS.out.fg; omega
 by_cases hdc : dcB kN = true
 case neg =>
  have Hdc : Hid (dcB kN = false) := hide (by simpa using hdc)
  unfold pubV pubE
  rw [if_neg (by rw [Hdc.out]; decide), if_neg (by rw [Hdc.out]; decide)]
  have EE : Hid (svE p s gA ky m g = atE keyTxt (esI p)) := by show _ = _; unfold svE; rw [if_pos Hk.out, if_pos Hg.out, ← EkN.out, if_neg (by rw [Hdc.out]; decide)]
  obtain ⟨E, HE⟩ : ∃ E, Hid (E = Value.agg #[.string keyTxt, esI p]) := ⟨_, hide rfl⟩
  rw [show atE keyTxt (esI p) = .iface 173 E by rw [HE.out]; rfl]
  clear hdc
  go_upto_region 8 with (first
   | (refine wpList_store_row (by rfl) 153 (.tmp 9) (.tmp 28) (by rfl) W2.heap.size pubZ (by rfl) (by rfl) 153 _ (heap_alloc_new _ _) pubZ_size rfl pubZ_all ?_))
  try rw [put_none']
  generalize hW3 : World.setRow _ _ _ = W3
  have B3 : Hid (Below w.heap.size w W3) := by rw [← hW3]; exact below_setRow (B2.out.alloc B2.out.size _) B2.out.size _
  clear hW3
  go_wp2_with fail
  go_returns
  exact ⟨by rw [EE.out, HE.out]; rfl, B3.out⟩
 case pos =>
  have Hdc := hide hdc
  unfold pubV pubE
  rw [if_pos hdc, if_pos hdc]
  obtain ⟨E, EE⟩ : ∃ E, Hid (E = pvE s gA kN m (bytesOf g)) := ⟨_, hide rfl⟩
  have EV : Hid (svE p s gA ky m g = E) := by show _ = _; unfold svE; rw [if_pos Hk.out, if_pos Hg.out, ← EkN.out, if_pos hdc, EE.out]
  obtain ⟨F, EF⟩ : ∃ E, Hid (E = pofF kN) := ⟨_, hide rfl⟩
  rw [← EF.out]
  clear hdc
  go_upto_region 10 with (first
   | (refine wpList_store_row (by rfl) 153 (.tmp 9) (.tmp 28) (by rfl) W2.heap.size (pubA w.heap.size kN F) (by rfl) (by rfl) 153 _ (heap_alloc_new _ _) (pubA_size _ _ _) (pubA_old _ _ _) (pubA_all _ _ _) ?_))
  try rw [put_none']
  obtain ⟨g9, hg9⟩ : ∃ q, q = W2.heap.size := ⟨_, rfl⟩
  generalize hW4 : World.setRow _ _ _ = W4
  have K4 : Hid (Below W2.heap.size W2 W4) := by rw [← hW4]; exact below_setRow ((Below.refl _ _).alloc (Nat.le_refl _) _) (Nat.le_refl _) _
  have R9 : Hid (W4.heap[g9]? = some (.cells (pubA w.heap.size kN F) 153 (0, 0))) := by rw [← hW4, hg9]; exact setRow_heap _ _ _ _ _ _ (heap_alloc_new _ _)
  have hg9w : w.heap.size < g9 := by rw [hg9]; exact A2.out.lt
  have B4 : Hid (Below w.heap.size w W4) := B2.out.trans (K4.out.mono B2.out.size)
  have A4 := hide (A2.out.keep (K4.out.block _ A2.out.lt))
  rw [← hg9]
  clear hW4 hg9 K4 B2 A2
  have G4 := hide (HG.out.keep B4.out)
  have T4 := hide (HK.out.below B4.out HK.out.lt)
  have O4 := hide (HO.out.below B4.out HO.out.lt)
  have S4 := hide (HS.out.below B4.out)
  have l9 := lt_row R9.out
  refine wp_region_held_drew (S := fun w' => w'.rangeAt g9 0 (pubL w.heap.size kN F)) (by kernel_rfl) (rangePub R9.out) (fun hHeld => ?_)
  have KV1 : Hid (Below W4.heap.size W4 W4.drew) := (Below.refl _ _).drew
  obtain ⟨V1, hV1⟩ : ∃ V, V = W4.drew := ⟨_, rfl⟩
  rw [← hV1] at hHeld KV1 ⊢
  clear hV1
  refine wpAnyH_take (i := 0) (oi := ⟨some 33, .load 153 (.tmp 9), 153, "public.go:60", #[], none⟩) (v := .agg (pubA w.heap.size kN F)) rfl (by kernel_rfl) (by kernel_rfl) (by kernel_rfl) (fun _ _ _ h => h) (yldPub (by rfl) _ rfl g9 0 (w.heap.size) kN F rfl (fun w h => h)) hHeld ?_
  simp only [zaP, zsT, zsZ, zsS]
  refine wpAnyH_take (i := 1) (oi := ⟨some 34, .move (.tmp 1), 9, "public.go:60", #[], none⟩) (v := .string m) rfl (by kernel_rfl) (by kernel_rfl) (by kernel_rfl) (fun _ _ _ h => h) (Or.inl ⟨by rfl, fun w _ => by go_simp⟩) hHeld ?_
  simp only [zaP, zsT, zsZ, zsS]
  refine wpAnyH_take (i := 2) (oi := ⟨some 35, .move (.tmp 2), 9, "public.go:60", #[], none⟩) (v := .string g) rfl (by kernel_rfl) (by kernel_rfl) (by kernel_rfl) (fun _ _ _ h => h) (Or.inl ⟨by rfl, fun w _ => by go_simp⟩) hHeld ?_
  simp only [zaP, zsT, zsZ, zsS]
  obtain ⟨cap, V2, hcv, hR, hB, hSz⟩ := conv_bytes 9 89 5 underStr underSl8 underU8 g V1
  rw [Hg.out] at hcv
  obtain ⟨q, hq⟩ : ∃ q, q = V1.heap.size := ⟨_, rfl⟩
  rw [← hq] at hcv hR
  clear hq
  have HR := hide hR
  have KV2 := kTr KV1 hB
  clear hR hB
  refine wpAnyH_ready (rs := [3]) (by kernel_rfl) (by simp) ?_
  refine AllReadyH.cons (o := ⟨some 36, .convert 9 89 (.tmp 35), 89, "public.go:60", #[zeD 2], none⟩) rfl (fun K hK => ?_) AllReadyH.nil
  refine step_runTo (by rfl) (.slice (some ⟨q, 0, none⟩) 64 cap) (hrunConvS _ rfl g rfl _ _ _ hcv) ?_
  refine hK.out _ _ (range_below (rangePub R9.out) KV2.out l9) (fun hHeld => ?_)
  clear hK K
  try simp only [zaP, zsT, zsZ, zsS]
  have ha64 := arr64
  refine wpAnyH_take (i := 4) (oi := ⟨some 37, .sliceToArrayPointer 102 (.tmp 36), 0, "public.go:60", #[zeD 3], none⟩) (v := .pointer (some ⟨q, 0, none⟩)) rfl (by kernel_rfl) (by kernel_rfl) (by kernel_rfl) (fun _ _ _ h => h) (Or.inl ⟨by rfl, fun w _ => by go_simp⟩) hHeld ?_
  simp only [zaP, zsT, zsZ, zsS]
  refine wpAnyH_ready (rs := [5]) (by kernel_rfl) (by simp) ?_
  refine AllReadyH.cons (o := ⟨some 38, .load 102 (.tmp 37), 102, "public.go:60", #[zeD 4], none⟩) rfl (fun K hK => ?_) AllReadyH.nil
  refine step_load_mid (by rfl) 102 (.tmp 37) (by rfl) q 0 (by rfl) ((bytesOf g).map cv) _ HR.out under64 rfl (by rw [List.length_map, bytesOf_length, Hg.out]; exact size64) ?_
  refine hK.out _ _ (range_below (rangePub R9.out) KV2.out l9) (fun hHeld => ?_)
  clear hK K
  try simp only [zaP, zsT, zsZ, zsS]
  obtain ⟨M, EM⟩ : ∃ M, Hid (M = ((bytesOf g).map cv).toArray) := ⟨_, hide rfl⟩
  rw [← EM.out]
  refine wpAnyH_ready (rs := [6]) (by kernel_rfl) (by simp) ?_
  refine AllReadyH.cons (o := ⟨some 39, .call ⟨.value (.func 75), #[.tmp 33, .tmp 34, .tmp 38], #[153, 9, 102]⟩, 66, "public.go:60", #[zeD 0, zeD 1, zeD 5], none⟩) rfl (fun K hK => ?_) AllReadyH.nil
  refine step_callTo (by rfl) _ _ (hrunPubVer _ _ _ rfl (.agg (pubA w.heap.size kN F)) (.string m) (.agg M) rfl rfl rfl V2) _ (fun V => Bex w.heap.size V2 V ∧ BaseAny V w.heap.size) (pubVerN w.heap.size kN m (bytesOf g) (by rw [bytesOf_length, Hg.out]) Hm.out Hdc.out F EF.out M EM.out s gA V2 (G4.out.keep KV2.out) (T4.out.below KV2.out T4.out.lt) (O4.out.below KV2.out O4.out.lt) h7 (A4.out.keep (KV2.out.block _ A4.out.lt)) (S4.out.below KV2.out).fs (S4.out.below KV2.out).fg hgb E EE.out) (fun V3 HBx => ?_)
  have B3 : Hid (Below w.heap.size w V3) := (B4.out.trans (KV2.out.mono B4.out.size)).trans (HBx.1.below (Nat.le_trans B4.out.size KV2.out.size))
  refine hK.out _ _ (range_bex (range_below (rangePub R9.out) KV2.out l9) HBx.1 (Nat.lt_of_lt_of_le l9 KV2.out.size) (by omega)) (fun hHeld => ?_)
  clear hK K HBx
  try simp only [zaP, zsT, zsZ, zsS]
  refine wpAnyH_take (i := 7) (oi := ⟨some 6, .assign (.tmp 39), 66, "public.go:60", #[zeD 6, zeC 6, zeP 0, zeP 1, zeP 2, zeP 3, zeP 4, zeP 5, zeP 6], none⟩) (v := E) rfl (by kernel_rfl) (by kernel_rfl) (by kernel_rfl) (fun _ _ _ h => h) (Or.inl ⟨by rfl, fun w _ => by go_simp⟩) hHeld ?_
  simp only [zaP, zsT, zsZ, zsS]
  refine wpAnyH_done (by kernel_rfl) ?_ _
  go_wp2_with fail
  go_returns
  exact ⟨by rw [EV.out]; rfl, B3.out⟩
noncomputable def lvE (k m sg : ByteArray) : Int :=
 if k.size = 32 ∧ sg.size = 64 then (if dcB (valLE (bytesOf k)) = true then (if valLE ((bytesOf sg).drop 32) < Lord then (if pvC (valLE (bytesOf k)) m (bytesOf sg) = valLE ((bytesOf sg).take 32) then 0 else 4) else 3) else 2) else 1
set_option maxRecDepth 100000 in
set_option maxHeartbeats 4000000 in
theorem latchVerifyA (ky m g : ByteArray) (hm : m.size ≤ maxLen) (w : World) (k p s gA : Addr) (hG : GlB w) (hK : Tab w) (hO : OrdAt w) (hS : Sents w k p s gA) :
  Calls Tryz.prog 13 #[.string ky, .string m, .string g] w fun e w' => e = .returned (.int .i64 (lvE ky m g)) ∧ Below w.heap.size w w' := by
 have HS := hide hS
 have main := sigVerify ky m g hm w k p s gA hG hK hO hS
 have HM := hide main
 clear hG hK hO hS hm main
 go_enter Tryz.func13, Tryz.ntmps13
 go_wp2_with fail
 refine HM.out.mono ?_
 rintro e W1 ⟨rfl, hB⟩
 have B1 := hide hB
 have S1 := hide (HS.out.below hB)
 clear hB
 have fin : ∀ {n : Int} {E : Value}, E = svE p s gA ky m g → lvE ky m g = n → (Calls Tryz.prog 30 #[E] W1 fun e w' => e = .returned (.int .i64 n) ∧ Below W1.heap.size W1 w') → (Calls Tryz.prog 30 #[svE p s gA ky m g] W1 fun e w' => e = .returned (.int .i64 (lvE ky m g)) ∧ Below W1.heap.size W1 w') := by
  intro n E h1 h2 h3
  rw [← h1, h2]; exact h3
 have hcode : Calls Tryz.prog 30 #[svE p s gA ky m g] W1 fun e w' => e = .returned (.int .i64 (lvE ky m g)) ∧ Below W1.heap.size W1 w' := by
  unfold svE lvE
  by_cases h32 : ky.size = 32
  case neg => rw [if_neg h32, if_neg (show ¬ (ky.size = 32 ∧ g.size = 64) from fun h => h32 h.1)]; exact codeOf_size keyTxt _ _ W1 S1.out.hE
  case pos =>
  rw [if_pos h32]
  by_cases h64 : g.size = 64
  case neg => rw [if_neg h64, if_neg (show ¬ (ky.size = 32 ∧ g.size = 64) from fun h => h64 h.2)]; exact codeOf_size sgTxt _ _ W1 S1.out.hE
  case pos =>
  rw [if_pos h64, if_pos (show ky.size = 32 ∧ g.size = 64 from ⟨h32, h64⟩)]
  by_cases hdc : dcB (valLE (bytesOf ky)) = true
  case neg =>
   rw [if_neg hdc, if_neg hdc]
   have := codeOf_es1 keyTxt p W1 k p s gA S1.out S1.out.fp.b
   rw [show esC k p s p = 2 by unfold esC; rw [if_neg S1.out.kp, if_pos rfl]] at this
   exact this
  case pos =>
  rw [if_pos hdc, if_pos hdc]
  unfold pvE
  by_cases hlt : valLE ((bytesOf g).drop 32) < Lord
  case neg =>
   rw [if_neg hlt, if_neg hlt]
   have := codeOf_es1 sTxt s W1 k p s gA S1.out S1.out.fs.b
   rw [show esC k p s s = 3 by unfold esC; rw [if_neg S1.out.ks, if_neg S1.out.ps, if_pos rfl]] at this
   exact this
  case pos =>
  rw [if_pos hlt, if_pos hlt]
  by_cases hc : pvC (valLE (bytesOf ky)) m (bytesOf g) = valLE ((bytesOf g).take 32)
  case neg =>
   rw [if_neg hc, if_neg hc]
   have := codeOf_es1 sgTxt gA W1 k p s gA S1.out S1.out.fg.b
   rw [show esC k p s gA = 4 by unfold esC; rw [if_neg S1.out.gk, if_neg S1.out.gp, if_neg S1.out.gs]] at this
   exact this
  case pos =>
  rw [if_pos hc, if_pos hc]
  exact codeOf_nil W1
 clear fin
 obtain ⟨E, EE⟩ : ∃ E, Hid (E = svE p s gA ky m g) := ⟨_, hide rfl⟩
 rw [← EE.out] at hcode ⊢
 have HC := hide hcode
 clear hcode
 go_wp2_with fail
 refine HC.out.mono ?_
 rintro e W2 ⟨rfl, hB⟩
 have B2 := hide (B1.out.trans (hB.mono B1.out.size))
 clear hB
 obtain ⟨n, En⟩ : ∃ E, Hid (E = lvE ky m g) := ⟨_, hide rfl⟩
 rw [← En.out]
 go_wp2_with fail
 go_returns
 exact ⟨by rw [← En.out]; rfl, B2.out⟩
end
end Go.Proofs.YtccgfabojbjmjaaGreatDoor
