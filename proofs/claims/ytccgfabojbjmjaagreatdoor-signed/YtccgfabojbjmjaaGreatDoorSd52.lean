import Derived.Test.YtccgfabojbjmjaaGreatDoorSd51
import Derived.Test.YtccgfabojbjmjaaGreatDoorSd50
namespace Go.Proofs.YtccgfabojbjmjaaGreatDoor
open Go.RowKit
theorem rangePub {w : World} {g b m : Nat} {f : Nat → Pt} {T : TypeId} {fr : Nat × Nat} (h : w.heap[g]? = some (.cells (pubA b m f) T fr)) : w.rangeAt g 0 (pubL b m f) := by
 intro j v hv
 rw [Nat.zero_add, cell_of_row w g j _ T _ h, pubA, List.getElem?_toArray]
 exact hv
theorem yldPub {ops : Array Oper} {S : World → Prop} {op : Oper} {a : Act} (hw : Region.wanted op (yielded ops a.tmps) = true) (x : Operand) (ho : op.op = .load 153 x)
  (g o b m : Nat) (f : Nat → Pt) (hx : a.eval x = .pointer (some ⟨g, o, none⟩)) (hS : ∀ w, S w → w.rangeAt g o (pubL b m f)) : YieldsIf Tryz.prog ops S op (.agg (pubA b m f)) a :=
 yld_load hw _ x ho g o hx (pubL b m f) (pubA b m f) rfl _ hS Tryz.underlying153 rfl (by rw [pubL_len]; exact sizePub)
theorem hrunConvS {a : Act} {o : Oper} (x : Operand) (ho : o.op = .convert 9 89 x) (s : ByteArray) (hx : a.eval x = .string s) (v : Value) (w w' : World) (h : (convert 9 89 (.string s)).run Tryz.prog w = .ok v w') :
  (execOp a.eval o).run Tryz.prog w = .ok (.value v) w' := by
 unfold execOp
 simp only [ho, hx]
 go_simp
theorem arr64 (b cap : Nat) (w : World) : (Instr.arrayAt 102 (.slice (some ⟨b, 0, none⟩) 64 cap)).run Tryz.prog w = .ok (.pointer (some ⟨b, 0, none⟩)) w := by
 simp [Instr.arrayAt, run_underlying under64]
theorem hrunPubVer {a : Act} {o : Oper} (x y z : Operand) (ho : o.op = .call { callee := .value (.func 75), args := #[x, y, z], argTypes := #[153, 9, 102] }) (v1 v2 v3 : Value) (hx : a.eval x = v1) (hy : a.eval y = v2) (hz : a.eval z = v3) (w : World) :
  (execOp a.eval o).run Tryz.prog w = .ok (.enter 75 #[v1, v2, v3]) w := by
 unfold execOp
 simp only [ho]
 subst hx hy hz
 go_simp
theorem pubVerN (b m : Nat) (msg : ByteArray) (L : List UInt8) (hL : L.length = 64) (hmsg : msg.size ≤ maxLen) (hd : dcB m = true) (F : Nat → Pt) (hF : F = pofF m) (M : Array Value) (hM : M = (L.map cv).toArray) (sA gA : Addr) (w : World) (hG : GlB w) (hK : Tab w) (hO : OrdAt w) (h7 : 13 ≤ b) (hN : BaseAny w b)
  (hS : SentP w 2 sA) (hGs : SentP w 4 gA) (hgb : gA.block ≠ b) (E : Value) (hE : E = pvE sA gA m msg L) :
  Calls Tryz.prog 75 #[.agg (pubA b m F), .string msg, .agg M] w fun e w' => e = .returned E ∧ Bex b w w' ∧ BaseAny w' b := by
 rw [hF, hM, hE]; exact pubVerify b m msg L hL hmsg hd sA gA w hG hK hO h7 hN hS hGs hgb
noncomputable def svE (p s g : Addr) (k m sg : ByteArray) : Value :=
 if k.size = 32 then (if sg.size = 64 then (if dcB (valLE (bytesOf k)) = true then pvE s g (valLE (bytesOf k)) m (bytesOf sg) else atE keyTxt (esI p)) else atE sgTxt (szI sg.size 64)) else atE keyTxt (szI k.size 32)
theorem sent_blk {w : World} {g : Nat} {a : Addr} (h : SentP w g a) : a.block < w.heap.size := by
 obtain ⟨c, t, e⟩ := h.b
 exact lt_row e
section
attribute [local irreducible] num4A nL pA psA psL pL bA bL bpP dcP dcB pubA pubZ pubL baseZ
set_option maxRecDepth 100000 in
set_option maxHeartbeats 4000000 in
theorem sigVerify (ky m g : ByteArray) (hm : m.size ≤ maxLen) (w : World) (k p s gA : Addr) (hG : GlB w) (hK : Tab w) (hO : OrdAt w) (hS : Sents w k p s gA) :
  Calls Tryz.prog 41 #[.string ky, .string m, .string g] w fun e w' => e = .returned (svE p s gA ky m g) ∧ Below w.heap.size w w' := by
 have hzb := zeroBase
 have hzp := zeroPub
 have HG := hide hG
 have HK := hide hK
 have HO := hide hO
 have HS := hide hS
 have Hm := hide hm
 have h7 := hG.seven
 clear hG hK hO hS hm
 go_enter Tryz.func41, Tryz.ntmps41
 go_wp2_with fail
 refine (ofSize_any keyTxt ky 32 _).mono ?_
 rintro e W1 ⟨rfl, hw⟩
 have hw' := hw.symm
 subst hw'
 clear hw
 unfold ofSzV
 by_cases h32 : ky.size = 32
 case neg =>
  rw [if_neg (by omega)]
  have EE : Hid (svE p s gA ky m g = atE keyTxt (szI ky.size 32)) := by show _ = _; unfold svE; rw [if_neg h32]
  obtain ⟨E, HE⟩ : ∃ E, Hid (E = Value.agg #[.string keyTxt, szI ky.size 32]) := ⟨_, hide rfl⟩
  rw [show atE keyTxt (szI ky.size 32) = .iface 173 E by rw [HE.out]; rfl]
  clear h32
  go_wp2_with fail
  go_returns
  exact ⟨by rw [EE.out, HE.out]; rfl, Below.refl _ _⟩
 case pos =>
 rw [if_pos (by omega)]
 have Hk := hide h32
 clear h32
 go_wp2_with fail
 refine (ofSize_any sgTxt g 64 _).mono ?_
 rintro e W1 ⟨rfl, hw⟩
 have hw' := hw.symm
 subst hw'
 clear hw
 unfold ofSzV
 by_cases h64 : g.size = 64
 case neg =>
  rw [if_neg (by omega)]
  have EE : Hid (svE p s gA ky m g = atE sgTxt (szI g.size 64)) := by show _ = _; unfold svE; rw [if_pos Hk.out, if_neg h64]
  obtain ⟨E, HE⟩ : ∃ E, Hid (E = Value.agg #[.string sgTxt, szI g.size 64]) := ⟨_, hide rfl⟩
  rw [show atE sgTxt (szI g.size 64) = .iface 173 E by rw [HE.out]; rfl]
  clear h64
  go_wp2_with fail
  go_returns
  exact ⟨by rw [EE.out, HE.out]; rfl, Below.refl _ _⟩
 case pos =>
 rw [if_pos (by omega)]
 have Hg := hide h64
 clear h64
 obtain ⟨W0, hW0⟩ : ∃ W, W = w.alloc (.cells baseZ 86) := ⟨_, rfl⟩
 have RB : Hid (W0.heap[w.heap.size]? = some (.cells baseZ 86 (0, 0))) := by rw [hW0]; exact heap_alloc_new _ _
 have B0 : Hid (Below w.heap.size w W0) := by rw [hW0]; exact (Below.refl _ _).alloc (Nat.le_refl _) _
 obtain ⟨cap, W1, hcv, hR, hB, hSz⟩ := conv_bytes 9 89 5 underStr underSl8 underU8 ky W0
 rw [Hk.out] at hcv
 obtain ⟨q, hq⟩ : ∃ q, q = W0.heap.size := ⟨_, rfl⟩
 rw [← hq] at hcv hR
 clear hq
 have RB := hide (row_keep' RB.out hB)
 have B1 := kTr B0 hB
 obtain ⟨M1, EM1⟩ : ∃ M, Hid (M = (bytesOf ky).map cv) := ⟨_, hide rfl⟩
 rw [← EM1.out] at hR
 have HR := hide hR
 obtain ⟨kN, EkN⟩ : ∃ n, Hid (n = valLE (bytesOf ky)) := ⟨_, hide rfl⟩
 have lk : (bytesOf ky).length = 32 := by rw [bytesOf_length, Hk.out]
 have HM1 : Hid ((Tryz.prog.info? 62).map (·.size) = some M1.length) := by show _ = _; rw [sizeCode, EM1.out, List.length_map, lk]
 have EB1 : M1.toArray = bA kN := by rw [EM1.out, EkN.out]; exact half_bA _ lk
 have HkN : Hid (kN < 115792089237316195423570985008687907853269984665640564039457584007913129639936) := by rw [EkN.out]; exact valLE_lt32P _ lk
 have ha1 := arrCode
 rw [hW0] at hcv
 clear hR hB hW0 lk B0 hSz
 go_wp2_with (first
  | (refine wpList_load_mid (by rfl) 62 (.tmp 25) (by rfl) q 0 (by rfl) M1 _ HR.out underCode rfl HM1.out ?_; rw [EB1]))
 have S1 := hide (HS.out.below B1.out)
 refine (publicOfA w.heap.size kN HkN.out p W1 (HG.out.keep B1.out) h7 (Or.inl (baseZ_new RB.out)) S1.out.fp (by have := sent_blk HS.out.fp; omega)).mono ?_
 rintro e W2 ⟨rfl, hX, hA⟩
 have B2 : Hid (Below w.heap.size w W2) := B1.out.trans (hX.below B1.out.size)
 have A2 := hide hA
 clear hX hA RB HR B1 S1 hcv ha1
 have hgb : gA.block ≠ w.heap.size := by have := sent_blk HS.out.fg; omega
 by_cases hdc : dcB kN = true
 case neg =>
  have Hdc : Hid (dcB kN = false) := hide (by simpa using hdc)
  unfold pubV pubE
  rw [if_neg (by rw [Hdc.out]; decide), if_neg (by rw [Hdc.out]; decide)]
  have EE : Hid (svE p s gA ky m g = atE keyTxt (esI p)) := by show _ = _; unfold svE; rw [if_pos Hk.out, if_pos Hg.out, ← EkN.out, if_neg (by rw [Hdc.out]; decide)]
  obtain ⟨E, HE⟩ : ∃ E, Hid (E = Value.agg #[.string keyTxt, esI p]) := ⟨_, hide rfl⟩
  rw [show atE keyTxt (esI p) = .iface 173 E by rw [HE.out]; rfl]
  clear hdc
  go_upto_region 8 with (first
   | (refine wpList_store_row (by rfl) 153 (.tmp 9) (.tmp 28) (by rfl) W2.heap.size pubZ (by rfl) (by rfl) 153 _ (heap_alloc_new _ _) pubZ_size rfl pubZ_all ?_))
  try rw [put_none']
  generalize hW3 : World.setRow _ _ _ = W3
  have B3 : Hid (Below w.heap.size w W3) := by rw [← hW3]; exact below_setRow (B2.out.alloc B2.out.size _) B2.out.size _
  clear hW3
  go_wp2_with fail
  go_returns
  exact ⟨by rw [EE.out, HE.out]; rfl, B3.out⟩
 case pos =>
  have Hdc := hide hdc
  unfold pubV pubE
  rw [if_pos hdc, if_pos hdc]
  obtain ⟨E, EE⟩ : ∃ E, Hid (E = pvE s gA kN m (bytesOf g)) := ⟨_, hide rfl⟩
  have EV : Hid (svE p s gA ky m g = E) := by show _ = _; unfold svE; rw [if_pos Hk.out, if_pos Hg.out, ← EkN.out, if_pos hdc, EE.out]
  obtain ⟨F, EF⟩ : ∃ E, Hid (E = pofF kN) := ⟨_, hide rfl⟩
  rw [← EF.out]
  clear hdc
  go_upto_region 10 with (first
   | (refine wpList_store_row (by rfl) 153 (.tmp 9) (.tmp 28) (by rfl) W2.heap.size (pubA w.heap.size kN F) (by rfl) (by rfl) 153 _ (heap_alloc_new _ _) (pubA_size _ _ _) (pubA_old _ _ _) (pubA_all _ _ _) ?_))
  try rw [put_none']
  obtain ⟨g9, hg9⟩ : ∃ q, q = W2.heap.size := ⟨_, rfl⟩
  generalize hW4 : World.setRow _ _ _ = W4
  have K4 : Hid (Below W2.heap.size W2 W4) := by rw [← hW4]; exact below_setRow ((Below.refl _ _).alloc (Nat.le_refl _) _) (Nat.le_refl _) _
  have R9 : Hid (W4.heap[g9]? = some (.cells (pubA w.heap.size kN F) 153 (0, 0))) := by rw [← hW4, hg9]; exact setRow_heap _ _ _ _ _ _ (heap_alloc_new _ _)
  have hg9w : w.heap.size < g9 := by rw [hg9]; exact A2.out.lt
  have B4 : Hid (Below w.heap.size w W4) := B2.out.trans (K4.out.mono B2.out.size)
  have A4 := hide (A2.out.keep (K4.out.block _ A2.out.lt))
  rw [← hg9]
  clear hW4 hg9 K4 B2 A2
  have G4 := hide (HG.out.keep B4.out)
  have T4 := hide (HK.out.below B4.out HK.out.lt)
  have O4 := hide (HO.out.below B4.out HO.out.lt)
  have S4 := hide (HS.out.below B4.out)
  have l9 := lt_row R9.out
  refine wp_region_held_drew (S := fun w' => w'.rangeAt g9 0 (pubL w.heap.size kN F)) (by kernel_rfl) (rangePub R9.out) (fun hHeld => ?_)
  have KV1 : Hid (Below W4.heap.size W4 W4.drew) := (Below.refl _ _).drew
  obtain ⟨V1, hV1⟩ : ∃ V, V = W4.drew := ⟨_, rfl⟩
  rw [← hV1] at hHeld KV1 ⊢
  clear hV1
  refine wpAnyH_take (i := 0) (oi := ⟨some 33, .load 153 (.tmp 9), 153, "public.go:60", #[], none⟩) (v := .agg (pubA w.heap.size kN F)) rfl (by kernel_rfl) (by kernel_rfl) (by kernel_rfl) (fun _ _ _ h => h) (yldPub (by rfl) _ rfl g9 0 (w.heap.size) kN F rfl (fun w h => h)) hHeld ?_
  simp only [zaP, zsT, zsZ, zsS]
  refine wpAnyH_take (i := 1) (oi := ⟨some 34, .move (.tmp 1), 9, "public.go:60", #[], none⟩) (v := .string m) rfl (by kernel_rfl) (by kernel_rfl) (by kernel_rfl) (fun _ _ _ h => h) (Or.inl ⟨by rfl, fun w _ => by go_simp⟩) hHeld ?_
  simp only [zaP, zsT, zsZ, zsS]
  refine wpAnyH_take (i := 2) (oi := ⟨some 35, .move (.tmp 2), 9, "public.go:60", #[], none⟩) (v := .string g) rfl (by kernel_rfl) (by kernel_rfl) (by kernel_rfl) (fun _ _ _ h => h) (Or.inl ⟨by rfl, fun w _ => by go_simp⟩) hHeld ?_
  simp only [zaP, zsT, zsZ, zsS]
  obtain ⟨cap, V2, hcv, hR, hB, hSz⟩ := conv_bytes 9 89 5 underStr underSl8 underU8 g V1
  rw [Hg.out] at hcv
  obtain ⟨q, hq⟩ : ∃ q, q = V1.heap.size := ⟨_, rfl⟩
  rw [← hq] at hcv hR
  clear hq
  have HR := hide hR
  have KV2 := kTr KV1 hB
  clear hR hB
  refine wpAnyH_ready (rs := [3]) (by kernel_rfl) (by simp) ?_
  refine AllReadyH.cons (o := ⟨some 36, .convert 9 89 (.tmp 35), 89, "public.go:60", #[zeD 2], none⟩) rfl (fun K hK => ?_) AllReadyH.nil
  refine step_runTo (by rfl) (.slice (some ⟨q, 0, none⟩) 64 cap) (hrunConvS _ rfl g rfl _ _ _ hcv) ?_
  refine hK.out _ _ (range_below (rangePub R9.out) KV2.out l9) (fun hHeld => ?_)
  clear hK K
  try simp only [zaP, zsT, zsZ, zsS]
  have ha64 := arr64
  refine wpAnyH_take (i := 4) (oi := ⟨some 37, .sliceToArrayPointer 102 (.tmp 36), 0, "public.go:60", #[zeD 3], none⟩) (v := .pointer (some ⟨q, 0, none⟩)) rfl (by kernel_rfl) (by kernel_rfl) (by kernel_rfl) (fun _ _ _ h => h) (Or.inl ⟨by rfl, fun w _ => by go_simp⟩) hHeld ?_
  simp only [zaP, zsT, zsZ, zsS]
  refine wpAnyH_ready (rs := [5]) (by kernel_rfl) (by simp) ?_
  refine AllReadyH.cons (o := ⟨some 38, .load 102 (.tmp 37), 102, "public.go:60", #[zeD 4], none⟩) rfl (fun K hK => ?_) AllReadyH.nil
  refine step_load_mid (by rfl) 102 (.tmp 37) (by rfl) q 0 (by rfl) ((bytesOf g).map cv) _ HR.out under64 rfl (by rw [List.length_map, bytesOf_length, Hg.out]; exact size64) ?_
  refine hK.out _ _ (range_below (rangePub R9.out) KV2.out l9) (fun hHeld => ?_)
  clear hK K
  try simp only [zaP, zsT, zsZ, zsS]
  obtain ⟨M, EM⟩ : ∃ M, Hid (M = ((bytesOf g).map cv).toArray) := ⟨_, hide rfl⟩
  rw [← EM.out]
  refine wpAnyH_ready (rs := [6]) (by kernel_rfl) (by simp) ?_
  refine AllReadyH.cons (o := ⟨some 39, .call ⟨.value (.func 75), #[.tmp 33, .tmp 34, .tmp 38], #[153, 9, 102]⟩, 66, "public.go:60", #[zeD 0, zeD 1, zeD 5], none⟩) rfl (fun K hK => ?_) AllReadyH.nil
  refine step_callTo (by rfl) _ _ (hrunPubVer _ _ _ rfl (.agg (pubA w.heap.size kN F)) (.string m) (.agg M) rfl rfl rfl V2) _ (fun V => Bex w.heap.size V2 V ∧ BaseAny V w.heap.size) (pubVerN w.heap.size kN m (bytesOf g) (by rw [bytesOf_length, Hg.out]) Hm.out Hdc.out F EF.out M EM.out s gA V2 (G4.out.keep KV2.out) (T4.out.below KV2.out T4.out.lt) (O4.out.below KV2.out O4.out.lt) h7 (A4.out.keep (KV2.out.block _ A4.out.lt)) (S4.out.below KV2.out).fs (S4.out.below KV2.out).fg hgb E EE.out) (fun V3 HBx => ?_)
  have B3 : Hid (Below w.heap.size w V3) := (B4.out.trans (KV2.out.mono B4.out.size)).trans (HBx.1.below (Nat.le_trans B4.out.size KV2.out.size))
  refine hK.out _ _ (range_bex (range_below (rangePub R9.out) KV2.out l9) HBx.1 (Nat.lt_of_lt_of_le l9 KV2.out.size) (by omega)) (fun hHeld => ?_)
  clear hK K HBx
  try simp only [zaP, zsT, zsZ, zsS]
  refine wpAnyH_take (i := 7) (oi := ⟨some 6, .assign (.tmp 39), 66, "public.go:60", #[zeD 6, zeC 6, zeP 0, zeP 1, zeP 2, zeP 3, zeP 4, zeP 5, zeP 6], none⟩) (v := E) rfl (by kernel_rfl) (by kernel_rfl) (by kernel_rfl) (fun _ _ _ h => h) (Or.inl ⟨by rfl, fun w _ => by go_simp⟩) hHeld ?_
  simp only [zaP, zsT, zsZ, zsS]
  refine wpAnyH_done (by kernel_rfl) ?_ _
  go_wp2_with fail
  go_returns
  exact ⟨by rw [EV.out]; rfl, B3.out⟩
noncomputable def lvE (k m sg : ByteArray) : Int :=
 if k.size = 32 ∧ sg.size = 64 then (if dcB (valLE (bytesOf k)) = true then (if valLE ((bytesOf sg).drop 32) < Lord then (if pvC (valLE (bytesOf k)) m (bytesOf sg) = valLE ((bytesOf sg).take 32) then 0 else 4) else 3) else 2) else 1
set_option maxRecDepth 100000 in
set_option maxHeartbeats 4000000 in
theorem latchVerifyA (ky m g : ByteArray) (hm : m.size ≤ maxLen) (w : World) (k p s gA : Addr) (hG : GlB w) (hK : Tab w) (hO : OrdAt w) (hS : Sents w k p s gA) :
  Calls Tryz.prog 13 #[.string ky, .string m, .string g] w fun e w' => e = .returned (.int .i64 (lvE ky m g)) ∧ Below w.heap.size w w' := by
 have HS := hide hS
 have main := sigVerify ky m g hm w k p s gA hG hK hO hS
 have HM := hide main
 clear hG hK hO hS hm main
 go_enter Tryz.func13, Tryz.ntmps13
 go_wp2_with fail
 refine HM.out.mono ?_
 rintro e W1 ⟨rfl, hB⟩
 have B1 := hide hB
 have S1 := hide (HS.out.below hB)
 clear hB
 have fin : ∀ {n : Int} {E : Value}, E = svE p s gA ky m g → lvE ky m g = n → (Calls Tryz.prog 30 #[E] W1 fun e w' => e = .returned (.int .i64 n) ∧ Below W1.heap.size W1 w') → (Calls Tryz.prog 30 #[svE p s gA ky m g] W1 fun e w' => e = .returned (.int .i64 (lvE ky m g)) ∧ Below W1.heap.size W1 w') := by
  intro n E h1 h2 h3
  rw [← h1, h2]; exact h3
 have hcode : Calls Tryz.prog 30 #[svE p s gA ky m g] W1 fun e w' => e = .returned (.int .i64 (lvE ky m g)) ∧ Below W1.heap.size W1 w' := by
  unfold svE lvE
  by_cases h32 : ky.size = 32
  case neg => rw [if_neg h32, if_neg (show ¬ (ky.size = 32 ∧ g.size = 64) from fun h => h32 h.1)]; exact codeOf_size keyTxt _ _ W1 S1.out.hE
  case pos =>
  rw [if_pos h32]
  by_cases h64 : g.size = 64
  case neg => rw [if_neg h64, if_neg (show ¬ (ky.size = 32 ∧ g.size = 64) from fun h => h64 h.2)]; exact codeOf_size sgTxt _ _ W1 S1.out.hE
  case pos =>
  rw [if_pos h64, if_pos (show ky.size = 32 ∧ g.size = 64 from ⟨h32, h64⟩)]
  by_cases hdc : dcB (valLE (bytesOf ky)) = true
  case neg =>
   rw [if_neg hdc, if_neg hdc]
   have := codeOf_es1 keyTxt p W1 k p s gA S1.out S1.out.fp.b
   rw [show esC k p s p = 2 by unfold esC; rw [if_neg S1.out.kp, if_pos rfl]] at this
   exact this
  case pos =>
  rw [if_pos hdc, if_pos hdc]
  unfold pvE
  by_cases hlt : valLE ((bytesOf g).drop 32) < Lord
  case neg =>
   rw [if_neg hlt, if_neg hlt]
   have := codeOf_es1 sTxt s W1 k p s gA S1.out S1.out.fs.b
   rw [show esC k p s s = 3 by unfold esC; rw [if_neg S1.out.ks, if_neg S1.out.ps, if_pos rfl]] at this
   exact this
  case pos =>
  rw [if_pos hlt, if_pos hlt]
  by_cases hc : pvC (valLE (bytesOf ky)) m (bytesOf g) = valLE ((bytesOf g).take 32)
  case neg =>
   rw [if_neg hc, if_neg hc]
   have := codeOf_es1 sgTxt gA W1 k p s gA S1.out S1.out.fg.b
   rw [show esC k p s gA = 4 by unfold esC; rw [if_neg S1.out.gk, if_neg S1.out.gp, if_neg S1.out.gs]] at this
   exact this
  case pos =>
  rw [if_pos hc, if_pos hc]
  exact codeOf_nil W1
 clear fin
 obtain ⟨E, EE⟩ : ∃ E, Hid (E = svE p s gA ky m g) := ⟨_, hide rfl⟩
 rw [← EE.out] at hcode ⊢
 have HC := hide hcode
 clear hcode
 go_wp2_with fail
 refine HC.out.mono ?_
 rintro e W2 ⟨rfl, hB⟩
 have B2 := hide (B1.out.trans (hB.mono B1.out.size))
 clear hB
 obtain ⟨n, En⟩ : ∃ E, Hid (E = lvE ky m g) := ⟨_, hide rfl⟩
 rw [← En.out]
 go_wp2_with fail
 go_returns
 exact ⟨by rw [← En.out]; rfl, B2.out⟩
end
theorem sd_facts (l : List UInt8) (h : l.length = 32) : valLE (sdL l) % 8 = 0 ∧ 28948022309329048855892746252171976963317496166410141009864396001978282409984 ≤ valLE (sdL l) ∧ valLE (sdL l) < 57896044618658097711785492504343953926634992332820282019728792003956564819968 := by
 have hl : (sdL l).length = 32 := by rw [sdL_lenP, h]
 have b0 := valLE_byte (sdL l) 0
 have b31 := valLE_byte (sdL l) 31
 have g0 : (sdL l).getD 0 0 = sd0 (l.getD 0 0) := by
  unfold sdL
  simp [List.getD_eq_getElem?_getD, h]
 have g31 : (sdL l).getD 31 0 = sd31 (l.getD 31 0) := by
  unfold sdL
  simp [List.getD_eq_getElem?_getD, h]
 rw [g0, Nat.pow_zero, Nat.div_one] at b0
 rw [g31] at b31
 have u0 := UInt8.toNat_lt (l.getD 0 0)
 have u31 := UInt8.toNat_lt (l.getD 31 0)
 unfold sd0 at b0
 unfold sd31 at b31
 rw [UInt8.toNat_ofNat'] at b0 b31
 have hlt := valLE_lt (sdL l)
 rw [hl] at hlt
 generalize valLE (sdL l) = v at *
 have e31 : (256 : Nat) ^ 31 = 452312848583266388373324160190187140051835877600158453279131187530910662656 := by decide
 have e32 : (256 : Nat) ^ 32 = 115792089237316195423570985008687907853269984665640564039457584007913129639936 := by decide
 rw [e31] at b31
 rw [e32] at hlt
 refine ⟨by omega, ?_, ?_⟩
 ·
  have : 64 ≤ v / 452312848583266388373324160190187140051835877600158453279131187530910662656 := by omega
  omega
 ·
  have : v / 452312848583266388373324160190187140051835877600158453279131187530910662656 < 128 := by omega
  omega
theorem sdN_no (s : ByteArray) : ¬ Lord ∣ sdN s := by
 obtain ⟨h1, h2, h3⟩ := sd_facts ((hashOf (bytesOf s)).take 32) (by rw [List.length_take, hashOf_length]; rfl)
 exact seed_no h1 h2 h3
theorem sdC_G (s : ByteArray) : sdC s = cdG (gMul (sdN s) bG) := code_RP (RP_times RP_bG (sdN_lt s))
theorem sdC_lt (s : ByteArray) : sdC s < 115792089237316195423570985008687907853269984665640564039457584007913129639936 := by rw [sdC_G]; exact cdG_lt _
theorem key_num {s : ByteArray} (h : s.size = 32) : valLE (bytesOf (lkS s)) = sdC s := by
 unfold lkS
 rw [if_pos h, bytesOf_strOf, valLE_leB _ (sdC_lt s)]
theorem RP_dec (a : G) : RP (dcP (cdG a)) a := by
 rw [(dec_code a).2]
 have e : (⟨tau a.x.val, tau a.y.val, by rw [tau_val, tau_val]; exact a.on⟩ : G) = a := G.ext' (tau_val _) (tau_val _)
 have h := RP_of a.x.isLt a.y.isLt (show OnC (tau a.x.val) (tau a.y.val) by rw [tau_val, tau_val]; exact a.on)
 rw [e] at h
 exact h
theorem pvC_G (a : G) (m : ByteArray) (L : List UInt8) (hS : valLE (L.drop 32) < 115792089237316195423570985008687907853269984665640564039457584007913129639936) : pvC (cdG a) m L = cdG (vfG (valLE (L.drop 32)) (pvK (cdG a) m L) a) := by
 unfold pvC
 have hk : pvK (cdG a) m L < 115792089237316195423570985008687907853269984665640564039457584007913129639936 := by unfold pvK; exact Nat.lt_trans (Nat.mod_lt _ (by decide)) (by decide)
 rw [pofF_yes (dec_code a).1]
 exact code_RP (RP_add (RP_times RP_bG hS) (RP_neg (RP_times (RP_dec a) hk)))
theorem lsS_bytes {s : ByteArray} (h : s.size = 32) (m : ByteArray) : bytesOf (lsS s m) = leB (sgC (sdP s) m) 32 ++ leB (sgS (sdN s) (sdC s) (sdP s) m) 32 := by
 unfold lsS; rw [if_pos h, bytesOf_strOf]
theorem ls_take {s : ByteArray} (h : s.size = 32) (m : ByteArray) : (bytesOf (lsS s m)).take 32 = leB (sgC (sdP s) m) 32 := by
 rw [lsS_bytes h, List.take_left' (leB_length _ _)]
theorem ls_drop {s : ByteArray} (h : s.size = 32) (m : ByteArray) : (bytesOf (lsS s m)).drop 32 = leB (sgS (sdN s) (sdC s) (sdP s) m) 32 := by
 rw [lsS_bytes h, List.drop_left' (leB_length _ _)]
theorem modL (n : Nat) : n % Lord < 115792089237316195423570985008687907853269984665640564039457584007913129639936 := Nat.lt_trans (Nat.mod_lt _ (by decide)) (by decide)
theorem sgC_G (p m : ByteArray) : sgC p m = cdG (gMul (sgR p m) bG) := code_RP (RP_times RP_bG (by unfold sgR; exact modL _))
theorem k_own {s : ByteArray} (h : s.size = 32) (m o : ByteArray) : pvK (sdC s) o (bytesOf (lsS s m)) = valLE (hashOf (leB (sgC (sdP s) m) 32 ++ (leB (sdC s) 32 ++ bytesOf o))) % Lord := by
 unfold pvK; rw [ls_take h]
theorem ls_size {s : ByteArray} (h : s.size = 32) (m : ByteArray) : (lsS s m).size = 64 := by
 rw [← bytesOf_length, lsS_bytes h, List.length_append, leB_length, leB_length]
theorem lk_size {s : ByteArray} (h : s.size = 32) : (lkS s).size = 32 := by unfold lkS; rw [if_pos h, strOf_size, leB_length]
theorem verify_own {s : ByteArray} (h : s.size = 32) (m o : ByteArray) : lvE (lkS s) o (lsS s m) = if sgK (sdC s) (sdP s) m = pvK (sdC s) o (bytesOf (lsS s m)) then 0 else 4 := by
 unfold lvE
 have hS : valLE ((bytesOf (lsS s m)).drop 32) = sgS (sdN s) (sdC s) (sdP s) m := by rw [ls_drop h, valLE_leB _ (by unfold sgS; exact modL _)]
 have hR : valLE ((bytesOf (lsS s m)).take 32) = sgC (sdP s) m := by rw [ls_take h, valLE_leB _ (by rw [sgC_G]; exact cdG_lt _)]
 rw [if_pos ⟨lk_size h, ls_size h m⟩, key_num h, hS, hR, if_pos (by rw [sdC_G]; exact (dec_code _).1), if_pos (show sgS (sdN s) (sdC s) (sdP s) m < Lord by unfold sgS; exact Nat.mod_lt _ (by decide))]
 have e : pvC (sdC s) o (bytesOf (lsS s m)) = cdG (vfG (sgS (sdN s) (sdC s) (sdP s) m) (pvK (sdC s) o (bytesOf (lsS s m))) (gMul (sdN s) bG)) := by
  have := pvC_G (gMul (sdN s) bG) o (bytesOf (lsS s m)) (by rw [hS]; unfold sgS; exact modL _)
  rw [← sdC_G, hS] at this
  exact this
 rw [e, sgC_G]
 have iff : vfG (sgS (sdN s) (sdC s) (sdP s) m) (pvK (sdC s) o (bytesOf (lsS s m))) (gMul (sdN s) bG) = gMul (sgR (sdP s) m) bG ↔ sgK (sdC s) (sdP s) m = pvK (sdC s) o (bytesOf (lsS s m)) := sig_iff (a := sdN s) (r := sgR (sdP s) m) (k := sgK (sdC s) (sdP s) m) (k' := pvK (sdC s) o (bytesOf (lsS s m))) (sdN_no s) (by unfold sgK; exact Nat.mod_lt _ (by decide)) (by unfold pvK; exact Nat.mod_lt _ (by decide))
 by_cases c : sgK (sdC s) (sdP s) m = pvK (sdC s) o (bytesOf (lsS s m))
 · rw [if_pos c, if_pos (congrArg cdG (iff.2 c))]
 · rw [if_neg c, if_neg (fun hh => c (iff.1 (cdG_injS hh)))]
theorem verify_self {s : ByteArray} (h : s.size = 32) (m : ByteArray) : lvE (lkS s) m (lsS s m) = 0 := by
 rw [verify_own h, if_pos (by rw [k_own h]; rfl)]
theorem verify_short {k g : ByteArray} (m : ByteArray) (h : ¬ (k.size = 32 ∧ g.size = 64)) : lvE k m g = 1 := by unfold lvE; rw [if_neg h]
theorem verify_raised {s : ByteArray} (h : s.size = 32) (m : ByteArray) (g : ByteArray) (hg : bytesOf g = leB (sgC (sdP s) m) 32 ++ leB (sgS (sdN s) (sdC s) (sdP s) m + Lord) 32) : lvE (lkS s) m g = 3 := by
 have gs : g.size = 64 := by rw [← bytesOf_length, hg, List.length_append, leB_length, leB_length]
 have hd : (bytesOf g).drop 32 = leB (sgS (sdN s) (sdC s) (sdP s) m + Lord) 32 := by rw [hg, List.drop_left' (leB_length _ _)]
 have hlt : sgS (sdN s) (sdC s) (sdP s) m + Lord < 115792089237316195423570985008687907853269984665640564039457584007913129639936 := by
  have : sgS (sdN s) (sdC s) (sdP s) m < Lord := by unfold sgS; exact Nat.mod_lt _ (by decide)
  have e : Lord + Lord < 115792089237316195423570985008687907853269984665640564039457584007913129639936 := by decide
  omega
 unfold lvE
 rw [if_pos ⟨lk_size h, gs⟩, key_num h, if_pos (by rw [sdC_G]; exact (dec_code _).1), hd, valLE_leB _ hlt, if_neg (by omega)]
theorem hashS (s : ByteArray) (w : World) (hK : Tab w) (hs : s.size ≤ maxLen) :
  Calls Tryz.prog 20 #[.string s] w fun e w' => e = .returned (.string (strOf (hashOf (bytesOf s)))) ∧ Below w.heap.size w w' := hash_any s w hK hs
theorem sadd_size (a b : ByteArray) : (a ++ b).size = a.size + b.size := by
 rw [ByteArray.size_append]
theorem sadd_bytes (a b : ByteArray) : bytesOf (a ++ b) = bytesOf a ++ bytesOf b := by
 unfold bytesOf; rw [ByteArray.data_append, Array.toList_append]
theorem str_extS {a b : ByteArray} (h : bytesOf a = bytesOf b) : a = b := by rw [← strOf_bytesOf a, h, strOf_bytesOf]
theorem bytes_takeS (s : ByteArray) (n : Nat) : bytesOf (s.extract 0 n) = (bytesOf s).take n := by
 unfold bytesOf
 simp only [ByteArray.data_extract, Array.toList_extract, List.extract_eq_take_drop, List.drop_zero, Nat.sub_zero]
theorem bytes_dropS (s : ByteArray) (n : Nat) : bytesOf (s.extract n s.size) = (bytesOf s).drop n := by
 unfold bytesOf
 simp only [ByteArray.data_extract, Array.toList_extract, List.extract_eq_take_drop]
 refine List.take_of_length_le ?_
 rw [List.length_drop]
 exact Nat.le_refl _
theorem reduceS (L : List UInt8) (hL : L.length = 64) (T : ByteArray) (hT : T = strOf L) (w : World) (hO : OrdAt w) :
  Calls Tryz.prog 19 #[.string T] w fun e w' => e = .returned (.tuple #[.string (strOf (leB (valLE L % Lord) 32)), .int .i64 0]) ∧ Below w.heap.size w w' := by
 have hs : T.size = 64 := by rw [hT, strOf_size, hL]
 refine (latchReduce_any T w hO).mono ?_
 rintro e w' ⟨h1, _, hB⟩
 have e1 := h1 hs
 rw [hT, bytesOf_strOf] at e1
 exact ⟨e1, hB⟩
theorem str_nebS {a b : ByteArray} (h : a ≠ b) : (a.toList == b.toList) = false := by
 rw [beq_eq_false_iff_ne]
 intro e
 rw [ByteArray.toList_eq, ByteArray.toList_eq] at e
 exact h (by rw [← strOf_bytesOf a, ← strOf_bytesOf b]; exact congrArg strOf e)
theorem hrunRaised {a : Act} {o : Oper} (x : Operand) (ho : o.op = .call { callee := .value (.func 18), args := #[x], argTypes := #[9] }) (v1 : Value) (hx : a.eval x = v1) (w : World) :
  (execOp a.eval o).run Tryz.prog w = .ok (.enter 18 #[v1]) w := by
 unfold execOp
 simp only [ho]
 subst hx
 go_simp
theorem hrunLVer {a : Act} {o : Oper} (x y z : Operand) (ho : o.op = .call { callee := .value (.func 13), args := #[x, y, z], argTypes := #[9, 9, 9] }) (v1 v2 v3 : Value) (hx : a.eval x = v1) (hy : a.eval y = v2) (hz : a.eval z = v3) (w : World) :
  (execOp a.eval o).run Tryz.prog w = .ok (.enter 13 #[v1, v2, v3]) w := by
 unfold execOp
 simp only [ho]
 subst hx hy hz
 go_simp
theorem raisedN (n : Nat) (s : ByteArray) (hs : s = strOf (leB n 32)) (T : ByteArray) (hT : T = strOf (leB (n + Lord) 32)) (w : World) :
  Calls Tryz.prog 18 #[.string s] w fun e w' => e = .returned (.string T) ∧ Below w.heap.size w w' := by rw [hT]; exact raisedK n s hs w
theorem verN (ky m g : ByteArray) (hm : m.size ≤ maxLen) (n : Int) (hn : lvE ky m g = n) (w : World) (k p s gA : Addr) (hG : GlB w) (hK : Tab w) (hO : OrdAt w) (hS : Sents w k p s gA) :
  Calls Tryz.prog 13 #[.string ky, .string m, .string g] w fun e w' => e = .returned (.int .i64 n) ∧ Below w.heap.size w w' := by rw [← hn]; exact latchVerifyA ky m g hm w k p s gA hG hK hO hS
theorem own_kk {s : ByteArray} (h : s.size = 32) (m o Ky U A : ByteArray) (eK : Ky = lkS s) (eU : U = lsS s m) (eA : bytesOf A = leB (sgC (sdP s) m) 32) (k0 k1 : Nat) (e0 : k0 = valLE (hashOf (bytesOf A ++ bytesOf Ky ++ bytesOf m)) % Lord) (e1 : k1 = valLE (hashOf (bytesOf A ++ bytesOf Ky ++ bytesOf o)) % Lord) :
  lvE Ky o U = if k0 = k1 then 0 else 4 := by
 have bK : bytesOf Ky = leB (sdC s) 32 := by rw [eK]; unfold lkS; rw [if_pos h, bytesOf_strOf]
 have f0 : sgK (sdC s) (sdP s) m = k0 := by rw [e0, eA, bK, List.append_assoc]; unfold sgK; rfl
 have f1 : pvK (sdC s) o (bytesOf (lsS s m)) = k1 := by rw [k_own h, e1, eA, bK, List.append_assoc]
 rw [eK, eU, verify_own h m o, f0, f1]
section
attribute [local irreducible] lkS lkE lsS lvE padB sgK sgC sgS sdC sdP sdN
set_option maxRecDepth 100000 in
set_option maxHeartbeats 4000000 in
theorem signed_any (sd m o : ByteArray) (hm : m.size ≤ 140737488351232) (ho : o.size ≤ 140737488351232) (w : World) (k p s g : Addr) (hG : GlB w) (hK : Tab w) (hO : OrdAt w) (hS : Sents w k p s g) :
  Calls Tryz.prog 5 #[.string sd, .string m, .string o] w fun e w' => e = .returned (.bool true) ∧ Below w.heap.size w w' := by
 have HG := hide hG
 have HK := hide hK
 have HO := hide hO
 have HS := hide hS
 have Hm := hide hm
 have Ho := hide ho
 have Mm : Hid (m.size ≤ maxLen) := Nat.le_trans hm (by decide)
 have Mo : Hid (o.size ≤ maxLen) := Nat.le_trans ho (by decide)
 clear hG hK hO hS hm ho
 go_enter Tryz.func5, Tryz.ntmps5
 go_wp2_with fail
 refine (awakeK w HG.out).mono ?_
 rintro e W1 ⟨rfl, hB⟩
 have B1 := hide hB
 clear hB
 go_wp2_with fail
 refine (bytesA' sd 32 (by decide) _).mono ?_
 rintro e W2 ⟨rfl, hB⟩
 have B2 := hide (B1.out.trans (hB.mono B1.out.size))
 clear hB B1
 obtain ⟨S, ES⟩ : ∃ S, Hid (S = strOf (padB sd 32)) := ⟨_, hide rfl⟩
 have H32 : Hid (S.size = 32) := by rw [ES.out]; exact pad_size _ _
 rw [← ES.out]
 go_wp2_with fail
 refine (signedK S m H32.out Mm.out W2 (HG.out.keep B2.out) (HK.out.below B2.out HK.out.lt) (HO.out.below B2.out HO.out.lt) (HS.out.below B2.out).hE).mono ?_
 rintro e W3 ⟨rfl, hB⟩
 have B3 := hide (B2.out.trans (hB.mono B2.out.size))
 clear hB B2
 obtain ⟨Ky, EK⟩ : ∃ S', Hid (S' = lkS S) := ⟨_, hide rfl⟩
 obtain ⟨U, EU⟩ : ∃ S', Hid (S' = lsS S m) := ⟨_, hide rfl⟩
 have K32 : Hid (Ky.size = 32) := by rw [EK.out]; exact lk_size H32.out
 have U64 : Hid (U.size = 64) := by rw [EU.out]; exact ls_size H32.out m
 rw [← EK.out, ← EU.out]
 go_wp2_with fail
 refine (signedK S m H32.out Mm.out W3 (HG.out.keep B3.out) (HK.out.below B3.out HK.out.lt) (HO.out.below B3.out HO.out.lt) (HS.out.below B3.out).hE).mono ?_
 rintro e W4 ⟨rfl, hB⟩
 have B4 := hide (B3.out.trans (hB.mono B3.out.size))
 clear hB B3
 rw [← EK.out, ← EU.out]
 go_wp2_with fail
 refine (latchVerifyA Ky m U Mm.out W4 k p s g (HG.out.keep B4.out) (HK.out.below B4.out HK.out.lt) (HO.out.below B4.out HO.out.lt) (HS.out.below B4.out)).mono ?_
 rintro e W5 ⟨rfl, hB⟩
 have B5 := hide (B4.out.trans (hB.mono B4.out.size))
 clear hB B4
 rw [show lvE Ky m U = 0 by rw [EK.out, EU.out]; exact verify_self H32.out m]
 have hs1 : U.size + (⟨#[0]⟩ : ByteArray).size ≤ 9223372036854775807 := by rw [U64.out]; decide
 go_wp2_with fail
 clear hs1
 obtain ⟨U1, EU1⟩ : ∃ S', Hid (S' = U ++ ⟨#[0]⟩) := ⟨_, hide rfl⟩
 rw [← EU1.out]
 refine (latchVerifyA Ky m U1 Mm.out W5 k p s g (HG.out.keep B5.out) (HK.out.below B5.out HK.out.lt) (HO.out.below B5.out HO.out.lt) (HS.out.below B5.out)).mono ?_
 rintro e W6 ⟨rfl, hB⟩
 have B6 := hide (B5.out.trans (hB.mono B5.out.size))
 clear hB B5
 rw [show lvE Ky m U1 = 1 from verify_short m (fun h => by have h2 := h.2; rw [EU1.out, sadd_size, U64.out] at h2; exact absurd h2 (by decide))]
 have hu : (U.size : Int) = 64 := by rw [U64.out]; rfl
 have hk : (Ky.size : Int) = 32 := by rw [K32.out]; rfl
 have hs63 : (63 : Int) ≤ (U.size : Int) := by omega
 have hs31 : (31 : Int) ≤ (Ky.size : Int) := by omega
 have hs32 : (32 : Int) ≤ (U.size : Int) := by omega
 go_wp2_with fail
 obtain ⟨U2, EU2⟩ : ∃ S', Hid (S' = U.extract 0 63) := ⟨_, hide rfl⟩
 rw [← EU2.out]
 refine (latchVerifyA Ky m U2 Mm.out W6 k p s g (HG.out.keep B6.out) (HK.out.below B6.out HK.out.lt) (HO.out.below B6.out HO.out.lt) (HS.out.below B6.out)).mono ?_
 rintro e W7 ⟨rfl, hB⟩
 have B7 := hide (B6.out.trans (hB.mono B6.out.size))
 clear hB B6
 rw [show lvE Ky m U2 = 1 from verify_short m (fun h => by have h2 := h.2; rw [EU2.out, ← bytesOf_length, bytes_takeS, List.length_take, bytesOf_length, U64.out] at h2; exact absurd h2 (by decide))]
 go_wp2_with fail
 obtain ⟨K1, EK1⟩ : ∃ S', Hid (S' = Ky.extract 0 31) := ⟨_, hide rfl⟩
 rw [← EK1.out]
 refine (latchVerifyA K1 m U Mm.out W7 k p s g (HG.out.keep B7.out) (HK.out.below B7.out HK.out.lt) (HO.out.below B7.out HO.out.lt) (HS.out.below B7.out)).mono ?_
 rintro e W8 ⟨rfl, hB⟩
 have B8 := hide (B7.out.trans (hB.mono B7.out.size))
 clear hB B7
 rw [show lvE K1 m U = 1 from verify_short m (fun h => by have h2 := h.1; rw [EK1.out, ← bytesOf_length, bytes_takeS, List.length_take, bytesOf_length, K32.out] at h2; exact absurd h2 (by decide))]
 obtain ⟨n, En⟩ : ∃ n, Hid (n = sgS (sdN S) (sdC S) (sdP S) m) := ⟨_, hide rfl⟩
 obtain ⟨A, EA⟩ : ∃ S', Hid (S' = U.extract 0 32) := ⟨_, hide rfl⟩
 obtain ⟨D, ED⟩ : ∃ S', Hid (S' = U.extract 32 U.size) := ⟨_, hide rfl⟩
 have bA1 : Hid (bytesOf A = leB (sgC (sdP S) m) 32) := by show _ = _; rw [EA.out, bytes_takeS, EU.out]; exact ls_take H32.out m
 have bD1 : Hid (D = strOf (leB n 32)) := by
  show _ = _
  refine str_extS ?_
  rw [ED.out, bytes_dropS, bytesOf_strOf, EU.out, En.out]; exact ls_drop H32.out m
 have A32 : Hid (A.size = 32) := by show _ = _; rw [← bytesOf_length, bA1.out, leB_length]
 have hxA : U.extract 0 32 = A := EA.out.symm
 have hxD : U.extract 32 U.size = D := ED.out.symm
 obtain ⟨D2, ED2⟩ : ∃ S', Hid (S' = strOf (leB (n + Lord) 32)) := ⟨_, hide rfl⟩
 have hs4 : A.size + D2.size ≤ 9223372036854775807 := by rw [A32.out, ED2.out, strOf_size, leB_length]; decide
 obtain ⟨U3, EU3⟩ : ∃ S', Hid (S' = A ++ D2) := ⟨_, hide rfl⟩
 have hU3 : A ++ D2 = U3 := EU3.out.symm
 have EV3 : Hid (lvE Ky m U3 = 3) := by show _ = _; rw [EK.out]; exact verify_raised H32.out m U3 (by rw [EU3.out, sadd_bytes, bA1.out, ED2.out, bytesOf_strOf, En.out])
 go_upto_region 11 with fail
 refine wp_region_held_drew (S := fun w' => True) (by kernel_rfl) trivial (fun hHeld => ?_)
 have KV1 : Hid (Below W8.heap.size W8 W8.drew) := (Below.refl _ _).drew
 obtain ⟨V1, hV1⟩ : ∃ V, V = W8.drew := ⟨_, rfl⟩
 rw [← hV1] at KV1 ⊢
 clear hV1
 refine wpAnyH_take (i := 0) (oi := ⟨some 76, .move (.tmp 9), 9, "keep.go:193", #[], none⟩) (v := .string Ky) rfl (by kernel_rfl) (by kernel_rfl) (by kernel_rfl) (fun _ _ _ h => h) (Or.inl ⟨by rfl, fun w _ => by go_simp⟩) hHeld ?_
 simp only [zaP, zsT, zsZ, zsS]
 refine wpAnyH_take (i := 1) (oi := ⟨some 77, .move (.tmp 1), 9, "keep.go:193", #[], none⟩) (v := .string m) rfl (by kernel_rfl) (by kernel_rfl) (by kernel_rfl) (fun _ _ _ h => h) (Or.inl ⟨by rfl, fun w _ => by go_simp⟩) hHeld ?_
 simp only [zaP, zsT, zsZ, zsS]
 refine wpAnyH_take (i := 2) (oi := ⟨some 78, .move (.tmp 10), 9, "keep.go:193", #[], none⟩) (v := .string U) rfl (by kernel_rfl) (by kernel_rfl) (by kernel_rfl) (fun _ _ _ h => h) (Or.inl ⟨by rfl, fun w _ => by go_simp⟩) hHeld ?_
 simp only [zaP, zsT, zsZ, zsS]
 refine wpAnyH_take (i := 3) (oi := ⟨some 79, .slice 9 (.tmp 78) none (some (.const (.int .i64 32))) none, 9, "keep.go:193", #[zeD 2], none⟩) (v := .string A) rfl (by kernel_rfl) (by kernel_rfl) (by kernel_rfl) (fun _ _ _ h => h) (Or.inl ⟨by rfl, fun w _ => by go_simp⟩) hHeld ?_
 simp only [zaP, zsT, zsZ, zsS]
 refine wpAnyH_take (i := 4) (oi := ⟨some 80, .move (.tmp 10), 9, "keep.go:193", #[], none⟩) (v := .string U) rfl (by kernel_rfl) (by kernel_rfl) (by kernel_rfl) (fun _ _ _ h => h) (Or.inl ⟨by rfl, fun w _ => by go_simp⟩) hHeld ?_
 simp only [zaP, zsT, zsZ, zsS]
 refine wpAnyH_take (i := 5) (oi := ⟨some 81, .slice 9 (.tmp 80) (some (.const (.int .i64 32))) none none, 9, "keep.go:193", #[zeD 4], none⟩) (v := .string D) rfl (by kernel_rfl) (by kernel_rfl) (by kernel_rfl) (fun _ _ _ h => h) (Or.inl ⟨by rfl, fun w _ => by go_simp⟩) hHeld ?_
 simp only [zaP, zsT, zsZ, zsS]
 refine wpAnyH_ready (rs := [6]) (by kernel_rfl) (by simp) ?_
 refine AllReadyH.cons (o := ⟨some 82, .call ⟨.value (.func 18), #[.tmp 81], #[9]⟩, 9, "keep.go:193", #[zeD 5], none⟩) rfl (fun K hK => ?_) AllReadyH.nil
 refine step_callTo (by rfl) _ _ (hrunRaised _ rfl (.string D) rfl V1) _ _ (raisedN n D bD1.out D2 ED2.out V1) (fun V2 HBx => ?_)
 have KV2 := kTr KV1 HBx
 clear HBx
 refine hK.out _ _ ?_ (fun hHeld => ?_)
 · exact trivial
 clear hK K
 try simp only [zaP, zsT, zsZ, zsS]
 refine wpAnyH_take (i := 7) (oi := ⟨some 83, .binOp .add 9 (.tmp 79) (.tmp 82) 9, 9, "keep.go:193", #[zeD 3, zeD 6], none⟩) (v := .string U3) rfl (by kernel_rfl) (by kernel_rfl) (by kernel_rfl) (fun _ _ _ h => h) (Or.inl ⟨by rfl, fun w _ => by go_simp⟩) hHeld ?_
 simp only [zaP, zsT, zsZ, zsS]
 refine wpAnyH_ready (rs := [8]) (by kernel_rfl) (by simp) ?_
 refine AllReadyH.cons (o := ⟨some 84, .call ⟨.value (.func 13), #[.tmp 76, .tmp 77, .tmp 83], #[9, 9, 9]⟩, 22, "keep.go:193", #[zeD 0, zeD 1, zeD 7, zeC 6], none⟩) rfl (fun K hK => ?_) AllReadyH.nil
 refine step_callTo (by rfl) _ _ (hrunLVer _ _ _ rfl (.string Ky) (.string m) (.string U3) rfl rfl rfl V2) _ _ (verN Ky m U3 Mm.out 3 EV3.out V2 k p s g (HG.out.keep (B8.out.trans (KV2.out.mono B8.out.size))) (HK.out.below (B8.out.trans (KV2.out.mono B8.out.size)) HK.out.lt) (HO.out.below (B8.out.trans (KV2.out.mono B8.out.size)) HO.out.lt) (HS.out.below (B8.out.trans (KV2.out.mono B8.out.size)))) (fun V3 HBx => ?_)
 have KV3 := kTr KV2 HBx
 clear HBx
 refine hK.out _ _ ?_ (fun hHeld => ?_)
 · exact trivial
 clear hK K
 try simp only [zaP, zsT, zsZ, zsS]
 refine wpAnyH_take (i := 9) (oi := ⟨some 19, .assign (.tmp 84), 22, "keep.go:193", #[zeD 8, zeC 8, zeP 0, zeP 1, zeP 2, zeP 3, zeP 4, zeP 5, zeP 6, zeP 7, zeP 8], none⟩) (v := .int .i64 3) rfl (by kernel_rfl) (by kernel_rfl) (by kernel_rfl) (fun _ _ _ h => h) (Or.inl ⟨by rfl, fun w _ => by go_simp⟩) hHeld ?_
 simp only [zaP, zsT, zsZ, zsS]
 refine wpAnyH_done (by kernel_rfl) ?_ _
 have KF : Hid (Below W8.heap.size W8 V3) := KV3
 obtain ⟨W10, hW10⟩ : ∃ W, W = V3 := ⟨_, rfl⟩
 rw [← hW10] at KF ⊢
 clear hW10
 have B10 := hide (B8.out.trans (KF.out.mono B8.out.size))
 clear KF B8 hs4 hU3
 go_wp2_with fail
 refine (latchVerifyA Ky o U Mo.out W10 k p s g (HG.out.keep B10.out) (HK.out.below B10.out HK.out.lt) (HO.out.below B10.out HO.out.lt) (HS.out.below B10.out)).mono ?_
 rintro e W11 ⟨rfl, hB⟩
 have B11 := hide (B10.out.trans (hB.mono B10.out.size))
 clear hB B10
 obtain ⟨k0, Ek0⟩ : ∃ n, Hid (n = valLE (hashOf (bytesOf A ++ bytesOf Ky ++ bytesOf m)) % Lord) := ⟨_, hide rfl⟩
 obtain ⟨k1, Ek1⟩ : ∃ n, Hid (n = valLE (hashOf (bytesOf A ++ bytesOf Ky ++ bytesOf o)) % Lord) := ⟨_, hide rfl⟩
 have EF : Hid (lvE Ky o U = if k0 = k1 then 0 else 4) := own_kk H32.out m o Ky U A EK.out EU.out bA1.out k0 k1 Ek0.out Ek1.out
 rw [EF.out]
 have hs5 : A.size + Ky.size ≤ 9223372036854775807 := by rw [A32.out, K32.out]; decide
 have hs6 : (A ++ Ky).size + m.size ≤ 9223372036854775807 := by rw [sadd_size, A32.out, K32.out]; have := Hm.out; omega
 have hs7 : (A ++ Ky).size + o.size ≤ 9223372036854775807 := by rw [sadd_size, A32.out, K32.out]; have := Ho.out; omega
 obtain ⟨f, Ef⟩ : ∃ f : Int, Hid (f = if k0 = k1 then 0 else 4) := ⟨_, hide rfl⟩
 rw [← Ef.out]
 go_wp2_with fail
 try rw [hxA]
 refine (hashS (A ++ Ky ++ m) W11 (HK.out.below B11.out HK.out.lt) (by rw [sadd_size, sadd_size, A32.out, K32.out]; have := Hm.out; unfold maxLen; omega)).mono ?_
 rintro e W12 ⟨rfl, hB⟩
 have B12 := hide (B11.out.trans (hB.mono B11.out.size))
 clear hB B11
 obtain ⟨H1, EH1⟩ : ∃ n, Hid (n = hashOf (bytesOf (A ++ Ky ++ m))) := ⟨_, hide rfl⟩
 rw [← EH1.out]
 obtain ⟨T1, ET1⟩ : ∃ n, Hid (n = strOf H1) := ⟨_, hide rfl⟩
 rw [← ET1.out]
 go_wp2_with fail
 refine (reduceS H1 (by rw [EH1.out]; exact hashOf_length _) T1 ET1.out W12 (HO.out.below B12.out HO.out.lt)).mono ?_
 rintro e W13 ⟨rfl, hB⟩
 have B13 := hide (B12.out.trans (hB.mono B12.out.size))
 clear hB B12
 rw [show valLE H1 % Lord = k0 by rw [EH1.out, Ek0.out, sadd_bytes, sadd_bytes]]
 obtain ⟨X, EX⟩ : ∃ n, Hid (n = strOf (leB k0 32)) := ⟨_, hide rfl⟩
 rw [← EX.out]
 go_wp2_with fail
 try rw [hxA]
 refine (hashS (A ++ Ky ++ o) W13 (HK.out.below B13.out HK.out.lt) (by rw [sadd_size, sadd_size, A32.out, K32.out]; have := Ho.out; unfold maxLen; omega)).mono ?_
 rintro e W14 ⟨rfl, hB⟩
 have B14 := hide (B13.out.trans (hB.mono B13.out.size))
 clear hB B13
 obtain ⟨H2, EH2⟩ : ∃ n, Hid (n = hashOf (bytesOf (A ++ Ky ++ o))) := ⟨_, hide rfl⟩
 rw [← EH2.out]
 obtain ⟨T2, ET2⟩ : ∃ n, Hid (n = strOf H2) := ⟨_, hide rfl⟩
 rw [← ET2.out]
 go_wp2_with fail
 refine (reduceS H2 (by rw [EH2.out]; exact hashOf_length _) T2 ET2.out W14 (HO.out.below B14.out HO.out.lt)).mono ?_
 rintro e W15 ⟨rfl, hB⟩
 have B15 := hide (B14.out.trans (hB.mono B14.out.size))
 clear hB B14
 rw [show valLE H2 % Lord = k1 by rw [EH2.out, Ek1.out, sadd_bytes, sadd_bytes]]
 obtain ⟨Y, EY⟩ : ∃ n, Hid (n = strOf (leB k1 32)) := ⟨_, hide rfl⟩
 rw [← EY.out]
 clear hs5 hs6 hs7 hxA hxD
 by_cases c : k0 = k1
 ·
  have hf : f = 0 := by rw [Ef.out, if_pos c]
  have hXY : X = Y := by rw [EX.out, EY.out, c]
  subst hXY
  subst hf
  clear c
  go_wp2_with fail
  go_returns
  exact ⟨rfl, B15.out⟩
 ·
  have hf : f = 4 := by rw [Ef.out, if_neg c]
  have hXY : (X.toList == Y.toList) = false := by
   refine str_nebS ?_
   intro e
   apply c
   have e2 : valLE (bytesOf X) = valLE (bytesOf Y) := by rw [e]
   rw [EX.out, EY.out, bytesOf_strOf, bytesOf_strOf, valLE_leB _ (by rw [Ek0.out]; exact modL _), valLE_leB _ (by rw [Ek1.out]; exact modL _)] at e2
   exact e2
  subst hf
  clear c
  go_wp2_with fail
  go_returns
  exact ⟨rfl, B15.out⟩
end
end Go.Proofs.YtccgfabojbjmjaaGreatDoor
namespace Go.Proofs.YtccgfabojbjmjaaGreatDoor
open Go.ChangeShapes Go.WideShapes Go.ChangeAt Go.RowKit
open Go.ChangeMaps (open_string shut_string)
set_option maxRecDepth 100000 in
theorem signed_contract (H : Type) (enc : TypeId × Value → H) (W : World) (base : Nat) (args : Array Value) (ds gs : List (DataW H)) (before : List MemPlace)
  (hval : ∀ (j : Nat) t v, Tryz.f5.params[j]? = some t → args[j]? = some v → Value.okWide Tryz.prog W .any base t v)
  (hW : DataW.Whole enc Tryz.prog Tryz.f5.params.toList Rows.signedSpec.vars false W args.toList ds gs before)
  (hsz0 : (DataW.weightsEach Tryz.prog (Tryz.f5.params.toList ++ (OpenSpec.ofChange Rows.signedSpec).bare.plain.varTypes Tryz.prog) (ds ++ gs)).all (· ≤ reachBytes) = true)
  (hL : laidMetH Tryz.prog Rows.signedRow.laid W) :
  Calls Tryz.prog 5 args W fun e W' => ∃ v, e = .returned v ∧ Rows.signedSpec.post enc Tryz.prog Tryz.f5 false true false false W args v W' := by
 have hsz := hsz0
 have hW' := hW
 obtain ⟨p, q, hA0, hV, rfl, hfz, hnd⟩ := hW
 have hA : DataW.TrodAll enc Tryz.prog W 0 (fun _ => true) true Tryz.f5.params.toList args.toList ds p := hA0
 rw [Tryz.params5] at hA hval hsz
 obtain ⟨v0, vs0, d0, ds0, p0, q0, hargs, rfl, rfl, h0, r0⟩ := trodAll_cons hA
 obtain ⟨v1, vs1, d1, ds1, p1, q1, hargs1, rfl, rfl, h1, r1⟩ := trodAll_cons r0
 obtain ⟨v2, vs2, d2, ds2, p2, q2, hargs2, rfl, rfl, h2, r2⟩ := trodAll_cons r1
 obtain ⟨rfl, rfl, rfl⟩ := trodAll_nil r2
 obtain rfl : args = #[v0, v1, v2] := by cases args; simp_all
 obtain ⟨rfl, rfl⟩ := trodVars_none hV
 obtain ⟨a0, rfl, rfl, rfl, w0⟩ := open_string Tryz.underlying9 (hval 0 9 v0 rfl rfl) h0
 obtain ⟨a1, rfl, rfl, rfl, w1⟩ := open_string Tryz.underlying9 (hval 1 9 v1 rfl rfl) h1
 obtain ⟨a2, rfl, rfl, rfl, w2⟩ := open_string Tryz.underlying9 (hval 2 9 v2 rfl rfl) h2
 have hs2 : a2.size ≤ 140737488351232 := sized_string hsz (j := 2) (t := 9) rfl rfl
 have hs1 : a1.size ≤ 140737488351232 := sized_string hsz (j := 1) (t := 9) rfl rfl
 clear hA0
 obtain ⟨k, p, s, g, hS⟩ := sents_met hL (by kernel_rfl) (by kernel_rfl) (by kernel_rfl) (by kernel_rfl) (by kernel_rfl)
 refine (signed_any a0 a1 a2 hs1 hs2 W k p s g (glB_of hL (by kernel_rfl) (by kernel_rfl) (by kernel_rfl) (by kernel_rfl) (by kernel_rfl) (by kernel_rfl)) (tab_met hL (by kernel_rfl)) (ord_met hL (by kernel_rfl)) hS).mono fun e W' ⟨he, bel⟩ => ?_
 subst he
 exact ⟨_, rfl, _, _, _, [], _, [], hW', trodAll_mk1 (shut_bool Tryz.underlying4 _), (trodAll_cons_mk (shut_string Tryz.underlying9 w0) (trodAll_cons_mk (shut_string Tryz.underlying9 w1) (trodAll_cons_mk (shut_string Tryz.underlying9 w2) trodAll_mk0))), rfl, bel.frame _, fun h => by cases h⟩
theorem signed_laid_met (os : Os) : laidMetH Tryz.prog Rows.signedRow.laid ((laidWorldS os).forCall (fun _ _ => 0) ⟨#[], #[.string ByteArray.empty, .string ByteArray.empty, .string ByteArray.empty], []⟩).memory :=
 laidMetH_of_parts (laidMet_of_run' 200 (by kernel_rfl) (by kernel_rfl)) (by kernel_rfl)
set_option maxRecDepth 100000 in
theorem signed_lifted (os : Os) (started : os.Started) (H : Type) (enc : TypeId × Value → H) (F : Stop.Interp) :
  ReturnsInHanded {} Tryz.checked os 5 .any ((OpenSpec.ofChange Rows.signedSpec).preRow enc Tryz.prog Tryz.f5 Rows.signedRow.domain false Rows.signedRow.laid) (((OpenSpec.ofChange Rows.signedSpec).at F).post enc Tryz.prog Tryz.f5 false true false false) := by
 refine returnsInHanded_of_row (C := Tryz.checked) (s := OpenSpec.ofChange Rows.signedSpec) own started (by kernel_rfl) Tryz.func5
  (witness_row_at (enc := enc) (C := Tryz.checked) false (laidWorldS os) #[.string ByteArray.empty, .string ByteArray.empty, .string ByteArray.empty] rfl (by kernel_rfl) (by kernel_rfl) (by kernel_rfl)
   (OpenSpec.preRow_of_cond (x := ([.lit (.string []), .lit (.string []), .lit (.string [])], [], [])) 8 (by kernel_rfl) (by kernel_rfl) (fun k hk => by cases hk) (by kernel_rfl) (signed_laid_met os))) ?_
 intro W base args ds gs before hval hW _ _ hsz hL _ _
 exact signed_contract H enc W base args ds gs before hval hW hsz hL
theorem signed_said : Rows.SignedSaid :=
 OpenClaim.holds_of_cond 5 Tryz.f5 rfl rfl rfl rfl rfl rfl rfl ⟨rfl, rfl, rfl, rfl, rfl⟩ rfl rfl rfl rfl rfl (by kernel_rfl) Tryz.func5 (by kernel_rfl)
  (of_decide_eq_true (by kernel_rfl)) (by unfold Func.isWrapper; first | (rw [if_pos (by decide +kernel)]; kernel_rfl) | (rw [if_neg (by decide +kernel)]; exact ⟨rfl, rfl⟩))
  (fun os started H enc _ F => by rw [OpenClaim.pre_eq_preRow]; exact signed_lifted os started H enc F)
theorem signed_plain (f : FuncId) (fn : Func) (hf : Tryz.pinned.checked.prog.funcNamed "latch/latchkeep.Signed" = some f) (hfn : Tryz.pinned.checked.prog.funcs[f]? = some fn) :
  true = Tryz.pinned.checked.prog.looks [] ∧ ∀ (j : Nat) t, fn.params[j]? = some t → Tryz.pinned.checked.prog.wantsStandIn t = false := by
 obtain rfl : f = 5 := Option.some.inj ((show Tryz.prog.funcNamed "latch/latchkeep.Signed" = some 5 by kernel_rfl).symm.trans hf) |>.symm
 obtain rfl : fn = Tryz.f5 := (Option.some.inj (Tryz.func5.symm.trans hfn)).symm
 refine ⟨by kernel_rfl, fun j t ht => ?_⟩
 rw [Tryz.params5] at ht
 obtain rfl : t = 9 := by simpa using Array.mem_of_getElem? ht
 exact (show Tryz.prog.wantsStandIn 9 = false by kernel_rfl)
theorem signed_card : Rows.SignedCardSaid :=
 Claim7.holds_tied_plain_at .later [] _ _ _ _ signed_said (fun _ h => by cases h) (by kernel_rfl) (fun _ h => by cases h) signed_row_tie rfl ⟨rfl, rfl⟩ (by kernel_rfl) rfl signed_plain (by kernel_rfl)
#print axioms signed_card
end Go.Proofs.YtccgfabojbjmjaaGreatDoor
