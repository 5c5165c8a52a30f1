import Derived.Test.YtccgfabojbjmjaaGreatDoorVe48
import Derived.Test.YtccgfabojbjmjaaGreatDoorVe51
import Derived.Test.YtccgfabojbjmjaaGreatDoorVe45
namespace Go.Proofs.YtccgfabojbjmjaaGreatDoor
open Go.RowKit
theorem rangePub {w : World} {g b m : Nat} {f : Nat → Pt} {T : TypeId} {fr : Nat × Nat} (h : w.heap[g]? = some (.cells (pubA b m f) T fr)) : w.rangeAt g 0 (pubL b m f) := by
 intro j v hv
 rw [Nat.zero_add, cell_of_row w g j _ T _ h, pubA, List.getElem?_toArray]
 exact hv
theorem yldPub {ops : Array Oper} {S : World → Prop} {op : Oper} {a : Act} (hw : Region.wanted op (yielded ops a.tmps) = true) (x : Operand) (ho : op.op = .load 153 x)
  (g o b m : Nat) (f : Nat → Pt) (hx : a.eval x = .pointer (some ⟨g, o, none⟩)) (hS : ∀ w, S w → w.rangeAt g o (pubL b m f)) : YieldsIf Tryz.prog ops S op (.agg (pubA b m f)) a :=
 yld_load hw _ x ho g o hx (pubL b m f) (pubA b m f) rfl _ hS Tryz.underlying153 rfl (by rw [pubL_len]; exact sizePub)
theorem hrunConvS {a : Act} {o : Oper} (x : Operand) (ho : o.op = .convert 9 89 x) (s : ByteArray) (hx : a.eval x = .string s) (v : Value) (w w' : World) (h : (convert 9 89 (.string s)).run Tryz.prog w = .ok v w') :
  (execOp a.eval o).run Tryz.prog w = .ok (.value v) w' := by
 unfold execOp
 simp only [ho, hx]
 go_simp
theorem arr64 (b cap : Nat) (w : World) : (Instr.arrayAt 102 (.slice (some ⟨b, 0, none⟩) 64 cap)).run Tryz.prog w = .ok (.pointer (some ⟨b, 0, none⟩)) w := by
 simp [Instr.arrayAt, run_underlying under64]
theorem hrunPubVer {a : Act} {o : Oper} (x y z : Operand) (ho : o.op = .call { callee := .value (.func 75), args := #[x, y, z], argTypes := #[153, 9, 102] }) (v1 v2 v3 : Value) (hx : a.eval x = v1) (hy : a.eval y = v2) (hz : a.eval z = v3) (w : World) :
  (execOp a.eval o).run Tryz.prog w = .ok (.enter 75 #[v1, v2, v3]) w := by
 unfold execOp
 simp only [ho]
 subst hx hy hz
 go_simp
theorem pubVerN (b m : Nat) (msg : ByteArray) (L : List UInt8) (hL : L.length = 64) (hmsg : msg.size ≤ maxLen) (hd : dcB m = true) (F : Nat → Pt) (hF : F = pofF m) (M : Array Value) (hM : M = (L.map cv).toArray) (sA gA : Addr) (w : World) (hG : GlB w) (hK : Tab w) (hO : OrdAt w) (h7 : 13 ≤ b) (hN : BaseAny w b)
  (hS : SentP w 2 sA) (hGs : SentP w 4 gA) (hgb : gA.block ≠ b) (E : Value) (hE : E = pvE sA gA m msg L) :
  Calls Tryz.prog 75 #[.agg (pubA b m F), .string msg, .agg M] w fun e w' => e = .returned E ∧ Bex b w w' ∧ BaseAny w' b := by
 rw [hF, hM, hE]; exact pubVerify b m msg L hL hmsg hd sA gA w hG hK hO h7 hN hS hGs hgb
noncomputable def svE (p s g : Addr) (k m sg : ByteArray) : Value :=
 if k.size = 32 then (if sg.size = 64 then (if dcB (valLE (bytesOf k)) = true then pvE s g (valLE (bytesOf k)) m (bytesOf sg) else atE keyTxt (esI p)) else atE sgTxt (szI sg.size 64)) else atE keyTxt (szI k.size 32)
theorem sent_blk {w : World} {g : Nat} {a : Addr} (h : SentP w g a) : a.block < w.heap.size := by
 obtain ⟨c, t, e⟩ := h.b
 exact lt_row e
section
attribute [local irreducible] num4A nL pA psA psL pL bA bL bpP dcP dcB pubA pubZ pubL baseZ
set_option maxRecDepth 100000 in
set_option maxHeartbeats 4000000 in
theorem sigVerify (ky m g : ByteArray) (hm : m.size ≤ maxLen) (w : World) (k p s gA : Addr) (hG : GlB w) (hK : Tab w) (hO : OrdAt w) (hS : Sents w k p s gA) :
  Calls Tryz.prog 41 #[.string ky, .string m, .string g] w fun e w' => e = .returned (svE p s gA ky m g) ∧ Below w.heap.size w w' := by
 have hzb := zeroBase
 have hzp := zeroPub
 have HG := hide hG
 have HK := hide hK
 have HO := hide hO
 have HS := hide hS
 have Hm := hide hm
 have h7 := hG.seven
 clear hG hK hO hS hm
 go_enter Tryz.func41, Tryz.ntmps41
 go_wp2_with fail
 refine (ofSize_any keyTxt ky 32 _).mono ?_
 rintro e W1 ⟨rfl, hw⟩
 have hw' := hw.symm
 subst hw'
 clear hw
 unfold ofSzV
 by_cases h32 : ky.size = 32
 case neg =>
  rw [if_neg (by omega)]
  have EE : Hid (svE p s gA ky m g = atE keyTxt (szI ky.size 32)) := by show _ = _; unfold svE; rw [if_neg h32]
  obtain ⟨E, HE⟩ : ∃ E, Hid (E = Value.agg #[.string keyTxt, szI ky.size 32]) := ⟨_, hide rfl⟩
  rw [show atE keyTxt (szI ky.size 32) = .iface 173 E by rw [HE.out]; rfl]
  clear h32
  go_wp2_with fail
  go_returns
  exact ⟨by rw [EE.out, HE.out]; rfl, Below.refl _ _⟩
 case pos =>
 rw [if_pos (by omega)]
 have Hk := hide h32
 clear h32
 go_wp2_with fail
 refine (ofSize_any sgTxt g 64 _).mono ?_
 rintro e W1 ⟨rfl, hw⟩
 have hw' := hw.symm
 subst hw'
 clear hw
 unfold ofSzV
 by_cases h64 : g.size = 64
 case neg =>
  rw [if_neg (by omega)]
  have EE : Hid (svE p s gA ky m g = atE sgTxt (szI g.size 64)) := by show _ = _; unfold svE; rw [if_pos Hk.out, if_neg h64]
  obtain ⟨E, HE⟩ : ∃ E, Hid (E = Value.agg #[.string sgTxt, szI g.size 64]) := ⟨_, hide rfl⟩
  rw [show atE sgTxt (szI g.size 64) = .iface 173 E by rw [HE.out]; rfl]
  clear h64
  go_wp2_with fail
  go_returns
  exact ⟨by rw [EE.out, HE.out]; rfl, Below.refl _ _⟩
 case pos =>
 rw [if_pos (by omega)]
 have Hg := hide h64
 clear h64
 obtain ⟨W0, hW0⟩ : ∃ W, W = w.alloc (.cells baseZ 86) := ⟨_, rfl⟩
 have RB : Hid (W0.heap[w.heap.size]? = some (.cells baseZ 86 (0, 0))) := by rw [hW0]; exact heap_alloc_new _ _
 have B0 : Hid (Below w.heap.size w W0) := by rw [hW0]; exact (Below.refl _ _).alloc (Nat.le_refl _) _
 obtain ⟨cap, W1, hcv, hR, hB, hSz⟩ := conv_bytes 9 89 5 underStr underSl8 underU8 ky W0
 rw [Hk.out] at hcv
 obtain ⟨q, hq⟩ : ∃ q, q = W0.heap.size := ⟨_, rfl⟩
 rw [← hq] at hcv hR
 clear hq
 have RB := hide (row_keep' RB.out hB)
 have B1 := kTr B0 hB
 obtain ⟨M1, EM1⟩ : ∃ M, Hid (M = (bytesOf ky).map cv) := ⟨_, hide rfl⟩
 rw [← EM1.out] at hR
 have HR := hide hR
 obtain ⟨kN, EkN⟩ : ∃ n, Hid (n = valLE (bytesOf ky)) := ⟨_, hide rfl⟩
 have lk : (bytesOf ky).length = 32 := by rw [bytesOf_length, Hk.out]
 have HM1 : Hid ((Tryz.prog.info? 62).map (·.size) = some M1.length) := by show _ = _; rw [sizeCode, EM1.out, List.length_map, lk]
 have EB1 : M1.toArray = bA kN := by rw [EM1.out, EkN.out]; exact half_bA _ lk
 have HkN : Hid (kN < 115792089237316195423570985008687907853269984665640564039457584007913129639936) := by rw [EkN.out]; exact valLE_lt32P _ lk
 have ha1 := arrCode
 rw [hW0] at hcv
 clear hR hB hW0 lk B0 hSz
 go_wp2_with (first
  | (refine wpList_load_mid (by rfl) 62 (.tmp 25) (by rfl) q 0 (by rfl) M1 _ HR.out underCode rfl HM1.out ?_; rw [EB1]))
 have S1 := hide (HS.out.below B1.out)
 refine (publicOfA w.heap.size kN HkN.out p W1 (HG.out.keep B1.out) h7 (Or.inl (baseZ_new RB.out)) S1.out.fp (by have := sent_blk HS.out.fp; omega)).mono ?_
 rintro e W2 ⟨rfl, hX, hA⟩
 have B2 : Hid (Below w.heap.size w W2) := B1.out.trans (hX.below B1.out.size)
 have A2 := hide hA
 clear hX hA RB HR B1 S1 hcv ha1
 have hgb : gA.block ≠ w.heap.size := by have := sent_blk HS.out.fg; omega
 by_cases hdc : dcB kN = true
 case neg =>
  have Hdc : Hid (dcB kN = false) := hide (by simpa using hdc)
  unfold pubV pubE
  rw [if_neg (by rw [Hdc.out]; decide), if_neg (by rw [Hdc.out]; decide)]
  have EE : Hid (svE p s gA ky m g = atE keyTxt (esI p)) := by show _ = _; unfold svE; rw [if_pos Hk.out, if_pos Hg.out, ← EkN.out, if_neg (by rw [Hdc.out]; decide)]
  obtain ⟨E, HE⟩ : ∃ E, Hid (E = Value.agg #[.string keyTxt, esI p]) := ⟨_, hide rfl⟩
  rw [show atE keyTxt (esI p) = .iface 173 E by rw [HE.out]; rfl]
  clear hdc
  go_upto_region 8 with (first
   | (refine wpList_store_row (by rfl) 153 (.tmp 9) (.tmp 28) (by rfl) W2.heap.size pubZ (by rfl) (by rfl) 153 _ (heap_alloc_new _ _) pubZ_size rfl pubZ_all ?_))
  try rw [put_none']
  generalize hW3 : World.setRow _ _ _ = W3
  have B3 : Hid (Below w.heap.size w W3) := by rw [← hW3]; exact below_setRow (B2.out.alloc B2.out.size _) B2.out.size _
  clear hW3
  go_wp2_with fail
  go_returns
  exact ⟨by rw [EE.out, HE.out]; rfl, B3.out⟩
 case pos =>
  have Hdc := hide hdc
  unfold pubV pubE
  rw [if_pos hdc, if_pos hdc]
  obtain ⟨E, EE⟩ : ∃ E, Hid (E = pvE s gA kN m (bytesOf g)) := ⟨_, hide rfl⟩
  have EV : Hid (svE p s gA ky m g = E) := by show _ = _; unfold svE; rw [if_pos Hk.out, if_pos Hg.out, ← EkN.out, if_pos hdc, EE.out]
  obtain ⟨F, EF⟩ : ∃ E, Hid (E = pofF kN) := ⟨_, hide rfl⟩
  rw [← EF.out]
  clear hdc
  go_upto_region 10 with (first
   | (refine wpList_store_row (by rfl) 153 (.tmp 9) (.tmp 28) (by rfl) W2.heap.size (pubA w.heap.size kN F) (by rfl) (by rfl) 153 _ (heap_alloc_new _ _) (pubA_size _ _ _) (pubA_old _ _ _) (pubA_all _ _ _) ?_))
  try rw [put_none']
  obtain ⟨g9, hg9⟩ : ∃ q, q = W2.heap.size := ⟨_, rfl⟩
  generalize hW4 : World.setRow _ _ _ = W4
  have K4 : Hid (Below W2.heap.size W2 W4) := by rw [← hW4]; exact below_setRow ((Below.refl _ _).alloc (Nat.le_refl _) _) (Nat.le_refl _) _
  have R9 : Hid (W4.heap[g9]? = some (.cells (pubA w.heap.size kN F) 153 (0, 0))) := by rw [← hW4, hg9]; exact setRow_heap _ _ _ _ _ _ (heap_alloc_new _ _)
  have hg9w : w.heap.size < g9 := by rw [hg9]; exact A2.out.lt
  have B4 : Hid (Below w.heap.size w W4) := B2.out.trans (K4.out.mono B2.out.size)
  have A4 := hide (A2.out.keep (K4.out.block _ A2.out.lt))
  rw [← hg9]
  clear hW4 hg9 K4 B2 A2
  have G4 := hide (HG.out.keep B4.out)
  have T4 := hide (HK.out.below B4.out HK.out.lt)
  have O4 := hide (HO.out.below B4.out HO.out.lt)
  have S4 := hide (HS.out.below B4.out)
  have l9 := lt_row R9.out
  refine wp_region_held_drew (S := fun w' => w'.rangeAt g9 0 (pubL w.heap.size kN F)) (by kernel_rfl) (rangePub R9.out) (fun hHeld => ?_)
  have KV1 : Hid (Below W4.heap.size W4 W4.drew) := (Below.refl _ _).drew
  obtain ⟨V1, hV1⟩ : ∃ V, V = W4.drew := ⟨_, rfl⟩
  rw [← hV1] at hHeld KV1 ⊢
  clear hV1
  refine wpAnyH_take (i := 0) (oi := ⟨some 33, .load 153 (.tmp 9), 153, "public.go:60", #[], none⟩) (v := .agg (pubA w.heap.size kN F)) rfl (by kernel_rfl) (by kernel_rfl) (by kernel_rfl) (fun _ _ _ h => h) (yldPub (by rfl) _ rfl g9 0 (w.heap.size) kN F rfl (fun w h => h)) hHeld ?_
  simp only [zaP, zsT, zsZ, zsS]
  refine wpAnyH_take (i := 1) (oi := ⟨some 34, .move (.tmp 1), 9, "public.go:60", #[], none⟩) (v := .string m) rfl (by kernel_rfl) (by kernel_rfl) (by kernel_rfl) (fun _ _ _ h => h) (Or.inl ⟨by rfl, fun w _ => by go_simp⟩) hHeld ?_
  simp only [zaP, zsT, zsZ, zsS]
  refine wpAnyH_take (i := 2) (oi := ⟨some 35, .move (.tmp 2), 9, "public.go:60", #[], none⟩) (v := .string g) rfl (by kernel_rfl) (by kernel_rfl) (by kernel_rfl) (fun _ _ _ h => h) (Or.inl ⟨by rfl, fun w _ => by go_simp⟩) hHeld ?_
  simp only [zaP, zsT, zsZ, zsS]
  obtain ⟨cap, V2, hcv, hR, hB, hSz⟩ := conv_bytes 9 89 5 underStr underSl8 underU8 g V1
  rw [Hg.out] at hcv
  obtain ⟨q, hq⟩ : ∃ q, q = V1.heap.size := ⟨_, rfl⟩
  rw [← hq] at hcv hR
  clear hq
  have HR := hide hR
  have KV2 := kTr KV1 hB
  clear hR hB
  refine wpAnyH_ready (rs := [3]) (by kernel_rfl) (by simp) ?_
  refine AllReadyH.cons (o := ⟨some 36, .convert 9 89 (.tmp 35), 89, "public.go:60", #[zeD 2], none⟩) rfl (fun K hK => ?_) AllReadyH.nil
  refine step_runTo (by rfl) (.slice (some ⟨q, 0, none⟩) 64 cap) (hrunConvS _ rfl g rfl _ _ _ hcv) ?_
  refine hK.out _ _ (range_below (rangePub R9.out) KV2.out l9) (fun hHeld => ?_)
  clear hK K
  try simp only [zaP, zsT, zsZ, zsS]
  have ha64 := arr64
  refine wpAnyH_take (i := 4) (oi := ⟨some 37, .sliceToArrayPointer 102 (.tmp 36), 0, "public.go:60", #[zeD 3], none⟩) (v := .pointer (some ⟨q, 0, none⟩)) rfl (by kernel_rfl) (by kernel_rfl) (by kernel_rfl) (fun _ _ _ h => h) (Or.inl ⟨by rfl, fun w _ => by go_simp⟩) hHeld ?_
  simp only [zaP, zsT, zsZ, zsS]
  refine wpAnyH_ready (rs := [5]) (by kernel_rfl) (by simp) ?_
  refine AllReadyH.cons (o := ⟨some 38, .load 102 (.tmp 37), 102, "public.go:60", #[zeD 4], none⟩) rfl (fun K hK => ?_) AllReadyH.nil
  refine step_load_mid (by rfl) 102 (.tmp 37) (by rfl) q 0 (by rfl) ((bytesOf g).map cv) _ HR.out under64 rfl (by rw [List.length_map, bytesOf_length, Hg.out]; exact size64) ?_
  refine hK.out _ _ (range_below (rangePub R9.out) KV2.out l9) (fun hHeld => ?_)
  clear hK K
  try simp only [zaP, zsT, zsZ, zsS]
  obtain ⟨M, EM⟩ : ∃ M, Hid (M = ((bytesOf g).map cv).toArray) := ⟨_, hide rfl⟩
  rw [← EM.out]
  refine wpAnyH_ready (rs := [6]) (by kernel_rfl) (by simp) ?_
  refine AllReadyH.cons (o := ⟨some 39, .call ⟨.value (.func 75), #[.tmp 33, .tmp 34, .tmp 38], #[153, 9, 102]⟩, 66, "public.go:60", #[zeD 0, zeD 1, zeD 5], none⟩) rfl (fun K hK => ?_) AllReadyH.nil
  refine step_callTo (by rfl) _ _ (hrunPubVer _ _ _ rfl (.agg (pubA w.heap.size kN F)) (.string m) (.agg M) rfl rfl rfl V2) _ (fun V => Bex w.heap.size V2 V ∧ BaseAny V w.heap.size) (pubVerN w.heap.size kN m (bytesOf g) (by rw [bytesOf_length, Hg.out]) Hm.out Hdc.out F EF.out M EM.out s gA V2 (G4.out.keep KV2.out) (T4.out.below KV2.out T4.out.lt) (O4.out.below KV2.out O4.out.lt) h7 (A4.out.keep (KV2.out.block _ A4.out.lt)) (S4.out.below KV2.out).fs (S4.out.below KV2.out).fg hgb E EE.out) (fun V3 HBx => ?_)
  have B3 : Hid (Below w.heap.size w V3) := (B4.out.trans (KV2.out.mono B4.out.size)).trans (HBx.1.below (Nat.le_trans B4.out.size KV2.out.size))
  refine hK.out _ _ (range_bex (range_below (rangePub R9.out) KV2.out l9) HBx.1 (Nat.lt_of_lt_of_le l9 KV2.out.size) (by omega)) (fun hHeld => ?_)
  clear hK K HBx
  try simp only [zaP, zsT, zsZ, zsS]
  refine wpAnyH_take (i := 7) (oi := ⟨some 6, .assign (.tmp 39), 66, "public.go:60", #[zeD 6, zeC 6, zeP 0, zeP 1, zeP 2, zeP 3, zeP 4, zeP 5, zeP 6], none⟩) (v := E) rfl (by kernel_rfl) (by kernel_rfl) (by kernel_rfl) (fun _ _ _ h => h) (Or.inl ⟨by rfl, fun w _ => by go_simp⟩) hHeld ?_
  simp only [zaP, zsT, zsZ, zsS]
  refine wpAnyH_done (by kernel_rfl) ?_ _
  go_wp2_with fail
  go_returns
  exact ⟨by rw [EV.out]; rfl, B3.out⟩
noncomputable def lvE (k m sg : ByteArray) : Int :=
 if k.size = 32 ∧ sg.size = 64 then (if dcB (valLE (bytesOf k)) = true then (if valLE ((bytesOf sg).drop 32) < Lord then (if pvC (valLE (bytesOf k)) m (bytesOf sg) = valLE ((bytesOf sg).take 32) then 0 else 4) else 3) else 2) else 1
set_option maxRecDepth 100000 in
set_option maxHeartbeats 4000000 in
theorem latchVerifyA (ky m g : ByteArray) (hm : m.size ≤ maxLen) (w : World) (k p s gA : Addr) (hG : GlB w) (hK : Tab w) (hO : OrdAt w) (hS : Sents w k p s gA) :
  Calls Tryz.prog 13 #[.string ky, .string m, .string g] w fun e w' => e = .returned (.int .i64 (lvE ky m g)) ∧ Below w.heap.size w w' := by
 have HS := hide hS
 have main := sigVerify ky m g hm w k p s gA hG hK hO hS
 have HM := hide main
 clear hG hK hO hS hm main
 go_enter Tryz.func13, Tryz.ntmps13
 go_wp2_with fail
 refine HM.out.mono ?_
 rintro e W1 ⟨rfl, hB⟩
 have B1 := hide hB
 have S1 := hide (HS.out.below hB)
 clear hB
 have fin : ∀ {n : Int} {E : Value}, E = svE p s gA ky m g → lvE ky m g = n → (Calls Tryz.prog 30 #[E] W1 fun e w' => e = .returned (.int .i64 n) ∧ Below W1.heap.size W1 w') → (Calls Tryz.prog 30 #[svE p s gA ky m g] W1 fun e w' => e = .returned (.int .i64 (lvE ky m g)) ∧ Below W1.heap.size W1 w') := by
  intro n E h1 h2 h3
  rw [← h1, h2]; exact h3
 have hcode : Calls Tryz.prog 30 #[svE p s gA ky m g] W1 fun e w' => e = .returned (.int .i64 (lvE ky m g)) ∧ Below W1.heap.size W1 w' := by
  unfold svE lvE
  by_cases h32 : ky.size = 32
  case neg => rw [if_neg h32, if_neg (show ¬ (ky.size = 32 ∧ g.size = 64) from fun h => h32 h.1)]; exact codeOf_size keyTxt _ _ W1 S1.out.hE
  case pos =>
  rw [if_pos h32]
  by_cases h64 : g.size = 64
  case neg => rw [if_neg h64, if_neg (show ¬ (ky.size = 32 ∧ g.size = 64) from fun h => h64 h.2)]; exact codeOf_size sgTxt _ _ W1 S1.out.hE
  case pos =>
  rw [if_pos h64, if_pos (show ky.size = 32 ∧ g.size = 64 from ⟨h32, h64⟩)]
  by_cases hdc : dcB (valLE (bytesOf ky)) = true
  case neg =>
   rw [if_neg hdc, if_neg hdc]
   have := codeOf_es1 keyTxt p W1 k p s gA S1.out S1.out.fp.b
   rw [show esC k p s p = 2 by unfold esC; rw [if_neg S1.out.kp, if_pos rfl]] at this
   exact this
  case pos =>
  rw [if_pos hdc, if_pos hdc]
  unfold pvE
  by_cases hlt : valLE ((bytesOf g).drop 32) < Lord
  case neg =>
   rw [if_neg hlt, if_neg hlt]
   have := codeOf_es1 sTxt s W1 k p s gA S1.out S1.out.fs.b
   rw [show esC k p s s = 3 by unfold esC; rw [if_neg S1.out.ks, if_neg S1.out.ps, if_pos rfl]] at this
   exact this
  case pos =>
  rw [if_pos hlt, if_pos hlt]
  by_cases hc : pvC (valLE (bytesOf ky)) m (bytesOf g) = valLE ((bytesOf g).take 32)
  case neg =>
   rw [if_neg hc, if_neg hc]
   have := codeOf_es1 sgTxt gA W1 k p s gA S1.out S1.out.fg.b
   rw [show esC k p s gA = 4 by unfold esC; rw [if_neg S1.out.gk, if_neg S1.out.gp, if_neg S1.out.gs]] at this
   exact this
  case pos =>
  rw [if_pos hc, if_pos hc]
  exact codeOf_nil W1
 clear fin
 obtain ⟨E, EE⟩ : ∃ E, Hid (E = svE p s gA ky m g) := ⟨_, hide rfl⟩
 rw [← EE.out] at hcode ⊢
 have HC := hide hcode
 clear hcode
 go_wp2_with fail
 refine HC.out.mono ?_
 rintro e W2 ⟨rfl, hB⟩
 have B2 := hide (B1.out.trans (hB.mono B1.out.size))
 clear hB
 obtain ⟨n, En⟩ : ∃ E, Hid (E = lvE ky m g) := ⟨_, hide rfl⟩
 rw [← En.out]
 go_wp2_with fail
 go_returns
 exact ⟨by rw [← En.out]; rfl, B2.out⟩
end
theorem modL (n : Nat) : n % Lord < 115792089237316195423570985008687907853269984665640564039457584007913129639936 := Nat.lt_trans (Nat.mod_lt _ (by decide)) (by decide)
theorem ksN_32 {k : ByteArray} (h : k.size = 32) : ksN k = valLE (bytesOf k) := by unfold ksN ksB; rw [if_pos h]
theorem poB_v32 {k : ByteArray} (h : k.size = 32) : poB k = dcB (valLE (bytesOf k)) := by
 show (ksO k && dcB (ksN k)) = _
 rw [ksN_32 h]
 unfold ksO
 rw [decide_eq_true h, Bool.true_and]
theorem neg_row {q : Q3} {a : G} (h : RQ q a) : RQ ⟨sP 0 q.x, q.y, q.z⟩ (gNeg a) := by
 refine ⟨⟨sP_lt _ _, h.ok.y, h.ok.z⟩, h.z, ?_, h.y⟩
 show tau (sP 0 q.x) = (gNeg a).x * tau q.z
 rw [tau_sP _ _ h.ok.x, tau_zero, h.x]
 show 0 - a.x * tau q.z = -a.x * tau q.z
 grind
theorem ver_code {k m g : ByteArray} (h32 : k.size = 32) (h64 : g.size = 64) (hp : poB k = true) : codeD (rvQ k m g) = strOf (leB (pvC (valLE (bytesOf k)) m (bytesOf g)) 32) := by
 obtain ⟨a, h1, h2⟩ := point_G (s := k) (by rw [← poB_same]; exact hp)
 have hd : dcB (valLE (bytesOf k)) = true := by rw [← poB_v32 h32]; exact hp
 have ls : ((bytesOf g).drop 32).length = 32 := by rw [List.length_drop, bytesOf_length, h64]
 have hS := valLE_lt32P _ ls
 have eK : rvK k m g = pvK (valLE (bytesOf k)) m (bytesOf g) := by
  unfold rvK pvK
  rw [leB_valLE (bytesOf k) (by rw [bytesOf_length, h32]), List.append_assoc]
 have hk : pvK (valLE (bytesOf k)) m (bytesOf g) < 115792089237316195423570985008687907853269984665640564039457584007913129639936 := by unfold pvK; exact modL _
 have h1' : RP (dcP (valLE (bytesOf k))) a := by rw [← ksN_32 h32, ← poP_dcP hp]; exact h1
 have R1 : RP (addP (mlP (pwN bpP) (valLE ((bytesOf g).drop 32)) 64) (negP (mlP (pofF (valLE (bytesOf k))) (pvK (valLE (bytesOf k)) m (bytesOf g)) 64))) (vfG (valLE ((bytesOf g).drop 32)) (pvK (valLE (bytesOf k)) m (bytesOf g)) a) := by
  rw [pofF_yes hd]
  exact RP_add (RP_times RP_bG hS) (RP_neg (RP_times h1' hk))
 have R2 : RQ (rvQ k m g) (vfG (valLE ((bytesOf g).drop 32)) (pvK (valLE (bytesOf k)) m (bytesOf g)) a) := by
  have q1 := RQ_times RQ_bG ((bytesOf g).drop 32) hS
  have q2 := RQ_times (neg_row (by rw [← crvD_dN] at h2; exact h2)) (leB (rvK k m g) 32) (by rw [valLE_leB _ (by rw [eK]; exact hk), eK]; exact hk)
  rw [valLE_leB _ (by rw [eK]; exact hk), gMul_neg, eK] at q2
  have q3 := RQ_plus q1 q2
  unfold rvQ vfG
  rw [← plusD_plusQ] at q3
  rw [eK]
  have e : ∀ l q, tmQ crvD l q 256 = tmQ dN l q 256 := fun l q => by rw [crvD_dN]
  rw [e, e, show ∀ x y, plusD crvD x y = plusD dN x y from fun x y => by rw [crvD_dN]]
  exact q3
 rw [code_RQ R2]
 unfold pvC
 rw [code_RP R1]
theorem ver_same (k m g : ByteArray) : rvE k m g = lvE k m g := by
 unfold rvE lvE
 by_cases h : k.size = 32 ∧ g.size = 64
 ·
  rw [if_pos h, if_pos h, crvD_dN, ← poB_same, poB_v32 h.1]
  by_cases hd : dcB (valLE (bytesOf k)) = true
  ·
   rw [if_pos hd, if_pos hd]
   by_cases hl : valLE ((bytesOf g).drop 32) < Lord
   ·
    rw [if_pos hl, if_pos hl, ver_code h.1 h.2 (by rw [poB_v32 h.1]; exact hd)]
    have l1 : ((bytesOf g).take 32).length = 32 := by rw [List.length_take, bytesOf_length, h.2]; rfl
    have e : g.extract 0 32 = strOf (leB (valLE ((bytesOf g).take 32)) 32) := by
     rw [leB_valLE _ l1, ← bytes_take, strOf_bytesOf]
    rw [e]
    by_cases hc : pvC (valLE (bytesOf k)) m (bytesOf g) = valLE ((bytesOf g).take 32)
    · rw [if_pos hc, if_pos (by rw [hc])]
    ·
     rw [if_neg hc, if_neg]
     intro e2
     apply hc
     have e3 := congrArg (fun x => valLE (bytesOf x)) e2
     simp only [bytesOf_strOf] at e3
     rw [valLE_leB _ (by unfold pvC; exact cdN_lt _), valLE_leB _ (valLE_lt32P _ l1)] at e3
     exact e3
   · rw [if_neg hl, if_neg hl]
  · rw [if_neg hd, if_neg hd]
 · rw [if_neg h, if_neg h]
def sigD : ByteArray := ⟨#[0xd2, 0x97, 0xa3, 0x6e, 0x57, 0x00, 0xbc, 0x84, 0x02, 0x87, 0x95, 0x6f, 0xb0, 0xf3, 0xfa, 0x87, 0xb5, 0x4f, 0xb9, 0x54, 0x80, 0xf9, 0xe8, 0x78, 0xe9, 0x6e, 0xfd, 0x19, 0x0f, 0xf1, 0x9e, 0x37, 0x08, 0x84, 0x17, 0x58, 0x94, 0x0e, 0x8c, 0xbc, 0x78, 0x1d, 0x0c, 0x36, 0xd0, 0x20, 0xc8, 0x56, 0x78, 0x78, 0xb9, 0xee, 0xf6, 0xdc, 0x45, 0x51, 0x3e, 0x12, 0x42, 0x6d, 0x05, 0x67, 0x35, 0x0c]⟩
def mD : ByteArray := ⟨#[109]⟩
def nD : ByteArray := ⟨#[110]⟩
theorem key_le : leB (valLE (bytesOf keyD)) 32 = bytesOf keyD := leB_valLE _ rfl
theorem pvC_calc (m : ByteArray) (H : List UInt8) (hH : hashOf ((bytesOf sigD).take 32 ++ (bytesOf keyD ++ bytesOf m)) = H) : pvC (valLE (bytesOf keyD)) m (bytesOf sigD) = cdN (addP (mlP (pwN bpP) (valLE ((bytesOf sigD).drop 32)) 64) (negP (mlP (pofF (valLE (bytesOf keyD))) (valLE H % Lord) 64))) := by
 unfold pvC pvK
 rw [key_le, hH]
theorem key_dcD : dcB (valLE (bytesOf keyD)) = true := by decide +kernel
theorem sig_ltD : valLE ((bytesOf sigD).drop 32) < Lord := by decide +kernel
theorem cm_calc : cdN (addP (mlP (pwN bpP) (valLE ((bytesOf sigD).drop 32)) 64) (negP (mlP (pwN (dcP (valLE (bytesOf keyD)))) (valLE cVmH % Lord) 64))) = valLE ((bytesOf sigD).take 32) := by decide +kernel
theorem cn_calc : cdN (addP (mlP (pwN bpP) (valLE ((bytesOf sigD).drop 32)) 64) (negP (mlP (pwN (dcP (valLE (bytesOf keyD)))) (valLE cVnH % Lord) 64))) ≠ valLE ((bytesOf sigD).take 32) := by decide +kernel
theorem ver_m : lvE keyD mD sigD = 0 := by
 unfold lvE
 rw [if_pos ⟨rfl, rfl⟩, if_pos key_dcD, if_pos sig_ltD, pvC_calc mD cVmH (by rw [show (bytesOf sigD).take 32 ++ (bytesOf keyD ++ bytesOf mD) = cVmL from rfl]; exact cVm_hash), pofF_yes key_dcD, if_pos cm_calc]
theorem ver_n : lvE keyD nD sigD = 4 := by
 unfold lvE
 rw [if_pos ⟨rfl, rfl⟩, if_pos key_dcD, if_pos sig_ltD, pvC_calc nD cVnH (by rw [show (bytesOf sigD).take 32 ++ (bytesOf keyD ++ bytesOf nD) = cVnL from rfl]; exact cVn_hash), pofF_yes key_dcD, if_neg cn_calc]
section
attribute [local irreducible] lvE rvE
set_option maxRecDepth 100000 in
set_option maxHeartbeats 1000000 in
theorem verifies1 (ky m g : ByteArray) (hm : m.size ≤ 140737488351232) (w : World) (k p s gA : Addr) (hG : GlB w) (hK : Tab w) (hO : OrdAt w) (hS : Sents w k p s gA) :
  Calls Tryz.prog 14 #[.string ky, .string m, .string g] w fun e w' => e = .returned (.bool true) ∧ Below w.heap.size w w' := by
 have Hm := hide hm
 have M := hide (latchVerifyA ky m g (Nat.le_trans hm (by decide)) w k p s gA hG hK hO hS)
 clear hm hG hK hO hS
 go_enter Tryz.func14, Tryz.ntmps14
 go_wp2_with fail
 refine M.out.mono ?_
 rintro e W1 ⟨rfl, hB⟩
 have B1 := hide hB
 clear hB M
 obtain ⟨n, En⟩ : ∃ n, Hid (n = lvE ky m g) := ⟨_, hide rfl⟩
 rw [← En.out]
 go_wp2_with fail
 refine (refVerifyA ky m g Hm.out W1).mono ?_
 rintro e W2 ⟨rfl, hB⟩
 have B2 := hide (B1.out.trans (hB.mono B1.out.size))
 clear hB B1
 rw [ver_same, ← En.out]
 go_wp2
 go_returns
 exact ⟨rfl, B2.out⟩
set_option maxRecDepth 100000 in
set_option maxHeartbeats 1000000 in
theorem verifies_any (ky m g : ByteArray) (hm : m.size ≤ 140737488351232) (w : World) (k p s gA : Addr) (hG : GlB w) (hK : Tab w) (hO : OrdAt w) (hS : Sents w k p s gA) :
  Calls Tryz.prog 4 #[.string ky, .string m, .string g] w fun e w' => e = .returned (.bool true) ∧ Below w.heap.size w w' := by
 have HG := hide hG
 have HK := hide hK
 have HO := hide hO
 have HS := hide hS
 have Hm := hide hm
 clear hG hK hO hS hm
 go_enter Tryz.func4, Tryz.ntmps4
 go_wp2_with fail
 refine (latchVerifyA keyD mD sigD (by decide) w k p s gA HG.out HK.out HO.out HS.out).mono ?_
 rintro e W1 ⟨rfl, hB⟩
 have B1 := hide hB
 clear hB
 rw [ver_m]
 go_wp2_with fail
 refine (latchVerifyA keyD nD sigD (by decide) W1 k p s gA (HG.out.keep B1.out) (HK.out.below B1.out HK.out.lt) (HO.out.below B1.out HO.out.lt) (HS.out.below B1.out)).mono ?_
 rintro e W2 ⟨rfl, hB⟩
 have B2 := hide (B1.out.trans (hB.mono B1.out.size))
 clear hB B1
 rw [ver_n]
 go_wp2_with fail
 refine (verifies1 ky m g Hm.out W2 k p s gA (HG.out.keep B2.out) (HK.out.below B2.out HK.out.lt) (HO.out.below B2.out HO.out.lt) (HS.out.below B2.out)).mono ?_
 rintro e W3 ⟨rfl, hB⟩
 have B3 := hide (B2.out.trans (hB.mono B2.out.size))
 clear hB B2
 go_wp2_with fail
 go_returns
 exact ⟨rfl, B3.out⟩
end
end Go.Proofs.YtccgfabojbjmjaaGreatDoor
namespace Go.Proofs.YtccgfabojbjmjaaGreatDoor
open Go.ChangeShapes Go.WideShapes Go.ChangeAt Go.RowKit
open Go.ChangeMaps (open_string shut_string)
set_option maxRecDepth 100000 in
theorem verifies_contract (H : Type) (enc : TypeId × Value → H) (W : World) (base : Nat) (args : Array Value) (ds gs : List (DataW H)) (before : List MemPlace)
  (hval : ∀ (j : Nat) t v, Tryz.f4.params[j]? = some t → args[j]? = some v → Value.okWide Tryz.prog W .any base t v)
  (hW : DataW.Whole enc Tryz.prog Tryz.f4.params.toList Rows.verifiesSpec.vars false W args.toList ds gs before)
  (hsz0 : (DataW.weightsEach Tryz.prog (Tryz.f4.params.toList ++ (OpenSpec.ofChange Rows.verifiesSpec).bare.plain.varTypes Tryz.prog) (ds ++ gs)).all (· ≤ reachBytes) = true)
  (hL : laidMetH Tryz.prog Rows.verifiesRow.laid W) :
  Calls Tryz.prog 4 args W fun e W' => ∃ v, e = .returned v ∧ Rows.verifiesSpec.post enc Tryz.prog Tryz.f4 false true false false W args v W' := by
 have hsz := hsz0
 have hW' := hW
 obtain ⟨p, q, hA0, hV, rfl, hfz, hnd⟩ := hW
 have hA : DataW.TrodAll enc Tryz.prog W 0 (fun _ => true) true Tryz.f4.params.toList args.toList ds p := hA0
 rw [Tryz.params4] at hA hval hsz
 obtain ⟨v0, vs0, d0, ds0, p0, q0, hargs, rfl, rfl, h0, r0⟩ := trodAll_cons hA
 obtain ⟨v1, vs1, d1, ds1, p1, q1, hargs1, rfl, rfl, h1, r1⟩ := trodAll_cons r0
 obtain ⟨v2, vs2, d2, ds2, p2, q2, hargs2, rfl, rfl, h2, r2⟩ := trodAll_cons r1
 obtain ⟨rfl, rfl, rfl⟩ := trodAll_nil r2
 obtain rfl : args = #[v0, v1, v2] := by cases args; simp_all
 obtain ⟨rfl, rfl⟩ := trodVars_none hV
 obtain ⟨a0, rfl, rfl, rfl, w0⟩ := open_string Tryz.underlying9 (hval 0 9 v0 rfl rfl) h0
 obtain ⟨a1, rfl, rfl, rfl, w1⟩ := open_string Tryz.underlying9 (hval 1 9 v1 rfl rfl) h1
 obtain ⟨a2, rfl, rfl, rfl, w2⟩ := open_string Tryz.underlying9 (hval 2 9 v2 rfl rfl) h2
 have hs2 : a2.size ≤ 140737488351232 := sized_string hsz (j := 2) (t := 9) rfl rfl
 have hs1 : a1.size ≤ 140737488351232 := sized_string hsz (j := 1) (t := 9) rfl rfl
 clear hA0
 obtain ⟨k, p, s, g, hS⟩ := sents_met hL (by kernel_rfl) (by kernel_rfl) (by kernel_rfl) (by kernel_rfl) (by kernel_rfl)
 refine (verifies_any a0 a1 a2 hs1 W k p s g (glB_of hL (by kernel_rfl) (by kernel_rfl) (by kernel_rfl) (by kernel_rfl) (by kernel_rfl) (by kernel_rfl)) (tab_met hL (by kernel_rfl)) (ord_met hL (by kernel_rfl)) hS).mono fun e W' ⟨he, bel⟩ => ?_
 subst he
 exact ⟨_, rfl, _, _, _, [], _, [], hW', trodAll_mk1 (shut_bool Tryz.underlying4 _), (trodAll_cons_mk (shut_string Tryz.underlying9 w0) (trodAll_cons_mk (shut_string Tryz.underlying9 w1) (trodAll_cons_mk (shut_string Tryz.underlying9 w2) trodAll_mk0))), rfl, bel.frame _, fun h => by cases h⟩
theorem verifies_laid_met (os : Os) : laidMetH Tryz.prog Rows.verifiesRow.laid ((laidWorldS os).forCall (fun _ _ => 0) ⟨#[], #[.string ByteArray.empty, .string ByteArray.empty, .string ByteArray.empty], []⟩).memory :=
 laidMetH_of_parts (laidMet_of_run' 200 (by kernel_rfl) (by kernel_rfl)) (by kernel_rfl)
set_option maxRecDepth 100000 in
theorem verifies_lifted (os : Os) (started : os.Started) (H : Type) (enc : TypeId × Value → H) (F : Stop.Interp) :
  ReturnsInHanded {} Tryz.checked os 4 .any ((OpenSpec.ofChange Rows.verifiesSpec).preRow enc Tryz.prog Tryz.f4 Rows.verifiesRow.domain false Rows.verifiesRow.laid) (((OpenSpec.ofChange Rows.verifiesSpec).at F).post enc Tryz.prog Tryz.f4 false true false false) := by
 refine returnsInHanded_of_row (C := Tryz.checked) (s := OpenSpec.ofChange Rows.verifiesSpec) own started (by kernel_rfl) Tryz.func4
  (witness_row_at (enc := enc) (C := Tryz.checked) false (laidWorldS os) #[.string ByteArray.empty, .string ByteArray.empty, .string ByteArray.empty] rfl (by kernel_rfl) (by kernel_rfl) (by kernel_rfl)
   (OpenSpec.preRow_of_cond (x := ([.lit (.string []), .lit (.string []), .lit (.string [])], [], [])) 8 (by kernel_rfl) (by kernel_rfl) (fun k hk => by cases hk) (by kernel_rfl) (verifies_laid_met os))) ?_
 intro W base args ds gs before hval hW _ _ hsz hL _ _
 exact verifies_contract H enc W base args ds gs before hval hW hsz hL
theorem verifies_said : Rows.VerifiesSaid :=
 OpenClaim.holds_of_cond 4 Tryz.f4 rfl rfl rfl rfl rfl rfl rfl ⟨rfl, rfl, rfl, rfl, rfl⟩ rfl rfl rfl rfl rfl (by kernel_rfl) Tryz.func4 (by kernel_rfl)
  (of_decide_eq_true (by kernel_rfl)) (by unfold Func.isWrapper; first | (rw [if_pos (by decide +kernel)]; kernel_rfl) | (rw [if_neg (by decide +kernel)]; exact ⟨rfl, rfl⟩))
  (fun os started H enc _ F => by rw [OpenClaim.pre_eq_preRow]; exact verifies_lifted os started H enc F)
theorem verifies_plain (f : FuncId) (fn : Func) (hf : Tryz.pinned.checked.prog.funcNamed "latch/latchlaw.Verifies" = some f) (hfn : Tryz.pinned.checked.prog.funcs[f]? = some fn) :
  true = Tryz.pinned.checked.prog.looks [] ∧ ∀ (j : Nat) t, fn.params[j]? = some t → Tryz.pinned.checked.prog.wantsStandIn t = false := by
 obtain rfl : f = 4 := Option.some.inj ((show Tryz.prog.funcNamed "latch/latchlaw.Verifies" = some 4 by kernel_rfl).symm.trans hf) |>.symm
 obtain rfl : fn = Tryz.f4 := (Option.some.inj (Tryz.func4.symm.trans hfn)).symm
 refine ⟨by kernel_rfl, fun j t ht => ?_⟩
 rw [Tryz.params4] at ht
 obtain rfl : t = 9 := by simpa using Array.mem_of_getElem? ht
 exact (show Tryz.prog.wantsStandIn 9 = false by kernel_rfl)
theorem verifies_card : Rows.VerifiesCardSaid :=
 Claim7.holds_tied_plain_at .later [] _ _ _ _ verifies_said (fun _ h => by cases h) (by kernel_rfl) (fun _ h => by cases h) verifies_row_tie rfl ⟨rfl, rfl⟩ (by kernel_rfl) rfl verifies_plain (by kernel_rfl)
#print axioms verifies_card
end Go.Proofs.YtccgfabojbjmjaaGreatDoor
