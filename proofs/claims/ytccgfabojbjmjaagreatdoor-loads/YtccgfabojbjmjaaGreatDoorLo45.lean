import Derived.Test.YtccgfabojbjmjaaGreatDoorLo44
import Derived.Test.YtccgfabojbjmjaaGreatDoorLo41
set_option maxRecDepth 100000
set_option maxHeartbeats 8000000
namespace Go.Proofs.YtccgfabojbjmjaaGreatDoor
open Go.RowKit
theorem qbH (a b : ByteArray) : bytesOf (a ++ b) = bytesOf a ++ bytesOf b := by
 unfold bytesOf; rw [ByteArray.data_append, Array.toList_append]
theorem qeI (a b : ByteArray) : (a ++ b).size = a.size + b.size := by
 rw [← jY, qbH, Ze]; rfl
theorem qjM (l : List UInt8) (h : l.length = 32) : qC l < 115792089237316195423570985008687907853269984665640564039457584007913129639936 := by
 have := qb9 l
 rw [h] at this
 exact zl this (by decide)
open Go.RowKit
abbrev yaf : Oper := ⟨some 62, .call ⟨.value (.func 67), #[.tmp 52, .tmp 57, .tmp 61], #[95, 98, 98]⟩, 98, "sign.go:64", #[ql 0, ql 5, ql 9, qT 9], none⟩
abbrev yag : Oper := ⟨some 61, .call ⟨.value (.func 34), #[.tmp 58, .tmp 59, .tmp 60], #[95, 91, 98]⟩, 98, "sign.go:64", #[ql 6, ql 7, ql 8, qT 5], none⟩
abbrev yah : Oper := ⟨some 57, .call ⟨.value (.func 34), #[.tmp 53, .tmp 54, .tmp 56], #[95, 91, 98]⟩, 98, "sign.go:64", #[ql 1, ql 2, ql 4, qT 4], none⟩
abbrev yai : Oper := ⟨some 56, .call ⟨.value (.func 35), #[.tmp 55], #[95]⟩, 98, "sign.go:64", #[ql 3], none⟩
abbrev qbc : Oper := ⟨some 13, .alloc 98, 0, "sign.go:64", #[], none⟩
abbrev qa6 : Oper := ⟨none, .store 98 (.tmp 13) (.tmp 62), 0, "sign.go:64", #[ql 11, ql 10, qT 10, qj 0, qj 1, qj 2, qj 3, qj 4, qj 5, qj 6, qj 7, qj 8, qj 9, qj 10, qj 11], none⟩
theorem qrm {a : Act} {o : Oper} (ho : o.op = .call { callee := .value (.func 77), args := #[], argTypes := #[] }) (w : World) :
  (execOp a.eval o).run Tryz.prog w = .ok (.enter 77 #[]) w := by
 unfold execOp
 simp only [ho]
 go_simp
theorem ql5 {a : Act} {o : Oper} (x y : Operand) (ho : o.op = .call { callee := .value (.func 76), args := #[x, y], argTypes := #[91, 91] }) (v1 v2 : Value) (hx : a.eval x = v1) (hy : a.eval y = v2) (w : World) :
  (execOp a.eval o).run Tryz.prog w = .ok (.enter 76 #[v1, v2]) w := by
 unfold execOp
 simp only [ho]
 subst hx hy
 go_simp
theorem qa2 {a : Act} {o : Oper} (x y z : Operand) (ho : o.op = .call { callee := .value (.func 67), args := #[x, y, z], argTypes := #[95, 98, 98] }) (v1 v2 v3 : Value) (hx : a.eval x = v1) (hy : a.eval y = v2) (hz : a.eval z = v3) (w : World) :
  (execOp a.eval o).run Tryz.prog w = .ok (.enter 67 #[v1, v2, v3]) w := by
 unfold execOp
 simp only [ho]
 subst hx hy hz
 go_simp
theorem qvV (R : Array Value) (hR : R = (ZP.map iv).toArray) (w : World) : zC 77 #[] w (.agg R) := by rw [hR]; exact qgd w
theorem qvW : LI = ((jf : Nat) : Int) := rfl
theorem qtu (n : Nat) (hn : n < 115792089237316195423570985008687907853269984665640564039457584007913129639936) (l : List UInt8) (hl : l = qI n 32) (R : Array Value) (hR : R = (ZP.map iv).toArray) (w : World) :
  zC 76 #[.agg (sA l), .agg R] w (.bool (decide (n < jf))) := by
 have h := qf2 (dB 65536 17 (n : Int)) (ZG _ _ _) (yX _ (by decide) _ _) R hR w
 rw [qpK n hn, qvW] at h
 rw [hl, qr4 n hn]
 refine h.mono ?_
 rintro e w' ⟨rfl, hB⟩
 refine ⟨?_, hB⟩
 have : decide ((n : Int) < ((jf : Nat) : Int)) = decide (n < jf) := by
  by_cases c : n < jf
  · rw [zN c, zN (Int.ofNat_lt.2 c)]
  · rw [zD c, zD (fun h => c (Int.ofNat_lt.1 h))]
 rw [this]
theorem qbY (g : Nat) (t : TypeId) (fr : Nat × Nat) : ∀ (vs : List Value) (o : Nat) (cur : List Value) (w : World), w.heap[g]? = some (.cells cur.toArray t fr) → o + vs.length ≤ cur.length →
  (w.setCells g o vs).heap[g]? = some (.cells (cur.take o ++ vs ++ cur.drop (o + vs.length)).toArray t fr)
 | [], o, cur, w, hg, _ => by simpa [World.setCells] using hg
 | v :: r, o, cur, w, hg, hl => by
  have hl' : o + (r.length + 1) ≤ cur.length := by simpa using hl
  have h1 : (w.setCell ⟨g, o, none⟩ v).heap[g]? = some (.cells (cur.set o v).toArray t fr) := by
   rw [setCell_eq_setRow w g o cur.toArray t fr v hg]
   have := zd w g cur.toArray (cur.toArray.setIfInBounds o v) t fr hg
   simpa using this
  have ih := qbY g t fr r (o + 1) (cur.set o v) _ h1 (by simp; omega)
  show ((w.setCell ⟨g, o, none⟩ v).setCells g (o + 1) r).heap[g]? = _
  rw [ih]
  have e1 : (cur.set o v).take (o + 1) = cur.take o ++ [v] := by
   rw [List.take_succ_eq_append_getElem (by simp; omega), List.take_set_of_le (zm _)]; simp
  have e2 : (cur.set o v).drop (o + 1 + r.length) = cur.drop (o + (v :: r).length) := by
   rw [List.drop_set_of_lt (by omega)]; congr 1; simp; omega
  rw [e1, e2]; simp
theorem qs8 {w : World} {g x : Nat} {p : Q3} {T : TypeId} {fr : Nat × Nat} (h : w.heap[g]? = some (.cells (qA p) T fr)) : (w.setCells g 0 (fL x)).heap[g]? = some (.cells (qA ⟨x, p.y, p.z⟩) T fr) := by
 have e := qbY g T fr (fL x) 0 (qL p) w h (by rw [ka, qip]; decide)
 rw [e]
 unfold qA qL
 rw [List.take_zero, List.nil_append, Zb, ka, z9, z9, ← ka p.x, List.drop_left]
theorem qpV {w : World} {g : Nat} {p : Q3} {T : TypeId} (h : w.heap[g]? = some (.cells (qA p) T (0, 0))) : w.there g 0 10 := fun j hj => by
 refine ⟨?_, frozen_of_row w g (0 + j) _ _ h⟩
 rw [zj w g (0 + j) _ T _ h, qA, zV, zO (by rw [qip]; omega)]
 rfl
theorem qg9 {B : Nat} {a w : World} (h : Below B a w) {g : Nat} (hg : B ≤ g) (o : Nat) (vs : List Value) : Below B a (w.setCells g o vs) := by
 obtain ⟨h1, h2, h3⟩ := qap g vs o w
 exact ⟨h1.trans h.os, h2.trans h.tape, h3.trans h.output, by rw [qaW]; exact h.size, fun k hk => (qae g k (by omega) vs o w).trans (h.block k hk)⟩
theorem qre {a b : ByteArray} (h : a ≠ b) : (a.toList == b.toList) = false := by
 rw [beq_eq_false_iff_ne]
 intro e
 rw [ByteArray.toList_eq, ByteArray.toList_eq] at e
 exact h (by rw [← Yl a, ← Yl b]; exact congrArg jk e)
theorem qq5 {a b : ByteArray} (h : a = b) : (a.toList == b.toList) = true := by rw [h]; exact beq_self_eq_true _
theorem qvn (x : Nat) : (fA x).toList = fL x := rfl
theorem qlk (s : ByteArray) (n : Nat) (_ : n ≤ s.size) : (s.extract n s.size).size = s.size - n := by
 rw [← Yl s, qex, qbI, Zi, qbI]
theorem qj0 (s : ByteArray) (n : Nat) : bytesOf (s.extract n s.size) = (bytesOf s).drop n := by
 have := qex (bytesOf s) n
 rw [Yl] at this
 rw [this, qad]
theorem qer (s : ByteArray) (n : Nat) : bytesOf (s.extract 0 n) = (bytesOf s).take n := by
 have := qj5 (bytesOf s) n
 rw [Yl] at this
 rw [this, qad]
noncomputable def rvK (k m g : ByteArray) : Nat := qC (jD ((bytesOf g).take 32 ++ bytesOf k ++ bytesOf m)) % jf
noncomputable def rvQ (k m g : ByteArray) : Q3 := Jd ZC (jd ZC ((bytesOf g).drop 32) (Qv ZC Yh) 256) (jd ZC (qI (rvK k m g) 32) ⟨sP 0 (Qv ZC k).x, (Qv ZC k).y, (Qv ZC k).z⟩ 256)
noncomputable def y6 (k m g : ByteArray) : Int := if k.size = 32 ∧ g.size = 64 then (if j6 ZC k = true then (if qC ((bytesOf g).drop 32) < jf then (if YP (rvQ k m g) = g.extract 0 32 then 0 else 4) else 3) else 2) else 1
section
attribute [local irreducible] fA fL qA qL sA JZ ZC j6 Qv YP jd Jd
theorem qjo (ky m g : ByteArray) (hm : m.size ≤ 140737488351232) (w : World) :
  zC 42 #[.string ky, .string m, .string g] w (.int .i64 (y6 ky m g)) := by
 have hz := JP
 have hzq := qjZ
 have hzs := qlX
 have Hm := qa hm
 clear hm
 go_enter Tryz.func42, Tryz.ntmps42
 by_cases h32 : ky.size = 32
 case neg =>
  have b32 : ((ky.size : Int) != 32) = true := by rw [bne_iff_ne]; omega
  have HN := qa h32
  clear h32
  go_wp2_with fail
  go_returns
  refine ⟨?_, zJ _ _⟩
  unfold y6
  rw [if_neg (fun h => HN.o h.1)]; rfl
 case pos =>
 have b32 : ((ky.size : Int) != 32) = false := by rw [h32]; rfl
 have Hk := qa h32
 clear h32
 by_cases h64 : g.size = 64
 case neg =>
  have b64 : ((g.size : Int) != 64) = true := by rw [bne_iff_ne]; omega
  have HN := qa h64
  clear h64
  go_wp2_with fail
  go_returns
  refine ⟨?_, zJ _ _⟩
  unfold y6
  rw [if_neg (fun h => HN.o h.2)]; rfl
 case pos =>
 have b64 : ((g.size : Int) != 64) = false := by rw [h64]; rfl
 have Hg := qa h64
 clear h64
 go_wp2_with fail
 refine (qsl _).mono ?_
 rintro e W1 ⟨rfl, hB⟩
 have BL := qa hB
 clear hB b32 b64
 obtain ⟨d, Ed⟩ := zx ZC
 have Hd : Hid (d < P) := by rw [Ed.o]; exact qkJ
 rw [← Ed.o]
 go_upto_region 4 with (first | (refine qB 95 (.tmp 7) (.tmp 23) W1.heap.size (fA d) (za _ _) (qO _) (jo _ _) (jn _) ?_))
 try rw [qH]
 obtain ⟨g7, hg7⟩ := zy W1.heap.size
 generalize hW2 : World.setRow _ _ _ = W2
 have RD : Hid (qi W2 g7 (fA d) 95) := by rw [← hW2, hg7]; exact zd _ _ _ _ _ _ (za _ _)
 have BL : Hid (zB w W2) := by rw [← hW2]; exact ze (BL.o.alloc BL.o.size _) BL.o.size _
 rw [← hg7]
 clear hW2 hg7
 go_wp2_with (first | (refine zL 95 (.tmp 7) (g7) (fA d) RD.o q7 (qO _) ?_))
 refine (qhO d ky Hd.o _).mono ?_
 rintro e W3 ⟨rfl, hB⟩
 have RD := qa (qk RD.o hB)
 have BL := qq BL hB
 clear hB
 obtain ⟨p, Ep⟩ := zx (Qv d ky)
 obtain ⟨b1, Eb1⟩ := zx (j6 d ky)
 have Hp : Hid p.Ok := by rw [Ep.o]; exact qk9 _ _
 rw [← Ep.o, ← Eb1.o]
 go_upto_region 5 with (first | (refine qB 98 (.tmp 8) (.tmp 28) W3.heap.size (qA p) (za _ _) (jE _) (QN _ _) (QO _) ?_))
 try rw [qH]
 obtain ⟨g8, hg8⟩ := zy W3.heap.size
 generalize hW4 : World.setRow _ _ _ = W4
 have K4 : Hid (zB W3 W4) := by rw [← hW4]; exact ze ((zJ _ _).alloc (zm _) _) (zm _) _
 have RA : Hid (qi W4 g8 (qA p) 98) := by rw [← hW4, hg8]; exact zd _ _ _ _ _ _ (za _ _)
 have hgz : w.heap.size ≤ g8 := by rw [hg8]; exact BL.o.size
 have h87 : g7 < g8 := by rw [hg8]; exact qh RD.o
 have RD := qa (qk RD.o K4.o)
 have BL : Hid (zB w W4) := BL.o.trans (K4.o.mono BL.o.size)
 rw [← hg8]
 clear hW4 hg8 K4
 cases b1
 case false =>
  go_wp2_with fail
  go_returns
  refine ⟨?_, BL.o⟩
  unfold y6
  rw [if_pos ⟨Hk.o, Hg.o⟩, ← Ed.o, ← Eb1.o, if_neg (by decide)]; rfl
 case true =>
  obtain ⟨T2, ET2⟩ := zx (g.extract 32 g.size)
  have HT2 : Hid (T2.size = 32) := by show _ = _; rw [ET2.o, qlk g 32 (by rw [Hg.o]; decide), Hg.o]
  have bT2 : Hid (bytesOf T2 = (bytesOf g).drop 32) := by show _ = _; rw [ET2.o]; exact qj0 g 32
  have hg1 : (32 : Int) ≤ (g.size : Int) := by have := Hg.o; omega
  have hx1 : g.extract 32 g.size = T2 := ET2.o.symm
  go_wp2_with fail
  try rw [hx1]
  refine (qj7 T2 HT2.o _).mono ?_
  rintro e W4b ⟨rfl, hB⟩
  have RD := qa (qk RD.o hB)
  have RA := qa (qk RA.o hB)
  have BL := qq BL hB
  clear hB
  obtain ⟨ls, Els0⟩ := zx (bytesOf T2)
  rw [← Els0.o]
  have lls : ls.length = 32 := by rw [Els0.o, jY, HT2.o]
  obtain ⟨sn, Esn⟩ := zx (qC ls)
  have Els : Hid (ls = qI sn 32) := by show _ = _; rw [Esn.o]; exact (qaR ls lls).symm
  have Hsn : Hid (sn < 115792089237316195423570985008687907853269984665640564039457584007913129639936) := by rw [Esn.o]; exact qjM ls lls
  have EsN : Hid (sn = qC ((bytesOf g).drop 32)) := by show _ = _; rw [Esn.o, Els0.o, bT2.o]
  clear lls
  go_upto_region 8 with (first | (refine qB 91 (.tmp 10) (.tmp 34) W4b.heap.size (sA ls) (za _ _) (qbJ _) (qib _) (qiB _) ?_))
  try rw [qH]
  obtain ⟨g10, hg10⟩ := zy W4b.heap.size
  generalize hW5 : World.setRow _ _ _ = W5
  have K5 : Hid (zB W4b W5) := by rw [← hW5]; exact ze ((zJ _ _).alloc (zm _) _) (zm _) _
  have RS : Hid (qi W5 g10 (sA ls) 91) := by rw [← hW5, hg10]; exact zd _ _ _ _ _ _ (za _ _)
  have h108 : g8 < g10 := by rw [hg10]; exact qh RA.o
  have RD := qa (qk RD.o K5.o)
  have RA := qa (qk RA.o K5.o)
  have BL : Hid (zB w W5) := BL.o.trans (K5.o.mono BL.o.size)
  rw [← hg10]
  clear hW5 hg10 K5
  obtain ⟨RO, ERO⟩ := zx ((ZP.map iv).toArray)
  refine zM (S := fun w' => w'.rangeAt g10 0 (JZ ls)) (by kernel_rfl) (qdu RS.o) (fun hHeld => ?_)
  have KV1 : Hid (zB W5 W5.drew) := (zJ _ _).drew
  obtain ⟨V1, hV1⟩ := zy W5.drew
  rw [← hV1] at hHeld KV1 ⊢
  clear hV1
  refine zT 0 ⟨some 35, .load 91 (.tmp 10), 91, "sign.go:58", #[], none⟩ (.agg (sA ls)) (qve (by rfl) _ rfl g10 0 ls rfl (fun w h => h)) ?_
  simp only [qd]
  refine zR 1 ⟨some 36, .call ⟨.value (.func 77), #[], #[]⟩, 91, "sign.go:58", #[], none⟩ fun K hK => ?_
  refine zE (qrm rfl V1) (qvV RO ERO.o V1) fun V2 HBx => ?_
  have KV2 := qq KV1 HBx
  clear HBx
  refine hK.o _ _ (q8 (qdu RS.o) KV2.o (qh RS.o)) fun hHeld => ?_
  try simp only [qd]
  refine zR 2 ⟨some 37, .call ⟨.value (.func 76), #[.tmp 35, .tmp 36], #[91, 91]⟩, 4, "sign.go:58", #[ql 0, ql 1, qT 1], none⟩ fun K hK => ?_
  refine zE (ql5 _ _ rfl (.agg (sA ls)) (.agg RO) rfl rfl V2) (qtu sn Hsn.o ls Els.o RO ERO.o V2) fun V3 HBx => ?_
  have KV3 := qq KV2 HBx
  clear HBx
  refine hK.o _ _ (q8 (qdu RS.o) KV3.o (qh RS.o)) fun hHeld => ?_
  try simp only [qd]
  refine zU 3 ⟨some 11, .assign (.tmp 37), 4, "sign.go:58", #[ql 2, qT 2, qj 0, qj 1, qj 2], none⟩ (.bool (decide (sn < jf))) ?_
  simp only [qd]
  refine zi (by kernel_rfl) ?_ _
  have KF : Hid (zB W5 V3) := KV3
  obtain ⟨W6, hW6⟩ := zy V3
  rw [← hW6] at KF ⊢
  clear hW6
  have RD := qa (qk RD.o KF.o)
  have RA := qa (qk RA.o KF.o)
  have RS := qa (qk RS.o KF.o)
  have BL : Hid (zB w W6) := BL.o.trans (KF.o.mono BL.o.size)
  clear KF
  by_cases hlt : sn < jf
  case neg =>
   rw [zD hlt]
   have HN := qa hlt
   clear hlt
   go_wp2_with fail
   go_returns
   refine ⟨?_, BL.o⟩
   unfold y6
   rw [if_pos ⟨Hk.o, Hg.o⟩, ← Ed.o, ← Eb1.o, if_pos rfl, ← EsN.o, if_neg HN.o]; rfl
  case pos =>
   rw [zN hlt]
   have Hlt := qa hlt
   clear hlt
   obtain ⟨T1, ET1⟩ := zx (g.extract 0 32)
   have bT1 : Hid (bytesOf T1 = (bytesOf g).take 32) := by show _ = _; rw [ET1.o]; exact qer g 32
   have HT1 : Hid (T1.size = 32) := by show _ = _; rw [← jY, bT1.o, Zh, jY, Hg.o]; rfl
   have hx2 : g.extract 0 32 = T1 := ET1.o.symm
   have hs2 : T1.size + ky.size ≤ 9223372036854775807 := by have := HT1.o; have := Hk.o; omega
   have hs3 : (T1 ++ ky).size + m.size ≤ 9223372036854775807 := by rw [qeI]; have := Hm.o; have := HT1.o; have := Hk.o; omega
   go_wp2_with fail
   clear hs2 hs3
   try rw [hx2]
   obtain ⟨k, Ek⟩ := zx (rvK ky m g)
   refine (qk3 (T1 ++ ky ++ m) (by have := Hm.o; rw [qeI, qeI, HT1.o, Hk.o]; omega) k (by rw [Ek.o, qbH, qbH, bT1.o]; rfl) _).mono ?_
   rintro e W7 ⟨rfl, hB⟩
   have RD := qa (qk RD.o hB)
   have RA := qa (qk RA.o hB)
   have RS := qa (qk RS.o hB)
   have BL := qq BL hB
   clear hB
   obtain ⟨lk, Elk⟩ := zx (qI k 32)
   rw [← Elk.o]
   go_upto_region 12 with (first | (refine qB 91 (.tmp 12) (.tmp 46) W7.heap.size (sA lk) (za _ _) (qbJ _) (qib _) (qiB _) ?_))
   try rw [qH]
   obtain ⟨g12, hg12⟩ := zy W7.heap.size
   generalize hW7c : World.setRow _ _ _ = W7c
   have K7 : Hid (zB W7 W7c) := by rw [← hW7c]; exact ze ((zJ _ _).alloc (zm _) _) (zm _) _
   have RK : Hid (qi W7c g12 (sA lk) 91) := by rw [← hW7c, hg12]; exact zd _ _ _ _ _ _ (za _ _)
   have h1210 : g10 < g12 := by rw [hg12]; exact qh RS.o
   have RD := qa (qk RD.o K7.o)
   have RA := qa (qk RA.o K7.o)
   have RS := qa (qk RS.o K7.o)
   have BL : Hid (zB w W7c) := BL.o.trans (K7.o.mono BL.o.size)
   rw [← hg12]
   clear hW7c hg12 K7
   have rQ := qa (JJ RA.o).1
   have hfo : (fL p.x).toArray = fA p.x := by rw [← qvn]
   go_wp2_with (first | (refine zG (by rfl) 95 (.tmp 48) (by rfl) g8 0 (by rfl) (fL p.x) _ rQ.o q7 rfl (Yt _) ?_))
   refine (ku 0 p.x qkd Hp.o.x _).mono ?_
   rintro e W7d ⟨rfl, hB⟩
   have RD := qa (qk RD.o hB)
   have RA := qa (qk RA.o hB)
   have RS := qa (qk RS.o hB)
   have RK := qa (qk RK.o hB)
   have BL := qq BL hB
   clear hB rQ hfo
   obtain ⟨x', Ex'⟩ := zx (sP 0 p.x)
   rw [← Ex'.o]
   have hx'P : Hid (x' < P) := by rw [Ex'.o]; exact jR _ _
   have fs : Hid ((fA x').size = 10) := by show _ = _; rw [← Array.length_toList, qvn, ka]
   go_upto_region 13 with (first | (refine wpList_store_mid (by rfl) 95 (.tmp 51) (.tmp 50) (by rfl) g8 0 (fA x') (by rfl) (by rfl) (by rw [fs.o]; exact qpV RA.o) (qO _) (jn _) ?_))
   try rw [qH]
   generalize hW8 : World.setCells _ _ _ _ = W8
   obtain ⟨a, Ea⟩ := zx (α := Q3) (⟨x', p.y, p.z⟩)
   have Ha : Hid a.Ok := by rw [Ea.o]; exact ⟨hx'P.o, Hp.o.y, Hp.o.z⟩
   have RA : Hid (qi W8 g8 (qA a) 98) := by rw [← hW8, qvn, Ea.o]; exact qs8 RA.o
   have RD : Hid (qi W8 g7 (fA d) 95) := by rw [← hW8]; exact (qae _ _ (by omega) _ _ _).trans RD.o
   have RS : Hid (qi W8 g10 (sA ls) 91) := by rw [← hW8]; exact (qae _ _ (by omega) _ _ _).trans RS.o
   have RK : Hid (qi W8 g12 (sA lk) 91) := by rw [← hW8]; exact (qae _ _ (by omega) _ _ _).trans RK.o
   have BL : Hid (zB w W8) := by rw [← hW8]; exact qg9 BL.o hgz _ _
   clear hW8
   obtain ⟨Bq, EBq⟩ := zx (Qv ZC Yh)
   have HBq : Hid Bq.Ok := by rw [EBq.o]; exact qk9 _ _
   have lD := qh RD.o
   have lS := qh RS.o
   have lK := qh RK.o
   have lA := qh RA.o
   have sat13 : ∀ {V : World}, zB W8 V → V.rangeAt g7 0 (fL d) ∧ V.rangeAt g10 0 (JZ ls) ∧ V.rangeAt g12 0 (JZ lk) ∧ V.rangeAt g8 0 (qL a) := fun h =>
    ⟨q8 (QE RD.o) h lD, q8 (qdu RS.o) h lS, q8 (qdu RK.o) h lK, q8 (qml RA.o) h lA⟩
   have satset13 : ∀ {V : World} {q : Nat} {cs : Array Value}, zB W8 V → W8.heap.size ≤ q → (V.setRow q cs).rangeAt g7 0 (fL d) ∧ (V.setRow q cs).rangeAt g10 0 (JZ ls) ∧ (V.setRow q cs).rangeAt g12 0 (JZ lk) ∧ (V.setRow q cs).rangeAt g8 0 (qL a) := fun h hq =>
    ⟨qF (sat13 h).1 (by omega), qF (sat13 h).2.1 (by omega), qF (sat13 h).2.2.1 (by omega), qF (sat13 h).2.2.2 (by omega)⟩
   go_cut [13] from 52 to 62 (fun s' wx => ∃ g, s' = zp g 0 ∧ Hid (qi wx g ((qA (Jd d (jd d ls Bq 256) (jd d lk a 256)))) 98) ∧ Hid (zB W8 wx))
   case first =>
    refine zM (S := fun w' => w'.rangeAt g7 0 (fL d) ∧ w'.rangeAt g10 0 (JZ ls) ∧ w'.rangeAt g12 0 (JZ lk) ∧ w'.rangeAt g8 0 (qL a)) (by kernel_rfl) ⟨QE RD.o, qdu RS.o, qdu RK.o, qml RA.o⟩ (fun hHeld => ?_)
    have KV1 : Hid (zB W8 W8.drew) := (zJ _ _).drew
    obtain ⟨V1, hV1⟩ := zy W8.drew
    rw [← hV1] at hHeld KV1 ⊢
    clear hV1
    refine zT 0 ⟨some 52, .load 95 (.tmp 7), 95, "sign.go:64", #[], none⟩ (.agg (fA d)) (jX (by rfl) _ rfl g7 0 d rfl (fun w h => h.1)) ?_
    simp only [qd]
    refine zT 1 ⟨some 53, .load 95 (.tmp 7), 95, "sign.go:64", #[], none⟩ (.agg (fA d)) (jX (by rfl) _ rfl g7 0 d rfl (fun w h => h.1)) ?_
    simp only [qd]
    refine zT 2 ⟨some 54, .load 91 (.tmp 10), 91, "sign.go:64", #[], none⟩ (.agg (sA ls)) (qve (by rfl) _ rfl g10 0 ls rfl (fun w h => h.2.1)) ?_
    simp only [qd]
    refine zT 3 ⟨some 55, .load 95 (.tmp 7), 95, "sign.go:64", #[], none⟩ (.agg (fA d)) (jX (by rfl) _ rfl g7 0 d rfl (fun w h => h.1)) ?_
    simp only [qd]
    refine zT 6 ⟨some 58, .load 95 (.tmp 7), 95, "sign.go:64", #[], none⟩ (.agg (fA d)) (jX (by rfl) _ rfl g7 0 d rfl (fun w h => h.1)) ?_
    simp only [qd]
    refine zT 7 ⟨some 59, .load 91 (.tmp 12), 91, "sign.go:64", #[], none⟩ (.agg (sA lk)) (qve (by rfl) _ rfl g12 0 lk rfl (fun w h => h.2.2.1)) ?_
    simp only [qd]
    refine zT 8 ⟨some 60, .load 98 (.tmp 8), 98, "sign.go:64", #[], none⟩ (.agg (qA a)) (qv0 (by rfl) _ rfl g8 0 a rfl (fun w h => h.2.2.2)) ?_
    simp only [qd]
    refine zW [4, 11] ?_
    refine zK yai (fun K hK => ?_) ?_
    ·
     refine zE (qgj _ rfl (.agg (fA d)) rfl V1) (qlo d Ed.o Bq EBq.o V1) fun V2 HBx => ?_
     have KV2 := qq KV1 HBx
     clear HBx
     refine hK.o _ _ (sat13 KV2.o) fun hHeld => ?_
     try simp only [qd]
     refine zW [5, 11] ?_
     refine zK yah (fun K hK => ?_) ?_
     ·
      refine zE (qat _ _ _ rfl (.agg (fA d)) (.agg (sA ls)) (.agg (qA Bq)) rfl rfl rfl V2) (qdP d Hd.o ls Bq HBq.o V2) fun V3 HBx => ?_
      have KV3 := qq KV2 HBx
      clear HBx
      refine hK.o _ _ (sat13 KV3.o) fun hHeld => ?_
      try simp only [qd]
      refine zW [9, 11] ?_
      refine zK yag (fun K hK => ?_) ?_
      ·
       refine zE (qat _ _ _ rfl (.agg (fA d)) (.agg (sA lk)) (.agg (qA a)) rfl rfl rfl V3) (qdP d Hd.o lk a Ha.o V3) fun V4 HBx => ?_
       have KV4 := qq KV3 HBx
       clear HBx
       refine hK.o _ _ (sat13 KV4.o) fun hHeld => ?_
       try simp only [qd]
       refine zW [10, 11] ?_
       refine zK yaf (fun K hK => ?_) ?_
       ·
        refine zE (qa2 _ _ _ rfl (.agg (fA d)) (.agg (qA (jd d ls Bq 256))) (.agg (qA (jd d lk a 256))) rfl rfl rfl V4) (qhg d (jd d ls Bq 256) (jd d lk a 256) Hd.o (Yn _ _ _ _) (Yn _ _ _ _) V4) fun V5 HBx => ?_
        have KV5 := qq KV4 HBx
        clear HBx
        refine hK.o _ _ (sat13 KV5.o) fun hHeld => ?_
        try simp only [qd]
        refine zR 11 qbc fun K hK => ?_
        refine zA (kT rfl V5) ?_
        obtain ⟨gg6, hgg6⟩ := zy V5.heap.size
        have ZN : Hid ((V5.alloc (.cells (qA q0) 98)).heap[gg6]? = some (.cells (qA q0) 98)) := by rw [hgg6]; exact za _ _
        have KV6 : Hid (zB W8 (V5.alloc (.cells (qA q0) 98))) := KV5.o.alloc KV5.o.size _
        have GG : Hid (W8.heap.size ≤ gg6) := by rw [hgg6]; exact KV5.o.size
        rw [← hgg6]
        obtain ⟨V6, hV6⟩ := zy (V5.alloc (.cells (qA q0) 98))
        rw [← hV6] at ZN KV6 ⊢
        clear hV6 hgg6
        refine hK.o _ _ (sat13 KV6.o) fun hHeld => ?_
        try simp only [qd]
        refine zR 12 qa6 fun K hK => ?_
        refine zQ 98 (.tmp 13) (.tmp 62) (gg6) (qA (Jd d (jd d ls Bq 256) (jd d lk a 256))) ZN.o (jE _) (QN _ _) (QO _) ?_
        rw [qH]
        refine hK.o _ _ (satset13 KV6.o GG.o) fun hHeld => ?_
        try simp only [qd]
        refine zi (by kernel_rfl) ?_ _
        go_wp2_with fail
        go_meet
        case rel => exact ⟨gg6, rfl, qa (zd _ _ _ _ _ _ ZN.o), qa (ze KV6.o GG.o _)⟩
       refine zK qbc (fun K hK => ?_) ?_
       ·
        refine zA (kT rfl V4) ?_
        obtain ⟨gg8, hgg8⟩ := zy V4.heap.size
        have ZN : Hid ((V4.alloc (.cells (qA q0) 98)).heap[gg8]? = some (.cells (qA q0) 98)) := by rw [hgg8]; exact za _ _
        have KV8 : Hid (zB W8 (V4.alloc (.cells (qA q0) 98))) := KV4.o.alloc KV4.o.size _
        have GG : Hid (W8.heap.size ≤ gg8) := by rw [hgg8]; exact KV4.o.size
        rw [← hgg8]
        obtain ⟨V8, hV8⟩ := zy (V4.alloc (.cells (qA q0) 98))
        rw [← hV8] at ZN KV8 ⊢
        clear hV8 hgg8
        refine hK.o _ _ (sat13 KV8.o) fun hHeld => ?_
        try simp only [qd]
        refine zR 10 yaf fun K hK => ?_
        refine zE (qa2 _ _ _ rfl (.agg (fA d)) (.agg (qA (jd d ls Bq 256))) (.agg (qA (jd d lk a 256))) rfl rfl rfl V8) (qhg d (jd d ls Bq 256) (jd d lk a 256) Hd.o (Yn _ _ _ _) (Yn _ _ _ _) V8) fun V9 HBx => ?_
        have KV9 := qq KV8 HBx
        have ZN : Hid (V9.heap[gg8]? = _) := qk ZN.o HBx
        clear HBx
        refine hK.o _ _ (sat13 KV9.o) fun hHeld => ?_
        try simp only [qd]
        refine zR 12 qa6 fun K hK => ?_
        refine zQ 98 (.tmp 13) (.tmp 62) (gg8) (qA (Jd d (jd d ls Bq 256) (jd d lk a 256))) ZN.o (jE _) (QN _ _) (QO _) ?_
        rw [qH]
        refine hK.o _ _ (satset13 KV9.o GG.o) fun hHeld => ?_
        try simp only [qd]
        refine zi (by kernel_rfl) ?_ _
        go_wp2_with fail
        go_meet
        case rel => exact ⟨gg8, rfl, qa (zd _ _ _ _ _ _ ZN.o), qa (ze KV9.o GG.o _)⟩
       exact zu
      refine zK qbc (fun K hK => ?_) ?_
      ·
       refine zA (kT rfl V3) ?_
       obtain ⟨gg11, hgg11⟩ := zy V3.heap.size
       have ZN : Hid ((V3.alloc (.cells (qA q0) 98)).heap[gg11]? = some (.cells (qA q0) 98)) := by rw [hgg11]; exact za _ _
       have KV11 : Hid (zB W8 (V3.alloc (.cells (qA q0) 98))) := KV3.o.alloc KV3.o.size _
       have GG : Hid (W8.heap.size ≤ gg11) := by rw [hgg11]; exact KV3.o.size
       rw [← hgg11]
       obtain ⟨V11, hV11⟩ := zy (V3.alloc (.cells (qA q0) 98))
       rw [← hV11] at ZN KV11 ⊢
       clear hV11 hgg11
       refine hK.o _ _ (sat13 KV11.o) fun hHeld => ?_
       try simp only [qd]
       refine zR 9 yag fun K hK => ?_
       refine zE (qat _ _ _ rfl (.agg (fA d)) (.agg (sA lk)) (.agg (qA a)) rfl rfl rfl V11) (qdP d Hd.o lk a Ha.o V11) fun V12 HBx => ?_
       have KV12 := qq KV11 HBx
       have ZN : Hid (V12.heap[gg11]? = _) := qk ZN.o HBx
       clear HBx
       refine hK.o _ _ (sat13 KV12.o) fun hHeld => ?_
       try simp only [qd]
       refine zR 10 yaf fun K hK => ?_
       refine zE (qa2 _ _ _ rfl (.agg (fA d)) (.agg (qA (jd d ls Bq 256))) (.agg (qA (jd d lk a 256))) rfl rfl rfl V12) (qhg d (jd d ls Bq 256) (jd d lk a 256) Hd.o (Yn _ _ _ _) (Yn _ _ _ _) V12) fun V13 HBx => ?_
       have KV13 := qq KV12 HBx
       have ZN : Hid (V13.heap[gg11]? = _) := qk ZN.o HBx
       clear HBx
       refine hK.o _ _ (sat13 KV13.o) fun hHeld => ?_
       try simp only [qd]
       refine zR 12 qa6 fun K hK => ?_
       refine zQ 98 (.tmp 13) (.tmp 62) (gg11) (qA (Jd d (jd d ls Bq 256) (jd d lk a 256))) ZN.o (jE _) (QN _ _) (QO _) ?_
       rw [qH]
       refine hK.o _ _ (satset13 KV13.o GG.o) fun hHeld => ?_
       try simp only [qd]
       refine zi (by kernel_rfl) ?_ _
       go_wp2_with fail
       go_meet
       case rel => exact ⟨gg11, rfl, qa (zd _ _ _ _ _ _ ZN.o), qa (ze KV13.o GG.o _)⟩
      exact zu
     refine zK qbc (fun K hK => ?_) ?_
     ·
      refine zA (kT rfl V2) ?_
      obtain ⟨gg15, hgg15⟩ := zy V2.heap.size
      have ZN : Hid ((V2.alloc (.cells (qA q0) 98)).heap[gg15]? = some (.cells (qA q0) 98)) := by rw [hgg15]; exact za _ _
      have KV15 : Hid (zB W8 (V2.alloc (.cells (qA q0) 98))) := KV2.o.alloc KV2.o.size _
      have GG : Hid (W8.heap.size ≤ gg15) := by rw [hgg15]; exact KV2.o.size
      rw [← hgg15]
      obtain ⟨V15, hV15⟩ := zy (V2.alloc (.cells (qA q0) 98))
      rw [← hV15] at ZN KV15 ⊢
      clear hV15 hgg15
      refine hK.o _ _ (sat13 KV15.o) fun hHeld => ?_
      try simp only [qd]
      refine zR 5 yah fun K hK => ?_
      refine zE (qat _ _ _ rfl (.agg (fA d)) (.agg (sA ls)) (.agg (qA Bq)) rfl rfl rfl V15) (qdP d Hd.o ls Bq HBq.o V15) fun V16 HBx => ?_
      have KV16 := qq KV15 HBx
      have ZN : Hid (V16.heap[gg15]? = _) := qk ZN.o HBx
      clear HBx
      refine hK.o _ _ (sat13 KV16.o) fun hHeld => ?_
      try simp only [qd]
      refine zR 9 yag fun K hK => ?_
      refine zE (qat _ _ _ rfl (.agg (fA d)) (.agg (sA lk)) (.agg (qA a)) rfl rfl rfl V16) (qdP d Hd.o lk a Ha.o V16) fun V17 HBx => ?_
      have KV17 := qq KV16 HBx
      have ZN : Hid (V17.heap[gg15]? = _) := qk ZN.o HBx
      clear HBx
      refine hK.o _ _ (sat13 KV17.o) fun hHeld => ?_
      try simp only [qd]
      refine zR 10 yaf fun K hK => ?_
      refine zE (qa2 _ _ _ rfl (.agg (fA d)) (.agg (qA (jd d ls Bq 256))) (.agg (qA (jd d lk a 256))) rfl rfl rfl V17) (qhg d (jd d ls Bq 256) (jd d lk a 256) Hd.o (Yn _ _ _ _) (Yn _ _ _ _) V17) fun V18 HBx => ?_
      have KV18 := qq KV17 HBx
      have ZN : Hid (V18.heap[gg15]? = _) := qk ZN.o HBx
      clear HBx
      refine hK.o _ _ (sat13 KV18.o) fun hHeld => ?_
      try simp only [qd]
      refine zR 12 qa6 fun K hK => ?_
      refine zQ 98 (.tmp 13) (.tmp 62) (gg15) (qA (Jd d (jd d ls Bq 256) (jd d lk a 256))) ZN.o (jE _) (QN _ _) (QO _) ?_
      rw [qH]
      refine hK.o _ _ (satset13 KV18.o GG.o) fun hHeld => ?_
      try simp only [qd]
      refine zi (by kernel_rfl) ?_ _
      go_wp2_with fail
      go_meet
      case rel => exact ⟨gg15, rfl, qa (zd _ _ _ _ _ _ ZN.o), qa (ze KV18.o GG.o _)⟩
     exact zu
    refine zK qbc (fun K hK => ?_) ?_
    ·
     refine zA (kT rfl V1) ?_
     obtain ⟨gg20, hgg20⟩ := zy V1.heap.size
     have ZN : Hid ((V1.alloc (.cells (qA q0) 98)).heap[gg20]? = some (.cells (qA q0) 98)) := by rw [hgg20]; exact za _ _
     have KV20 : Hid (zB W8 (V1.alloc (.cells (qA q0) 98))) := KV1.o.alloc KV1.o.size _
     have GG : Hid (W8.heap.size ≤ gg20) := by rw [hgg20]; exact KV1.o.size
     rw [← hgg20]
     obtain ⟨V20, hV20⟩ := zy (V1.alloc (.cells (qA q0) 98))
     rw [← hV20] at ZN KV20 ⊢
     clear hV20 hgg20
     refine hK.o _ _ (sat13 KV20.o) fun hHeld => ?_
     try simp only [qd]
     refine zR 4 yai fun K hK => ?_
     refine zE (qgj _ rfl (.agg (fA d)) rfl V20) (qlo d Ed.o Bq EBq.o V20) fun V21 HBx => ?_
     have KV21 := qq KV20 HBx
     have ZN : Hid (V21.heap[gg20]? = _) := qk ZN.o HBx
     clear HBx
     refine hK.o _ _ (sat13 KV21.o) fun hHeld => ?_
     try simp only [qd]
     refine zR 5 yah fun K hK => ?_
     refine zE (qat _ _ _ rfl (.agg (fA d)) (.agg (sA ls)) (.agg (qA Bq)) rfl rfl rfl V21) (qdP d Hd.o ls Bq HBq.o V21) fun V22 HBx => ?_
     have KV22 := qq KV21 HBx
     have ZN : Hid (V22.heap[gg20]? = _) := qk ZN.o HBx
     clear HBx
     refine hK.o _ _ (sat13 KV22.o) fun hHeld => ?_
     try simp only [qd]
     refine zR 9 yag fun K hK => ?_
     refine zE (qat _ _ _ rfl (.agg (fA d)) (.agg (sA lk)) (.agg (qA a)) rfl rfl rfl V22) (qdP d Hd.o lk a Ha.o V22) fun V23 HBx => ?_
     have KV23 := qq KV22 HBx
     have ZN : Hid (V23.heap[gg20]? = _) := qk ZN.o HBx
     clear HBx
     refine hK.o _ _ (sat13 KV23.o) fun hHeld => ?_
     try simp only [qd]
     refine zR 10 yaf fun K hK => ?_
     refine zE (qa2 _ _ _ rfl (.agg (fA d)) (.agg (qA (jd d ls Bq 256))) (.agg (qA (jd d lk a 256))) rfl rfl rfl V23) (qhg d (jd d ls Bq 256) (jd d lk a 256) Hd.o (Yn _ _ _ _) (Yn _ _ _ _) V23) fun V24 HBx => ?_
     have KV24 := qq KV23 HBx
     have ZN : Hid (V24.heap[gg20]? = _) := qk ZN.o HBx
     clear HBx
     refine hK.o _ _ (sat13 KV24.o) fun hHeld => ?_
     try simp only [qd]
     refine zR 12 qa6 fun K hK => ?_
     refine zQ 98 (.tmp 13) (.tmp 62) (gg20) (qA (Jd d (jd d ls Bq 256) (jd d lk a 256))) ZN.o (jE _) (QN _ _) (QO _) ?_
     rw [qH]
     refine hK.o _ _ (satset13 KV24.o GG.o) fun hHeld => ?_
     try simp only [qd]
     refine zi (by kernel_rfl) ?_ _
     go_wp2_with fail
     go_meet
     case rel => exact ⟨gg20, rfl, qa (zd _ _ _ _ _ _ ZN.o), qa (ze KV24.o GG.o _)⟩
    exact zu
   case rest =>
    obtain ⟨g13, rfl, RN, X9⟩ := hcut
    have BL : Hid (zB w wc) := BL.o.trans (X9.o.mono BL.o.size)
    obtain ⟨r, Er⟩ := zx (Jd d (jd d ls Bq 256) (jd d lk a 256))
    have Hr : Hid r.Ok := by rw [Er.o]; exact qcN _ _ _
    have EQ : Hid (r = rvQ ky m g) := by show _ = _; rw [Er.o, Ea.o, Ex'.o, Ep.o, Elk.o, Ek.o, EBq.o, Els0.o, bT2.o, Ed.o]; rfl
    rw [← Er.o] at RN
    clear sat13 satset13 RD RS RK RA X9
    go_wp2_with (first | (refine zL 98 (.tmp 13) g13 (qA r) RN.o Tryz.underlying98 (jE _) ?_))
    refine (quu r Hr.o _).mono ?_
    rintro e W9 ⟨rfl, hB⟩
    have BL := qq BL hB
    clear hB RN
    obtain ⟨T, HT⟩ := zx (YP r)
    have HTE : Hid (T = YP (rvQ ky m g)) := by show _ = _; rw [HT.o, EQ.o]
    rw [← HT.o]
    by_cases hc : T = T1
    ·
     have hbq := qq5 hc
     have HC := qa hc
     clear hc
     go_wp2_with fail
     go_returns
     refine ⟨?_, BL.o⟩
     unfold y6
     rw [if_pos ⟨Hk.o, Hg.o⟩, ← Ed.o, ← Eb1.o, if_pos rfl, ← EsN.o, if_pos Hlt.o, ← HTE.o, ← ET1.o, if_pos HC.o]; rfl
    ·
     have hbq := qre hc
     have HC := qa hc
     clear hc
     go_wp2_with fail
     go_returns
     refine ⟨?_, BL.o⟩
     unfold y6
     rw [if_pos ⟨Hk.o, Hg.o⟩, ← Ed.o, ← Eb1.o, if_pos rfl, ← EsN.o, if_pos Hlt.o, ← HTE.o, ← ET1.o, if_neg HC.o]; rfl
end
theorem quO (l b : List UInt8) (S : S8) (h1 : Qk l = b) (hb : b.length = 128) (hS : jV.add (QH (je b 64) jV 80) = S) (hl : l.length < 2305843009213693952) : jD l = S.words.flatMap jL := by
 have hc : chunk b 0 = b := by unfold chunk; rw [Nat.mul_zero, List.drop_zero, zP (by omega)]
 rw [← qdt l 1 (by rw [h1, hb]) hl, qbn, h1, hc]
 show (jV.add (QH (je b 64) jV 80)).words.flatMap jL = _
 rw [hS]
theorem quj (l b c : List UInt8) (S R : S8) (h1 : Qk l = b ++ c) (hb : b.length = 128) (hcl : c.length = 128) (hS : jV.add (QH (je b 64) jV 80) = S) (hR : S.add (QH (je c 64) S 80) = R) (hl : l.length < 2305843009213693952) : jD l = R.words.flatMap jL := by
 have c0 : chunk (b ++ c) 0 = b := by unfold chunk; rw [Nat.mul_zero, List.drop_zero, ← hb, List.take_left]
 have c1 : chunk (b ++ c) 1 = c := by unfold chunk; rw [Nat.mul_one, ← hb, List.drop_left, zP (by omega)]
 rw [← qdt l 2 (by rw [h1, Ze, hb, hcl]) hl, qbn, qbn, h1, c0, c1]
 show ((jV.add (QH (je b 64) jV 80)).add (QH (je c 64) (jV.add (QH (je b 64) jV 80)) 80)).words.flatMap jL = _
 rw [hS, hR]
theorem qsL {p : Pt} {a b : G} (h : RP p a) (k : RP p b) : a = b := by
 apply qnA
 have e1 := qgO h
 have e2 := qgO k
 exact e1.symm.trans e2
theorem qo7 : Yh = jk (qI ZJ 32) := by
 unfold Yh
 have e : Qp (mP 4 (jm 5)) false = ZJ := by rw [qcl]; decide +kernel
 rw [e]
theorem qrP : yP Yh = true := by rw [qo7]; decide +kernel
theorem quE : kH Yh = qX := by
 rw [qlr qrP, ← qlf]
 have e : ym Yh = ZJ := by rw [qo7]; decide +kernel
 rw [e]
theorem quo : RQ (Qv ZC Yh) bG := by
 rw [qdx]
 obtain ⟨a, h1, h2⟩ := qmn (s := Yh) (by rw [← qb6]; exact qrP)
 rw [quE] at h1
 rw [qsL qrZ h1]; exact h2
open Go.RowKit
theorem qde : Tryz.prog.underlying 116 = some (.slice 62) := by kernel_rfl
theorem qfK (m : Nat) (w : World) : (Instr.buildSlice 116 1 #[(0, .agg (bA m))]).run Tryz.prog w = .ok (.slice (some ⟨w.heap.size, 0, none⟩) 1 1) (w.alloc (.cells (bA m) 62)) := by kernel_rfl
theorem qh2 : (Tryz.prog.info? 62).map (fun i => (i.zero, i.size, i.bytes)) = some (some (.agg (bA 0)), 32, 32) := by kernel_rfl
theorem qcF {P : Program} (w : World) {ops : Array Oper} {rest : List Oper} {o : Oper} {a : Act} {Q : Exit → Act → World → Prop} (hgd : o.guard = none) (t : TypeId) (n : Nat) (x : Operand)
  (ho : o.op = .buildSlice t n #[(0, x)]) (u : Value) (hx : a.eval x = u) {v' : Value} {w' : World}
  (hr : (Instr.buildSlice t n #[(0, u)]).run P w = .ok v' w') (h : wpList P ops Q rest (a.put o.dst v') w') : wpList P ops Q (o :: rest) a w := by
 refine wpList_plain hgd fun K hK => ?_
 unfold Oper.wp execOp
 simp only [ho, Sem.run_bind, Sem.run_pure, Result.andThen_ok, List.map_toArray, List.map_cons, List.map_nil, hx, hr]
 exact hK _ _ h
def yF (w : World) (q : Nat) (keys : List ByteArray) : Prop := ∀ i (h : i < keys.length), w.cell? ⟨q, i, none⟩ = some (.string keys[i])
theorem yF.below {w w' : World} {B q : Nat} {keys : List ByteArray} (h : yF w q keys) (hb : Below B w w') (hq : q < B) : yF w' q keys := fun i hi => (hb.cell (by exact hq)).trans (h i hi)
theorem qkx : Tryz.prog.underlying 38 = some (.slice 9) := by kernel_rfl
theorem qh7 : (Tryz.prog.info? 9).map (·.size) = some 1 := by kernel_rfl
theorem qgT (q n i cap : Nat) (hi : i < n) (w : World) : (Instr.indexAt 38 (.slice (some ⟨q, 0, none⟩) n cap) (.int .i64 i)).run Tryz.prog w = .ok (.pointer (some ⟨q, i, none⟩)) w := by
 cases hq : Tryz.prog.info? 9 with
 | none => have := qh7; rw [hq] at this; cases this
 | some inf =>
  have hs : inf.size = 1 := by have := qh7; rw [hq] at this; simpa using this
  simp [Instr.indexAt, asIntOf, run_underlying qkx, sizeOf, typeInfo, hq, hs, Addr.add_mid]
  intro h; omega
def jK (keys : List ByteArray) : List Nat := keys.map fun k => qC (bytesOf k)
def cellsOf (ks : List Nat) : List Value := ks.flatMap bL
theorem qfN (n : Nat) : (bL n).length = 32 := by unfold bL; rw [zv, jM]
theorem qcK (ks : List Nat) (m : Nat) : cellsOf (ks ++ [m]) = cellsOf ks ++ bL m := by unfold cellsOf; simp
theorem qek : ∀ (ks : List Nat) (i : Nat) (h : i < ks.length) (j : Nat) (v : Value), (bL ks[i])[j]? = some v → (cellsOf ks)[32 * i + j]? = some v
 | a :: l, 0, _, j, v, hv => by
  have hj : j < (bL a).length := (List.getElem?_eq_some_iff.1 hv).1
  show (bL a ++ cellsOf l)[32 * 0 + j]? = _
  rw [Nat.mul_zero, Zb, z5 hj]
  exact hv
 | a :: l, i + 1, h, j, v, hv => by
  show (bL a ++ cellsOf l)[32 * (i + 1) + j]? = _
  rw [zY (by rw [qfN]; omega), qfN, show 32 * (i + 1) + j - 32 = 32 * i + j by omega]
  exact qek l i (by simpa using h) j v (by simpa using hv)
theorem qme {w : World} {B : Nat} {kv : Value} {ks : List Nat} (h : w.ownsRow B 62 32 kv ks.length (cellsOf ks)) : YO w kv ks ∧ ∀ q, kv.ownBlock = some q → B ≤ q := by
 obtain ⟨_, ⟨rfl, h0⟩ | ⟨g, cap, cur, rfl, h1, h2, h3, h4, h5, h6⟩⟩ := h
 · exact ⟨.inl ⟨rfl, List.eq_nil_of_length_eq_zero h0⟩, fun q hq => by cases hq⟩
 ·
  refine ⟨.inr ⟨g, cap, rfl, h3, h4, qh h2, ?_⟩, fun q hq => ?_⟩
  ·
   intro i hi j v hv
   have hj : j < 32 := by have := (List.getElem?_eq_some_iff.1 hv).1; rw [qfN] at this; exact this
   have e := qek ks i hi j v hv
   rw [← h6, Zq, if_pos (by omega)] at e
   rw [zj w g _ cur _ _ h2]
   simpa using e
  · simp [Value.ownBlock] at hq; omega
theorem qfQ (keys : List ByteArray) (i : Nat) (h : i < keys.length) : jK (keys.take (i + 1)) = jK (keys.take i) ++ [qC (bytesOf keys[i])] := by
 unfold jK
 rw [List.take_succ_eq_append_getElem h, List.map_append]
 rfl
theorem qim (n : Nat) : ∀ u ∈ bL n, u.oneCell' = true := by unfold bL; exact qaB _
section
attribute [local irreducible] bA bL
theorem qgE (keys : List ByteArray) (h4 : keys.length ≤ 4) (h32 : ∀ k ∈ keys, k.size = 32) (q cap : Nat) (w : World) (hS : yF w q keys) (hq : q < w.heap.size) :
  Calls Tryz.prog 88 #[.slice (some ⟨q, 0, none⟩) keys.length cap] w fun e w' => ∃ kv, e = .returned (.tuple #[kv, .bool true]) ∧ zB w w' ∧ YO w' kv (jK keys) ∧ ∀ x, kv.ownBlock = some x → w.heap.size ≤ x ∧ x < w'.heap.size := by
 have HS := qa hS
 have H32 := qa h32
 obtain ⟨i0, HI0, HZ⟩ : ∃ i, Hid (Tryz.prog.info? 62 = some i) ∧ Hid (i.zero = some (.agg (bA 0)) ∧ i.size = 32 ∧ i.bytes = 32) := by
  have e := qh2
  cases hi : Tryz.prog.info? 62 with
  | none => rw [hi] at e; cases e
  | some i => rw [hi] at e; simp at e; exact ⟨i, rfl, e.1, e.2.1, e.2.2⟩
 have b4 : (keys.length : Int) ≤ 4 := by omega
 clear hS h32
 have ha1 := qg8
 go_enter Tryz.func88, Tryz.ntmps88
 go_wp2_with fail
 go_loopw [4, 12] (fun u v wr => ∃ i : Nat, i ≤ keys.length ∧ v = .int .i64 i ∧ Hid (wr.ownsRow w.heap.size 62 32 u i (cellsOf (jK (keys.take i)))) ∧ Hid (zB w wr)) (fun _ v _ => keys.length - (intOf v).toNat)
 case atStart => exact ⟨0, by omega, rfl, qa (World.ownsRow_nil _ _ _ _), qa (zJ _ _)⟩
 case round =>
  obtain ⟨i, hi, rfl, HR, HB⟩ := hrel
  by_cases hlt : i < keys.length
  ·
   have bi : (i : Int) < (keys.length : Int) := by omega
   have hix := qgT q keys.length i cap hlt
   obtain ⟨K, EK⟩ := zx (keys[i])
   have K32 : Hid (K.size = 32) := by rw [EK.o]; exact H32.o _ (List.getElem_mem hlt)
   have hK : (K.size : Int) = 32 := by rw [K32.o]; rfl
   have c1 : wr.cell? ⟨q, i, none⟩ = some (.string K) := by rw [EK.o]; exact (HB.o.cell hq).trans (HS.o i hlt)
   obtain ⟨m, Em⟩ := zx (qC (bytesOf K))
   obtain ⟨cp, W1, hcv, hR, hB, hSz⟩ := JT 9 89 5 JA Jt Jv K wr
   rw [K32.o] at hcv
   have lk : (bytesOf K).length = 32 := by rw [jY, K32.o]
   obtain ⟨z, hz⟩ := zy wr.heap.size
   rw [← hz] at hcv hR
   clear hz
   obtain ⟨M1, EM1⟩ := zx ((bytesOf K).map cv)
   rw [← EM1.o] at hR
   have R1 := qa hR
   have HM1 : Hid ((Tryz.prog.info? 62).map (·.size) = some M1.length) := by show _ = _; rw [kU, EM1.o, zv, lk]
   have EB1 : M1.toArray = bA m := by rw [EM1.o, Em.o]; exact qeR _ lk
   have HR1 : Hid (W1.ownsRow w.heap.size 62 32 u4 i (cellsOf (jK (keys.take i)))) := by
    obtain ⟨e1, ⟨rfl, e2⟩ | ⟨g, cap, cur, rfl, e2, e3, e4⟩⟩ := HR.o
    · exact ⟨e1, .inl ⟨rfl, e2⟩⟩
    · exact ⟨e1, .inr ⟨g, cap, cur, rfl, e2, (hB.block g (qh e3)).trans e3, e4⟩⟩
   have B1 := qq HB hB
   have hbs := qfK m W1
   have HR2 : Hid ((W1.alloc (.cells (bA m) 62)).ownsRow w.heap.size 62 32 u4 i (cellsOf (jK (keys.take i)))) := by
    obtain ⟨e1, ⟨rfl, e2⟩ | ⟨g, cap, cur, rfl, e2, e3, e4⟩⟩ := HR1.o
    · exact ⟨e1, .inl ⟨rfl, e2⟩⟩
    · exact ⟨e1, .inr ⟨g, cap, cur, rfl, e2, (zb _ _ (qh e3)).trans e3, e4⟩⟩
   have hsz := B1.o.size
   clear hR hB hSz HR
   go_wp2_with (first
    | (refine zG (by rfl) 62 (.tmp 22) (by rfl) z 0 (by rfl) M1 _ R1.o ZH rfl HM1.o ?_; rw [EB1])
    | (refine qcF _ (by rfl) 116 1 (.tmp 23) (by rfl) (.agg (bA m)) (by rfl) hbs ?_)
    | (at_builtin; refine wpList_append_own _ (by rfl) (.tmp 19) (.tmp 24) 116 (by rfl) w.heap.size 62 i0 (.agg (bA 0)) 32 32 qde HI0.o HZ.o.1 HZ.o.2.1 HZ.o.2.2 (by exact qgf 0) (by decide) u4 i _ (by rfl) HR2.o ⟨W1.heap.size, 0, none⟩ 1 1 (bL m) (by rfl) (by rw [qfN]) (fun j v hv => by rw [Addr.add_mid, Zb, zj _ _ j _ _ _ (za _ _), ← qt9, zV]; exact hv) (qim m) (by unfold maxLen; omega) (by omega) (by simp; omega) ?_; intro v1 W2 hO2 hG2 _))
   refine ⟨⟨i + 1, by omega, by go_num, ?_, ?_⟩, by simp [intOf]; omega⟩
   ·
    rw [qfQ keys i hlt, qcK, ← EK.o, ← Em.o]
    exact hO2
   · exact (B1.o.alloc hsz _).grown hG2 (by simp; omega) (fun k hk => (HR2.o.lt k hk).1)
  ·
   obtain rfl : i = keys.length := by omega
   rw [List.take_length] at HR
   have ln : (jK keys).length = keys.length := by unfold jK; rw [zv]
   have hR := HR.o
   rw [← ln] at hR
   have fin := qme hR
   have flt := hR.lt
   clear hR HR
   have FK := qa fin
   have FL := qa flt
   clear fin flt
   go_wp2_with fail
   go_returns
   exact ⟨_, rfl, HB.o, FK.o.1, fun x hx => ⟨FK.o.2 x hx, (FL.o x hx).2⟩⟩
end
end Go.Proofs.YtccgfabojbjmjaaGreatDoor
