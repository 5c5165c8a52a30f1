import Derived.Test.YtccgfabojbjmjaaGreatDoorLo18
set_option maxRecDepth 100000
set_option maxHeartbeats 8000000
namespace Go.Proofs.YtccgfabojbjmjaaGreatDoor
open Go.RowKit
open Go.RowKit
abbrev yaI : Oper := ⟨some 71, .call ⟨.value (.func 65), #[.const (.int .i64 1)], #[3]⟩, 95, "point.go:61", #[], none⟩
abbrev yaJ : Oper := ⟨some 46, .call ⟨.value (.func 111), #[.tmp 45], #[95]⟩, 203, "point.go:54", #[ql 3, qT 3], none⟩
abbrev yaK : Oper := ⟨some 35, .call ⟨.value (.func 64), #[.tmp 33, .tmp 34], #[95, 95]⟩, 95, "point.go:52", #[ql 0, ql 1, qT 1], none⟩
abbrev yaL : Oper := ⟨some 45, .call ⟨.value (.func 63), #[.tmp 42, .tmp 44], #[95, 95]⟩, 95, "point.go:54", #[ql 0, ql 2, qT 2], none⟩
abbrev yaM : Oper := ⟨some 44, .call ⟨.value (.func 66), #[.tmp 43], #[95]⟩, 95, "point.go:54", #[ql 1], none⟩
abbrev yaN : Oper := ⟨some 34, .call ⟨.value (.func 65), #[.const (.int .i64 1)], #[3]⟩, 95, "point.go:52", #[], none⟩
abbrev qeM : Oper := ⟨some 10, .alloc 95, 0, "point.go:52", #[], none⟩
abbrev qe0 : Oper := ⟨none, .store 95 (.tmp 10) (.tmp 35), 0, "point.go:52", #[ql 3, ql 2, qT 2, qj 0, qj 1, qj 2, qj 3], none⟩
abbrev qb2 : Oper := ⟨some 41, .move (.tmp 46), 203, "point.go:54", #[ql 4], none⟩
abbrev qcf : Oper := ⟨some 47, .extract (.tmp 41) 0, 95, "point.go:54", #[ql 5], none⟩
abbrev qb3 : Oper := ⟨some 48, .extract (.tmp 41) 1, 4, "point.go:54", #[ql 5, ⟨9, .gcOnly .lateStores⟩], none⟩
abbrev qcc : Oper := ⟨some 12, .alloc 95, 0, "point.go:54", #[], none⟩
abbrev qbV : Oper := ⟨none, .store 95 (.tmp 12) (.tmp 47), 0, "point.go:54", #[ql 8, ql 6, qT 4, qj 0, qj 1, qj 2, qj 3, qj 4, qj 5, qj 6, ⟨7, .textOnly .lateStores⟩, qj 8], none⟩
abbrev qbS : Oper := ⟨some 13, .assign (.tmp 48), 4, "point.go:54", #[ql 7, qT 9, qj 0, qj 1, qj 2, qj 3, qj 4, qj 5, qj 6, qj 7, qj 8, qj 9], none⟩
abbrev qbd : Oper := ⟨some 69, .load 95 (.tmp 12), 95, "point.go:61", #[], none⟩
abbrev qa4 : Oper := ⟨some 70, .load 95 (.tmp 7), 95, "point.go:61", #[], none⟩
abbrev qba : Oper := ⟨some 72, .build 98 #[(0, .tmp 69), (1, .tmp 70), (2, .tmp 71)], 98, "point.go:61", #[ql 0, ql 1, ql 2], none⟩
abbrev qa7 : Oper := ⟨none, .store 98 (.tmp 4) (.tmp 72), 0, "point.go:61", #[ql 3, qT 2, qj 0, qj 1, qj 2, qj 3], none⟩
abbrev qa8 : Oper := ⟨some 5, .assign (.const (.bool true)), 4, "point.go:61", #[qT 4, qj 0, qj 1, qj 2, qj 3, qj 4], none⟩
def yn (s : ByteArray) : Bool := decide (128 ≤ ((bytesOf s).getD 31 0).toNat)
def ZB (d y : Nat) : Nat := mP (sP (mP y y) 1) (jm (aP (mP d (mP y y)) 1))
theorem qq9 (d y : Nat) : ZB d y < P := qK _ _
def YT (d y : Nat) : Nat := Zz (ZB d y)
def JV (d y : Nat) (odd : Bool) : Nat := if decide (YT d y % 2 = 1) != odd then sP 0 (YT d y) else YT d y
def j6 (d : Nat) (s : ByteArray) : Bool := decide (s.size = 32) && (decide (Qz s = Qz s % P) && (Zy (ZB d (Qz s % P)) && !(decide (YT d (Qz s % P) = 0) && yn s)))
def Qv (d : Nat) (s : ByteArray) : Q3 := if j6 d s = true then ⟨JV d (Qz s % P) (yn s), Qz s % P, 1⟩ else q0
theorem qrh : 1 < P := by decide
theorem fc0 (r : Nat) : (fd r).getD 0 0 = ((r % 67108864 : Nat) : Int) := by rw [qhA r 0 (by decide), Nat.pow_zero, Nat.div_one]
section
attribute [local irreducible] fA fL qA fc
theorem qhO (d : Nat) (s : ByteArray) (hd : d < P) (w : World) :
  zC 68 #[.agg (fA d), .string s] w (.tuple #[.agg (qA (Qv d s)), .bool (j6 d s)]) := by
 have hz := JP
 have hzq := qjZ
 have Hd := qa hd
 clear hd
 go_enter Tryz.func68, Tryz.ntmps68
 go_upto_region 1 with fail
 obtain ⟨W0, hW0⟩ := zy ((w.alloc (.cells (fA d) 95)).alloc (.cells (qA q0) 98))
 have R0 : Hid (qi W0 w.heap.size (fA d) 95) := by rw [hW0]; exact yY _ _ _
 have RZ : Hid (qi W0 (w.heap.size + 1) (qA q0) 98) := by rw [hW0]; exact y4 _ _ _
 have BL : Hid (zB w W0) := by rw [hW0]; show Below _ _ _; go_grown
 rw [← hW0]
 clear hW0
 by_cases h32 : s.size = 32
 case neg =>
  have hbne : ((s.size : Int) != 32) = true := by rw [bne_iff_ne]; omega
  have HB : Hid (j6 d s = false) := by show _ = _; unfold j6; rw [zD h32]; rfl
  clear h32
  go_wp2_with (first | (refine qB 98 (.tmp 4) (.tmp 17) (w.heap.size + 1) (qA q0) RZ.o (jE _) (QN _ _) (QO _) ?_))
  refine zh (v := .tuple #[.agg (qA q0), .bool false]) (jJ Tryz.results68 _ _ (w.heap.size + 1) 98 (qA q0) (0, 0) _ (by rfl) (zd _ _ _ _ _ _ RZ.o) Tryz.underlying98 rfl (jE _)) rfl ⟨?_, ze BL.o (by omega) _⟩
  unfold Qv
  rw [HB.o, if_neg (by decide)]
 case pos =>
 have hbne : ((s.size : Int) != 32) = false := by rw [h32]; rfl
 have H32 := qa h32
 have hidx : ∀ w, (Instr.index 9 (.string s) (.int .i64 31)).run Tryz.prog w = .ok (.int .u8 (C8 ((bytesOf s).getD 31 0))) w := Jw s 31 (by omega)
 obtain ⟨c, HC⟩ := zx ((bytesOf s).getD 31 0)
 rw [← HC.o] at hidx
 have hcl := c.toNat_lt
 obtain ⟨ov, HO⟩ := zx (α := Int) (if yn s = true then 1 else 0)
 have ho1 : IntKind.i64.wrap (C8 c) = C8 c := by unfold C8; rw [zq]; omega
 have ho3 : C8 c / 128 = ov := by
  rw [HO.o]; unfold yn C8; rw [← HC.o]
  by_cases h : 128 ≤ c.toNat
  · rw [zN h, if_pos rfl]; omega
  · rw [zD h, if_neg (by simp)]; omega
 have ho4 : 0 ≤ C8 c := J5 c
 have ho5 : wrap64 ((C8 c).tdiv 128) = ov := by
  rw [Int.tdiv_eq_ediv_of_nonneg ho4, ho3, HO.o]
  cases yn s <;> kernel_rfl
 clear h32 hcl
 go_upto_region 4 with fail
 rw [ho5]
 clear hidx ho1 ho3 ho4 ho5 hbne
 go_wp2_with fail
 refine (qoC s H32.o _).mono ?_
 rintro e W1 ⟨rfl, hB1⟩
 have R0 := qa (qk R0.o hB1)
 have RZ := qa (qk RZ.o hB1)
 have BL := qq BL hB1
 clear hB1
 obtain ⟨y, Ey⟩ := zx (Qz s % P)
 have Hy : Hid (y < P) := by rw [Ey.o]; exact Nat.mod_lt _ j3
 rw [← Ey.o]
 obtain ⟨yb, Eyb⟩ := zx (decide (Qz s = y))
 rw [← Eyb.o]
 go_upto_region 5 with (first | (refine qB 95 (.tmp 7) (.tmp 25) W1.heap.size (fA y) (za _ _) (qO _) (jo _ _) (jn _) ?_))
 obtain ⟨gy, hgy⟩ := zy W1.heap.size
 obtain ⟨W2, hW2⟩ := zy ((W1.alloc (.cells (fA 0) 95)).setRow W1.heap.size (fA y))
 have lR0gy : w.heap.size < gy := by rw [hgy]; exact qh R0.o
 have lRZgy : w.heap.size + 1 < gy := by rw [hgy]; exact qh RZ.o
 have R0' : Hid (qi W2 w.heap.size (fA d) 95) := by rw [hW2]; exact (zc _ _ _ _ (by omega)).trans ((zb _ _ (by omega)).trans R0.o)
 have RZ' : Hid (qi W2 (w.heap.size + 1) (qA q0) 98) := by rw [hW2]; exact (zc _ _ _ _ (by omega)).trans ((zb _ _ (by omega)).trans RZ.o)
 have RY : Hid (qi W2 gy (fA y) 95) := by rw [hW2, hgy]; exact zd _ _ _ _ _ _ (za _ _)
 have BL' : Hid (zB w W2) := by rw [hW2]; exact ze (BL.o.alloc BL.o.size _) BL.o.size _
 rw [← hW2, ← hgy]
 clear hW2 hgy BL R0 RZ
 have R0 := R0'
 have RZ := RZ'
 have BL := BL'
 clear R0' RZ' BL'
 cases yb
 case false =>
  have HB : Hid (j6 d s = false) := by show _ = _; unfold j6; rw [← Ey.o, ← Eyb.o]; simp
  go_wp2_with (first | (refine qB 98 (.tmp 4) (.tmp 29) (w.heap.size + 1) (qA q0) RZ.o (jE _) (QN _ _) (QO _) ?_))
  refine zh (v := .tuple #[.agg (qA q0), .bool false]) (jJ Tryz.results68 _ _ (w.heap.size + 1) 98 (qA q0) (0, 0) _ (by rfl) (zd _ _ _ _ _ _ RZ.o) Tryz.underlying98 rfl (jE _)) rfl ⟨?_, ze BL.o (by omega) _⟩
  unfold Qv
  rw [HB.o, if_neg (by decide)]
 case true =>
 go_wp2_with (first | (refine zL 95 (.tmp 7) (gy) (fA y) RY.o q7 (qO _) ?_))
 refine (Qb y y Hy.o Hy.o _).mono ?_
 rintro e W3 ⟨rfl, hB3⟩
 have R0 := qa (qk R0.o hB3)
 have RZ := qa (qk RZ.o hB3)
 have RY := qa (qk RY.o hB3)
 have BL := qq BL hB3
 clear hB3
 obtain ⟨yy, Eyy⟩ := zx (mP y y)
 have Hyy : Hid (yy < P) := by rw [Eyy.o]; exact qK _ _
 rw [← Eyy.o]
 go_wp2_with (first | (refine qB 95 (.tmp 9) (.tmp 32) W3.heap.size (fA yy) (za _ _) (qO _) (jo _ _) (jn _) ?_))
 obtain ⟨gyy, hgyy⟩ := zy W3.heap.size
 obtain ⟨W4, hW4⟩ := zy ((W3.alloc (.cells (fA 0) 95)).setRow W3.heap.size (fA yy))
 have lR0gyy : w.heap.size < gyy := by rw [hgyy]; exact qh R0.o
 have lRZgyy : w.heap.size + 1 < gyy := by rw [hgyy]; exact qh RZ.o
 have lRYgyy : gy < gyy := by rw [hgyy]; exact qh RY.o
 have R0' : Hid (qi W4 w.heap.size (fA d) 95) := by rw [hW4]; exact (zc _ _ _ _ (by omega)).trans ((zb _ _ (by omega)).trans R0.o)
 have RZ' : Hid (qi W4 (w.heap.size + 1) (qA q0) 98) := by rw [hW4]; exact (zc _ _ _ _ (by omega)).trans ((zb _ _ (by omega)).trans RZ.o)
 have RY' : Hid (qi W4 gy (fA y) 95) := by rw [hW4]; exact (zc _ _ _ _ (by omega)).trans ((zb _ _ (by omega)).trans RY.o)
 have RYY : Hid (qi W4 gyy (fA yy) 95) := by rw [hW4, hgyy]; exact zd _ _ _ _ _ _ (za _ _)
 have BL' : Hid (zB w W4) := by rw [hW4]; exact ze (BL.o.alloc BL.o.size _) BL.o.size _
 rw [qH, ← hW4, ← hgyy]
 clear hW4 hgyy BL R0 RZ RY
 have R0 := R0'
 have RZ := RZ'
 have RY := RY'
 have BL := BL'
 clear R0' RZ' RY' BL'
 go_cut [10] from 33 to 35 (fun s wx => ∃ g, s = zp g 0 ∧ Hid (W4.heap.size ≤ g) ∧ Hid (qi wx g ((fA (sP yy 1))) 95) ∧ Hid (zB W4 wx))
 case first =>
  refine zM (S := fun w' => w'.rangeAt (gyy) 0 (fL yy)) (by kernel_rfl) (by exact QU RYY.o) (fun hHeld => ?_)
  obtain ⟨V1, hV1⟩ := zy W4.drew
  rw [← hV1] at hHeld ⊢
  have KV1 : Hid (zB W4 V1) := by rw [hV1]; exact (zJ _ _).drew
  clear hV1
  refine zT 0 ⟨some 33, .load 95 (.tmp 9), 95, "point.go:52", #[], none⟩ (.agg (fA yy)) (jX (by rfl) _ rfl (gyy) 0 yy rfl (fun w h => h)) ?_
  simp only [qd]
  refine zW [1, 3] ?_
  refine zK yaN (fun K hK => ?_) ?_
  ·
   refine zE (qaG _ rfl (.int .i64 1) rfl V1) (kd V1) fun V2 HBx => ?_
   have KV2 := qq KV1 HBx
   clear HBx
   refine hK.o _ _ (qE RYY KV2) fun hHeld => ?_
   try simp only [qd]
   refine zW [2, 3] ?_
   refine zK yaK (fun K hK => ?_) ?_
   ·
    refine zE (qhr _ _ rfl (.agg (fA yy)) (.agg (fA 1)) rfl rfl V2) (ku yy 1 Hyy.o qrh V2) fun V3 HBx => ?_
    have KV3 := qq KV2 HBx
    clear HBx
    refine hK.o _ _ (qE RYY KV3) fun hHeld => ?_
    try simp only [qd]
    refine zW [3] ?_
    refine zK qeM (fun K hK => ?_) ?_
    ·
     refine zA (yi rfl V3) ?_
     obtain ⟨g4, hg4⟩ := zy V3.heap.size
     have ZN : Hid ((V3.alloc (.cells (fA 0) 95)).heap[g4]? = some (.cells (fA 0) 95)) := by rw [hg4]; exact za _ _
     have KV4 := qZ KV3 (.cells (fA 0) 95)
     have GG : Hid (W4.heap.size ≤ g4) := by rw [hg4]; exact KV3.o.size
     rw [← hg4]
     obtain ⟨V4, hV4⟩ := zy (V3.alloc (.cells (fA 0) 95))
     rw [← hV4] at ZN KV4 ⊢
     clear hV4 hg4
     refine hK.o _ _ (qE RYY KV4) fun hHeld => ?_
     try simp only [qd]
     refine zW [4] ?_
     refine zK qe0 (fun K hK => ?_) ?_
     ·
      refine zQ 95 (.tmp 10) (.tmp 35) (g4) (fA (sP yy 1)) ZN.o (qO _) (jo _ _) (jn _) ?_
      rw [qH]
      refine hK.o _ _ (qF (qE RYY KV4) (zn (zl (qh RYY.o) GG.o))) fun hHeld => ?_
      try simp only [qd]
      refine zi (by kernel_rfl) ?_ _
      go_wp2_with fail
      go_meet
      case rel => exact ⟨g4, rfl, GG, qa (zd _ _ _ _ _ _ ZN.o), qa (ze KV4.o GG.o _)⟩
     exact zu
    exact zu
   refine zK qeM (fun K hK => ?_) ?_
   ·
    refine zA (yi rfl V2) ?_
    obtain ⟨g5, hg5⟩ := zy V2.heap.size
    have ZN : Hid ((V2.alloc (.cells (fA 0) 95)).heap[g5]? = some (.cells (fA 0) 95)) := by rw [hg5]; exact za _ _
    have KV5 := qZ KV2 (.cells (fA 0) 95)
    have GG : Hid (W4.heap.size ≤ g5) := by rw [hg5]; exact KV2.o.size
    rw [← hg5]
    obtain ⟨V5, hV5⟩ := zy (V2.alloc (.cells (fA 0) 95))
    rw [← hV5] at ZN KV5 ⊢
    clear hV5 hg5
    refine hK.o _ _ (qE RYY KV5) fun hHeld => ?_
    try simp only [qd]
    refine zW [2] ?_
    refine zK yaK (fun K hK => ?_) ?_
    ·
     refine zE (qhr _ _ rfl (.agg (fA yy)) (.agg (fA 1)) rfl rfl V5) (ku yy 1 Hyy.o qrh V5) fun V6 HBx => ?_
     have KV6 := qq KV5 HBx
     have ZN := qa (qk ZN.o HBx)
     clear HBx
     refine hK.o _ _ (qE RYY KV6) fun hHeld => ?_
     try simp only [qd]
     refine zW [4] ?_
     refine zK qe0 (fun K hK => ?_) ?_
     ·
      refine zQ 95 (.tmp 10) (.tmp 35) (g5) (fA (sP yy 1)) ZN.o (qO _) (jo _ _) (jn _) ?_
      rw [qH]
      refine hK.o _ _ (qF (qE RYY KV6) (zn (zl (qh RYY.o) GG.o))) fun hHeld => ?_
      try simp only [qd]
      refine zi (by kernel_rfl) ?_ _
      go_wp2_with fail
      go_meet
      case rel => exact ⟨g5, rfl, GG, qa (zd _ _ _ _ _ _ ZN.o), qa (ze KV6.o GG.o _)⟩
     exact zu
    exact zu
   exact zu
  refine zK qeM (fun K hK => ?_) ?_
  ·
   refine zA (yi rfl V1) ?_
   obtain ⟨g7, hg7⟩ := zy V1.heap.size
   have ZN : Hid ((V1.alloc (.cells (fA 0) 95)).heap[g7]? = some (.cells (fA 0) 95)) := by rw [hg7]; exact za _ _
   have KV7 := qZ KV1 (.cells (fA 0) 95)
   have GG : Hid (W4.heap.size ≤ g7) := by rw [hg7]; exact KV1.o.size
   rw [← hg7]
   obtain ⟨V7, hV7⟩ := zy (V1.alloc (.cells (fA 0) 95))
   rw [← hV7] at ZN KV7 ⊢
   clear hV7 hg7
   refine hK.o _ _ (qE RYY KV7) fun hHeld => ?_
   try simp only [qd]
   refine zW [1] ?_
   refine zK yaN (fun K hK => ?_) ?_
   ·
    refine zE (qaG _ rfl (.int .i64 1) rfl V7) (kd V7) fun V8 HBx => ?_
    have KV8 := qq KV7 HBx
    have ZN := qa (qk ZN.o HBx)
    clear HBx
    refine hK.o _ _ (qE RYY KV8) fun hHeld => ?_
    try simp only [qd]
    refine zW [2] ?_
    refine zK yaK (fun K hK => ?_) ?_
    ·
     refine zE (qhr _ _ rfl (.agg (fA yy)) (.agg (fA 1)) rfl rfl V8) (ku yy 1 Hyy.o qrh V8) fun V9 HBx => ?_
     have KV9 := qq KV8 HBx
     have ZN := qa (qk ZN.o HBx)
     clear HBx
     refine hK.o _ _ (qE RYY KV9) fun hHeld => ?_
     try simp only [qd]
     refine zW [4] ?_
     refine zK qe0 (fun K hK => ?_) ?_
     ·
      refine zQ 95 (.tmp 10) (.tmp 35) (g7) (fA (sP yy 1)) ZN.o (qO _) (jo _ _) (jn _) ?_
      rw [qH]
      refine hK.o _ _ (qF (qE RYY KV9) (zn (zl (qh RYY.o) GG.o))) fun hHeld => ?_
      try simp only [qd]
      refine zi (by kernel_rfl) ?_ _
      go_wp2_with fail
      go_meet
      case rel => exact ⟨g7, rfl, GG, qa (zd _ _ _ _ _ _ ZN.o), qa (ze KV9.o GG.o _)⟩
     exact zu
    exact zu
   exact zu
  exact zu
 case rest =>
 obtain ⟨gu, rfl, Ggu, RU, Xgu⟩ := hcut
 obtain ⟨W5, hW⟩ := zy wc
 subst hW
 have lR0gu : w.heap.size < gu := zl (qh R0.o) Ggu.o
 have lRZgu : w.heap.size + 1 < gu := zl (qh RZ.o) Ggu.o
 have lRYgu : gy < gu := zl (qh RY.o) Ggu.o
 have lRYYgu : gyy < gu := zl (qh RYY.o) Ggu.o
 have R0 := qa (qs R0.o Xgu.o (qh R0.o))
 have RZ := qa (qs RZ.o Xgu.o (qh RZ.o))
 have RY := qa (qs RY.o Xgu.o (qh RY.o))
 have RYY := qa (qs RYY.o Xgu.o (qh RYY.o))
 have BL : Hid (zB w W5) := BL.o.trans (Xgu.o.mono BL.o.size)
 clear Xgu Ggu
 obtain ⟨u, Eu⟩ := zx (sP yy 1)
 have Hu : Hid (u < P) := by rw [Eu.o]; exact jR _ _
 rw [← Eu.o] at RU
 go_wp2_with (first | (refine zL 95 (.tmp 2) (w.heap.size) (fA d) R0.o q7 (qO _) ?_) | (refine zL 95 (.tmp 9) (gyy) (fA yy) RYY.o q7 (qO _) ?_))
 refine (Qb d yy Hd.o Hyy.o _).mono ?_
 rintro e W6 ⟨rfl, hB6⟩
 have R0 := qa (qk R0.o hB6)
 have RZ := qa (qk RZ.o hB6)
 have RY := qa (qk RY.o hB6)
 have RYY := qa (qk RYY.o hB6)
 have RU := qa (qk RU.o hB6)
 have BL := qq BL hB6
 clear hB6
 obtain ⟨dy, Edy⟩ := zx (mP d yy)
 have Hdy : Hid (dy < P) := by rw [Edy.o]; exact qK _ _
 rw [← Edy.o]
 go_wp2_with fail
 refine (kA 1 (by decide) _).mono ?_
 rintro e W7 ⟨rfl, hB7⟩
 have R0 := qa (qk R0.o hB7)
 have RZ := qa (qk RZ.o hB7)
 have RY := qa (qk RY.o hB7)
 have RYY := qa (qk RYY.o hB7)
 have RU := qa (qk RU.o hB7)
 have BL := qq BL hB7
 clear hB7
 go_wp2_with fail
 refine (qqQ dy 1 Hdy.o qrh _).mono ?_
 rintro e W8 ⟨rfl, hB8⟩
 have R0 := qa (qk R0.o hB8)
 have RZ := qa (qk RZ.o hB8)
 have RY := qa (qk RY.o hB8)
 have RYY := qa (qk RYY.o hB8)
 have RU := qa (qk RU.o hB8)
 have BL := qq BL hB8
 clear hB8
 obtain ⟨v, Ev⟩ := zx (aP dy 1)
 have Hv : Hid (v < P) := by rw [Ev.o]; exact QF _ _
 rw [← Ev.o]
 go_wp2_with (first | (refine qB 95 (.tmp 11) (.tmp 40) W8.heap.size (fA v) (za _ _) (qO _) (jo _ _) (jn _) ?_))
 obtain ⟨gv, hgv⟩ := zy W8.heap.size
 obtain ⟨W9, hW9⟩ := zy ((W8.alloc (.cells (fA 0) 95)).setRow W8.heap.size (fA v))
 have lR0gv : w.heap.size < gv := by rw [hgv]; exact qh R0.o
 have lRZgv : w.heap.size + 1 < gv := by rw [hgv]; exact qh RZ.o
 have lRYgv : gy < gv := by rw [hgv]; exact qh RY.o
 have lRYYgv : gyy < gv := by rw [hgv]; exact qh RYY.o
 have lRUgv : gu < gv := by rw [hgv]; exact qh RU.o
 have R0' : Hid (qi W9 w.heap.size (fA d) 95) := by rw [hW9]; exact (zc _ _ _ _ (by omega)).trans ((zb _ _ (by omega)).trans R0.o)
 have RZ' : Hid (qi W9 (w.heap.size + 1) (qA q0) 98) := by rw [hW9]; exact (zc _ _ _ _ (by omega)).trans ((zb _ _ (by omega)).trans RZ.o)
 have RY' : Hid (qi W9 gy (fA y) 95) := by rw [hW9]; exact (zc _ _ _ _ (by omega)).trans ((zb _ _ (by omega)).trans RY.o)
 have RYY' : Hid (qi W9 gyy (fA yy) 95) := by rw [hW9]; exact (zc _ _ _ _ (by omega)).trans ((zb _ _ (by omega)).trans RYY.o)
 have RU' : Hid (qi W9 gu (fA u) 95) := by rw [hW9]; exact (zc _ _ _ _ (by omega)).trans ((zb _ _ (by omega)).trans RU.o)
 have RV : Hid (qi W9 gv (fA v) 95) := by rw [hW9, hgv]; exact zd _ _ _ _ _ _ (za _ _)
 have BL' : Hid (zB w W9) := by rw [hW9]; exact ze (BL.o.alloc BL.o.size _) BL.o.size _
 rw [qH, ← hW9, ← hgv]
 clear hW9 hgv BL R0 RZ RY RYY RU
 have R0 := R0'
 have RZ := RZ'
 have RY := RY'
 have RYY := RYY'
 have RU := RU'
 have BL := BL'
 clear R0' RZ' RY' RYY' RU' BL'
 go_cut [12, 13] from 41 to 48 (fun s b wx => ∃ g, s = zp g 0 ∧ b = .bool (Zy (mP u (jm v))) ∧ Hid (W9.heap.size ≤ g) ∧ Hid (wx.heap[g]? = some (.cells (fA (Zz (mP u (jm v)))) 95)) ∧ Hid (zB W9 wx))
 case first =>
  refine zM (S := fun w' => w'.rangeAt (gu) 0 (fL u) ∧ w'.rangeAt (gv) 0 (fL v)) (by kernel_rfl) (by exact ⟨QU RU.o, QU RV.o⟩) (fun hHeld => ?_)
  obtain ⟨V10, hV10⟩ := zy W9.drew
  rw [← hV10] at hHeld ⊢
  have KV10 : Hid (zB W9 V10) := by rw [hV10]; exact (zJ _ _).drew
  clear hV10
  refine zT 0 ⟨some 42, .load 95 (.tmp 10), 95, "point.go:54", #[], none⟩ (.agg (fA u)) (jX (by rfl) _ rfl (gu) 0 u rfl (fun w h => h.1)) ?_
  simp only [qd]
  refine zT 1 ⟨some 43, .load 95 (.tmp 11), 95, "point.go:54", #[], none⟩ (.agg (fA v)) (jX (by rfl) _ rfl (gv) 0 v rfl (fun w h => h.2)) ?_
  simp only [qd]
  refine zW [2, 8] ?_
  refine zK yaM (fun K hK => ?_) ?_
  ·
   refine zE (qmq _ rfl (.agg (fA v)) rfl V10) (qck v Hv.o V10) fun V11 HBx => ?_
   have KV11 := qq KV10 HBx
   clear HBx
   refine hK.o _ _ (⟨qE RU KV11, qE RV KV11⟩) fun hHeld => ?_
   try simp only [qd]
   refine zW [3, 8] ?_
   refine zK yaL (fun K hK => ?_) ?_
   ·
    refine zE (Jn _ _ rfl (.agg (fA u)) (.agg (fA (jm v))) rfl rfl V11) (Qb u (jm v) Hu.o (qbD _) V11) fun V12 HBx => ?_
    have KV12 := qq KV11 HBx
    clear HBx
    refine hK.o _ _ (⟨qE RU KV12, qE RV KV12⟩) fun hHeld => ?_
    try simp only [qd]
    refine zW [4, 8] ?_
    refine zK yaJ (fun K hK => ?_) ?_
    ·
     refine zE (qc3 _ rfl (.agg (fA (mP u (jm v)))) rfl V12) (qnH (mP u (jm v)) (qK _ _) V12) fun V13 HBx => ?_
     have KV13 := qq KV12 HBx
     clear HBx
     refine hK.o _ _ (⟨qE RU KV13, qE RV KV13⟩) fun hHeld => ?_
     try simp only [qd]
     refine zU 5 qb2 (.tuple #[.agg (fA (Zz (mP u (jm v)))), .bool (Zy (mP u (jm v)))]) ?_
     simp only [qd]
     refine zU 6 qcf (.agg (fA (Zz (mP u (jm v))))) ?_
     simp only [qd]
     refine zU 7 qb3 (.bool (Zy (mP u (jm v)))) ?_
     simp only [qd]
     refine zW [8] ?_
     refine zK qcc (fun K hK => ?_) ?_
     ·
      refine zA (yi rfl V13) ?_
      obtain ⟨g14, hg14⟩ := zy V13.heap.size
      have ZN : Hid ((V13.alloc (.cells (fA 0) 95)).heap[g14]? = some (.cells (fA 0) 95)) := by rw [hg14]; exact za _ _
      have KV14 := qZ KV13 (.cells (fA 0) 95)
      have GG : Hid (W9.heap.size ≤ g14) := by rw [hg14]; exact KV13.o.size
      rw [← hg14]
      obtain ⟨V14, hV14⟩ := zy (V13.alloc (.cells (fA 0) 95))
      rw [← hV14] at ZN KV14 ⊢
      clear hV14 hg14
      refine hK.o _ _ (⟨qE RU KV14, qE RV KV14⟩) fun hHeld => ?_
      try simp only [qd]
      refine zW [9] ?_
      refine zK qbV (fun K hK => ?_) ?_
      ·
       refine zQ 95 (.tmp 12) (.tmp 47) (g14) (fA (Zz (mP u (jm v)))) ZN.o (qO _) (jo _ _) (jn _) ?_
       rw [qH]
       refine hK.o _ _ (⟨qF (qE RU KV14) (zn (zl (qh RU.o) GG.o)), qF (qE RV KV14) (zn (zl (qh RV.o) GG.o))⟩) fun hHeld => ?_
       try simp only [qd]
       refine zU 10 qbS (.bool (Zy (mP u (jm v)))) ?_
       simp only [qd]
       refine zi (by kernel_rfl) ?_ _
       go_wp2_with fail
       go_meet
       case rel => exact ⟨g14, rfl, rfl, GG, qa (zd _ _ _ _ _ _ ZN.o), qa (ze KV14.o GG.o _)⟩
      exact zu
     exact zu
    refine zK qcc (fun K hK => ?_) ?_
    ·
     refine zA (yi rfl V12) ?_
     obtain ⟨g15, hg15⟩ := zy V12.heap.size
     have ZN : Hid ((V12.alloc (.cells (fA 0) 95)).heap[g15]? = some (.cells (fA 0) 95)) := by rw [hg15]; exact za _ _
     have KV15 := qZ KV12 (.cells (fA 0) 95)
     have GG : Hid (W9.heap.size ≤ g15) := by rw [hg15]; exact KV12.o.size
     rw [← hg15]
     obtain ⟨V15, hV15⟩ := zy (V12.alloc (.cells (fA 0) 95))
     rw [← hV15] at ZN KV15 ⊢
     clear hV15 hg15
     refine hK.o _ _ (⟨qE RU KV15, qE RV KV15⟩) fun hHeld => ?_
     try simp only [qd]
     refine zW [4] ?_
     refine zK yaJ (fun K hK => ?_) ?_
     ·
      refine zE (qc3 _ rfl (.agg (fA (mP u (jm v)))) rfl V15) (qnH (mP u (jm v)) (qK _ _) V15) fun V16 HBx => ?_
      have KV16 := qq KV15 HBx
      have ZN := qa (qk ZN.o HBx)
      clear HBx
      refine hK.o _ _ (⟨qE RU KV16, qE RV KV16⟩) fun hHeld => ?_
      try simp only [qd]
      refine zU 5 qb2 (.tuple #[.agg (fA (Zz (mP u (jm v)))), .bool (Zy (mP u (jm v)))]) ?_
      simp only [qd]
      refine zU 6 qcf (.agg (fA (Zz (mP u (jm v))))) ?_
      simp only [qd]
      refine zU 7 qb3 (.bool (Zy (mP u (jm v)))) ?_
      simp only [qd]
      refine zW [9] ?_
      refine zK qbV (fun K hK => ?_) ?_
      ·
       refine zQ 95 (.tmp 12) (.tmp 47) (g15) (fA (Zz (mP u (jm v)))) ZN.o (qO _) (jo _ _) (jn _) ?_
       rw [qH]
       refine hK.o _ _ (⟨qF (qE RU KV16) (zn (zl (qh RU.o) GG.o)), qF (qE RV KV16) (zn (zl (qh RV.o) GG.o))⟩) fun hHeld => ?_
       try simp only [qd]
       refine zU 10 qbS (.bool (Zy (mP u (jm v)))) ?_
       simp only [qd]
       refine zi (by kernel_rfl) ?_ _
       go_wp2_with fail
       go_meet
       case rel => exact ⟨g15, rfl, rfl, GG, qa (zd _ _ _ _ _ _ ZN.o), qa (ze KV16.o GG.o _)⟩
      exact zu
     exact zu
    exact zu
   refine zK qcc (fun K hK => ?_) ?_
   ·
    refine zA (yi rfl V11) ?_
    obtain ⟨g17, hg17⟩ := zy V11.heap.size
    have ZN : Hid ((V11.alloc (.cells (fA 0) 95)).heap[g17]? = some (.cells (fA 0) 95)) := by rw [hg17]; exact za _ _
    have KV17 := qZ KV11 (.cells (fA 0) 95)
    have GG : Hid (W9.heap.size ≤ g17) := by rw [hg17]; exact KV11.o.size
    rw [← hg17]
    obtain ⟨V17, hV17⟩ := zy (V11.alloc (.cells (fA 0) 95))
    rw [← hV17] at ZN KV17 ⊢
    clear hV17 hg17
    refine hK.o _ _ (⟨qE RU KV17, qE RV KV17⟩) fun hHeld => ?_
    try simp only [qd]
    refine zW [3] ?_
    refine zK yaL (fun K hK => ?_) ?_
    ·
     refine zE (Jn _ _ rfl (.agg (fA u)) (.agg (fA (jm v))) rfl rfl V17) (Qb u (jm v) Hu.o (qbD _) V17) fun V18 HBx => ?_
     have KV18 := qq KV17 HBx
     have ZN := qa (qk ZN.o HBx)
     clear HBx
     refine hK.o _ _ (⟨qE RU KV18, qE RV KV18⟩) fun hHeld => ?_
     try simp only [qd]
     refine zW [4] ?_
     refine zK yaJ (fun K hK => ?_) ?_
     ·
      refine zE (qc3 _ rfl (.agg (fA (mP u (jm v)))) rfl V18) (qnH (mP u (jm v)) (qK _ _) V18) fun V19 HBx => ?_
      have KV19 := qq KV18 HBx
      have ZN := qa (qk ZN.o HBx)
      clear HBx
      refine hK.o _ _ (⟨qE RU KV19, qE RV KV19⟩) fun hHeld => ?_
      try simp only [qd]
      refine zU 5 qb2 (.tuple #[.agg (fA (Zz (mP u (jm v)))), .bool (Zy (mP u (jm v)))]) ?_
      simp only [qd]
      refine zU 6 qcf (.agg (fA (Zz (mP u (jm v))))) ?_
      simp only [qd]
      refine zU 7 qb3 (.bool (Zy (mP u (jm v)))) ?_
      simp only [qd]
      refine zW [9] ?_
      refine zK qbV (fun K hK => ?_) ?_
      ·
       refine zQ 95 (.tmp 12) (.tmp 47) (g17) (fA (Zz (mP u (jm v)))) ZN.o (qO _) (jo _ _) (jn _) ?_
       rw [qH]
       refine hK.o _ _ (⟨qF (qE RU KV19) (zn (zl (qh RU.o) GG.o)), qF (qE RV KV19) (zn (zl (qh RV.o) GG.o))⟩) fun hHeld => ?_
       try simp only [qd]
       refine zU 10 qbS (.bool (Zy (mP u (jm v)))) ?_
       simp only [qd]
       refine zi (by kernel_rfl) ?_ _
       go_wp2_with fail
       go_meet
       case rel => exact ⟨g17, rfl, rfl, GG, qa (zd _ _ _ _ _ _ ZN.o), qa (ze KV19.o GG.o _)⟩
      exact zu
     exact zu
    exact zu
   exact zu
  refine zK qcc (fun K hK => ?_) ?_
  ·
   refine zA (yi rfl V10) ?_
   obtain ⟨g20, hg20⟩ := zy V10.heap.size
   have ZN : Hid ((V10.alloc (.cells (fA 0) 95)).heap[g20]? = some (.cells (fA 0) 95)) := by rw [hg20]; exact za _ _
   have KV20 := qZ KV10 (.cells (fA 0) 95)
   have GG : Hid (W9.heap.size ≤ g20) := by rw [hg20]; exact KV10.o.size
   rw [← hg20]
   obtain ⟨V20, hV20⟩ := zy (V10.alloc (.cells (fA 0) 95))
   rw [← hV20] at ZN KV20 ⊢
   clear hV20 hg20
   refine hK.o _ _ (⟨qE RU KV20, qE RV KV20⟩) fun hHeld => ?_
   try simp only [qd]
   refine zW [2] ?_
   refine zK yaM (fun K hK => ?_) ?_
   ·
    refine zE (qmq _ rfl (.agg (fA v)) rfl V20) (qck v Hv.o V20) fun V21 HBx => ?_
    have KV21 := qq KV20 HBx
    have ZN := qa (qk ZN.o HBx)
    clear HBx
    refine hK.o _ _ (⟨qE RU KV21, qE RV KV21⟩) fun hHeld => ?_
    try simp only [qd]
    refine zW [3] ?_
    refine zK yaL (fun K hK => ?_) ?_
    ·
     refine zE (Jn _ _ rfl (.agg (fA u)) (.agg (fA (jm v))) rfl rfl V21) (Qb u (jm v) Hu.o (qbD _) V21) fun V22 HBx => ?_
     have KV22 := qq KV21 HBx
     have ZN := qa (qk ZN.o HBx)
     clear HBx
     refine hK.o _ _ (⟨qE RU KV22, qE RV KV22⟩) fun hHeld => ?_
     try simp only [qd]
     refine zW [4] ?_
     refine zK yaJ (fun K hK => ?_) ?_
     ·
      refine zE (qc3 _ rfl (.agg (fA (mP u (jm v)))) rfl V22) (qnH (mP u (jm v)) (qK _ _) V22) fun V23 HBx => ?_
      have KV23 := qq KV22 HBx
      have ZN := qa (qk ZN.o HBx)
      clear HBx
      refine hK.o _ _ (⟨qE RU KV23, qE RV KV23⟩) fun hHeld => ?_
      try simp only [qd]
      refine zU 5 qb2 (.tuple #[.agg (fA (Zz (mP u (jm v)))), .bool (Zy (mP u (jm v)))]) ?_
      simp only [qd]
      refine zU 6 qcf (.agg (fA (Zz (mP u (jm v))))) ?_
      simp only [qd]
      refine zU 7 qb3 (.bool (Zy (mP u (jm v)))) ?_
      simp only [qd]
      refine zW [9] ?_
      refine zK qbV (fun K hK => ?_) ?_
      ·
       refine zQ 95 (.tmp 12) (.tmp 47) (g20) (fA (Zz (mP u (jm v)))) ZN.o (qO _) (jo _ _) (jn _) ?_
       rw [qH]
       refine hK.o _ _ (⟨qF (qE RU KV23) (zn (zl (qh RU.o) GG.o)), qF (qE RV KV23) (zn (zl (qh RV.o) GG.o))⟩) fun hHeld => ?_
       try simp only [qd]
       refine zU 10 qbS (.bool (Zy (mP u (jm v)))) ?_
       simp only [qd]
       refine zi (by kernel_rfl) ?_ _
       go_wp2_with fail
       go_meet
       case rel => exact ⟨g20, rfl, rfl, GG, qa (zd _ _ _ _ _ _ ZN.o), qa (ze KV23.o GG.o _)⟩
      exact zu
     exact zu
    exact zu
   exact zu
  exact zu
 case rest =>
 obtain ⟨gx, rfl, rfl, Ggx, RX, Xgx⟩ := hcut
 obtain ⟨W10, hW⟩ := zy wc
 subst hW
 have lR0gx : w.heap.size < gx := zl (qh R0.o) Ggx.o
 have lRZgx : w.heap.size + 1 < gx := zl (qh RZ.o) Ggx.o
 have lRYgx : gy < gx := zl (qh RY.o) Ggx.o
 have lRYYgx : gyy < gx := zl (qh RYY.o) Ggx.o
 have lRUgx : gu < gx := zl (qh RU.o) Ggx.o
 have lRVgx : gv < gx := zl (qh RV.o) Ggx.o
 have R0 := qa (qs R0.o Xgx.o (qh R0.o))
 have RZ := qa (qs RZ.o Xgx.o (qh RZ.o))
 have RY := qa (qs RY.o Xgx.o (qh RY.o))
 have RYY := qa (qs RYY.o Xgx.o (qh RYY.o))
 have RU := qa (qs RU.o Xgx.o (qh RU.o))
 have RV := qa (qs RV.o Xgx.o (qh RV.o))
 have BL : Hid (zB w W10) := BL.o.trans (Xgx.o.mono BL.o.size)
 clear Xgx Ggx
 have EA : Hid ((mP u (jm v)) = ZB d y) := by show _ = _; unfold ZB; rw [Ev.o, Edy.o, Eu.o, Eyy.o]
 rw [EA.o] at RX
 rw [EA.o]
 obtain ⟨r, Er⟩ := zx (YT d y)
 have Hr : Hid (r < P) := by rw [Er.o]; exact qgc _
 rw [show Zz (ZB d y) = YT d y from rfl, ← Er.o] at RX
 obtain ⟨tb, Et⟩ := zx (Zy (ZB d y))
 rw [← Et.o]
 cases tb
 case false =>
  have HB : Hid (j6 d s = false) := by show _ = _; unfold j6; rw [← Ey.o, ← Et.o]; simp
  go_upto_region 12 with fail
  go_wp2_with (first | (refine qB 98 (.tmp 4) (.tmp 60) (w.heap.size + 1) (qA q0) RZ.o (jE _) (QN _ _) (QO _) ?_))
  refine zh (v := .tuple #[.agg (qA q0), .bool false]) (jJ Tryz.results68 _ _ (w.heap.size + 1) 98 (qA q0) (0, 0) _ (by rfl) (zd _ _ _ _ _ _ RZ.o) Tryz.underlying98 rfl (jE _)) rfl ⟨?_, ze BL.o (by omega) _⟩
  unfold Qv
  rw [HB.o, if_neg (by decide)]
 case true =>
 have EY : Hid (Qz s = y) := by show _ = _; exact of_decide_eq_true Eyb.o.symm
 clear R0 RYY RU RV
 obtain ⟨x0, x1, x2, x3, x4, x5, x6, x7, x8, x9⟩ := qds RX.o
 have z0 : 0 ≤ fc r 0 := by unfold fc; rw [fc0]; omega
 have HZm : Hid ((fc r 0).tmod 2 = ((r % 2 : Nat) : Int)) := by show _ = _; rw [Int.tmod_eq_emod_of_nonneg z0]; unfold fc; rw [fc0]; omega
 have hfold := qmK r
 have heq := eqA r 0 Hr.o j3
 cases hod : yn s
 case false =>
  rw [hod] at HO
  obtain rfl : ov = 0 := HO.o
  by_cases hr0 : r = 0
  case pos =>
   have hpar : r % 2 = 0 := by rw [hr0]
   have hd : decide (r = 0) = true := zN hr0
   rw [hd] at heq
   have hzm : (fc r 0).tmod 2 = 0 := by rw [HZm.o, hpar]; rfl
   have HB : Hid (j6 d s = true) := by show _ = _; unfold j6; rw [← Ey.o, EY.o, ← Er.o, ← Et.o, H32.o, hod, hd]; simp
   have HX : Hid (JV d y (yn s) = r) := by show _ = _; unfold JV; rw [← Er.o, hod, hpar]; rfl
   clear hod hr0 hd hpar
   go_upto_region 13 with fail
   go_wp2_with fail
   try rw [qH]
   refine zM (S := fun w' => w'.rangeAt (gx) 0 (fL r) ∧ w'.rangeAt (gy) 0 (fL y)) (by kernel_rfl) (by exact ⟨QU RX.o, QU RY.o⟩) (fun hHeld => ?_)
   obtain ⟨V24, hV24⟩ := zy W10.drew
   rw [← hV24] at hHeld ⊢
   have KV24 : Hid (zB W10 V24) := by rw [hV24]; exact (zJ _ _).drew
   clear hV24
   refine zT 0 qbd (.agg (fA r)) (jX (by rfl) _ rfl (gx) 0 r rfl (fun w h => h.1)) ?_
   simp only [qd]
   refine zT 1 qa4 (.agg (fA y)) (jX (by rfl) _ rfl (gy) 0 y rfl (fun w h => h.2)) ?_
   simp only [qd]
   refine zW [2] ?_
   refine zK yaI (fun K hK => ?_) ?_
   ·
    refine zE (qaG _ rfl (.int .i64 1) rfl V24) (kd V24) fun V25 HBx => ?_
    have KV25 := qq KV24 HBx
    clear HBx
    refine hK.o _ _ (⟨qE RX KV25, qE RY KV25⟩) fun hHeld => ?_
    try simp only [qd]
    refine zT 3 qba (.agg (qA ⟨r, y, 1⟩)) (Yq (by rfl) _ _ rfl _ _ (by kernel_rfl) (qei r y 1)) ?_
    simp only [qd]
    refine zW [4] ?_
    refine zK qa7 (fun K hK => ?_) ?_
    ·
     refine zQ 98 (.tmp 4) (.tmp 72) (w.heap.size + 1) (qA ⟨r, y, 1⟩) (qa (qs RZ.o KV25.o (qh RZ.o))).o (jE _) (QN _ _) (QO _) ?_
     rw [qH]
     refine hK.o _ _ (⟨qF (qE RX KV25) (by omega), qF (qE RY KV25) (by omega)⟩) fun hHeld => ?_
     try simp only [qd]
     refine zU 5 qa8 (.bool true) ?_
     simp only [qd]
     refine zi (by kernel_rfl) ?_ _
     go_wp2_with fail
     have RZ9 := qa (qs RZ.o KV25.o (qh RZ.o))
     have BL9 := qa (BL.o.trans (KV25.o.mono BL.o.size))
     refine zh (v := .tuple #[.agg (qA ⟨r, y, 1⟩), .bool true]) (jJ Tryz.results68 _ _ (w.heap.size + 1) 98 (qA ⟨r, y, 1⟩) (0, 0) _ (by rfl) (zd _ _ _ _ _ _ RZ9.o) Tryz.underlying98 rfl (jE _)) rfl ⟨?_, ze BL9.o (by omega) _⟩
     unfold Qv; rw [HB.o, if_pos rfl, ← Ey.o, HX.o]
    exact zu
   exact zu
  case neg =>
   by_cases hpar : r % 2 = 1
   case pos =>
    have hd : decide (r = 0) = false := zD hr0
    rw [hd] at heq
    have hzm : (fc r 0).tmod 2 = 1 := by rw [HZm.o, hpar]; rfl
    have HB : Hid (j6 d s = true) := by show _ = _; unfold j6; rw [← Ey.o, EY.o, ← Er.o, ← Et.o, H32.o, hod, hd]; simp
    have HX : Hid (JV d y (yn s) = sP 0 r) := by show _ = _; unfold JV; rw [← Er.o, hod, hpar]; rfl
    clear hod hr0 hd hpar
    go_upto_region 13 with fail
    go_upto_region 14 with fail
    clear heq hfold hzm z0 HZm x0 x1 x2 x3 x4 x5 x6 x7 x8 x9
    go_wp2_with (first | (refine zL 95 (.tmp 12) (gx) (fA r) RX.o q7 (qO _) ?_))
    refine (ku 0 r j3 Hr.o _).mono ?_
    rintro e W11 ⟨rfl, hB11⟩
    have RZ := qa (qk RZ.o hB11)
    have RY := qa (qk RY.o hB11)
    have RX := qa (qk RX.o hB11)
    have BL := qq BL hB11
    clear hB11
    obtain ⟨x, Ex⟩ := zx (sP 0 r)
    have Hx : Hid (x < P) := by rw [Ex.o]; exact jR _ _
    rw [← Ex.o]
    go_wp2_with (first | (refine qB 95 (.tmp 12) (.tmp 68) (gx) (fA x) RX.o (qO _) (jo _ _) (jn _) ?_))
    obtain ⟨W12, hW12⟩ := zy (W11.setRow (gx) (fA x))
    have RZ' : Hid (qi W12 (w.heap.size + 1) (qA q0) 98) := by rw [hW12]; exact (zc _ _ _ _ (by omega)).trans RZ.o
    have RY' : Hid (qi W12 gy (fA y) 95) := by rw [hW12]; exact (zc _ _ _ _ (by omega)).trans RY.o
    have RX' : Hid (qi W12 gx (fA x) 95) := by rw [hW12]; exact zd _ _ _ _ _ _ RX.o
    have BL' : Hid (zB w W12) := by rw [hW12]; exact ze BL.o (by omega) _
    rw [qH, ← hW12]
    clear hW12 BL RZ RY RX
    have RZ := RZ'
    have RY := RY'
    have RX := RX'
    have BL := BL'
    clear RZ' RY' RX' BL'
    try rw [qH]
    refine zM (S := fun w' => w'.rangeAt (gx) 0 (fL x) ∧ w'.rangeAt (gy) 0 (fL y)) (by kernel_rfl) (by exact ⟨QU RX.o, QU RY.o⟩) (fun hHeld => ?_)
    obtain ⟨V26, hV26⟩ := zy W12.drew
    rw [← hV26] at hHeld ⊢
    have KV26 : Hid (zB W12 V26) := by rw [hV26]; exact (zJ _ _).drew
    clear hV26
    refine zT 0 qbd (.agg (fA x)) (jX (by rfl) _ rfl (gx) 0 x rfl (fun w h => h.1)) ?_
    simp only [qd]
    refine zT 1 qa4 (.agg (fA y)) (jX (by rfl) _ rfl (gy) 0 y rfl (fun w h => h.2)) ?_
    simp only [qd]
    refine zW [2] ?_
    refine zK yaI (fun K hK => ?_) ?_
    ·
     refine zE (qaG _ rfl (.int .i64 1) rfl V26) (kd V26) fun V27 HBx => ?_
     have KV27 := qq KV26 HBx
     clear HBx
     refine hK.o _ _ (⟨qE RX KV27, qE RY KV27⟩) fun hHeld => ?_
     try simp only [qd]
     refine zT 3 qba (.agg (qA ⟨x, y, 1⟩)) (Yq (by rfl) _ _ rfl _ _ (by kernel_rfl) (qei x y 1)) ?_
     simp only [qd]
     refine zW [4] ?_
     refine zK qa7 (fun K hK => ?_) ?_
     ·
      refine zQ 98 (.tmp 4) (.tmp 72) (w.heap.size + 1) (qA ⟨x, y, 1⟩) (qa (qs RZ.o KV27.o (qh RZ.o))).o (jE _) (QN _ _) (QO _) ?_
      rw [qH]
      refine hK.o _ _ (⟨qF (qE RX KV27) (by omega), qF (qE RY KV27) (by omega)⟩) fun hHeld => ?_
      try simp only [qd]
      refine zU 5 qa8 (.bool true) ?_
      simp only [qd]
      refine zi (by kernel_rfl) ?_ _
      go_wp2_with fail
      have RZ9 := qa (qs RZ.o KV27.o (qh RZ.o))
      have BL9 := qa (BL.o.trans (KV27.o.mono BL.o.size))
      refine zh (v := .tuple #[.agg (qA ⟨x, y, 1⟩), .bool true]) (jJ Tryz.results68 _ _ (w.heap.size + 1) 98 (qA ⟨x, y, 1⟩) (0, 0) _ (by rfl) (zd _ _ _ _ _ _ RZ9.o) Tryz.underlying98 rfl (jE _)) rfl ⟨?_, ze BL9.o (by omega) _⟩
      unfold Qv; rw [HB.o, if_pos rfl, ← Ey.o, HX.o, Ex.o]
     exact zu
    exact zu
   case neg =>
    have hpar : r % 2 = 0 := by omega
    have hd : decide (r = 0) = false := zD hr0
    rw [hd] at heq
    have hzm : (fc r 0).tmod 2 = 0 := by rw [HZm.o, hpar]; rfl
    have HB : Hid (j6 d s = true) := by show _ = _; unfold j6; rw [← Ey.o, EY.o, ← Er.o, ← Et.o, H32.o, hod, hd]; simp
    have HX : Hid (JV d y (yn s) = r) := by show _ = _; unfold JV; rw [← Er.o, hod, hpar]; rfl
    clear hod hr0 hd hpar
    go_upto_region 13 with fail
    go_wp2_with fail
    try rw [qH]
    refine zM (S := fun w' => w'.rangeAt (gx) 0 (fL r) ∧ w'.rangeAt (gy) 0 (fL y)) (by kernel_rfl) (by exact ⟨QU RX.o, QU RY.o⟩) (fun hHeld => ?_)
    obtain ⟨V28, hV28⟩ := zy W10.drew
    rw [← hV28] at hHeld ⊢
    have KV28 : Hid (zB W10 V28) := by rw [hV28]; exact (zJ _ _).drew
    clear hV28
    refine zT 0 qbd (.agg (fA r)) (jX (by rfl) _ rfl (gx) 0 r rfl (fun w h => h.1)) ?_
    simp only [qd]
    refine zT 1 qa4 (.agg (fA y)) (jX (by rfl) _ rfl (gy) 0 y rfl (fun w h => h.2)) ?_
    simp only [qd]
    refine zW [2] ?_
    refine zK yaI (fun K hK => ?_) ?_
    ·
     refine zE (qaG _ rfl (.int .i64 1) rfl V28) (kd V28) fun V29 HBx => ?_
     have KV29 := qq KV28 HBx
     clear HBx
     refine hK.o _ _ (⟨qE RX KV29, qE RY KV29⟩) fun hHeld => ?_
     try simp only [qd]
     refine zT 3 qba (.agg (qA ⟨r, y, 1⟩)) (Yq (by rfl) _ _ rfl _ _ (by kernel_rfl) (qei r y 1)) ?_
     simp only [qd]
     refine zW [4] ?_
     refine zK qa7 (fun K hK => ?_) ?_
     ·
      refine zQ 98 (.tmp 4) (.tmp 72) (w.heap.size + 1) (qA ⟨r, y, 1⟩) (qa (qs RZ.o KV29.o (qh RZ.o))).o (jE _) (QN _ _) (QO _) ?_
      rw [qH]
      refine hK.o _ _ (⟨qF (qE RX KV29) (by omega), qF (qE RY KV29) (by omega)⟩) fun hHeld => ?_
      try simp only [qd]
      refine zU 5 qa8 (.bool true) ?_
      simp only [qd]
      refine zi (by kernel_rfl) ?_ _
      go_wp2_with fail
      have RZ9 := qa (qs RZ.o KV29.o (qh RZ.o))
      have BL9 := qa (BL.o.trans (KV29.o.mono BL.o.size))
      refine zh (v := .tuple #[.agg (qA ⟨r, y, 1⟩), .bool true]) (jJ Tryz.results68 _ _ (w.heap.size + 1) 98 (qA ⟨r, y, 1⟩) (0, 0) _ (by rfl) (zd _ _ _ _ _ _ RZ9.o) Tryz.underlying98 rfl (jE _)) rfl ⟨?_, ze BL9.o (by omega) _⟩
      unfold Qv; rw [HB.o, if_pos rfl, ← Ey.o, HX.o]
     exact zu
    exact zu
 case true =>
  rw [hod] at HO
  obtain rfl : ov = 1 := HO.o
  by_cases hr0 : r = 0
  case pos =>
   have hd : decide (r = 0) = true := zN hr0
   rw [hd] at heq
   have HB : Hid (j6 d s = false) := by show _ = _; unfold j6; rw [← Ey.o, ← Er.o, hod, hr0]; simp
   clear hod hr0 hd
   go_upto_region 12 with fail
   go_wp2_with (first | (refine qB 98 (.tmp 4) (.tmp 60) (w.heap.size + 1) (qA q0) RZ.o (jE _) (QN _ _) (QO _) ?_))
   refine zh (v := .tuple #[.agg (qA q0), .bool false]) (jJ Tryz.results68 _ _ (w.heap.size + 1) 98 (qA q0) (0, 0) _ (by rfl) (zd _ _ _ _ _ _ RZ.o) Tryz.underlying98 rfl (jE _)) rfl ⟨?_, ze BL.o (by omega) _⟩
   unfold Qv
   rw [HB.o, if_neg (by decide)]
  case neg =>
   by_cases hpar : r % 2 = 1
   case pos =>
    have hd : decide (r = 0) = false := zD hr0
    rw [hd] at heq
    have hzm : (fc r 0).tmod 2 = 1 := by rw [HZm.o, hpar]; rfl
    have HB : Hid (j6 d s = true) := by show _ = _; unfold j6; rw [← Ey.o, EY.o, ← Er.o, ← Et.o, H32.o, hod, hd]; simp
    have HX : Hid (JV d y (yn s) = r) := by show _ = _; unfold JV; rw [← Er.o, hod, hpar]; rfl
    clear hod hr0 hd hpar
    go_upto_region 13 with fail
    go_wp2_with fail
    try rw [qH]
    refine zM (S := fun w' => w'.rangeAt (gx) 0 (fL r) ∧ w'.rangeAt (gy) 0 (fL y)) (by kernel_rfl) (by exact ⟨QU RX.o, QU RY.o⟩) (fun hHeld => ?_)
    obtain ⟨V30, hV30⟩ := zy W10.drew
    rw [← hV30] at hHeld ⊢
    have KV30 : Hid (zB W10 V30) := by rw [hV30]; exact (zJ _ _).drew
    clear hV30
    refine zT 0 qbd (.agg (fA r)) (jX (by rfl) _ rfl (gx) 0 r rfl (fun w h => h.1)) ?_
    simp only [qd]
    refine zT 1 qa4 (.agg (fA y)) (jX (by rfl) _ rfl (gy) 0 y rfl (fun w h => h.2)) ?_
    simp only [qd]
    refine zW [2] ?_
    refine zK yaI (fun K hK => ?_) ?_
    ·
     refine zE (qaG _ rfl (.int .i64 1) rfl V30) (kd V30) fun V31 HBx => ?_
     have KV31 := qq KV30 HBx
     clear HBx
     refine hK.o _ _ (⟨qE RX KV31, qE RY KV31⟩) fun hHeld => ?_
     try simp only [qd]
     refine zT 3 qba (.agg (qA ⟨r, y, 1⟩)) (Yq (by rfl) _ _ rfl _ _ (by kernel_rfl) (qei r y 1)) ?_
     simp only [qd]
     refine zW [4] ?_
     refine zK qa7 (fun K hK => ?_) ?_
     ·
      refine zQ 98 (.tmp 4) (.tmp 72) (w.heap.size + 1) (qA ⟨r, y, 1⟩) (qa (qs RZ.o KV31.o (qh RZ.o))).o (jE _) (QN _ _) (QO _) ?_
      rw [qH]
      refine hK.o _ _ (⟨qF (qE RX KV31) (by omega), qF (qE RY KV31) (by omega)⟩) fun hHeld => ?_
      try simp only [qd]
      refine zU 5 qa8 (.bool true) ?_
      simp only [qd]
      refine zi (by kernel_rfl) ?_ _
      go_wp2_with fail
      have RZ9 := qa (qs RZ.o KV31.o (qh RZ.o))
      have BL9 := qa (BL.o.trans (KV31.o.mono BL.o.size))
      refine zh (v := .tuple #[.agg (qA ⟨r, y, 1⟩), .bool true]) (jJ Tryz.results68 _ _ (w.heap.size + 1) 98 (qA ⟨r, y, 1⟩) (0, 0) _ (by rfl) (zd _ _ _ _ _ _ RZ9.o) Tryz.underlying98 rfl (jE _)) rfl ⟨?_, ze BL9.o (by omega) _⟩
      unfold Qv; rw [HB.o, if_pos rfl, ← Ey.o, HX.o]
     exact zu
    exact zu
   case neg =>
    have hpar : r % 2 = 0 := by omega
    have hd : decide (r = 0) = false := zD hr0
    rw [hd] at heq
    have hzm : (fc r 0).tmod 2 = 0 := by rw [HZm.o, hpar]; rfl
    have HB : Hid (j6 d s = true) := by show _ = _; unfold j6; rw [← Ey.o, EY.o, ← Er.o, ← Et.o, H32.o, hod, hd]; simp
    have HX : Hid (JV d y (yn s) = sP 0 r) := by show _ = _; unfold JV; rw [← Er.o, hod, hpar]; rfl
    clear hod hr0 hd hpar
    go_upto_region 13 with fail
    go_upto_region 14 with fail
    clear heq hfold hzm z0 HZm x0 x1 x2 x3 x4 x5 x6 x7 x8 x9
    go_wp2_with (first | (refine zL 95 (.tmp 12) (gx) (fA r) RX.o q7 (qO _) ?_))
    refine (ku 0 r j3 Hr.o _).mono ?_
    rintro e W11 ⟨rfl, hB11⟩
    have RZ := qa (qk RZ.o hB11)
    have RY := qa (qk RY.o hB11)
    have RX := qa (qk RX.o hB11)
    have BL := qq BL hB11
    clear hB11
    obtain ⟨x, Ex⟩ := zx (sP 0 r)
    have Hx : Hid (x < P) := by rw [Ex.o]; exact jR _ _
    rw [← Ex.o]
    go_wp2_with (first | (refine qB 95 (.tmp 12) (.tmp 68) (gx) (fA x) RX.o (qO _) (jo _ _) (jn _) ?_))
    obtain ⟨W12, hW12⟩ := zy (W11.setRow (gx) (fA x))
    have RZ' : Hid (qi W12 (w.heap.size + 1) (qA q0) 98) := by rw [hW12]; exact (zc _ _ _ _ (by omega)).trans RZ.o
    have RY' : Hid (qi W12 gy (fA y) 95) := by rw [hW12]; exact (zc _ _ _ _ (by omega)).trans RY.o
    have RX' : Hid (qi W12 gx (fA x) 95) := by rw [hW12]; exact zd _ _ _ _ _ _ RX.o
    have BL' : Hid (zB w W12) := by rw [hW12]; exact ze BL.o (by omega) _
    rw [qH, ← hW12]
    clear hW12 BL RZ RY RX
    have RZ := RZ'
    have RY := RY'
    have RX := RX'
    have BL := BL'
    clear RZ' RY' RX' BL'
    try rw [qH]
    refine zM (S := fun w' => w'.rangeAt (gx) 0 (fL x) ∧ w'.rangeAt (gy) 0 (fL y)) (by kernel_rfl) (by exact ⟨QU RX.o, QU RY.o⟩) (fun hHeld => ?_)
    obtain ⟨V32, hV32⟩ := zy W12.drew
    rw [← hV32] at hHeld ⊢
    have KV32 : Hid (zB W12 V32) := by rw [hV32]; exact (zJ _ _).drew
    clear hV32
    refine zT 0 qbd (.agg (fA x)) (jX (by rfl) _ rfl (gx) 0 x rfl (fun w h => h.1)) ?_
    simp only [qd]
    refine zT 1 qa4 (.agg (fA y)) (jX (by rfl) _ rfl (gy) 0 y rfl (fun w h => h.2)) ?_
    simp only [qd]
    refine zW [2] ?_
    refine zK yaI (fun K hK => ?_) ?_
    ·
     refine zE (qaG _ rfl (.int .i64 1) rfl V32) (kd V32) fun V33 HBx => ?_
     have KV33 := qq KV32 HBx
     clear HBx
     refine hK.o _ _ (⟨qE RX KV33, qE RY KV33⟩) fun hHeld => ?_
     try simp only [qd]
     refine zT 3 qba (.agg (qA ⟨x, y, 1⟩)) (Yq (by rfl) _ _ rfl _ _ (by kernel_rfl) (qei x y 1)) ?_
     simp only [qd]
     refine zW [4] ?_
     refine zK qa7 (fun K hK => ?_) ?_
     ·
      refine zQ 98 (.tmp 4) (.tmp 72) (w.heap.size + 1) (qA ⟨x, y, 1⟩) (qa (qs RZ.o KV33.o (qh RZ.o))).o (jE _) (QN _ _) (QO _) ?_
      rw [qH]
      refine hK.o _ _ (⟨qF (qE RX KV33) (by omega), qF (qE RY KV33) (by omega)⟩) fun hHeld => ?_
      try simp only [qd]
      refine zU 5 qa8 (.bool true) ?_
      simp only [qd]
      refine zi (by kernel_rfl) ?_ _
      go_wp2_with fail
      have RZ9 := qa (qs RZ.o KV33.o (qh RZ.o))
      have BL9 := qa (BL.o.trans (KV33.o.mono BL.o.size))
      refine zh (v := .tuple #[.agg (qA ⟨x, y, 1⟩), .bool true]) (jJ Tryz.results68 _ _ (w.heap.size + 1) 98 (qA ⟨x, y, 1⟩) (0, 0) _ (by rfl) (zd _ _ _ _ _ _ RZ9.o) Tryz.underlying98 rfl (jE _)) rfl ⟨?_, ze BL9.o (by omega) _⟩
      unfold Qv; rw [HB.o, if_pos rfl, ← Ey.o, HX.o, Ex.o]
     exact zu
    exact zu
end
open Go.RowKit
abbrev yap : Oper := ⟨some 54, .call ⟨.value (.func 109), #[.tmp 48, .tmp 53], #[95, 95]⟩, 95, "point.go:17", #[ql 4, ql 9, qT 9], none⟩
abbrev yaq : Oper := ⟨some 37, .call ⟨.value (.func 63), #[.tmp 33, .tmp 36], #[95, 95]⟩, 95, "point.go:14", #[ql 0, ql 3, qT 3], none⟩
abbrev yar : Oper := ⟨some 53, .call ⟨.value (.func 63), #[.tmp 50, .tmp 52], #[95, 95]⟩, 95, "point.go:17", #[ql 6, ql 8, qT 4], none⟩
abbrev yas : Oper := ⟨some 36, .call ⟨.value (.func 63), #[.tmp 34, .tmp 35], #[95, 95]⟩, 95, "point.go:14", #[ql 1, ql 2], none⟩
abbrev yat : Oper := ⟨some 48, .call ⟨.value (.func 63), #[.tmp 45, .tmp 47], #[95, 95]⟩, 95, "point.go:17", #[ql 1, ql 3], none⟩
abbrev qdC : Oper := ⟨some 11, .alloc 95, 0, "point.go:14", #[], none⟩
abbrev qdS : Oper := ⟨none, .store 95 (.tmp 11) (.tmp 37), 0, "point.go:14", #[ql 5, ql 4, qT 4, qj 0, qj 1, qj 2, qj 3, qj 4, qj 5], none⟩
abbrev qbr : Oper := ⟨some 14, .alloc 95, 0, "point.go:17", #[], none⟩
abbrev qbp : Oper := ⟨none, .store 95 (.tmp 14) (.tmp 54), 0, "point.go:17", #[ql 11, ql 10, qT 10, qj 0, qj 1, qj 2, qj 3, qj 4, qj 5, qj 6, qj 7, qj 8, qj 9, qj 10, qj 11], none⟩
theorem qsN (w : World) (A B C D : Obj) : ((((w.alloc A).alloc B).alloc C).alloc D).heap[w.heap.size]? = some A := by
 rw [zb _ _ (by simp <;> omega)]; exact JO _ _ _ _
theorem qsc (w : World) (A B C D : Obj) : ((((w.alloc A).alloc B).alloc C).alloc D).heap[w.heap.size + 1]? = some B := by
 rw [zb _ _ (by simp <;> omega)]; exact Jm _ _ _ _
theorem qsU (w : World) (A B C D : Obj) : ((((w.alloc A).alloc B).alloc C).alloc D).heap[w.heap.size + 2]? = some C := by
 rw [zb _ _ (by simp)]; exact Jb _ _ _ _
theorem qtt (w : World) (A B C D : Obj) : ((((w.alloc A).alloc B).alloc C).alloc D).heap[w.heap.size + 3]? = some D := by
 have e := za (((w.alloc A).alloc B).alloc C) D
 simpa using e
def Jd (d : Nat) (p q : Q3) : Q3 :=
 ⟨mP (mP p.z q.z) (mP (sP (mP (mP p.z q.z) (mP p.z q.z)) (mP d (mP (mP p.x q.x) (mP p.y q.y)))) (aP (mP p.x q.y) (mP q.x p.y))),
  mP (mP p.z q.z) (mP (aP (mP (mP p.z q.z) (mP p.z q.z)) (mP d (mP (mP p.x q.x) (mP p.y q.y)))) (aP (mP p.y q.y) (mP p.x q.x))),
  mP (sP (mP (mP p.z q.z) (mP p.z q.z)) (mP d (mP (mP p.x q.x) (mP p.y q.y)))) (aP (mP (mP p.z q.z) (mP p.z q.z)) (mP d (mP (mP p.x q.x) (mP p.y q.y))))⟩
theorem qbE (p q : Q3) : Jd dN p q = qqD p q := rfl
section
attribute [local irreducible] fA fL qA
theorem qhg (d : Nat) (p q : Q3) (hd : d < P) (hp : p.Ok) (hq : q.Ok) (w : World) :
  zC 67 #[.agg (fA d), .agg (qA p), .agg (qA q)] w (.agg (qA (Jd d p q))) := by
 have hz := JP
 have hzq := qjZ
 have Hd := qa hd
 have Hp := qa hp
 have Hq := qa hq
 clear hd hp hq
 go_enter Tryz.func67, Tryz.ntmps67
 go_upto_region 1 with fail
 obtain ⟨W0, hW0⟩ := zy ((((w.alloc (.cells (fA d) 95)).alloc (.cells (qA p) 98)).alloc (.cells (qA q) 98)).alloc (.cells (qA q0) 98))
 have RD : Hid (qi W0 w.heap.size (fA d) 95) := by rw [hW0]; exact qsN _ _ _ _ _
 have RP : Hid (qi W0 (w.heap.size + 1) (qA p) 98) := by rw [hW0]; exact qsc _ _ _ _ _
 have RQ : Hid (qi W0 (w.heap.size + 2) (qA q) 98) := by rw [hW0]; exact qsU _ _ _ _ _
 have RZ : Hid (qi W0 (w.heap.size + 3) (qA q0) 98) := by rw [hW0]; exact qtt _ _ _ _ _
 have BL : Hid (zB w W0) := by rw [hW0]; show Below _ _ _; go_grown
 rw [← hW0]
 clear hW0
 go_wp2_with (first | (refine zG (by rfl) 95 (.tmp 15) (by rfl) (w.heap.size + 1) 20 (by rfl) (fL p.z) _ (JJ RP.o).2.2 q7 rfl (Yt _) ?_) | (refine zG (by rfl) 95 (.tmp 17) (by rfl) (w.heap.size + 2) 20 (by rfl) (fL q.z) _ (JJ RQ.o).2.2 q7 rfl (Yt _) ?_))
 simp only [qiZ]
 refine (Qb p.z q.z Hp.o.z Hq.o.z _).mono ?_
 rintro e W1 ⟨rfl, hB1⟩
 have RD := qa (qk RD.o hB1)
 have RP := qa (qk RP.o hB1)
 have RQ := qa (qk RQ.o hB1)
 have RZ := qa (qk RZ.o hB1)
 have BL := qq BL hB1
 clear hB1
 obtain ⟨z, Ez⟩ := zx (mP p.z q.z)
 have Hz : Hid (z < P) := by rw [Ez.o]; exact qK _ _
 rw [← Ez.o]
 go_upto_region 2 with (first | (refine qB 95 (.tmp 7) (.tmp 19) W1.heap.size (fA z) (za _ _) (qO _) (jo _ _) (jn _) ?_))
 obtain ⟨g7, hg7⟩ := zy W1.heap.size
 obtain ⟨W2, hW2⟩ := zy ((W1.alloc (.cells (fA 0) 95)).setRow W1.heap.size (fA z))
 have lRDg7 : w.heap.size < g7 := by rw [hg7]; exact qh RD.o
 have lRPg7 : w.heap.size + 1 < g7 := by rw [hg7]; exact qh RP.o
 have lRQg7 : w.heap.size + 2 < g7 := by rw [hg7]; exact qh RQ.o
 have lRZg7 : w.heap.size + 3 < g7 := by rw [hg7]; exact qh RZ.o
 have RD' : Hid (qi W2 w.heap.size (fA d) 95) := by rw [hW2]; exact (zc _ _ _ _ (by omega)).trans ((zb _ _ (by omega)).trans RD.o)
 have RP' : Hid (qi W2 (w.heap.size + 1) (qA p) 98) := by rw [hW2]; exact (zc _ _ _ _ (by omega)).trans ((zb _ _ (by omega)).trans RP.o)
 have RQ' : Hid (qi W2 (w.heap.size + 2) (qA q) 98) := by rw [hW2]; exact (zc _ _ _ _ (by omega)).trans ((zb _ _ (by omega)).trans RQ.o)
 have RZ' : Hid (qi W2 (w.heap.size + 3) (qA q0) 98) := by rw [hW2]; exact (zc _ _ _ _ (by omega)).trans ((zb _ _ (by omega)).trans RZ.o)
 have R7 : Hid (qi W2 g7 (fA z) 95) := by rw [hW2, hg7]; exact zd _ _ _ _ _ _ (za _ _)
 have BL' : Hid (zB w W2) := by rw [hW2]; exact ze (BL.o.alloc BL.o.size _) BL.o.size _
 rw [← hW2, ← hg7]
 clear hW2 hg7 BL RD RP RQ RZ
 have RD := RD'
 have RP := RP'
 have RQ := RQ'
 have RZ := RZ'
 have BL := BL'
 clear RD' RP' RQ' RZ' BL'
 go_wp2_with (first | (refine zL 95 (.tmp 7) (g7) (fA z) R7.o q7 (qO _) ?_))
 refine (Qb z z Hz.o Hz.o _).mono ?_
 rintro e W3 ⟨rfl, hB3⟩
 have RD := qa (qk RD.o hB3)
 have RP := qa (qk RP.o hB3)
 have RQ := qa (qk RQ.o hB3)
 have RZ := qa (qk RZ.o hB3)
 have R7 := qa (qk R7.o hB3)
 have BL := qq BL hB3
 clear hB3
 obtain ⟨zz, Ezz⟩ := zx (mP z z)
 have Hzz : Hid (zz < P) := by rw [Ezz.o]; exact qK _ _
 rw [← Ezz.o]
 go_upto_region 3 with (first | (refine qB 95 (.tmp 8) (.tmp 22) W3.heap.size (fA zz) (za _ _) (qO _) (jo _ _) (jn _) ?_))
 obtain ⟨g8, hg8⟩ := zy W3.heap.size
 obtain ⟨W4, hW4⟩ := zy ((W3.alloc (.cells (fA 0) 95)).setRow W3.heap.size (fA zz))
 have lRDg8 : w.heap.size < g8 := by rw [hg8]; exact qh RD.o
 have lRPg8 : w.heap.size + 1 < g8 := by rw [hg8]; exact qh RP.o
 have lRQg8 : w.heap.size + 2 < g8 := by rw [hg8]; exact qh RQ.o
 have lRZg8 : w.heap.size + 3 < g8 := by rw [hg8]; exact qh RZ.o
 have lR7g8 : g7 < g8 := by rw [hg8]; exact qh R7.o
 have RD' : Hid (qi W4 w.heap.size (fA d) 95) := by rw [hW4]; exact (zc _ _ _ _ (by omega)).trans ((zb _ _ (by omega)).trans RD.o)
 have RP' : Hid (qi W4 (w.heap.size + 1) (qA p) 98) := by rw [hW4]; exact (zc _ _ _ _ (by omega)).trans ((zb _ _ (by omega)).trans RP.o)
 have RQ' : Hid (qi W4 (w.heap.size + 2) (qA q) 98) := by rw [hW4]; exact (zc _ _ _ _ (by omega)).trans ((zb _ _ (by omega)).trans RQ.o)
 have RZ' : Hid (qi W4 (w.heap.size + 3) (qA q0) 98) := by rw [hW4]; exact (zc _ _ _ _ (by omega)).trans ((zb _ _ (by omega)).trans RZ.o)
 have R7' : Hid (qi W4 g7 (fA z) 95) := by rw [hW4]; exact (zc _ _ _ _ (by omega)).trans ((zb _ _ (by omega)).trans R7.o)
 have R8 : Hid (qi W4 g8 (fA zz) 95) := by rw [hW4, hg8]; exact zd _ _ _ _ _ _ (za _ _)
 have BL' : Hid (zB w W4) := by rw [hW4]; exact ze (BL.o.alloc BL.o.size _) BL.o.size _
 rw [← hW4, ← hg8]
 clear hW4 hg8 BL RD RP RQ RZ R7
 have RD := RD'
 have RP := RP'
 have RQ := RQ'
 have RZ := RZ'
 have R7 := R7'
 have BL := BL'
 clear RD' RP' RQ' RZ' R7' BL'
 go_wp2_with (first | (refine zG (by rfl) 95 (.tmp 23) (by rfl) (w.heap.size + 1) 0 (by rfl) (fL p.x) _ (JJ RP.o).1 q7 rfl (Yt _) ?_) | (refine zG (by rfl) 95 (.tmp 25) (by rfl) (w.heap.size + 2) 0 (by rfl) (fL q.x) _ (JJ RQ.o).1 q7 rfl (Yt _) ?_))
 simp only [qiZ]
 refine (Qb p.x q.x Hp.o.x Hq.o.x _).mono ?_
 rintro e W5 ⟨rfl, hB5⟩
 have RD := qa (qk RD.o hB5)
 have RP := qa (qk RP.o hB5)
 have RQ := qa (qk RQ.o hB5)
 have RZ := qa (qk RZ.o hB5)
 have R7 := qa (qk R7.o hB5)
 have R8 := qa (qk R8.o hB5)
 have BL := qq BL hB5
 clear hB5
 obtain ⟨xx, Exx⟩ := zx (mP p.x q.x)
 have Hxx : Hid (xx < P) := by rw [Exx.o]; exact qK _ _
 rw [← Exx.o]
 go_upto_region 4 with (first | (refine qB 95 (.tmp 9) (.tmp 27) W5.heap.size (fA xx) (za _ _) (qO _) (jo _ _) (jn _) ?_))
 obtain ⟨g9, hg9⟩ := zy W5.heap.size
 obtain ⟨W6, hW6⟩ := zy ((W5.alloc (.cells (fA 0) 95)).setRow W5.heap.size (fA xx))
 have lRDg9 : w.heap.size < g9 := by rw [hg9]; exact qh RD.o
 have lRPg9 : w.heap.size + 1 < g9 := by rw [hg9]; exact qh RP.o
 have lRQg9 : w.heap.size + 2 < g9 := by rw [hg9]; exact qh RQ.o
 have lRZg9 : w.heap.size + 3 < g9 := by rw [hg9]; exact qh RZ.o
 have lR7g9 : g7 < g9 := by rw [hg9]; exact qh R7.o
 have lR8g9 : g8 < g9 := by rw [hg9]; exact qh R8.o
 have RD' : Hid (qi W6 w.heap.size (fA d) 95) := by rw [hW6]; exact (zc _ _ _ _ (by omega)).trans ((zb _ _ (by omega)).trans RD.o)
 have RP' : Hid (qi W6 (w.heap.size + 1) (qA p) 98) := by rw [hW6]; exact (zc _ _ _ _ (by omega)).trans ((zb _ _ (by omega)).trans RP.o)
 have RQ' : Hid (qi W6 (w.heap.size + 2) (qA q) 98) := by rw [hW6]; exact (zc _ _ _ _ (by omega)).trans ((zb _ _ (by omega)).trans RQ.o)
 have RZ' : Hid (qi W6 (w.heap.size + 3) (qA q0) 98) := by rw [hW6]; exact (zc _ _ _ _ (by omega)).trans ((zb _ _ (by omega)).trans RZ.o)
 have R7' : Hid (qi W6 g7 (fA z) 95) := by rw [hW6]; exact (zc _ _ _ _ (by omega)).trans ((zb _ _ (by omega)).trans R7.o)
 have R8' : Hid (qi W6 g8 (fA zz) 95) := by rw [hW6]; exact (zc _ _ _ _ (by omega)).trans ((zb _ _ (by omega)).trans R8.o)
 have R9 : Hid (qi W6 g9 (fA xx) 95) := by rw [hW6, hg9]; exact zd _ _ _ _ _ _ (za _ _)
 have BL' : Hid (zB w W6) := by rw [hW6]; exact ze (BL.o.alloc BL.o.size _) BL.o.size _
 rw [← hW6, ← hg9]
 clear hW6 hg9 BL RD RP RQ RZ R7 R8
 have RD := RD'
 have RP := RP'
 have RQ := RQ'
 have RZ := RZ'
 have R7 := R7'
 have R8 := R8'
 have BL := BL'
 clear RD' RP' RQ' RZ' R7' R8' BL'
 go_wp2_with (first | (refine zG (by rfl) 95 (.tmp 28) (by rfl) (w.heap.size + 1) 10 (by rfl) (fL p.y) _ (JJ RP.o).2.1 q7 rfl (Yt _) ?_) | (refine zG (by rfl) 95 (.tmp 30) (by rfl) (w.heap.size + 2) 10 (by rfl) (fL q.y) _ (JJ RQ.o).2.1 q7 rfl (Yt _) ?_))
 simp only [qiZ]
 refine (Qb p.y q.y Hp.o.y Hq.o.y _).mono ?_
 rintro e W7 ⟨rfl, hB7⟩
 have RD := qa (qk RD.o hB7)
 have RP := qa (qk RP.o hB7)
 have RQ := qa (qk RQ.o hB7)
 have RZ := qa (qk RZ.o hB7)
 have R7 := qa (qk R7.o hB7)
 have R8 := qa (qk R8.o hB7)
 have R9 := qa (qk R9.o hB7)
 have BL := qq BL hB7
 clear hB7
 obtain ⟨yy, Eyy⟩ := zx (mP p.y q.y)
 have Hyy : Hid (yy < P) := by rw [Eyy.o]; exact qK _ _
 rw [← Eyy.o]
 go_wp2_with (first | (refine qB 95 (.tmp 10) (.tmp 32) W7.heap.size (fA yy) (za _ _) (qO _) (jo _ _) (jn _) ?_))
 obtain ⟨g10, hg10⟩ := zy W7.heap.size
 obtain ⟨W8, hW8⟩ := zy ((W7.alloc (.cells (fA 0) 95)).setRow W7.heap.size (fA yy))
 have lRDg10 : w.heap.size < g10 := by rw [hg10]; exact qh RD.o
 have lRPg10 : w.heap.size + 1 < g10 := by rw [hg10]; exact qh RP.o
 have lRQg10 : w.heap.size + 2 < g10 := by rw [hg10]; exact qh RQ.o
 have lRZg10 : w.heap.size + 3 < g10 := by rw [hg10]; exact qh RZ.o
 have lR7g10 : g7 < g10 := by rw [hg10]; exact qh R7.o
 have lR8g10 : g8 < g10 := by rw [hg10]; exact qh R8.o
 have lR9g10 : g9 < g10 := by rw [hg10]; exact qh R9.o
 have RD' : Hid (qi W8 w.heap.size (fA d) 95) := by rw [hW8]; exact (zc _ _ _ _ (by omega)).trans ((zb _ _ (by omega)).trans RD.o)
 have RP' : Hid (qi W8 (w.heap.size + 1) (qA p) 98) := by rw [hW8]; exact (zc _ _ _ _ (by omega)).trans ((zb _ _ (by omega)).trans RP.o)
 have RQ' : Hid (qi W8 (w.heap.size + 2) (qA q) 98) := by rw [hW8]; exact (zc _ _ _ _ (by omega)).trans ((zb _ _ (by omega)).trans RQ.o)
 have RZ' : Hid (qi W8 (w.heap.size + 3) (qA q0) 98) := by rw [hW8]; exact (zc _ _ _ _ (by omega)).trans ((zb _ _ (by omega)).trans RZ.o)
 have R7' : Hid (qi W8 g7 (fA z) 95) := by rw [hW8]; exact (zc _ _ _ _ (by omega)).trans ((zb _ _ (by omega)).trans R7.o)
 have R8' : Hid (qi W8 g8 (fA zz) 95) := by rw [hW8]; exact (zc _ _ _ _ (by omega)).trans ((zb _ _ (by omega)).trans R8.o)
 have R9' : Hid (qi W8 g9 (fA xx) 95) := by rw [hW8]; exact (zc _ _ _ _ (by omega)).trans ((zb _ _ (by omega)).trans R9.o)
 have R10 : Hid (qi W8 g10 (fA yy) 95) := by rw [hW8, hg10]; exact zd _ _ _ _ _ _ (za _ _)
 have BL' : Hid (zB w W8) := by rw [hW8]; exact ze (BL.o.alloc BL.o.size _) BL.o.size _
 rw [qH, ← hW8, ← hg10]
 clear hW8 hg10 BL RD RP RQ RZ R7 R8 R9
 have RD := RD'
 have RP := RP'
 have RQ := RQ'
 have RZ := RZ'
 have R7 := R7'
 have R8 := R8'
 have R9 := R9'
 have BL := BL'
 clear RD' RP' RQ' RZ' R7' R8' R9' BL'
 go_cut [11] from 33 to 37 (fun s wx => ∃ g, s = zp g 0 ∧ Hid (W8.heap.size ≤ g) ∧ Hid (qi wx g ((fA (mP d (mP xx yy)))) 95) ∧ Hid (zB W8 wx))
 case first =>
  refine zM (S := fun w' => w'.rangeAt (w.heap.size) 0 (fL d) ∧ w'.rangeAt (g9) 0 (fL xx) ∧ w'.rangeAt (g10) 0 (fL yy)) (by kernel_rfl) (by exact ⟨QU RD.o, QU R9.o, QU R10.o⟩) (fun hHeld => ?_)
  obtain ⟨V1, hV1⟩ := zy W8.drew
  rw [← hV1] at hHeld ⊢
  have KV1 : Hid (zB W8 V1) := by rw [hV1]; exact (zJ _ _).drew
  clear hV1
  refine zT 0 ⟨some 33, .load 95 (.tmp 3), 95, "point.go:14", #[], none⟩ (.agg (fA d)) (jX (by rfl) _ rfl (w.heap.size) 0 d rfl (fun w h => h.1)) ?_
  simp only [qd]
  refine zT 1 ⟨some 34, .load 95 (.tmp 9), 95, "point.go:14", #[], none⟩ (.agg (fA xx)) (jX (by rfl) _ rfl (g9) 0 xx rfl (fun w h => h.2.1)) ?_
  simp only [qd]
  refine zT 2 ⟨some 35, .load 95 (.tmp 10), 95, "point.go:14", #[], none⟩ (.agg (fA yy)) (jX (by rfl) _ rfl (g10) 0 yy rfl (fun w h => h.2.2)) ?_
  simp only [qd]
  refine zW [3, 5] ?_
  refine zK yas (fun K hK => ?_) ?_
  ·
   refine zE (Jn _ _ rfl (.agg (fA xx)) (.agg (fA yy)) rfl rfl V1) (Qb xx yy Hxx.o Hyy.o V1) fun V2 HBx => ?_
   have KV2 := qq KV1 HBx
   clear HBx
   refine hK.o _ _ (⟨qE RD KV2, qE R9 KV2, qE R10 KV2⟩) fun hHeld => ?_
   try simp only [qd]
   refine zW [4, 5] ?_
   refine zK yaq (fun K hK => ?_) ?_
   ·
    refine zE (Jn _ _ rfl (.agg (fA d)) (.agg (fA (mP xx yy))) rfl rfl V2) (Qb d (mP xx yy) Hd.o (qK _ _) V2) fun V3 HBx => ?_
    have KV3 := qq KV2 HBx
    clear HBx
    refine hK.o _ _ (⟨qE RD KV3, qE R9 KV3, qE R10 KV3⟩) fun hHeld => ?_
    try simp only [qd]
    refine zW [5] ?_
    refine zK qdC (fun K hK => ?_) ?_
    ·
     refine zA (yi rfl V3) ?_
     obtain ⟨g4, hg4⟩ := zy V3.heap.size
     have ZN : Hid ((V3.alloc (.cells (fA 0) 95)).heap[g4]? = some (.cells (fA 0) 95)) := by rw [hg4]; exact za _ _
     have KV4 := qZ KV3 (.cells (fA 0) 95)
     have GG : Hid (W8.heap.size ≤ g4) := by rw [hg4]; exact KV3.o.size
     rw [← hg4]
     obtain ⟨V4, hV4⟩ := zy (V3.alloc (.cells (fA 0) 95))
     rw [← hV4] at ZN KV4 ⊢
     clear hV4 hg4
     refine hK.o _ _ (⟨qE RD KV4, qE R9 KV4, qE R10 KV4⟩) fun hHeld => ?_
     try simp only [qd]
     refine zW [6] ?_
     refine zK qdS (fun K hK => ?_) ?_
     ·
      refine zQ 95 (.tmp 11) (.tmp 37) (g4) (fA (mP d (mP xx yy))) ZN.o (qO _) (jo _ _) (jn _) ?_
      rw [qH]
      refine hK.o _ _ (⟨qF (qE RD KV4) (zn (zl (qh RD.o) GG.o)), qF (qE R9 KV4) (zn (zl (qh R9.o) GG.o)), qF (qE R10 KV4) (zn (zl (qh R10.o) GG.o))⟩) fun hHeld => ?_
      try simp only [qd]
      refine zi (by kernel_rfl) ?_ _
      go_wp2_with fail
      go_meet
      case rel => exact ⟨g4, rfl, GG, qa (zd _ _ _ _ _ _ ZN.o), qa (ze KV4.o GG.o _)⟩
     exact zu
    exact zu
   refine zK qdC (fun K hK => ?_) ?_
   ·
    refine zA (yi rfl V2) ?_
    obtain ⟨g5, hg5⟩ := zy V2.heap.size
    have ZN : Hid ((V2.alloc (.cells (fA 0) 95)).heap[g5]? = some (.cells (fA 0) 95)) := by rw [hg5]; exact za _ _
    have KV5 := qZ KV2 (.cells (fA 0) 95)
    have GG : Hid (W8.heap.size ≤ g5) := by rw [hg5]; exact KV2.o.size
    rw [← hg5]
    obtain ⟨V5, hV5⟩ := zy (V2.alloc (.cells (fA 0) 95))
    rw [← hV5] at ZN KV5 ⊢
    clear hV5 hg5
    refine hK.o _ _ (⟨qE RD KV5, qE R9 KV5, qE R10 KV5⟩) fun hHeld => ?_
    try simp only [qd]
    refine zW [4] ?_
    refine zK yaq (fun K hK => ?_) ?_
    ·
     refine zE (Jn _ _ rfl (.agg (fA d)) (.agg (fA (mP xx yy))) rfl rfl V5) (Qb d (mP xx yy) Hd.o (qK _ _) V5) fun V6 HBx => ?_
     have KV6 := qq KV5 HBx
     have ZN := qa (qk ZN.o HBx)
     clear HBx
     refine hK.o _ _ (⟨qE RD KV6, qE R9 KV6, qE R10 KV6⟩) fun hHeld => ?_
     try simp only [qd]
     refine zW [6] ?_
     refine zK qdS (fun K hK => ?_) ?_
     ·
      refine zQ 95 (.tmp 11) (.tmp 37) (g5) (fA (mP d (mP xx yy))) ZN.o (qO _) (jo _ _) (jn _) ?_
      rw [qH]
      refine hK.o _ _ (⟨qF (qE RD KV6) (zn (zl (qh RD.o) GG.o)), qF (qE R9 KV6) (zn (zl (qh R9.o) GG.o)), qF (qE R10 KV6) (zn (zl (qh R10.o) GG.o))⟩) fun hHeld => ?_
      try simp only [qd]
      refine zi (by kernel_rfl) ?_ _
      go_wp2_with fail
      go_meet
      case rel => exact ⟨g5, rfl, GG, qa (zd _ _ _ _ _ _ ZN.o), qa (ze KV6.o GG.o _)⟩
     exact zu
    exact zu
   exact zu
  refine zK qdC (fun K hK => ?_) ?_
  ·
   refine zA (yi rfl V1) ?_
   obtain ⟨g7, hg7⟩ := zy V1.heap.size
   have ZN : Hid ((V1.alloc (.cells (fA 0) 95)).heap[g7]? = some (.cells (fA 0) 95)) := by rw [hg7]; exact za _ _
   have KV7 := qZ KV1 (.cells (fA 0) 95)
   have GG : Hid (W8.heap.size ≤ g7) := by rw [hg7]; exact KV1.o.size
   rw [← hg7]
   obtain ⟨V7, hV7⟩ := zy (V1.alloc (.cells (fA 0) 95))
   rw [← hV7] at ZN KV7 ⊢
   clear hV7 hg7
   refine hK.o _ _ (⟨qE RD KV7, qE R9 KV7, qE R10 KV7⟩) fun hHeld => ?_
   try simp only [qd]
   refine zW [3] ?_
   refine zK yas (fun K hK => ?_) ?_
   ·
    refine zE (Jn _ _ rfl (.agg (fA xx)) (.agg (fA yy)) rfl rfl V7) (Qb xx yy Hxx.o Hyy.o V7) fun V8 HBx => ?_
    have KV8 := qq KV7 HBx
    have ZN := qa (qk ZN.o HBx)
    clear HBx
    refine hK.o _ _ (⟨qE RD KV8, qE R9 KV8, qE R10 KV8⟩) fun hHeld => ?_
    try simp only [qd]
    refine zW [4] ?_
    refine zK yaq (fun K hK => ?_) ?_
    ·
     refine zE (Jn _ _ rfl (.agg (fA d)) (.agg (fA (mP xx yy))) rfl rfl V8) (Qb d (mP xx yy) Hd.o (qK _ _) V8) fun V9 HBx => ?_
     have KV9 := qq KV8 HBx
     have ZN := qa (qk ZN.o HBx)
     clear HBx
     refine hK.o _ _ (⟨qE RD KV9, qE R9 KV9, qE R10 KV9⟩) fun hHeld => ?_
     try simp only [qd]
     refine zW [6] ?_
     refine zK qdS (fun K hK => ?_) ?_
     ·
      refine zQ 95 (.tmp 11) (.tmp 37) (g7) (fA (mP d (mP xx yy))) ZN.o (qO _) (jo _ _) (jn _) ?_
      rw [qH]
      refine hK.o _ _ (⟨qF (qE RD KV9) (zn (zl (qh RD.o) GG.o)), qF (qE R9 KV9) (zn (zl (qh R9.o) GG.o)), qF (qE R10 KV9) (zn (zl (qh R10.o) GG.o))⟩) fun hHeld => ?_
      try simp only [qd]
      refine zi (by kernel_rfl) ?_ _
      go_wp2_with fail
      go_meet
      case rel => exact ⟨g7, rfl, GG, qa (zd _ _ _ _ _ _ ZN.o), qa (ze KV9.o GG.o _)⟩
     exact zu
    exact zu
   exact zu
  exact zu
 case rest =>
 obtain ⟨g11, rfl, Gg11, R11, Xg11⟩ := hcut
 obtain ⟨W9, hW⟩ := zy wc
 subst hW
 have lRDg11 : w.heap.size < g11 := zl (qh RD.o) Gg11.o
 have lRPg11 : w.heap.size + 1 < g11 := zl (qh RP.o) Gg11.o
 have lRQg11 : w.heap.size + 2 < g11 := zl (qh RQ.o) Gg11.o
 have lRZg11 : w.heap.size + 3 < g11 := zl (qh RZ.o) Gg11.o
 have lR7g11 : g7 < g11 := zl (qh R7.o) Gg11.o
 have lR8g11 : g8 < g11 := zl (qh R8.o) Gg11.o
 have lR9g11 : g9 < g11 := zl (qh R9.o) Gg11.o
 have lR10g11 : g10 < g11 := zl (qh R10.o) Gg11.o
 have RD := qa (qs RD.o Xg11.o (qh RD.o))
 have RP := qa (qs RP.o Xg11.o (qh RP.o))
 have RQ := qa (qs RQ.o Xg11.o (qh RQ.o))
 have RZ := qa (qs RZ.o Xg11.o (qh RZ.o))
 have R7 := qa (qs R7.o Xg11.o (qh R7.o))
 have R8 := qa (qs R8.o Xg11.o (qh R8.o))
 have R9 := qa (qs R9.o Xg11.o (qh R9.o))
 have R10 := qa (qs R10.o Xg11.o (qh R10.o))
 have BL : Hid (zB w W9) := BL.o.trans (Xg11.o.mono BL.o.size)
 clear Xg11 Gg11
 obtain ⟨e, Ee⟩ := zx (mP d (mP xx yy))
 have He : Hid (e < P) := by rw [Ee.o]; exact qK _ _
 rw [← Ee.o] at R11
 go_wp2_with (first | (refine zL 95 (.tmp 8) (g8) (fA zz) R8.o q7 (qO _) ?_) | (refine zL 95 (.tmp 11) (g11) (fA e) R11.o q7 (qO _) ?_))
 refine (ku zz e Hzz.o He.o _).mono ?_
 rintro e W10 ⟨rfl, hB10⟩
 have RD := qa (qk RD.o hB10)
 have RP := qa (qk RP.o hB10)
 have RQ := qa (qk RQ.o hB10)
 have RZ := qa (qk RZ.o hB10)
 have R7 := qa (qk R7.o hB10)
 have R8 := qa (qk R8.o hB10)
 have R9 := qa (qk R9.o hB10)
 have R10 := qa (qk R10.o hB10)
 have R11 := qa (qk R11.o hB10)
 have BL := qq BL hB10
 clear hB10
 obtain ⟨f, Ef⟩ := zx (sP zz e)
 have Hf : Hid (f < P) := by rw [Ef.o]; exact jR _ _
 rw [← Ef.o]
 go_upto_region 7 with (first | (refine qB 95 (.tmp 12) (.tmp 40) W10.heap.size (fA f) (za _ _) (qO _) (jo _ _) (jn _) ?_))
 obtain ⟨g12, hg12⟩ := zy W10.heap.size
 obtain ⟨W11, hW11⟩ := zy ((W10.alloc (.cells (fA 0) 95)).setRow W10.heap.size (fA f))
 have lRDg12 : w.heap.size < g12 := by rw [hg12]; exact qh RD.o
 have lRPg12 : w.heap.size + 1 < g12 := by rw [hg12]; exact qh RP.o
 have lRQg12 : w.heap.size + 2 < g12 := by rw [hg12]; exact qh RQ.o
 have lRZg12 : w.heap.size + 3 < g12 := by rw [hg12]; exact qh RZ.o
 have lR7g12 : g7 < g12 := by rw [hg12]; exact qh R7.o
 have lR8g12 : g8 < g12 := by rw [hg12]; exact qh R8.o
 have lR9g12 : g9 < g12 := by rw [hg12]; exact qh R9.o
 have lR10g12 : g10 < g12 := by rw [hg12]; exact qh R10.o
 have lR11g12 : g11 < g12 := by rw [hg12]; exact qh R11.o
 have RD' : Hid (qi W11 w.heap.size (fA d) 95) := by rw [hW11]; exact (zc _ _ _ _ (by omega)).trans ((zb _ _ (by omega)).trans RD.o)
 have RP' : Hid (qi W11 (w.heap.size + 1) (qA p) 98) := by rw [hW11]; exact (zc _ _ _ _ (by omega)).trans ((zb _ _ (by omega)).trans RP.o)
 have RQ' : Hid (qi W11 (w.heap.size + 2) (qA q) 98) := by rw [hW11]; exact (zc _ _ _ _ (by omega)).trans ((zb _ _ (by omega)).trans RQ.o)
 have RZ' : Hid (qi W11 (w.heap.size + 3) (qA q0) 98) := by rw [hW11]; exact (zc _ _ _ _ (by omega)).trans ((zb _ _ (by omega)).trans RZ.o)
 have R7' : Hid (qi W11 g7 (fA z) 95) := by rw [hW11]; exact (zc _ _ _ _ (by omega)).trans ((zb _ _ (by omega)).trans R7.o)
 have R8' : Hid (qi W11 g8 (fA zz) 95) := by rw [hW11]; exact (zc _ _ _ _ (by omega)).trans ((zb _ _ (by omega)).trans R8.o)
 have R9' : Hid (qi W11 g9 (fA xx) 95) := by rw [hW11]; exact (zc _ _ _ _ (by omega)).trans ((zb _ _ (by omega)).trans R9.o)
 have R10' : Hid (qi W11 g10 (fA yy) 95) := by rw [hW11]; exact (zc _ _ _ _ (by omega)).trans ((zb _ _ (by omega)).trans R10.o)
 have R11' : Hid (qi W11 g11 (fA e) 95) := by rw [hW11]; exact (zc _ _ _ _ (by omega)).trans ((zb _ _ (by omega)).trans R11.o)
 have R12 : Hid (qi W11 g12 (fA f) 95) := by rw [hW11, hg12]; exact zd _ _ _ _ _ _ (za _ _)
 have BL' : Hid (zB w W11) := by rw [hW11]; exact ze (BL.o.alloc BL.o.size _) BL.o.size _
 rw [← hW11, ← hg12]
 clear hW11 hg12 BL RD RP RQ RZ R7 R8 R9 R10 R11
 have RD := RD'
 have RP := RP'
 have RQ := RQ'
 have RZ := RZ'
 have R7 := R7'
 have R8 := R8'
 have R9 := R9'
 have R10 := R10'
 have R11 := R11'
 have BL := BL'
 clear RD' RP' RQ' RZ' R7' R8' R9' R10' R11' BL'
 go_wp2_with (first | (refine zL 95 (.tmp 8) (g8) (fA zz) R8.o q7 (qO _) ?_) | (refine zL 95 (.tmp 11) (g11) (fA e) R11.o q7 (qO _) ?_))
 refine (qqQ zz e Hzz.o He.o _).mono ?_
 rintro e W12 ⟨rfl, hB12⟩
 have RD := qa (qk RD.o hB12)
 have RP := qa (qk RP.o hB12)
 have RQ := qa (qk RQ.o hB12)
 have RZ := qa (qk RZ.o hB12)
 have R7 := qa (qk R7.o hB12)
 have R8 := qa (qk R8.o hB12)
 have R9 := qa (qk R9.o hB12)
 have R10 := qa (qk R10.o hB12)
 have R11 := qa (qk R11.o hB12)
 have R12 := qa (qk R12.o hB12)
 have BL := qq BL hB12
 clear hB12
 obtain ⟨h, Eh⟩ := zx (aP zz e)
 have Hh : Hid (h < P) := by rw [Eh.o]; exact QF _ _
 rw [← Eh.o]
 go_wp2_with (first | (refine qB 95 (.tmp 13) (.tmp 43) W12.heap.size (fA h) (za _ _) (qO _) (jo _ _) (jn _) ?_))
 obtain ⟨g13, hg13⟩ := zy W12.heap.size
 obtain ⟨W13, hW13⟩ := zy ((W12.alloc (.cells (fA 0) 95)).setRow W12.heap.size (fA h))
 have lRDg13 : w.heap.size < g13 := by rw [hg13]; exact qh RD.o
 have lRPg13 : w.heap.size + 1 < g13 := by rw [hg13]; exact qh RP.o
 have lRQg13 : w.heap.size + 2 < g13 := by rw [hg13]; exact qh RQ.o
 have lRZg13 : w.heap.size + 3 < g13 := by rw [hg13]; exact qh RZ.o
 have lR7g13 : g7 < g13 := by rw [hg13]; exact qh R7.o
 have lR8g13 : g8 < g13 := by rw [hg13]; exact qh R8.o
 have lR9g13 : g9 < g13 := by rw [hg13]; exact qh R9.o
 have lR10g13 : g10 < g13 := by rw [hg13]; exact qh R10.o
 have lR11g13 : g11 < g13 := by rw [hg13]; exact qh R11.o
 have lR12g13 : g12 < g13 := by rw [hg13]; exact qh R12.o
 have RD' : Hid (qi W13 w.heap.size (fA d) 95) := by rw [hW13]; exact (zc _ _ _ _ (by omega)).trans ((zb _ _ (by omega)).trans RD.o)
 have RP' : Hid (qi W13 (w.heap.size + 1) (qA p) 98) := by rw [hW13]; exact (zc _ _ _ _ (by omega)).trans ((zb _ _ (by omega)).trans RP.o)
 have RQ' : Hid (qi W13 (w.heap.size + 2) (qA q) 98) := by rw [hW13]; exact (zc _ _ _ _ (by omega)).trans ((zb _ _ (by omega)).trans RQ.o)
 have RZ' : Hid (qi W13 (w.heap.size + 3) (qA q0) 98) := by rw [hW13]; exact (zc _ _ _ _ (by omega)).trans ((zb _ _ (by omega)).trans RZ.o)
 have R7' : Hid (qi W13 g7 (fA z) 95) := by rw [hW13]; exact (zc _ _ _ _ (by omega)).trans ((zb _ _ (by omega)).trans R7.o)
 have R8' : Hid (qi W13 g8 (fA zz) 95) := by rw [hW13]; exact (zc _ _ _ _ (by omega)).trans ((zb _ _ (by omega)).trans R8.o)
 have R9' : Hid (qi W13 g9 (fA xx) 95) := by rw [hW13]; exact (zc _ _ _ _ (by omega)).trans ((zb _ _ (by omega)).trans R9.o)
 have R10' : Hid (qi W13 g10 (fA yy) 95) := by rw [hW13]; exact (zc _ _ _ _ (by omega)).trans ((zb _ _ (by omega)).trans R10.o)
 have R11' : Hid (qi W13 g11 (fA e) 95) := by rw [hW13]; exact (zc _ _ _ _ (by omega)).trans ((zb _ _ (by omega)).trans R11.o)
 have R12' : Hid (qi W13 g12 (fA f) 95) := by rw [hW13]; exact (zc _ _ _ _ (by omega)).trans ((zb _ _ (by omega)).trans R12.o)
 have R13 : Hid (qi W13 g13 (fA h) 95) := by rw [hW13, hg13]; exact zd _ _ _ _ _ _ (za _ _)
 have BL' : Hid (zB w W13) := by rw [hW13]; exact ze (BL.o.alloc BL.o.size _) BL.o.size _
 rw [qH, ← hW13, ← hg13]
 clear hW13 hg13 BL RD RP RQ RZ R7 R8 R9 R10 R11 R12
 have RD := RD'
 have RP := RP'
 have RQ := RQ'
 have RZ := RZ'
 have R7 := R7'
 have R8 := R8'
 have R9 := R9'
 have R10 := R10'
 have R11 := R11'
 have R12 := R12'
 have BL := BL'
 clear RD' RP' RQ' RZ' R7' R8' R9' R10' R11' R12' BL'
 go_cut [14] from 44 to 54 (fun s wx => ∃ g, s = zp g 0 ∧ Hid (W13.heap.size ≤ g) ∧ Hid (qi wx g ((fA (aP (mP p.x q.y) (mP q.x p.y)))) 95) ∧ Hid (zB W13 wx))
 case first =>
  refine zM (S := fun w' => w'.rangeAt (w.heap.size + 1) 0 (fL p.x) ∧ w'.rangeAt (w.heap.size + 2) 10 (fL q.y) ∧ w'.rangeAt (w.heap.size + 2) 0 (fL q.x) ∧ w'.rangeAt (w.heap.size + 1) 10 (fL p.y)) (by kernel_rfl) (by exact ⟨(JJ RP.o).1, (JJ RQ.o).2.1, (JJ RQ.o).1, (JJ RP.o).2.1⟩) (fun hHeld => ?_)
  obtain ⟨V10, hV10⟩ := zy W13.drew
  rw [← hV10] at hHeld ⊢
  have KV10 : Hid (zB W13 V10) := by rw [hV10]; exact (zJ _ _).drew
  clear hV10
  refine zU 0 ⟨some 44, .fieldAddr 98 (.tmp 4) 0, 0, "point.go:17", #[], none⟩ (zp (w.heap.size + 1) 0) ?_
  simp only [qd]
  refine zT 1 ⟨some 45, .load 95 (.tmp 44), 95, "point.go:17", #[ql 0], none⟩ (.agg (fA p.x)) (jX (by rfl) _ rfl (w.heap.size + 1) 0 p.x rfl (fun w h => h.1)) ?_
  simp only [qd]
  refine zU 2 ⟨some 46, .fieldAddr 98 (.tmp 5) 1, 0, "point.go:17", #[], none⟩ (zp (w.heap.size + 2) 10) ?_
  simp only [qd]
  refine zT 3 ⟨some 47, .load 95 (.tmp 46), 95, "point.go:17", #[ql 2], none⟩ (.agg (fA q.y)) (jX (by rfl) _ rfl (w.heap.size + 2) 10 q.y rfl (fun w h => h.2.1)) ?_
  simp only [qd]
  refine zU 5 ⟨some 49, .fieldAddr 98 (.tmp 5) 0, 0, "point.go:17", #[], none⟩ (zp (w.heap.size + 2) 0) ?_
  simp only [qd]
  refine zT 6 ⟨some 50, .load 95 (.tmp 49), 95, "point.go:17", #[ql 5], none⟩ (.agg (fA q.x)) (jX (by rfl) _ rfl (w.heap.size + 2) 0 q.x rfl (fun w h => h.2.2.1)) ?_
  simp only [qd]
  refine zU 7 ⟨some 51, .fieldAddr 98 (.tmp 4) 1, 0, "point.go:17", #[], none⟩ (zp (w.heap.size + 1) 10) ?_
  simp only [qd]
  refine zT 8 ⟨some 52, .load 95 (.tmp 51), 95, "point.go:17", #[ql 7], none⟩ (.agg (fA p.y)) (jX (by rfl) _ rfl (w.heap.size + 1) 10 p.y rfl (fun w h => h.2.2.2)) ?_
  simp only [qd]
  refine zW [4, 11] ?_
  refine zK yat (fun K hK => ?_) ?_
  ·
   refine zE (Jn _ _ rfl (.agg (fA p.x)) (.agg (fA q.y)) rfl rfl V10) (Qb p.x q.y Hp.o.x Hq.o.y V10) fun V11 HBx => ?_
   have KV11 := qq KV10 HBx
   clear HBx
   refine hK.o _ _ (⟨j5 RP KV11, j0 RQ KV11, j5 RQ KV11, j0 RP KV11⟩) fun hHeld => ?_
   try simp only [qd]
   refine zW [9, 11] ?_
   refine zK yar (fun K hK => ?_) ?_
   ·
    refine zE (Jn _ _ rfl (.agg (fA q.x)) (.agg (fA p.y)) rfl rfl V11) (Qb q.x p.y Hq.o.x Hp.o.y V11) fun V12 HBx => ?_
    have KV12 := qq KV11 HBx
    clear HBx
    refine hK.o _ _ (⟨j5 RP KV12, j0 RQ KV12, j5 RQ KV12, j0 RP KV12⟩) fun hHeld => ?_
    try simp only [qd]
    refine zW [10, 11] ?_
    refine zK yap (fun K hK => ?_) ?_
    ·
     refine zE (qdi _ _ rfl (.agg (fA (mP p.x q.y))) (.agg (fA (mP q.x p.y))) rfl rfl V12) (qqQ (mP p.x q.y) (mP q.x p.y) (qK _ _) (qK _ _) V12) fun V13 HBx => ?_
     have KV13 := qq KV12 HBx
     clear HBx
     refine hK.o _ _ (⟨j5 RP KV13, j0 RQ KV13, j5 RQ KV13, j0 RP KV13⟩) fun hHeld => ?_
     try simp only [qd]
     refine zW [11] ?_
     refine zK qbr (fun K hK => ?_) ?_
     ·
      refine zA (yi rfl V13) ?_
      obtain ⟨g14, hg14⟩ := zy V13.heap.size
      have ZN : Hid ((V13.alloc (.cells (fA 0) 95)).heap[g14]? = some (.cells (fA 0) 95)) := by rw [hg14]; exact za _ _
      have KV14 := qZ KV13 (.cells (fA 0) 95)
      have GG : Hid (W13.heap.size ≤ g14) := by rw [hg14]; exact KV13.o.size
      rw [← hg14]
      obtain ⟨V14, hV14⟩ := zy (V13.alloc (.cells (fA 0) 95))
      rw [← hV14] at ZN KV14 ⊢
      clear hV14 hg14
      refine hK.o _ _ (⟨j5 RP KV14, j0 RQ KV14, j5 RQ KV14, j0 RP KV14⟩) fun hHeld => ?_
      try simp only [qd]
      refine zW [12] ?_
      refine zK qbp (fun K hK => ?_) ?_
      ·
       refine zQ 95 (.tmp 14) (.tmp 54) (g14) (fA (aP (mP p.x q.y) (mP q.x p.y))) ZN.o (qO _) (jo _ _) (jn _) ?_
       rw [qH]
       refine hK.o _ _ (⟨qF (j5 RP KV14) (zn (zl (qh RP.o) GG.o)), qF (j0 RQ KV14) (zn (zl (qh RQ.o) GG.o)), qF (j5 RQ KV14) (zn (zl (qh RQ.o) GG.o)), qF (j0 RP KV14) (zn (zl (qh RP.o) GG.o))⟩) fun hHeld => ?_
       try simp only [qd]
       refine zi (by kernel_rfl) ?_ _
       go_wp2_with fail
       go_meet
       case rel => exact ⟨g14, rfl, GG, qa (zd _ _ _ _ _ _ ZN.o), qa (ze KV14.o GG.o _)⟩
      exact zu
     exact zu
    refine zK qbr (fun K hK => ?_) ?_
    ·
     refine zA (yi rfl V12) ?_
     obtain ⟨g15, hg15⟩ := zy V12.heap.size
     have ZN : Hid ((V12.alloc (.cells (fA 0) 95)).heap[g15]? = some (.cells (fA 0) 95)) := by rw [hg15]; exact za _ _
     have KV15 := qZ KV12 (.cells (fA 0) 95)
     have GG : Hid (W13.heap.size ≤ g15) := by rw [hg15]; exact KV12.o.size
     rw [← hg15]
     obtain ⟨V15, hV15⟩ := zy (V12.alloc (.cells (fA 0) 95))
     rw [← hV15] at ZN KV15 ⊢
     clear hV15 hg15
     refine hK.o _ _ (⟨j5 RP KV15, j0 RQ KV15, j5 RQ KV15, j0 RP KV15⟩) fun hHeld => ?_
     try simp only [qd]
     refine zW [10] ?_
     refine zK yap (fun K hK => ?_) ?_
     ·
      refine zE (qdi _ _ rfl (.agg (fA (mP p.x q.y))) (.agg (fA (mP q.x p.y))) rfl rfl V15) (qqQ (mP p.x q.y) (mP q.x p.y) (qK _ _) (qK _ _) V15) fun V16 HBx => ?_
      have KV16 := qq KV15 HBx
      have ZN := qa (qk ZN.o HBx)
      clear HBx
      refine hK.o _ _ (⟨j5 RP KV16, j0 RQ KV16, j5 RQ KV16, j0 RP KV16⟩) fun hHeld => ?_
      try simp only [qd]
      refine zW [12] ?_
      refine zK qbp (fun K hK => ?_) ?_
      ·
       refine zQ 95 (.tmp 14) (.tmp 54) (g15) (fA (aP (mP p.x q.y) (mP q.x p.y))) ZN.o (qO _) (jo _ _) (jn _) ?_
       rw [qH]
       refine hK.o _ _ (⟨qF (j5 RP KV16) (zn (zl (qh RP.o) GG.o)), qF (j0 RQ KV16) (zn (zl (qh RQ.o) GG.o)), qF (j5 RQ KV16) (zn (zl (qh RQ.o) GG.o)), qF (j0 RP KV16) (zn (zl (qh RP.o) GG.o))⟩) fun hHeld => ?_
       try simp only [qd]
       refine zi (by kernel_rfl) ?_ _
       go_wp2_with fail
       go_meet
       case rel => exact ⟨g15, rfl, GG, qa (zd _ _ _ _ _ _ ZN.o), qa (ze KV16.o GG.o _)⟩
      exact zu
     exact zu
    exact zu
   refine zK qbr (fun K hK => ?_) ?_
   ·
    refine zA (yi rfl V11) ?_
    obtain ⟨g17, hg17⟩ := zy V11.heap.size
    have ZN : Hid ((V11.alloc (.cells (fA 0) 95)).heap[g17]? = some (.cells (fA 0) 95)) := by rw [hg17]; exact za _ _
    have KV17 := qZ KV11 (.cells (fA 0) 95)
    have GG : Hid (W13.heap.size ≤ g17) := by rw [hg17]; exact KV11.o.size
    rw [← hg17]
    obtain ⟨V17, hV17⟩ := zy (V11.alloc (.cells (fA 0) 95))
    rw [← hV17] at ZN KV17 ⊢
    clear hV17 hg17
    refine hK.o _ _ (⟨j5 RP KV17, j0 RQ KV17, j5 RQ KV17, j0 RP KV17⟩) fun hHeld => ?_
    try simp only [qd]
    refine zW [9] ?_
    refine zK yar (fun K hK => ?_) ?_
    ·
     refine zE (Jn _ _ rfl (.agg (fA q.x)) (.agg (fA p.y)) rfl rfl V17) (Qb q.x p.y Hq.o.x Hp.o.y V17) fun V18 HBx => ?_
     have KV18 := qq KV17 HBx
     have ZN := qa (qk ZN.o HBx)
     clear HBx
     refine hK.o _ _ (⟨j5 RP KV18, j0 RQ KV18, j5 RQ KV18, j0 RP KV18⟩) fun hHeld => ?_
     try simp only [qd]
     refine zW [10] ?_
     refine zK yap (fun K hK => ?_) ?_
     ·
      refine zE (qdi _ _ rfl (.agg (fA (mP p.x q.y))) (.agg (fA (mP q.x p.y))) rfl rfl V18) (qqQ (mP p.x q.y) (mP q.x p.y) (qK _ _) (qK _ _) V18) fun V19 HBx => ?_
      have KV19 := qq KV18 HBx
      have ZN := qa (qk ZN.o HBx)
      clear HBx
      refine hK.o _ _ (⟨j5 RP KV19, j0 RQ KV19, j5 RQ KV19, j0 RP KV19⟩) fun hHeld => ?_
      try simp only [qd]
      refine zW [12] ?_
      refine zK qbp (fun K hK => ?_) ?_
      ·
       refine zQ 95 (.tmp 14) (.tmp 54) (g17) (fA (aP (mP p.x q.y) (mP q.x p.y))) ZN.o (qO _) (jo _ _) (jn _) ?_
       rw [qH]
       refine hK.o _ _ (⟨qF (j5 RP KV19) (zn (zl (qh RP.o) GG.o)), qF (j0 RQ KV19) (zn (zl (qh RQ.o) GG.o)), qF (j5 RQ KV19) (zn (zl (qh RQ.o) GG.o)), qF (j0 RP KV19) (zn (zl (qh RP.o) GG.o))⟩) fun hHeld => ?_
       try simp only [qd]
       refine zi (by kernel_rfl) ?_ _
       go_wp2_with fail
       go_meet
       case rel => exact ⟨g17, rfl, GG, qa (zd _ _ _ _ _ _ ZN.o), qa (ze KV19.o GG.o _)⟩
      exact zu
     exact zu
    exact zu
   exact zu
  refine zK qbr (fun K hK => ?_) ?_
  ·
   refine zA (yi rfl V10) ?_
   obtain ⟨g20, hg20⟩ := zy V10.heap.size
   have ZN : Hid ((V10.alloc (.cells (fA 0) 95)).heap[g20]? = some (.cells (fA 0) 95)) := by rw [hg20]; exact za _ _
   have KV20 := qZ KV10 (.cells (fA 0) 95)
   have GG : Hid (W13.heap.size ≤ g20) := by rw [hg20]; exact KV10.o.size
   rw [← hg20]
   obtain ⟨V20, hV20⟩ := zy (V10.alloc (.cells (fA 0) 95))
   rw [← hV20] at ZN KV20 ⊢
   clear hV20 hg20
   refine hK.o _ _ (⟨j5 RP KV20, j0 RQ KV20, j5 RQ KV20, j0 RP KV20⟩) fun hHeld => ?_
   try simp only [qd]
   refine zW [4] ?_
   refine zK yat (fun K hK => ?_) ?_
   ·
    refine zE (Jn _ _ rfl (.agg (fA p.x)) (.agg (fA q.y)) rfl rfl V20) (Qb p.x q.y Hp.o.x Hq.o.y V20) fun V21 HBx => ?_
    have KV21 := qq KV20 HBx
    have ZN := qa (qk ZN.o HBx)
    clear HBx
    refine hK.o _ _ (⟨j5 RP KV21, j0 RQ KV21, j5 RQ KV21, j0 RP KV21⟩) fun hHeld => ?_
    try simp only [qd]
    refine zW [9] ?_
    refine zK yar (fun K hK => ?_) ?_
    ·
     refine zE (Jn _ _ rfl (.agg (fA q.x)) (.agg (fA p.y)) rfl rfl V21) (Qb q.x p.y Hq.o.x Hp.o.y V21) fun V22 HBx => ?_
     have KV22 := qq KV21 HBx
     have ZN := qa (qk ZN.o HBx)
     clear HBx
     refine hK.o _ _ (⟨j5 RP KV22, j0 RQ KV22, j5 RQ KV22, j0 RP KV22⟩) fun hHeld => ?_
     try simp only [qd]
     refine zW [10] ?_
     refine zK yap (fun K hK => ?_) ?_
     ·
      refine zE (qdi _ _ rfl (.agg (fA (mP p.x q.y))) (.agg (fA (mP q.x p.y))) rfl rfl V22) (qqQ (mP p.x q.y) (mP q.x p.y) (qK _ _) (qK _ _) V22) fun V23 HBx => ?_
      have KV23 := qq KV22 HBx
      have ZN := qa (qk ZN.o HBx)
      clear HBx
      refine hK.o _ _ (⟨j5 RP KV23, j0 RQ KV23, j5 RQ KV23, j0 RP KV23⟩) fun hHeld => ?_
      try simp only [qd]
      refine zW [12] ?_
      refine zK qbp (fun K hK => ?_) ?_
      ·
       refine zQ 95 (.tmp 14) (.tmp 54) (g20) (fA (aP (mP p.x q.y) (mP q.x p.y))) ZN.o (qO _) (jo _ _) (jn _) ?_
       rw [qH]
       refine hK.o _ _ (⟨qF (j5 RP KV23) (zn (zl (qh RP.o) GG.o)), qF (j0 RQ KV23) (zn (zl (qh RQ.o) GG.o)), qF (j5 RQ KV23) (zn (zl (qh RQ.o) GG.o)), qF (j0 RP KV23) (zn (zl (qh RP.o) GG.o))⟩) fun hHeld => ?_
       try simp only [qd]
       refine zi (by kernel_rfl) ?_ _
       go_wp2_with fail
       go_meet
       case rel => exact ⟨g20, rfl, GG, qa (zd _ _ _ _ _ _ ZN.o), qa (ze KV23.o GG.o _)⟩
      exact zu
     exact zu
    exact zu
   exact zu
  exact zu
 case rest =>
 obtain ⟨g14, rfl, Gg14, R14, Xg14⟩ := hcut
 obtain ⟨W14, hW⟩ := zy wc
 subst hW
 have lRDg14 : w.heap.size < g14 := zl (qh RD.o) Gg14.o
 have lRPg14 : w.heap.size + 1 < g14 := zl (qh RP.o) Gg14.o
 have lRQg14 : w.heap.size + 2 < g14 := zl (qh RQ.o) Gg14.o
 have lRZg14 : w.heap.size + 3 < g14 := zl (qh RZ.o) Gg14.o
 have lR7g14 : g7 < g14 := zl (qh R7.o) Gg14.o
 have lR8g14 : g8 < g14 := zl (qh R8.o) Gg14.o
 have lR9g14 : g9 < g14 := zl (qh R9.o) Gg14.o
 have lR10g14 : g10 < g14 := zl (qh R10.o) Gg14.o
 have lR11g14 : g11 < g14 := zl (qh R11.o) Gg14.o
 have lR12g14 : g12 < g14 := zl (qh R12.o) Gg14.o
 have lR13g14 : g13 < g14 := zl (qh R13.o) Gg14.o
 have RD := qa (qs RD.o Xg14.o (qh RD.o))
 have RP := qa (qs RP.o Xg14.o (qh RP.o))
 have RQ := qa (qs RQ.o Xg14.o (qh RQ.o))
 have RZ := qa (qs RZ.o Xg14.o (qh RZ.o))
 have R7 := qa (qs R7.o Xg14.o (qh R7.o))
 have R8 := qa (qs R8.o Xg14.o (qh R8.o))
 have R9 := qa (qs R9.o Xg14.o (qh R9.o))
 have R10 := qa (qs R10.o Xg14.o (qh R10.o))
 have R11 := qa (qs R11.o Xg14.o (qh R11.o))
 have R12 := qa (qs R12.o Xg14.o (qh R12.o))
 have R13 := qa (qs R13.o Xg14.o (qh R13.o))
 have BL : Hid (zB w W14) := BL.o.trans (Xg14.o.mono BL.o.size)
 clear Xg14 Gg14
 obtain ⟨c, Ec⟩ := zx (aP (mP p.x q.y) (mP q.x p.y))
 have Hc : Hid (c < P) := by rw [Ec.o]; exact QF _ _
 rw [← Ec.o] at R14
 go_wp2_with fail
 refine zM (S := fun w' => w'.rangeAt (g7) 0 (fL z) ∧ w'.rangeAt (g12) 0 (fL f) ∧ w'.rangeAt (g14) 0 (fL c) ∧ w'.rangeAt (g13) 0 (fL h) ∧ w'.rangeAt (g10) 0 (fL yy) ∧ w'.rangeAt (g9) 0 (fL xx)) (by kernel_rfl) (by exact ⟨QU R7.o, QU R12.o, QU R14.o, QU R13.o, QU R10.o, QU R9.o⟩) (fun hHeld => ?_)
 obtain ⟨V24, hV24⟩ := zy W14.drew
 rw [← hV24] at hHeld ⊢
 have KV24 : Hid (zB W14 V24) := by rw [hV24]; exact (zJ _ _).drew
 clear hV24
 refine zT 0 ⟨some 55, .load 95 (.tmp 7), 95, "point.go:18", #[], none⟩ (.agg (fA z)) (jX (by rfl) _ rfl (g7) 0 z rfl (fun w h => h.1)) ?_
 simp only [qd]
 refine zT 1 ⟨some 56, .load 95 (.tmp 12), 95, "point.go:18", #[], none⟩ (.agg (fA f)) (jX (by rfl) _ rfl (g12) 0 f rfl (fun w h => h.2.1)) ?_
 simp only [qd]
 refine zT 2 ⟨some 57, .load 95 (.tmp 14), 95, "point.go:18", #[], none⟩ (.agg (fA c)) (jX (by rfl) _ rfl (g14) 0 c rfl (fun w h => h.2.2.1)) ?_
 simp only [qd]
 refine zT 5 ⟨some 60, .load 95 (.tmp 7), 95, "point.go:18", #[], none⟩ (.agg (fA z)) (jX (by rfl) _ rfl (g7) 0 z rfl (fun w h => h.1)) ?_
 simp only [qd]
 refine zT 6 ⟨some 61, .load 95 (.tmp 13), 95, "point.go:18", #[], none⟩ (.agg (fA h)) (jX (by rfl) _ rfl (g13) 0 h rfl (fun w h => h.2.2.2.1)) ?_
 simp only [qd]
 refine zT 7 ⟨some 62, .load 95 (.tmp 10), 95, "point.go:18", #[], none⟩ (.agg (fA yy)) (jX (by rfl) _ rfl (g10) 0 yy rfl (fun w h => h.2.2.2.2.1)) ?_
 simp only [qd]
 refine zT 8 ⟨some 63, .load 95 (.tmp 9), 95, "point.go:18", #[], none⟩ (.agg (fA xx)) (jX (by rfl) _ rfl (g9) 0 xx rfl (fun w h => h.2.2.2.2.2)) ?_
 simp only [qd]
 refine zT 12 ⟨some 67, .load 95 (.tmp 12), 95, "point.go:18", #[], none⟩ (.agg (fA f)) (jX (by rfl) _ rfl (g12) 0 f rfl (fun w h => h.2.1)) ?_
 simp only [qd]
 refine zT 13 ⟨some 68, .load 95 (.tmp 13), 95, "point.go:18", #[], none⟩ (.agg (fA h)) (jX (by rfl) _ rfl (g13) 0 h rfl (fun w h => h.2.2.2.1)) ?_
 simp only [qd]
 refine zW [3] ?_
 refine zK ⟨some 58, .call ⟨.value (.func 63), #[.tmp 56, .tmp 57], #[95, 95]⟩, 95, "point.go:18", #[ql 1, ql 2], none⟩ (fun K hK => ?_) ?_
 ·
  refine zE (Jn _ _ rfl (.agg (fA f)) (.agg (fA c)) rfl rfl V24) (Qb f c Hf.o Hc.o V24) fun V25 HBx => ?_
  have KV25 := qq KV24 HBx
  clear HBx
  refine hK.o _ _ (⟨qE R7 KV25, qE R12 KV25, qE R14 KV25, qE R13 KV25, qE R10 KV25, qE R9 KV25⟩) fun hHeld => ?_
  try simp only [qd]
  refine zW [4] ?_
  refine zK ⟨some 59, .call ⟨.value (.func 63), #[.tmp 55, .tmp 58], #[95, 95]⟩, 95, "point.go:18", #[ql 0, ql 3, qT 3], none⟩ (fun K hK => ?_) ?_
  ·
   refine zE (Jn _ _ rfl (.agg (fA z)) (.agg (fA (mP f c))) rfl rfl V25) (Qb z (mP f c) Hz.o (qK _ _) V25) fun V26 HBx => ?_
   have KV26 := qq KV25 HBx
   clear HBx
   refine hK.o _ _ (⟨qE R7 KV26, qE R12 KV26, qE R14 KV26, qE R13 KV26, qE R10 KV26, qE R9 KV26⟩) fun hHeld => ?_
   try simp only [qd]
   refine zW [9] ?_
   refine zK ⟨some 64, .call ⟨.value (.func 109), #[.tmp 62, .tmp 63], #[95, 95]⟩, 95, "point.go:18", #[ql 7, ql 8, qT 4], none⟩ (fun K hK => ?_) ?_
   ·
    refine zE (qdi _ _ rfl (.agg (fA yy)) (.agg (fA xx)) rfl rfl V26) (qqQ yy xx Hyy.o Hxx.o V26) fun V27 HBx => ?_
    have KV27 := qq KV26 HBx
    clear HBx
    refine hK.o _ _ (⟨qE R7 KV27, qE R12 KV27, qE R14 KV27, qE R13 KV27, qE R10 KV27, qE R9 KV27⟩) fun hHeld => ?_
    try simp only [qd]
    refine zW [10] ?_
    refine zK ⟨some 65, .call ⟨.value (.func 63), #[.tmp 61, .tmp 64], #[95, 95]⟩, 95, "point.go:18", #[ql 6, ql 9, qT 9], none⟩ (fun K hK => ?_) ?_
    ·
     refine zE (Jn _ _ rfl (.agg (fA h)) (.agg (fA (aP yy xx))) rfl rfl V27) (Qb h (aP yy xx) Hh.o (QF _ _) V27) fun V28 HBx => ?_
     have KV28 := qq KV27 HBx
     clear HBx
     refine hK.o _ _ (⟨qE R7 KV28, qE R12 KV28, qE R14 KV28, qE R13 KV28, qE R10 KV28, qE R9 KV28⟩) fun hHeld => ?_
     try simp only [qd]
     refine zW [11] ?_
     refine zK ⟨some 66, .call ⟨.value (.func 63), #[.tmp 60, .tmp 65], #[95, 95]⟩, 95, "point.go:18", #[ql 5, ql 10, qT 10], none⟩ (fun K hK => ?_) ?_
     ·
      refine zE (Jn _ _ rfl (.agg (fA z)) (.agg (fA (mP h (aP yy xx)))) rfl rfl V28) (Qb z (mP h (aP yy xx)) Hz.o (qK _ _) V28) fun V29 HBx => ?_
      have KV29 := qq KV28 HBx
      clear HBx
      refine hK.o _ _ (⟨qE R7 KV29, qE R12 KV29, qE R14 KV29, qE R13 KV29, qE R10 KV29, qE R9 KV29⟩) fun hHeld => ?_
      try simp only [qd]
      refine zW [14] ?_
      refine zK ⟨some 69, .call ⟨.value (.func 63), #[.tmp 67, .tmp 68], #[95, 95]⟩, 95, "point.go:18", #[ql 12, ql 13, qT 11], none⟩ (fun K hK => ?_) ?_
      ·
       refine zE (Jn _ _ rfl (.agg (fA f)) (.agg (fA h)) rfl rfl V29) (Qb f h Hf.o Hh.o V29) fun V30 HBx => ?_
       have KV30 := qq KV29 HBx
       clear HBx
       refine hK.o _ _ (⟨qE R7 KV30, qE R12 KV30, qE R14 KV30, qE R13 KV30, qE R10 KV30, qE R9 KV30⟩) fun hHeld => ?_
       try simp only [qd]
       refine zT 15 ⟨some 70, .build 98 #[(0, .tmp 59), (1, .tmp 66), (2, .tmp 69)], 98, "point.go:18", #[ql 4, ql 11, ql 14], none⟩ (.agg (qA ⟨(mP z (mP f c)), (mP z (mP h (aP yy xx))), (mP f h)⟩)) (Yq (by rfl) _ _ rfl _ _ (by kernel_rfl) (qei (mP z (mP f c)) (mP z (mP h (aP yy xx))) (mP f h))) ?_
       simp only [qd]
       refine zW [16] ?_
       refine zK ⟨none, .store 98 (.tmp 6) (.tmp 70), 0, "point.go:18", #[ql 15, qT 14, qj 0, qj 1, qj 2, qj 3, qj 4, qj 5, qj 6, qj 7, qj 8, qj 9, qj 10, qj 11, qj 12, qj 13, qj 14, qj 15], none⟩ (fun K hK => ?_) ?_
       ·
        refine zQ 98 (.tmp 6) (.tmp 70) (w.heap.size + 3) (qA ⟨(mP z (mP f c)), (mP z (mP h (aP yy xx))), (mP f h)⟩) (qa (qs RZ.o KV30.o (qh RZ.o))).o (jE _) (QN _ _) (QO _) ?_
        rw [qH]
        refine hK.o _ _ (⟨qF (qE R7 KV30) (by omega), qF (qE R12 KV30) (by omega), qF (qE R14 KV30) (by omega), qF (qE R13 KV30) (by omega), qF (qE R10 KV30) (by omega), qF (qE R9 KV30) (by omega)⟩) fun hHeld => ?_
        try simp only [qd]
        refine zi (by kernel_rfl) ?_ _
        go_wp2_with fail
        have RZ9 := qa (qs RZ.o KV30.o (qh RZ.o))
        have BL9 := qa (BL.o.trans (KV30.o.mono BL.o.size))
        refine zh (v := .agg (qA ⟨(mP z (mP f c)), (mP z (mP h (aP yy xx))), (mP f h)⟩)) (results_cell_row Tryz.results67 _ _ (w.heap.size + 3) 98 _ (0, 0) _ (by rfl) (zd _ _ _ _ _ _ RZ9.o) Tryz.underlying98 rfl (jE _)) rfl ⟨?_, ze BL9.o (by omega) _⟩
        rw [Ec.o, Eh.o, Ef.o, Ee.o, Eyy.o, Exx.o, Ezz.o, Ez.o]; rfl
       exact zu
      exact zu
     exact zu
    exact zu
   exact zu
  exact zu
 exact zu
end
end Go.Proofs.YtccgfabojbjmjaaGreatDoor
