import Derived.Test.YtccgfabojbjmjaaGreatDoorLo18
set_option maxRecDepth 100000
set_option maxHeartbeats 8000000
namespace Go.Proofs.YtccgfabojbjmjaaGreatDoor
open Go.RowKit
open Go.RowKit
abbrev yau : Oper := ⟨some 19, .call ⟨.value (.func 93), #[.tmp 13, .tmp 18], #[80, 80]⟩, 80, "point.go:75", #[ql 4, ql 9, qT 9], none⟩
abbrev yav : Oper := ⟨some 30, .call ⟨.value (.func 93), #[.tmp 24, .tmp 29], #[80, 80]⟩, 80, "point.go:76", #[ql 4, ql 9, qT 9], none⟩
abbrev yaw : Oper := ⟨some 18, .call ⟨.value (.func 119), #[.tmp 15, .tmp 17], #[80, 80]⟩, 80, "point.go:75", #[ql 6, ql 8, qT 4], none⟩
abbrev yax : Oper := ⟨some 37, .call ⟨.value (.func 93), #[.tmp 34, .tmp 36], #[80, 80]⟩, 80, "point.go:77", #[ql 3, ql 5, qT 3], none⟩
abbrev yay : Oper := ⟨some 29, .call ⟨.value (.func 120), #[.tmp 26, .tmp 28], #[80, 80]⟩, 80, "point.go:76", #[ql 6, ql 8, qT 4], none⟩
abbrev yaz : Oper := ⟨some 13, .call ⟨.value (.func 119), #[.tmp 10, .tmp 12], #[80, 80]⟩, 80, "point.go:75", #[ql 1, ql 3], none⟩
abbrev yaA : Oper := ⟨some 34, .call ⟨.value (.func 93), #[.tmp 32, .tmp 33], #[80, 80]⟩, 80, "point.go:77", #[ql 1, ql 2], none⟩
abbrev yaB : Oper := ⟨some 24, .call ⟨.value (.func 120), #[.tmp 21, .tmp 23], #[80, 80]⟩, 80, "point.go:76", #[ql 1, ql 3], none⟩
abbrev qc7 : Oper := ⟨some 5, .alloc 80, 0, "point.go:75", #[], none⟩
abbrev qc2 : Oper := ⟨none, .store 80 (.tmp 5) (.tmp 19), 0, "point.go:75", #[ql 11, ql 10, qT 10, qj 0, qj 1, qj 2, qj 3, qj 4, qj 5, qj 6, qj 7, qj 8, qj 9, qj 10, qj 11], none⟩
abbrev qcQ : Oper := ⟨some 6, .alloc 80, 0, "point.go:76", #[], none⟩
abbrev qcT : Oper := ⟨none, .store 80 (.tmp 6) (.tmp 30), 0, "point.go:76", #[ql 11, ql 10, qT 10, qj 0, qj 1, qj 2, qj 3, qj 4, qj 5, qj 6, qj 7, qj 8, qj 9, qj 10, qj 11], none⟩
abbrev qfc : Oper := ⟨some 7, .alloc 80, 0, "point.go:77", #[], none⟩
abbrev qeY : Oper := ⟨none, .store 80 (.tmp 7) (.tmp 37), 0, "point.go:77", #[ql 7, ql 6, qT 6, qj 0, qj 1, qj 2, qj 3, qj 4, qj 5, qj 6, qj 7], none⟩
section
attribute [local irreducible] qb nL pA
theorem qtw (p q : Pt) (hp : p.Ok) (hq : q.Ok) (w : World) (TT : TypeId) (frr : Nat × Nat) (hG : w.heap[5]? = some (.cells (qb tdN) TT frr)) :
  zC 79 #[.agg (pA p), .agg (pA q)] w (.agg (pA (ZI p q))) := by
 have hz := qjD
 have hzp := yK
 have Hp := qa hp
 have Hq := qa hq
 obtain ⟨td, Etd⟩ := zx tdN
 have Htd : Hid (td < P) := by rw [Etd.o]; exact qr2
 rw [← Etd.o] at hG
 have HG := qa hG
 have lG := qh hG
 clear hp hq hG
 go_enter Tryz.func79, Tryz.ntmps79
 go_wp2_with fail
 obtain ⟨W0, hW0⟩ := zy (((w.alloc (.cells (pA p) 82)).alloc (.cells (pA q) 82)).alloc (.cells (pA p0) 82))
 have RP : Hid (qi W0 w.heap.size (pA p) 82) := by rw [hW0]; exact JO _ _ _ _
 have RQ : Hid (qi W0 (w.heap.size + 1) (pA q) 82) := by rw [hW0]; exact Jm _ _ _ _
 have RZ : Hid (qi W0 (w.heap.size + 2) (pA p0) 82) := by rw [hW0]; exact Jb _ _ _ _
 have BL : Hid (zB w W0) := by rw [hW0]; show Below _ _ _; go_grown
 have RG : Hid (W0.heap[5]? = some (.cells (qb td) TT frr)) := qs HG.o BL.o lG
 rw [← hW0]
 clear hW0 HG
 go_cut [5] from 9 to 19 (fun s wx => ∃ g, s = zp g 0 ∧ Hid (W0.heap.size ≤ g) ∧ Hid (qi wx g ((qb (mP (sP p.y p.x) (sP q.y q.x)))) 80) ∧ Hid (zB W0 wx))
 case first =>
  refine zM (S := fun w' => w'.rangeAt (w.heap.size) 4 (nL p.y) ∧ w'.rangeAt (w.heap.size) 0 (nL p.x) ∧ w'.rangeAt (w.heap.size + 1) 4 (nL q.y) ∧ w'.rangeAt (w.heap.size + 1) 0 (nL q.x)) (by kernel_rfl) (by exact ⟨(Qr RP.o).2.1, (Qr RP.o).1, (Qr RQ.o).2.1, (Qr RQ.o).1⟩) (fun hHeld => ?_)
  obtain ⟨V1, hV1⟩ := zy W0.drew
  rw [← hV1] at hHeld ⊢
  have KV1 : Hid (zB W0 V1) := by rw [hV1]; exact (zJ _ _).drew
  clear hV1
  refine zU 0 ⟨some 9, .fieldAddr 82 (.tmp 2) 1, 0, "point.go:75", #[], none⟩ (zp w.heap.size 4) ?_
  simp only [qd]
  refine zT 1 ⟨some 10, .load 80 (.tmp 9), 80, "point.go:75", #[ql 0], none⟩ (.agg (qb p.y)) (jA (by rfl) _ rfl (w.heap.size) 4 p.y rfl (fun w h => h.1)) ?_
  simp only [qd]
  refine zU 2 ⟨some 11, .fieldAddr 82 (.tmp 2) 0, 0, "point.go:75", #[], none⟩ (zp w.heap.size 0) ?_
  simp only [qd]
  refine zT 3 ⟨some 12, .load 80 (.tmp 11), 80, "point.go:75", #[ql 2], none⟩ (.agg (qb p.x)) (jA (by rfl) _ rfl (w.heap.size) 0 p.x rfl (fun w h => h.2.1)) ?_
  simp only [qd]
  refine zU 5 ⟨some 14, .fieldAddr 82 (.tmp 3) 1, 0, "point.go:75", #[], none⟩ (zp (w.heap.size + 1) 4) ?_
  simp only [qd]
  refine zT 6 ⟨some 15, .load 80 (.tmp 14), 80, "point.go:75", #[ql 5], none⟩ (.agg (qb q.y)) (jA (by rfl) _ rfl (w.heap.size + 1) 4 q.y rfl (fun w h => h.2.2.1)) ?_
  simp only [qd]
  refine zU 7 ⟨some 16, .fieldAddr 82 (.tmp 3) 0, 0, "point.go:75", #[], none⟩ (zp (w.heap.size + 1) 0) ?_
  simp only [qd]
  refine zT 8 ⟨some 17, .load 80 (.tmp 16), 80, "point.go:75", #[ql 7], none⟩ (.agg (qb q.x)) (jA (by rfl) _ rfl (w.heap.size + 1) 0 q.x rfl (fun w h => h.2.2.2)) ?_
  simp only [qd]
  refine zW [4, 11] ?_
  refine zK yaz (fun K hK => ?_) ?_
  ·
   refine zE (yw _ _ rfl (.agg (qb p.y)) (.agg (qb p.x)) rfl rfl V1) (JD p.y p.x Hp.o.y Hp.o.x V1) fun V2 HBx => ?_
   have KV2 := qq KV1 HBx
   clear HBx
   refine hK.o _ _ (⟨qw RP KV2, qv RP KV2, qw RQ KV2, qv RQ KV2⟩) fun hHeld => ?_
   try simp only [qd]
   refine zW [9, 11] ?_
   refine zK yaw (fun K hK => ?_) ?_
   ·
    refine zE (yw _ _ rfl (.agg (qb q.y)) (.agg (qb q.x)) rfl rfl V2) (JD q.y q.x Hq.o.y Hq.o.x V2) fun V3 HBx => ?_
    have KV3 := qq KV2 HBx
    clear HBx
    refine hK.o _ _ (⟨qw RP KV3, qv RP KV3, qw RQ KV3, qv RQ KV3⟩) fun hHeld => ?_
    try simp only [qd]
    refine zW [10, 11] ?_
    refine zK yau (fun K hK => ?_) ?_
    ·
     refine zE (ys _ _ rfl (.agg (qb (sP p.y p.x))) (.agg (qb (sP q.y q.x))) rfl rfl V3) (jF (sP p.y p.x) (sP q.y q.x) (jR _ _) (jR _ _) V3) fun V4 HBx => ?_
     have KV4 := qq KV3 HBx
     clear HBx
     refine hK.o _ _ (⟨qw RP KV4, qv RP KV4, qw RQ KV4, qv RQ KV4⟩) fun hHeld => ?_
     try simp only [qd]
     refine zW [11] ?_
     refine zK qc7 (fun K hK => ?_) ?_
     ·
      refine zA (ja rfl V4) ?_
      obtain ⟨g5, hg5⟩ := zy V4.heap.size
      have ZN : Hid ((V4.alloc (.cells (qb 0) 80)).heap[g5]? = some (.cells (qb 0) 80)) := by rw [hg5]; exact za _ _
      have KV5 := qZ KV4 (.cells (qb 0) 80)
      have GG : Hid (W0.heap.size ≤ g5) := by rw [hg5]; exact KV4.o.size
      rw [← hg5]
      obtain ⟨V5, hV5⟩ := zy (V4.alloc (.cells (qb 0) 80))
      rw [← hV5] at ZN KV5 ⊢
      clear hV5 hg5
      refine hK.o _ _ (⟨qw RP KV5, qv RP KV5, qw RQ KV5, qv RQ KV5⟩) fun hHeld => ?_
      try simp only [qd]
      refine zW [12] ?_
      refine zK qc2 (fun K hK => ?_) ?_
      ·
       refine zQ 80 (.tmp 5) (.tmp 19) (g5) (qb (mP (sP p.y p.x) (sP q.y q.x))) ZN.o (jc _) (QL _ _) (qY _) ?_
       rw [qH]
       refine hK.o _ _ (⟨qF (qw RP KV5) (zn (zl (qh RP.o) GG.o)), qF (qv RP KV5) (zn (zl (qh RP.o) GG.o)), qF (qw RQ KV5) (zn (zl (qh RQ.o) GG.o)), qF (qv RQ KV5) (zn (zl (qh RQ.o) GG.o))⟩) fun hHeld => ?_
       try simp only [qd]
       refine zi (by kernel_rfl) ?_ _
       go_wp2_with fail
       go_meet
       case rel => exact ⟨g5, rfl, GG, qa (zd _ _ _ _ _ _ ZN.o), qa (ze KV5.o GG.o _)⟩
      exact zu
     exact zu
    refine zK qc7 (fun K hK => ?_) ?_
    ·
     refine zA (ja rfl V3) ?_
     obtain ⟨g6, hg6⟩ := zy V3.heap.size
     have ZN : Hid ((V3.alloc (.cells (qb 0) 80)).heap[g6]? = some (.cells (qb 0) 80)) := by rw [hg6]; exact za _ _
     have KV6 := qZ KV3 (.cells (qb 0) 80)
     have GG : Hid (W0.heap.size ≤ g6) := by rw [hg6]; exact KV3.o.size
     rw [← hg6]
     obtain ⟨V6, hV6⟩ := zy (V3.alloc (.cells (qb 0) 80))
     rw [← hV6] at ZN KV6 ⊢
     clear hV6 hg6
     refine hK.o _ _ (⟨qw RP KV6, qv RP KV6, qw RQ KV6, qv RQ KV6⟩) fun hHeld => ?_
     try simp only [qd]
     refine zW [10] ?_
     refine zK yau (fun K hK => ?_) ?_
     ·
      refine zE (ys _ _ rfl (.agg (qb (sP p.y p.x))) (.agg (qb (sP q.y q.x))) rfl rfl V6) (jF (sP p.y p.x) (sP q.y q.x) (jR _ _) (jR _ _) V6) fun V7 HBx => ?_
      have KV7 := qq KV6 HBx
      have ZN := qa (qk ZN.o HBx)
      clear HBx
      refine hK.o _ _ (⟨qw RP KV7, qv RP KV7, qw RQ KV7, qv RQ KV7⟩) fun hHeld => ?_
      try simp only [qd]
      refine zW [12] ?_
      refine zK qc2 (fun K hK => ?_) ?_
      ·
       refine zQ 80 (.tmp 5) (.tmp 19) (g6) (qb (mP (sP p.y p.x) (sP q.y q.x))) ZN.o (jc _) (QL _ _) (qY _) ?_
       rw [qH]
       refine hK.o _ _ (⟨qF (qw RP KV7) (zn (zl (qh RP.o) GG.o)), qF (qv RP KV7) (zn (zl (qh RP.o) GG.o)), qF (qw RQ KV7) (zn (zl (qh RQ.o) GG.o)), qF (qv RQ KV7) (zn (zl (qh RQ.o) GG.o))⟩) fun hHeld => ?_
       try simp only [qd]
       refine zi (by kernel_rfl) ?_ _
       go_wp2_with fail
       go_meet
       case rel => exact ⟨g6, rfl, GG, qa (zd _ _ _ _ _ _ ZN.o), qa (ze KV7.o GG.o _)⟩
      exact zu
     exact zu
    exact zu
   refine zK qc7 (fun K hK => ?_) ?_
   ·
    refine zA (ja rfl V2) ?_
    obtain ⟨g8, hg8⟩ := zy V2.heap.size
    have ZN : Hid ((V2.alloc (.cells (qb 0) 80)).heap[g8]? = some (.cells (qb 0) 80)) := by rw [hg8]; exact za _ _
    have KV8 := qZ KV2 (.cells (qb 0) 80)
    have GG : Hid (W0.heap.size ≤ g8) := by rw [hg8]; exact KV2.o.size
    rw [← hg8]
    obtain ⟨V8, hV8⟩ := zy (V2.alloc (.cells (qb 0) 80))
    rw [← hV8] at ZN KV8 ⊢
    clear hV8 hg8
    refine hK.o _ _ (⟨qw RP KV8, qv RP KV8, qw RQ KV8, qv RQ KV8⟩) fun hHeld => ?_
    try simp only [qd]
    refine zW [9] ?_
    refine zK yaw (fun K hK => ?_) ?_
    ·
     refine zE (yw _ _ rfl (.agg (qb q.y)) (.agg (qb q.x)) rfl rfl V8) (JD q.y q.x Hq.o.y Hq.o.x V8) fun V9 HBx => ?_
     have KV9 := qq KV8 HBx
     have ZN := qa (qk ZN.o HBx)
     clear HBx
     refine hK.o _ _ (⟨qw RP KV9, qv RP KV9, qw RQ KV9, qv RQ KV9⟩) fun hHeld => ?_
     try simp only [qd]
     refine zW [10] ?_
     refine zK yau (fun K hK => ?_) ?_
     ·
      refine zE (ys _ _ rfl (.agg (qb (sP p.y p.x))) (.agg (qb (sP q.y q.x))) rfl rfl V9) (jF (sP p.y p.x) (sP q.y q.x) (jR _ _) (jR _ _) V9) fun V10 HBx => ?_
      have KV10 := qq KV9 HBx
      have ZN := qa (qk ZN.o HBx)
      clear HBx
      refine hK.o _ _ (⟨qw RP KV10, qv RP KV10, qw RQ KV10, qv RQ KV10⟩) fun hHeld => ?_
      try simp only [qd]
      refine zW [12] ?_
      refine zK qc2 (fun K hK => ?_) ?_
      ·
       refine zQ 80 (.tmp 5) (.tmp 19) (g8) (qb (mP (sP p.y p.x) (sP q.y q.x))) ZN.o (jc _) (QL _ _) (qY _) ?_
       rw [qH]
       refine hK.o _ _ (⟨qF (qw RP KV10) (zn (zl (qh RP.o) GG.o)), qF (qv RP KV10) (zn (zl (qh RP.o) GG.o)), qF (qw RQ KV10) (zn (zl (qh RQ.o) GG.o)), qF (qv RQ KV10) (zn (zl (qh RQ.o) GG.o))⟩) fun hHeld => ?_
       try simp only [qd]
       refine zi (by kernel_rfl) ?_ _
       go_wp2_with fail
       go_meet
       case rel => exact ⟨g8, rfl, GG, qa (zd _ _ _ _ _ _ ZN.o), qa (ze KV10.o GG.o _)⟩
      exact zu
     exact zu
    exact zu
   exact zu
  refine zK qc7 (fun K hK => ?_) ?_
  ·
   refine zA (ja rfl V1) ?_
   obtain ⟨g11, hg11⟩ := zy V1.heap.size
   have ZN : Hid ((V1.alloc (.cells (qb 0) 80)).heap[g11]? = some (.cells (qb 0) 80)) := by rw [hg11]; exact za _ _
   have KV11 := qZ KV1 (.cells (qb 0) 80)
   have GG : Hid (W0.heap.size ≤ g11) := by rw [hg11]; exact KV1.o.size
   rw [← hg11]
   obtain ⟨V11, hV11⟩ := zy (V1.alloc (.cells (qb 0) 80))
   rw [← hV11] at ZN KV11 ⊢
   clear hV11 hg11
   refine hK.o _ _ (⟨qw RP KV11, qv RP KV11, qw RQ KV11, qv RQ KV11⟩) fun hHeld => ?_
   try simp only [qd]
   refine zW [4] ?_
   refine zK yaz (fun K hK => ?_) ?_
   ·
    refine zE (yw _ _ rfl (.agg (qb p.y)) (.agg (qb p.x)) rfl rfl V11) (JD p.y p.x Hp.o.y Hp.o.x V11) fun V12 HBx => ?_
    have KV12 := qq KV11 HBx
    have ZN := qa (qk ZN.o HBx)
    clear HBx
    refine hK.o _ _ (⟨qw RP KV12, qv RP KV12, qw RQ KV12, qv RQ KV12⟩) fun hHeld => ?_
    try simp only [qd]
    refine zW [9] ?_
    refine zK yaw (fun K hK => ?_) ?_
    ·
     refine zE (yw _ _ rfl (.agg (qb q.y)) (.agg (qb q.x)) rfl rfl V12) (JD q.y q.x Hq.o.y Hq.o.x V12) fun V13 HBx => ?_
     have KV13 := qq KV12 HBx
     have ZN := qa (qk ZN.o HBx)
     clear HBx
     refine hK.o _ _ (⟨qw RP KV13, qv RP KV13, qw RQ KV13, qv RQ KV13⟩) fun hHeld => ?_
     try simp only [qd]
     refine zW [10] ?_
     refine zK yau (fun K hK => ?_) ?_
     ·
      refine zE (ys _ _ rfl (.agg (qb (sP p.y p.x))) (.agg (qb (sP q.y q.x))) rfl rfl V13) (jF (sP p.y p.x) (sP q.y q.x) (jR _ _) (jR _ _) V13) fun V14 HBx => ?_
      have KV14 := qq KV13 HBx
      have ZN := qa (qk ZN.o HBx)
      clear HBx
      refine hK.o _ _ (⟨qw RP KV14, qv RP KV14, qw RQ KV14, qv RQ KV14⟩) fun hHeld => ?_
      try simp only [qd]
      refine zW [12] ?_
      refine zK qc2 (fun K hK => ?_) ?_
      ·
       refine zQ 80 (.tmp 5) (.tmp 19) (g11) (qb (mP (sP p.y p.x) (sP q.y q.x))) ZN.o (jc _) (QL _ _) (qY _) ?_
       rw [qH]
       refine hK.o _ _ (⟨qF (qw RP KV14) (zn (zl (qh RP.o) GG.o)), qF (qv RP KV14) (zn (zl (qh RP.o) GG.o)), qF (qw RQ KV14) (zn (zl (qh RQ.o) GG.o)), qF (qv RQ KV14) (zn (zl (qh RQ.o) GG.o))⟩) fun hHeld => ?_
       try simp only [qd]
       refine zi (by kernel_rfl) ?_ _
       go_wp2_with fail
       go_meet
       case rel => exact ⟨g11, rfl, GG, qa (zd _ _ _ _ _ _ ZN.o), qa (ze KV14.o GG.o _)⟩
      exact zu
     exact zu
    exact zu
   exact zu
  exact zu
 case rest =>
 obtain ⟨g5, rfl, Gg5, R5, Xg5⟩ := hcut
 obtain ⟨W1, hW⟩ := zy wc
 subst hW
 have lRPg5 : w.heap.size < g5 := zl (qh RP.o) Gg5.o
 have lRQg5 : w.heap.size + 1 < g5 := zl (qh RQ.o) Gg5.o
 have lRZg5 : w.heap.size + 2 < g5 := zl (qh RZ.o) Gg5.o
 have lRGg5 : 5 < g5 := zl (qh RG.o) Gg5.o
 have RP := qa (qs RP.o Xg5.o (qh RP.o))
 have RQ := qa (qs RQ.o Xg5.o (qh RQ.o))
 have RZ := qa (qs RZ.o Xg5.o (qh RZ.o))
 have RG := qa (qs RG.o Xg5.o (qh RG.o))
 have BL : Hid (zB w W1) := BL.o.trans (Xg5.o.mono BL.o.size)
 clear Xg5 Gg5
 obtain ⟨a, Ea⟩ := zx (mP (sP p.y p.x) (sP q.y q.x))
 have Ha : Hid (a < P) := by rw [Ea.o]; exact qK _ _
 rw [← Ea.o] at R5
 go_wp2_with fail
 go_cut [6] from 20 to 30 (fun s wx => ∃ g, s = zp g 0 ∧ Hid (W1.heap.size ≤ g) ∧ Hid (qi wx g ((qb (mP (aP p.y p.x) (aP q.y q.x)))) 80) ∧ Hid (zB W1 wx))
 case first =>
  refine zM (S := fun w' => w'.rangeAt (w.heap.size) 4 (nL p.y) ∧ w'.rangeAt (w.heap.size) 0 (nL p.x) ∧ w'.rangeAt (w.heap.size + 1) 4 (nL q.y) ∧ w'.rangeAt (w.heap.size + 1) 0 (nL q.x)) (by kernel_rfl) (by exact ⟨(Qr RP.o).2.1, (Qr RP.o).1, (Qr RQ.o).2.1, (Qr RQ.o).1⟩) (fun hHeld => ?_)
  obtain ⟨V15, hV15⟩ := zy W1.drew
  rw [← hV15] at hHeld ⊢
  have KV15 : Hid (zB W1 V15) := by rw [hV15]; exact (zJ _ _).drew
  clear hV15
  refine zU 0 ⟨some 20, .fieldAddr 82 (.tmp 2) 1, 0, "point.go:76", #[], none⟩ (zp w.heap.size 4) ?_
  simp only [qd]
  refine zT 1 ⟨some 21, .load 80 (.tmp 20), 80, "point.go:76", #[ql 0], none⟩ (.agg (qb p.y)) (jA (by rfl) _ rfl (w.heap.size) 4 p.y rfl (fun w h => h.1)) ?_
  simp only [qd]
  refine zU 2 ⟨some 22, .fieldAddr 82 (.tmp 2) 0, 0, "point.go:76", #[], none⟩ (zp w.heap.size 0) ?_
  simp only [qd]
  refine zT 3 ⟨some 23, .load 80 (.tmp 22), 80, "point.go:76", #[ql 2], none⟩ (.agg (qb p.x)) (jA (by rfl) _ rfl (w.heap.size) 0 p.x rfl (fun w h => h.2.1)) ?_
  simp only [qd]
  refine zU 5 ⟨some 25, .fieldAddr 82 (.tmp 3) 1, 0, "point.go:76", #[], none⟩ (zp (w.heap.size + 1) 4) ?_
  simp only [qd]
  refine zT 6 ⟨some 26, .load 80 (.tmp 25), 80, "point.go:76", #[ql 5], none⟩ (.agg (qb q.y)) (jA (by rfl) _ rfl (w.heap.size + 1) 4 q.y rfl (fun w h => h.2.2.1)) ?_
  simp only [qd]
  refine zU 7 ⟨some 27, .fieldAddr 82 (.tmp 3) 0, 0, "point.go:76", #[], none⟩ (zp (w.heap.size + 1) 0) ?_
  simp only [qd]
  refine zT 8 ⟨some 28, .load 80 (.tmp 27), 80, "point.go:76", #[ql 7], none⟩ (.agg (qb q.x)) (jA (by rfl) _ rfl (w.heap.size + 1) 0 q.x rfl (fun w h => h.2.2.2)) ?_
  simp only [qd]
  refine zW [4, 11] ?_
  refine zK yaB (fun K hK => ?_) ?_
  ·
   refine zE (yW _ _ rfl (.agg (qb p.y)) (.agg (qb p.x)) rfl rfl V15) (yf p.y p.x Hp.o.y Hp.o.x V15) fun V16 HBx => ?_
   have KV16 := qq KV15 HBx
   clear HBx
   refine hK.o _ _ (⟨qw RP KV16, qv RP KV16, qw RQ KV16, qv RQ KV16⟩) fun hHeld => ?_
   try simp only [qd]
   refine zW [9, 11] ?_
   refine zK yay (fun K hK => ?_) ?_
   ·
    refine zE (yW _ _ rfl (.agg (qb q.y)) (.agg (qb q.x)) rfl rfl V16) (yf q.y q.x Hq.o.y Hq.o.x V16) fun V17 HBx => ?_
    have KV17 := qq KV16 HBx
    clear HBx
    refine hK.o _ _ (⟨qw RP KV17, qv RP KV17, qw RQ KV17, qv RQ KV17⟩) fun hHeld => ?_
    try simp only [qd]
    refine zW [10, 11] ?_
    refine zK yav (fun K hK => ?_) ?_
    ·
     refine zE (ys _ _ rfl (.agg (qb (aP p.y p.x))) (.agg (qb (aP q.y q.x))) rfl rfl V17) (jF (aP p.y p.x) (aP q.y q.x) (QF _ _) (QF _ _) V17) fun V18 HBx => ?_
     have KV18 := qq KV17 HBx
     clear HBx
     refine hK.o _ _ (⟨qw RP KV18, qv RP KV18, qw RQ KV18, qv RQ KV18⟩) fun hHeld => ?_
     try simp only [qd]
     refine zW [11] ?_
     refine zK qcQ (fun K hK => ?_) ?_
     ·
      refine zA (ja rfl V18) ?_
      obtain ⟨g19, hg19⟩ := zy V18.heap.size
      have ZN : Hid ((V18.alloc (.cells (qb 0) 80)).heap[g19]? = some (.cells (qb 0) 80)) := by rw [hg19]; exact za _ _
      have KV19 := qZ KV18 (.cells (qb 0) 80)
      have GG : Hid (W1.heap.size ≤ g19) := by rw [hg19]; exact KV18.o.size
      rw [← hg19]
      obtain ⟨V19, hV19⟩ := zy (V18.alloc (.cells (qb 0) 80))
      rw [← hV19] at ZN KV19 ⊢
      clear hV19 hg19
      refine hK.o _ _ (⟨qw RP KV19, qv RP KV19, qw RQ KV19, qv RQ KV19⟩) fun hHeld => ?_
      try simp only [qd]
      refine zW [12] ?_
      refine zK qcT (fun K hK => ?_) ?_
      ·
       refine zQ 80 (.tmp 6) (.tmp 30) (g19) (qb (mP (aP p.y p.x) (aP q.y q.x))) ZN.o (jc _) (QL _ _) (qY _) ?_
       rw [qH]
       refine hK.o _ _ (⟨qF (qw RP KV19) (zn (zl (qh RP.o) GG.o)), qF (qv RP KV19) (zn (zl (qh RP.o) GG.o)), qF (qw RQ KV19) (zn (zl (qh RQ.o) GG.o)), qF (qv RQ KV19) (zn (zl (qh RQ.o) GG.o))⟩) fun hHeld => ?_
       try simp only [qd]
       refine zi (by kernel_rfl) ?_ _
       go_wp2_with fail
       go_meet
       case rel => exact ⟨g19, rfl, GG, qa (zd _ _ _ _ _ _ ZN.o), qa (ze KV19.o GG.o _)⟩
      exact zu
     exact zu
    refine zK qcQ (fun K hK => ?_) ?_
    ·
     refine zA (ja rfl V17) ?_
     obtain ⟨g20, hg20⟩ := zy V17.heap.size
     have ZN : Hid ((V17.alloc (.cells (qb 0) 80)).heap[g20]? = some (.cells (qb 0) 80)) := by rw [hg20]; exact za _ _
     have KV20 := qZ KV17 (.cells (qb 0) 80)
     have GG : Hid (W1.heap.size ≤ g20) := by rw [hg20]; exact KV17.o.size
     rw [← hg20]
     obtain ⟨V20, hV20⟩ := zy (V17.alloc (.cells (qb 0) 80))
     rw [← hV20] at ZN KV20 ⊢
     clear hV20 hg20
     refine hK.o _ _ (⟨qw RP KV20, qv RP KV20, qw RQ KV20, qv RQ KV20⟩) fun hHeld => ?_
     try simp only [qd]
     refine zW [10] ?_
     refine zK yav (fun K hK => ?_) ?_
     ·
      refine zE (ys _ _ rfl (.agg (qb (aP p.y p.x))) (.agg (qb (aP q.y q.x))) rfl rfl V20) (jF (aP p.y p.x) (aP q.y q.x) (QF _ _) (QF _ _) V20) fun V21 HBx => ?_
      have KV21 := qq KV20 HBx
      have ZN := qa (qk ZN.o HBx)
      clear HBx
      refine hK.o _ _ (⟨qw RP KV21, qv RP KV21, qw RQ KV21, qv RQ KV21⟩) fun hHeld => ?_
      try simp only [qd]
      refine zW [12] ?_
      refine zK qcT (fun K hK => ?_) ?_
      ·
       refine zQ 80 (.tmp 6) (.tmp 30) (g20) (qb (mP (aP p.y p.x) (aP q.y q.x))) ZN.o (jc _) (QL _ _) (qY _) ?_
       rw [qH]
       refine hK.o _ _ (⟨qF (qw RP KV21) (zn (zl (qh RP.o) GG.o)), qF (qv RP KV21) (zn (zl (qh RP.o) GG.o)), qF (qw RQ KV21) (zn (zl (qh RQ.o) GG.o)), qF (qv RQ KV21) (zn (zl (qh RQ.o) GG.o))⟩) fun hHeld => ?_
       try simp only [qd]
       refine zi (by kernel_rfl) ?_ _
       go_wp2_with fail
       go_meet
       case rel => exact ⟨g20, rfl, GG, qa (zd _ _ _ _ _ _ ZN.o), qa (ze KV21.o GG.o _)⟩
      exact zu
     exact zu
    exact zu
   refine zK qcQ (fun K hK => ?_) ?_
   ·
    refine zA (ja rfl V16) ?_
    obtain ⟨g22, hg22⟩ := zy V16.heap.size
    have ZN : Hid ((V16.alloc (.cells (qb 0) 80)).heap[g22]? = some (.cells (qb 0) 80)) := by rw [hg22]; exact za _ _
    have KV22 := qZ KV16 (.cells (qb 0) 80)
    have GG : Hid (W1.heap.size ≤ g22) := by rw [hg22]; exact KV16.o.size
    rw [← hg22]
    obtain ⟨V22, hV22⟩ := zy (V16.alloc (.cells (qb 0) 80))
    rw [← hV22] at ZN KV22 ⊢
    clear hV22 hg22
    refine hK.o _ _ (⟨qw RP KV22, qv RP KV22, qw RQ KV22, qv RQ KV22⟩) fun hHeld => ?_
    try simp only [qd]
    refine zW [9] ?_
    refine zK yay (fun K hK => ?_) ?_
    ·
     refine zE (yW _ _ rfl (.agg (qb q.y)) (.agg (qb q.x)) rfl rfl V22) (yf q.y q.x Hq.o.y Hq.o.x V22) fun V23 HBx => ?_
     have KV23 := qq KV22 HBx
     have ZN := qa (qk ZN.o HBx)
     clear HBx
     refine hK.o _ _ (⟨qw RP KV23, qv RP KV23, qw RQ KV23, qv RQ KV23⟩) fun hHeld => ?_
     try simp only [qd]
     refine zW [10] ?_
     refine zK yav (fun K hK => ?_) ?_
     ·
      refine zE (ys _ _ rfl (.agg (qb (aP p.y p.x))) (.agg (qb (aP q.y q.x))) rfl rfl V23) (jF (aP p.y p.x) (aP q.y q.x) (QF _ _) (QF _ _) V23) fun V24 HBx => ?_
      have KV24 := qq KV23 HBx
      have ZN := qa (qk ZN.o HBx)
      clear HBx
      refine hK.o _ _ (⟨qw RP KV24, qv RP KV24, qw RQ KV24, qv RQ KV24⟩) fun hHeld => ?_
      try simp only [qd]
      refine zW [12] ?_
      refine zK qcT (fun K hK => ?_) ?_
      ·
       refine zQ 80 (.tmp 6) (.tmp 30) (g22) (qb (mP (aP p.y p.x) (aP q.y q.x))) ZN.o (jc _) (QL _ _) (qY _) ?_
       rw [qH]
       refine hK.o _ _ (⟨qF (qw RP KV24) (zn (zl (qh RP.o) GG.o)), qF (qv RP KV24) (zn (zl (qh RP.o) GG.o)), qF (qw RQ KV24) (zn (zl (qh RQ.o) GG.o)), qF (qv RQ KV24) (zn (zl (qh RQ.o) GG.o))⟩) fun hHeld => ?_
       try simp only [qd]
       refine zi (by kernel_rfl) ?_ _
       go_wp2_with fail
       go_meet
       case rel => exact ⟨g22, rfl, GG, qa (zd _ _ _ _ _ _ ZN.o), qa (ze KV24.o GG.o _)⟩
      exact zu
     exact zu
    exact zu
   exact zu
  refine zK qcQ (fun K hK => ?_) ?_
  ·
   refine zA (ja rfl V15) ?_
   obtain ⟨g25, hg25⟩ := zy V15.heap.size
   have ZN : Hid ((V15.alloc (.cells (qb 0) 80)).heap[g25]? = some (.cells (qb 0) 80)) := by rw [hg25]; exact za _ _
   have KV25 := qZ KV15 (.cells (qb 0) 80)
   have GG : Hid (W1.heap.size ≤ g25) := by rw [hg25]; exact KV15.o.size
   rw [← hg25]
   obtain ⟨V25, hV25⟩ := zy (V15.alloc (.cells (qb 0) 80))
   rw [← hV25] at ZN KV25 ⊢
   clear hV25 hg25
   refine hK.o _ _ (⟨qw RP KV25, qv RP KV25, qw RQ KV25, qv RQ KV25⟩) fun hHeld => ?_
   try simp only [qd]
   refine zW [4] ?_
   refine zK yaB (fun K hK => ?_) ?_
   ·
    refine zE (yW _ _ rfl (.agg (qb p.y)) (.agg (qb p.x)) rfl rfl V25) (yf p.y p.x Hp.o.y Hp.o.x V25) fun V26 HBx => ?_
    have KV26 := qq KV25 HBx
    have ZN := qa (qk ZN.o HBx)
    clear HBx
    refine hK.o _ _ (⟨qw RP KV26, qv RP KV26, qw RQ KV26, qv RQ KV26⟩) fun hHeld => ?_
    try simp only [qd]
    refine zW [9] ?_
    refine zK yay (fun K hK => ?_) ?_
    ·
     refine zE (yW _ _ rfl (.agg (qb q.y)) (.agg (qb q.x)) rfl rfl V26) (yf q.y q.x Hq.o.y Hq.o.x V26) fun V27 HBx => ?_
     have KV27 := qq KV26 HBx
     have ZN := qa (qk ZN.o HBx)
     clear HBx
     refine hK.o _ _ (⟨qw RP KV27, qv RP KV27, qw RQ KV27, qv RQ KV27⟩) fun hHeld => ?_
     try simp only [qd]
     refine zW [10] ?_
     refine zK yav (fun K hK => ?_) ?_
     ·
      refine zE (ys _ _ rfl (.agg (qb (aP p.y p.x))) (.agg (qb (aP q.y q.x))) rfl rfl V27) (jF (aP p.y p.x) (aP q.y q.x) (QF _ _) (QF _ _) V27) fun V28 HBx => ?_
      have KV28 := qq KV27 HBx
      have ZN := qa (qk ZN.o HBx)
      clear HBx
      refine hK.o _ _ (⟨qw RP KV28, qv RP KV28, qw RQ KV28, qv RQ KV28⟩) fun hHeld => ?_
      try simp only [qd]
      refine zW [12] ?_
      refine zK qcT (fun K hK => ?_) ?_
      ·
       refine zQ 80 (.tmp 6) (.tmp 30) (g25) (qb (mP (aP p.y p.x) (aP q.y q.x))) ZN.o (jc _) (QL _ _) (qY _) ?_
       rw [qH]
       refine hK.o _ _ (⟨qF (qw RP KV28) (zn (zl (qh RP.o) GG.o)), qF (qv RP KV28) (zn (zl (qh RP.o) GG.o)), qF (qw RQ KV28) (zn (zl (qh RQ.o) GG.o)), qF (qv RQ KV28) (zn (zl (qh RQ.o) GG.o))⟩) fun hHeld => ?_
       try simp only [qd]
       refine zi (by kernel_rfl) ?_ _
       go_wp2_with fail
       go_meet
       case rel => exact ⟨g25, rfl, GG, qa (zd _ _ _ _ _ _ ZN.o), qa (ze KV28.o GG.o _)⟩
      exact zu
     exact zu
    exact zu
   exact zu
  exact zu
 case rest =>
 obtain ⟨g6, rfl, Gg6, R6, Xg6⟩ := hcut
 obtain ⟨W2, hW⟩ := zy wc
 subst hW
 have lRPg6 : w.heap.size < g6 := zl (qh RP.o) Gg6.o
 have lRQg6 : w.heap.size + 1 < g6 := zl (qh RQ.o) Gg6.o
 have lRZg6 : w.heap.size + 2 < g6 := zl (qh RZ.o) Gg6.o
 have lRGg6 : 5 < g6 := zl (qh RG.o) Gg6.o
 have lR5g6 : g5 < g6 := zl (qh R5.o) Gg6.o
 have RP := qa (qs RP.o Xg6.o (qh RP.o))
 have RQ := qa (qs RQ.o Xg6.o (qh RQ.o))
 have RZ := qa (qs RZ.o Xg6.o (qh RZ.o))
 have RG := qa (qs RG.o Xg6.o (qh RG.o))
 have R5 := qa (qs R5.o Xg6.o (qh R5.o))
 have BL : Hid (zB w W2) := BL.o.trans (Xg6.o.mono BL.o.size)
 clear Xg6 Gg6
 obtain ⟨b, Eb⟩ := zx (mP (aP p.y p.x) (aP q.y q.x))
 have Hb : Hid (b < P) := by rw [Eb.o]; exact qK _ _
 rw [← Eb.o] at R6
 go_wp2_with fail
 go_cut [7] from 31 to 37 (fun s wx => ∃ g, s = zp g 0 ∧ Hid (W2.heap.size ≤ g) ∧ Hid (qi wx g ((qb (mP (mP p.t td) q.t))) 80) ∧ Hid (zB W2 wx))
 case first =>
  refine zM (S := fun w' => w'.rangeAt (w.heap.size) 12 (nL p.t) ∧ w'.rangeAt (5) 0 (nL td) ∧ w'.rangeAt (w.heap.size + 1) 12 (nL q.t)) (by kernel_rfl) (by exact ⟨(Qr RP.o).2.2.2, Qu RG.o, (Qr RQ.o).2.2.2⟩) (fun hHeld => ?_)
  obtain ⟨V29, hV29⟩ := zy W2.drew
  rw [← hV29] at hHeld ⊢
  have KV29 : Hid (zB W2 V29) := by rw [hV29]; exact (zJ _ _).drew
  clear hV29
  refine zU 0 ⟨some 31, .fieldAddr 82 (.tmp 2) 3, 0, "point.go:77", #[], none⟩ (zp w.heap.size 12) ?_
  simp only [qd]
  refine zT 1 ⟨some 32, .load 80 (.tmp 31), 80, "point.go:77", #[ql 0], none⟩ (.agg (qb p.t)) (jA (by rfl) _ rfl (w.heap.size) 12 p.t rfl (fun w h => h.1)) ?_
  simp only [qd]
  refine zT 2 ⟨some 33, .load 80 (.global 5), 80, "point.go:77", #[], none⟩ (.agg (qb td)) (jA (by rfl) _ rfl (5) 0 td rfl (fun w h => h.2.1)) ?_
  simp only [qd]
  refine zU 4 ⟨some 35, .fieldAddr 82 (.tmp 3) 3, 0, "point.go:77", #[], none⟩ (zp (w.heap.size + 1) 12) ?_
  simp only [qd]
  refine zT 5 ⟨some 36, .load 80 (.tmp 35), 80, "point.go:77", #[ql 4], none⟩ (.agg (qb q.t)) (jA (by rfl) _ rfl (w.heap.size + 1) 12 q.t rfl (fun w h => h.2.2)) ?_
  simp only [qd]
  refine zW [3, 7] ?_
  refine zK yaA (fun K hK => ?_) ?_
  ·
   refine zE (ys _ _ rfl (.agg (qb p.t)) (.agg (qb td)) rfl rfl V29) (jF p.t td Hp.o.t Htd.o V29) fun V30 HBx => ?_
   have KV30 := qq KV29 HBx
   clear HBx
   refine hK.o _ _ (⟨QI RP KV30, qS RG KV30, QI RQ KV30⟩) fun hHeld => ?_
   try simp only [qd]
   refine zW [6, 7] ?_
   refine zK yax (fun K hK => ?_) ?_
   ·
    refine zE (ys _ _ rfl (.agg (qb (mP p.t td))) (.agg (qb q.t)) rfl rfl V30) (jF (mP p.t td) q.t (qK _ _) Hq.o.t V30) fun V31 HBx => ?_
    have KV31 := qq KV30 HBx
    clear HBx
    refine hK.o _ _ (⟨QI RP KV31, qS RG KV31, QI RQ KV31⟩) fun hHeld => ?_
    try simp only [qd]
    refine zW [7] ?_
    refine zK qfc (fun K hK => ?_) ?_
    ·
     refine zA (ja rfl V31) ?_
     obtain ⟨g32, hg32⟩ := zy V31.heap.size
     have ZN : Hid ((V31.alloc (.cells (qb 0) 80)).heap[g32]? = some (.cells (qb 0) 80)) := by rw [hg32]; exact za _ _
     have KV32 := qZ KV31 (.cells (qb 0) 80)
     have GG : Hid (W2.heap.size ≤ g32) := by rw [hg32]; exact KV31.o.size
     rw [← hg32]
     obtain ⟨V32, hV32⟩ := zy (V31.alloc (.cells (qb 0) 80))
     rw [← hV32] at ZN KV32 ⊢
     clear hV32 hg32
     refine hK.o _ _ (⟨QI RP KV32, qS RG KV32, QI RQ KV32⟩) fun hHeld => ?_
     try simp only [qd]
     refine zW [8] ?_
     refine zK qeY (fun K hK => ?_) ?_
     ·
      refine zQ 80 (.tmp 7) (.tmp 37) (g32) (qb (mP (mP p.t td) q.t)) ZN.o (jc _) (QL _ _) (qY _) ?_
      rw [qH]
      refine hK.o _ _ (⟨qF (QI RP KV32) (zn (zl (qh RP.o) GG.o)), qF (qS RG KV32) (zn (zl (qh RG.o) GG.o)), qF (QI RQ KV32) (zn (zl (qh RQ.o) GG.o))⟩) fun hHeld => ?_
      try simp only [qd]
      refine zi (by kernel_rfl) ?_ _
      go_wp2_with fail
      go_meet
      case rel => exact ⟨g32, rfl, GG, qa (zd _ _ _ _ _ _ ZN.o), qa (ze KV32.o GG.o _)⟩
     exact zu
    exact zu
   refine zK qfc (fun K hK => ?_) ?_
   ·
    refine zA (ja rfl V30) ?_
    obtain ⟨g33, hg33⟩ := zy V30.heap.size
    have ZN : Hid ((V30.alloc (.cells (qb 0) 80)).heap[g33]? = some (.cells (qb 0) 80)) := by rw [hg33]; exact za _ _
    have KV33 := qZ KV30 (.cells (qb 0) 80)
    have GG : Hid (W2.heap.size ≤ g33) := by rw [hg33]; exact KV30.o.size
    rw [← hg33]
    obtain ⟨V33, hV33⟩ := zy (V30.alloc (.cells (qb 0) 80))
    rw [← hV33] at ZN KV33 ⊢
    clear hV33 hg33
    refine hK.o _ _ (⟨QI RP KV33, qS RG KV33, QI RQ KV33⟩) fun hHeld => ?_
    try simp only [qd]
    refine zW [6] ?_
    refine zK yax (fun K hK => ?_) ?_
    ·
     refine zE (ys _ _ rfl (.agg (qb (mP p.t td))) (.agg (qb q.t)) rfl rfl V33) (jF (mP p.t td) q.t (qK _ _) Hq.o.t V33) fun V34 HBx => ?_
     have KV34 := qq KV33 HBx
     have ZN := qa (qk ZN.o HBx)
     clear HBx
     refine hK.o _ _ (⟨QI RP KV34, qS RG KV34, QI RQ KV34⟩) fun hHeld => ?_
     try simp only [qd]
     refine zW [8] ?_
     refine zK qeY (fun K hK => ?_) ?_
     ·
      refine zQ 80 (.tmp 7) (.tmp 37) (g33) (qb (mP (mP p.t td) q.t)) ZN.o (jc _) (QL _ _) (qY _) ?_
      rw [qH]
      refine hK.o _ _ (⟨qF (QI RP KV34) (zn (zl (qh RP.o) GG.o)), qF (qS RG KV34) (zn (zl (qh RG.o) GG.o)), qF (QI RQ KV34) (zn (zl (qh RQ.o) GG.o))⟩) fun hHeld => ?_
      try simp only [qd]
      refine zi (by kernel_rfl) ?_ _
      go_wp2_with fail
      go_meet
      case rel => exact ⟨g33, rfl, GG, qa (zd _ _ _ _ _ _ ZN.o), qa (ze KV34.o GG.o _)⟩
     exact zu
    exact zu
   exact zu
  refine zK qfc (fun K hK => ?_) ?_
  ·
   refine zA (ja rfl V29) ?_
   obtain ⟨g35, hg35⟩ := zy V29.heap.size
   have ZN : Hid ((V29.alloc (.cells (qb 0) 80)).heap[g35]? = some (.cells (qb 0) 80)) := by rw [hg35]; exact za _ _
   have KV35 := qZ KV29 (.cells (qb 0) 80)
   have GG : Hid (W2.heap.size ≤ g35) := by rw [hg35]; exact KV29.o.size
   rw [← hg35]
   obtain ⟨V35, hV35⟩ := zy (V29.alloc (.cells (qb 0) 80))
   rw [← hV35] at ZN KV35 ⊢
   clear hV35 hg35
   refine hK.o _ _ (⟨QI RP KV35, qS RG KV35, QI RQ KV35⟩) fun hHeld => ?_
   try simp only [qd]
   refine zW [3] ?_
   refine zK yaA (fun K hK => ?_) ?_
   ·
    refine zE (ys _ _ rfl (.agg (qb p.t)) (.agg (qb td)) rfl rfl V35) (jF p.t td Hp.o.t Htd.o V35) fun V36 HBx => ?_
    have KV36 := qq KV35 HBx
    have ZN := qa (qk ZN.o HBx)
    clear HBx
    refine hK.o _ _ (⟨QI RP KV36, qS RG KV36, QI RQ KV36⟩) fun hHeld => ?_
    try simp only [qd]
    refine zW [6] ?_
    refine zK yax (fun K hK => ?_) ?_
    ·
     refine zE (ys _ _ rfl (.agg (qb (mP p.t td))) (.agg (qb q.t)) rfl rfl V36) (jF (mP p.t td) q.t (qK _ _) Hq.o.t V36) fun V37 HBx => ?_
     have KV37 := qq KV36 HBx
     have ZN := qa (qk ZN.o HBx)
     clear HBx
     refine hK.o _ _ (⟨QI RP KV37, qS RG KV37, QI RQ KV37⟩) fun hHeld => ?_
     try simp only [qd]
     refine zW [8] ?_
     refine zK qeY (fun K hK => ?_) ?_
     ·
      refine zQ 80 (.tmp 7) (.tmp 37) (g35) (qb (mP (mP p.t td) q.t)) ZN.o (jc _) (QL _ _) (qY _) ?_
      rw [qH]
      refine hK.o _ _ (⟨qF (QI RP KV37) (zn (zl (qh RP.o) GG.o)), qF (qS RG KV37) (zn (zl (qh RG.o) GG.o)), qF (QI RQ KV37) (zn (zl (qh RQ.o) GG.o))⟩) fun hHeld => ?_
      try simp only [qd]
      refine zi (by kernel_rfl) ?_ _
      go_wp2_with fail
      go_meet
      case rel => exact ⟨g35, rfl, GG, qa (zd _ _ _ _ _ _ ZN.o), qa (ze KV37.o GG.o _)⟩
     exact zu
    exact zu
   exact zu
  exact zu
 case rest =>
 obtain ⟨g7, rfl, Gg7, R7, Xg7⟩ := hcut
 obtain ⟨W3, hW⟩ := zy wc
 subst hW
 have lRPg7 : w.heap.size < g7 := zl (qh RP.o) Gg7.o
 have lRQg7 : w.heap.size + 1 < g7 := zl (qh RQ.o) Gg7.o
 have lRZg7 : w.heap.size + 2 < g7 := zl (qh RZ.o) Gg7.o
 have lRGg7 : 5 < g7 := zl (qh RG.o) Gg7.o
 have lR5g7 : g5 < g7 := zl (qh R5.o) Gg7.o
 have lR6g7 : g6 < g7 := zl (qh R6.o) Gg7.o
 have RP := qa (qs RP.o Xg7.o (qh RP.o))
 have RQ := qa (qs RQ.o Xg7.o (qh RQ.o))
 have RZ := qa (qs RZ.o Xg7.o (qh RZ.o))
 have RG := qa (qs RG.o Xg7.o (qh RG.o))
 have R5 := qa (qs R5.o Xg7.o (qh R5.o))
 have R6 := qa (qs R6.o Xg7.o (qh R6.o))
 have BL : Hid (zB w W3) := BL.o.trans (Xg7.o.mono BL.o.size)
 clear Xg7 Gg7
 obtain ⟨c, Ec⟩ := zx (mP (mP p.t td) q.t)
 have Hc : Hid (c < P) := by rw [Ec.o]; exact qK _ _
 rw [← Ec.o] at R7
 go_wp2_with (first | (refine zG (by rfl) 80 (.tmp 38) (by rfl) (w.heap.size) 8 (by rfl) (nL p.z) _ (Qr RP.o).2.2.1 jC rfl (qcz _) ?_) | (refine zG (by rfl) 80 (.tmp 40) (by rfl) (w.heap.size + 1) 8 (by rfl) (nL q.z) _ (Qr RQ.o).2.2.1 jC rfl (qcz _) ?_))
 simp only [qoI]
 refine (jF p.z q.z Hp.o.z Hq.o.z _).mono ?_
 rintro e W4 ⟨rfl, hB4⟩
 have RP := qa (qk RP.o hB4)
 have RQ := qa (qk RQ.o hB4)
 have RZ := qa (qk RZ.o hB4)
 have RG := qa (qk RG.o hB4)
 have R5 := qa (qk R5.o hB4)
 have R6 := qa (qk R6.o hB4)
 have R7 := qa (qk R7.o hB4)
 have BL := qq BL hB4
 clear hB4
 obtain ⟨z, Ez⟩ := zx (mP p.z q.z)
 have Hz : Hid (z < P) := by rw [Ez.o]; exact qK _ _
 rw [← Ez.o]
 go_wp2_with (first | (refine qB 80 (.tmp 8) (.tmp 42) W4.heap.size (qb z) (za _ _) (jc _) (QL _ _) (qY _) ?_))
 obtain ⟨g8, hg8⟩ := zy W4.heap.size
 obtain ⟨W5, hW5⟩ := zy ((W4.alloc (.cells (qb 0) 80)).setRow W4.heap.size (qb z))
 have lRPg8 : w.heap.size < g8 := by rw [hg8]; exact qh RP.o
 have lRQg8 : w.heap.size + 1 < g8 := by rw [hg8]; exact qh RQ.o
 have lRZg8 : w.heap.size + 2 < g8 := by rw [hg8]; exact qh RZ.o
 have lRGg8 : 5 < g8 := by rw [hg8]; exact qh RG.o
 have lR5g8 : g5 < g8 := by rw [hg8]; exact qh R5.o
 have lR6g8 : g6 < g8 := by rw [hg8]; exact qh R6.o
 have lR7g8 : g7 < g8 := by rw [hg8]; exact qh R7.o
 have RP' : Hid (qi W5 w.heap.size (pA p) 82) := by rw [hW5]; exact (zc _ _ _ _ (by omega)).trans ((zb _ _ (by omega)).trans RP.o)
 have RQ' : Hid (qi W5 (w.heap.size + 1) (pA q) 82) := by rw [hW5]; exact (zc _ _ _ _ (by omega)).trans ((zb _ _ (by omega)).trans RQ.o)
 have RZ' : Hid (qi W5 (w.heap.size + 2) (pA p0) 82) := by rw [hW5]; exact (zc _ _ _ _ (by omega)).trans ((zb _ _ (by omega)).trans RZ.o)
 have RG' : Hid (W5.heap[5]? = some (.cells (qb td) TT frr)) := by rw [hW5]; exact (zc _ _ _ _ (by omega)).trans ((zb _ _ (by omega)).trans RG.o)
 have R5' : Hid (qi W5 g5 (qb a) 80) := by rw [hW5]; exact (zc _ _ _ _ (by omega)).trans ((zb _ _ (by omega)).trans R5.o)
 have R6' : Hid (qi W5 g6 (qb b) 80) := by rw [hW5]; exact (zc _ _ _ _ (by omega)).trans ((zb _ _ (by omega)).trans R6.o)
 have R7' : Hid (qi W5 g7 (qb c) 80) := by rw [hW5]; exact (zc _ _ _ _ (by omega)).trans ((zb _ _ (by omega)).trans R7.o)
 have R8 : Hid (qi W5 g8 (qb z) 80) := by rw [hW5, hg8]; exact zd _ _ _ _ _ _ (za _ _)
 have BL' : Hid (zB w W5) := by rw [hW5]; exact ze (BL.o.alloc BL.o.size _) BL.o.size _
 rw [qH, ← hW5, ← hg8]
 clear hW5 hg8 BL RP RQ RZ RG R5 R6 R7
 have RP := RP'
 have RQ := RQ'
 have RZ := RZ'
 have RG := RG'
 have R5 := R5'
 have R6 := R6'
 have R7 := R7'
 have BL := BL'
 clear RP' RQ' RZ' RG' R5' R6' R7' BL'
 refine zM (S := fun w' => w'.rangeAt (g6) 0 (nL b) ∧ w'.rangeAt (g5) 0 (nL a) ∧ w'.rangeAt (g8) 0 (nL z) ∧ w'.rangeAt (g7) 0 (nL c)) (by kernel_rfl) (by exact ⟨Qu R6.o, Qu R5.o, Qu R8.o, Qu R7.o⟩) (fun hHeld => ?_)
 obtain ⟨V38, hV38⟩ := zy W5.drew
 rw [← hV38] at hHeld ⊢
 have KV38 : Hid (zB W5 V38) := by rw [hV38]; exact (zJ _ _).drew
 clear hV38
 refine zT 0 ⟨some 43, .load 80 (.tmp 6), 80, "point.go:79", #[], none⟩ (.agg (qb b)) (jA (by rfl) _ rfl (g6) 0 b rfl (fun w h => h.1)) ?_
 simp only [qd]
 refine zT 1 ⟨some 44, .load 80 (.tmp 5), 80, "point.go:79", #[], none⟩ (.agg (qb a)) (jA (by rfl) _ rfl (g5) 0 a rfl (fun w h => h.2.1)) ?_
 simp only [qd]
 refine zT 3 ⟨some 46, .load 80 (.tmp 8), 80, "point.go:79", #[], none⟩ (.agg (qb z)) (jA (by rfl) _ rfl (g8) 0 z rfl (fun w h => h.2.2.1)) ?_
 simp only [qd]
 refine zT 4 ⟨some 47, .load 80 (.tmp 8), 80, "point.go:79", #[], none⟩ (.agg (qb z)) (jA (by rfl) _ rfl (g8) 0 z rfl (fun w h => h.2.2.1)) ?_
 simp only [qd]
 refine zT 6 ⟨some 49, .load 80 (.tmp 7), 80, "point.go:79", #[], none⟩ (.agg (qb c)) (jA (by rfl) _ rfl (g7) 0 c rfl (fun w h => h.2.2.2)) ?_
 simp only [qd]
 refine zT 8 ⟨some 51, .load 80 (.tmp 8), 80, "point.go:79", #[], none⟩ (.agg (qb z)) (jA (by rfl) _ rfl (g8) 0 z rfl (fun w h => h.2.2.1)) ?_
 simp only [qd]
 refine zT 9 ⟨some 52, .load 80 (.tmp 8), 80, "point.go:79", #[], none⟩ (.agg (qb z)) (jA (by rfl) _ rfl (g8) 0 z rfl (fun w h => h.2.2.1)) ?_
 simp only [qd]
 refine zT 11 ⟨some 54, .load 80 (.tmp 7), 80, "point.go:79", #[], none⟩ (.agg (qb c)) (jA (by rfl) _ rfl (g7) 0 c rfl (fun w h => h.2.2.2)) ?_
 simp only [qd]
 refine zT 13 ⟨some 56, .load 80 (.tmp 6), 80, "point.go:79", #[], none⟩ (.agg (qb b)) (jA (by rfl) _ rfl (g6) 0 b rfl (fun w h => h.1)) ?_
 simp only [qd]
 refine zT 14 ⟨some 57, .load 80 (.tmp 5), 80, "point.go:79", #[], none⟩ (.agg (qb a)) (jA (by rfl) _ rfl (g5) 0 a rfl (fun w h => h.2.1)) ?_
 simp only [qd]
 refine zW [2] ?_
 refine zK ⟨some 45, .call ⟨.value (.func 119), #[.tmp 43, .tmp 44], #[80, 80]⟩, 80, "point.go:79", #[ql 0, ql 1], none⟩ (fun K hK => ?_) ?_
 ·
  refine zE (yw _ _ rfl (.agg (qb b)) (.agg (qb a)) rfl rfl V38) (JD b a Hb.o Ha.o V38) fun V39 HBx => ?_
  have KV39 := qq KV38 HBx
  clear HBx
  refine hK.o _ _ (⟨qS R6 KV39, qS R5 KV39, qS R8 KV39, qS R7 KV39⟩) fun hHeld => ?_
  try simp only [qd]
  refine zW [5] ?_
  refine zK ⟨some 48, .call ⟨.value (.func 120), #[.tmp 46, .tmp 47], #[80, 80]⟩, 80, "point.go:79", #[ql 3, ql 4, qT 2], none⟩ (fun K hK => ?_) ?_
  ·
   refine zE (yW _ _ rfl (.agg (qb z)) (.agg (qb z)) rfl rfl V39) (yf z z Hz.o Hz.o V39) fun V40 HBx => ?_
   have KV40 := qq KV39 HBx
   clear HBx
   refine hK.o _ _ (⟨qS R6 KV40, qS R5 KV40, qS R8 KV40, qS R7 KV40⟩) fun hHeld => ?_
   try simp only [qd]
   refine zW [7] ?_
   refine zK ⟨some 50, .call ⟨.value (.func 119), #[.tmp 48, .tmp 49], #[80, 80]⟩, 80, "point.go:79", #[ql 5, ql 6, qT 5], none⟩ (fun K hK => ?_) ?_
   ·
    refine zE (yw _ _ rfl (.agg (qb (aP z z))) (.agg (qb c)) rfl rfl V40) (JD (aP z z) c (QF _ _) Hc.o V40) fun V41 HBx => ?_
    have KV41 := qq KV40 HBx
    clear HBx
    refine hK.o _ _ (⟨qS R6 KV41, qS R5 KV41, qS R8 KV41, qS R7 KV41⟩) fun hHeld => ?_
    try simp only [qd]
    refine zW [10] ?_
    refine zK ⟨some 53, .call ⟨.value (.func 120), #[.tmp 51, .tmp 52], #[80, 80]⟩, 80, "point.go:79", #[ql 8, ql 9, qT 7], none⟩ (fun K hK => ?_) ?_
    ·
     refine zE (yW _ _ rfl (.agg (qb z)) (.agg (qb z)) rfl rfl V41) (yf z z Hz.o Hz.o V41) fun V42 HBx => ?_
     have KV42 := qq KV41 HBx
     clear HBx
     refine hK.o _ _ (⟨qS R6 KV42, qS R5 KV42, qS R8 KV42, qS R7 KV42⟩) fun hHeld => ?_
     try simp only [qd]
     refine zW [12] ?_
     refine zK ⟨some 55, .call ⟨.value (.func 120), #[.tmp 53, .tmp 54], #[80, 80]⟩, 80, "point.go:79", #[ql 10, ql 11, qT 10], none⟩ (fun K hK => ?_) ?_
     ·
      refine zE (yW _ _ rfl (.agg (qb (aP z z))) (.agg (qb c)) rfl rfl V42) (yf (aP z z) c (QF _ _) Hc.o V42) fun V43 HBx => ?_
      have KV43 := qq KV42 HBx
      clear HBx
      refine hK.o _ _ (⟨qS R6 KV43, qS R5 KV43, qS R8 KV43, qS R7 KV43⟩) fun hHeld => ?_
      try simp only [qd]
      refine zW [15] ?_
      refine zK ⟨some 58, .call ⟨.value (.func 120), #[.tmp 56, .tmp 57], #[80, 80]⟩, 80, "point.go:79", #[ql 13, ql 14, qT 12], none⟩ (fun K hK => ?_) ?_
      ·
       refine zE (yW _ _ rfl (.agg (qb b)) (.agg (qb a)) rfl rfl V43) (yf b a Hb.o Ha.o V43) fun V44 HBx => ?_
       have KV44 := qq KV43 HBx
       clear HBx
       refine hK.o _ _ (⟨qS R6 KV44, qS R5 KV44, qS R8 KV44, qS R7 KV44⟩) fun hHeld => ?_
       try simp only [qd]
       refine zW [16] ?_
       refine zK ⟨some 59, .call ⟨.value (.func 121), #[.tmp 45, .tmp 50, .tmp 55, .tmp 58], #[80, 80, 80, 80]⟩, 82, "point.go:79", #[ql 2, ql 7, ql 12, ql 15, qT 15], none⟩ (fun K hK => ?_) ?_
       ·
        refine zE (qf9 _ _ _ _ rfl (.agg (qb (sP b a))) (.agg (qb (sP (aP z z) c))) (.agg (qb (aP (aP z z) c))) (.agg (qb (aP b a))) rfl rfl rfl rfl V44) (qo0 (sP b a) (sP (aP z z) c) (aP (aP z z) c) (aP b a) (jR _ _) (jR _ _) (QF _ _) (QF _ _) V44) fun V45 HBx => ?_
        have KV45 := qq KV44 HBx
        clear HBx
        refine hK.o _ _ (⟨qS R6 KV45, qS R5 KV45, qS R8 KV45, qS R7 KV45⟩) fun hHeld => ?_
        try simp only [qd]
        refine zW [17] ?_
        refine zK ⟨none, .store 82 (.tmp 4) (.tmp 59), 0, "point.go:79", #[ql 16, qT 16, qj 0, qj 1, qj 2, qj 3, qj 4, qj 5, qj 6, qj 7, qj 8, qj 9, qj 10, qj 11, qj 12, qj 13, qj 14, qj 15, qj 16], none⟩ (fun K hK => ?_) ?_
        ·
         refine zQ 82 (.tmp 4) (.tmp 59) (w.heap.size + 2) (pA (YL (sP b a) (sP (aP z z) c) (aP (aP z z) c) (aP b a))) (qa (qs RZ.o KV45.o (qh RZ.o))).o (jO _) (ZK _ _) (QJ _) ?_
         rw [qH]
         refine hK.o _ _ (⟨qF (qS R6 KV45) (by omega), qF (qS R5 KV45) (by omega), qF (qS R8 KV45) (by omega), qF (qS R7 KV45) (by omega)⟩) fun hHeld => ?_
         try simp only [qd]
         refine zi (by kernel_rfl) ?_ _
         go_wp2_with fail
         have RZ9 := qa (qs RZ.o KV45.o (qh RZ.o))
         have BL9 := qa (BL.o.trans (KV45.o.mono BL.o.size))
         refine zh (v := .agg (pA (YL (sP b a) (sP (aP z z) c) (aP (aP z z) c) (aP b a)))) (results_cell_row Tryz.results79 _ _ (w.heap.size + 2) 82 _ (0, 0) _ (by rfl) (zd _ _ _ _ _ _ RZ9.o) Tryz.underlying82 rfl (jO _)) rfl ⟨?_, ze BL9.o (by omega) _⟩
         rw [Ez.o, Ec.o, Eb.o, Ea.o, Etd.o]; rfl
        exact zu
       exact zu
      exact zu
     exact zu
    exact zu
   exact zu
  exact zu
 exact zu
end
end Go.Proofs.YtccgfabojbjmjaaGreatDoor
