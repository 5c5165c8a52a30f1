import Derived.Test.YtccgfabojbjmjaaGreatDoorLo31
import Derived.Test.YtccgfabojbjmjaaGreatDoorLo28
set_option maxRecDepth 100000
set_option maxHeartbeats 8000000
namespace Go.Proofs.YtccgfabojbjmjaaGreatDoor
open Go.RowKit
open Go.RowKit
section
theorem qtT (a b : Addr) (w : World) (ha : ∃ c t, w.heap[a.block]? = some (.cells c t (0, 0))) (hb : ∃ c t, w.heap[b.block]? = some (.cells c t (0, 0))) :
  (binOp .eql 66 (.iface 282 (.pointer (some a))) (.iface 282 (.pointer (some b)))).run Tryz.prog w = .ok (.bool (decide (a = b))) w := by
 obtain ⟨i, hi, hcmp⟩ := Option.map_eq_some_iff.1 qqc
 obtain ⟨j, hj, hjs⟩ := Option.map_eq_some_iff.1 qqM
 by_cases h : a = b
 ·
  subst h
  rw [zN rfl]
  exact run_eql_iface_ptr_same (P := Tryz.prog) w a Tryz.underlying66 Tryz.underlying282 hi hcmp hj
 ·
  rw [zD h]
  obtain ⟨ca, ta, ha⟩ := ha
  obtain ⟨cb, tb, hb⟩ := hb
  exact run_eql_iface_ptr_other (P := Tryz.prog) w Tryz.underlying66 Tryz.underlying282 hi hcmp hj (by rw [hjs]; decide) h ha hb
theorem Yj {a : Addr} {w w' : World} (h : ∃ c t, w.heap[a.block]? = some (.cells c t (0, 0))) (hb : zB w w') : ∃ c t, w'.heap[a.block]? = some (.cells c t (0, 0)) := by
 obtain ⟨c, t, e⟩ := h
 exact ⟨c, t, (hb.block _ (qh e)).trans e⟩
theorem qqB (p1 : ByteArray) (a b : Addr) (w : World) (ha : ∃ c t, w.heap[a.block]? = some (.cells c t (0, 0))) (hb : ∃ c t, w.heap[b.block]? = some (.cells c t (0, 0))) :
  zC 101 #[qQ p1 (qU a), qU b, .bool true] w (.bool (decide (a = b))) := by
 have HA := qa ha
 have HB := qa hb
 clear ha hb
 have nI := qpp
 have uA := ke
 have nE := qpk
 have uE := qes
 have vE := qcp
 have hty := fun (v u : Value) (W : World) => run_eql_iface_types (P := Tryz.prog) 173 282 v u Tryz.underlying66 (by decide) W
 unfold qQ
 rw [show qU b = .iface 282 (.pointer (some b)) from rfl]
 go_enter Tryz.func101, Tryz.ntmps101
 go_wp2_with fail
 have B2 : Hid (zB w w) := zJ _ _
 refine wp_loop_rounds 2 ?_
 rw [rounds_succ]
 go_wp2_with fail
 refine (yR p1 (qU a) _).mono ?_
 rintro e W1 ⟨rfl, hB⟩
 have B1 := qq B2 hB
 clear hB B2
 unfold qU
 go_wp2_with fail
 have hq := qtT a b W1 (Yj HA.o B1.o) (Yj HB.o B1.o)
 rw [rounds_succ]
 clear hty
 by_cases h : a = b
 ·
  rw [zN h] at hq
  have H := qa h
  clear h
  go_wp2_with fail
  go_ret
  exact ⟨by rw [zN H.o]; rfl, B1.o⟩
 ·
  rw [zD h] at hq
  have H := qa h
  clear h
  go_wp2_with fail
  go_ret
  exact ⟨by rw [zD H.o]; rfl, B1.o⟩
theorem qlF (p1 : ByteArray) (a b : Addr) (w : World) (ha : ∃ c t, w.heap[a.block]? = some (.cells c t (0, 0))) (hb : ∃ c t, w.heap[b.block]? = some (.cells c t (0, 0))) :
  zC 60 #[qQ p1 (qU a), qU b] w (.bool (decide (a = b))) := by
 have HA := qa ha
 have HB := qa hb
 clear ha hb
 have ht := kO
 have hcm := qpy
 obtain ⟨E, HE⟩ := zx (Value.agg #[.string p1, qU a])
 rw [show qQ p1 (qU a) = .iface 173 E by rw [HE.o]; rfl, show qU b = .iface 282 (.pointer (some b)) from rfl]
 go_enter Tryz.func60, Tryz.ntmps60
 go_wp2_with fail
 rw [HE.o]
 refine (qqB p1 a b w HA.o HB.o).mono ?_
 rintro e W ⟨rfl, hB⟩
 have BW := qa hB
 clear hB
 go_wp2_with fail
 go_ret
 exact ⟨rfl, BW.o⟩
theorem qrC (p2 p1 : ByteArray) (a b : Addr) (w : World) (ha : ∃ c t, w.heap[a.block]? = some (.cells c t (0, 0))) (hb : ∃ c t, w.heap[b.block]? = some (.cells c t (0, 0))) :
  zC 101 #[qQ p2 (qQ p1 (qU a)), qU b, .bool true] w (.bool (decide (a = b))) := by
 have HA := qa ha
 have HB := qa hb
 clear ha hb
 have nI := qpp
 have uA := ke
 have nE := qpk
 have uE := qes
 have vE := qcp
 have hty := fun (v u : Value) (W : World) => run_eql_iface_types (P := Tryz.prog) 173 282 v u Tryz.underlying66 (by decide) W
 unfold qQ
 rw [show qU b = .iface 282 (.pointer (some b)) from rfl]
 go_enter Tryz.func101, Tryz.ntmps101
 go_wp2_with fail
 have B3 : Hid (zB w w) := zJ _ _
 refine wp_loop_rounds 3 ?_
 rw [rounds_succ]
 obtain ⟨E2, HE2⟩ := zx (Value.agg #[.string p1, qU a])
 rw [← HE2.o]
 go_wp2_with fail
 refine (yR p2 (.iface 173 E2) _).mono ?_
 rintro e W2 ⟨rfl, hB⟩
 have B2 := qq B3 hB
 clear hB B3
 rw [HE2.o]
 clear HE2 E2
 go_wp2_with fail
 rw [rounds_succ]
 go_wp2_with fail
 refine (yR p1 (qU a) _).mono ?_
 rintro e W1 ⟨rfl, hB⟩
 have B1 := qq B2 hB
 clear hB B2
 unfold qU
 go_wp2_with fail
 have hq := qtT a b W1 (Yj HA.o B1.o) (Yj HB.o B1.o)
 rw [rounds_succ]
 clear hty
 by_cases h : a = b
 ·
  rw [zN h] at hq
  have H := qa h
  clear h
  go_wp2_with fail
  go_ret
  exact ⟨by rw [zN H.o]; rfl, B1.o⟩
 ·
  rw [zD h] at hq
  have H := qa h
  clear h
  go_wp2_with fail
  go_ret
  exact ⟨by rw [zD H.o]; rfl, B1.o⟩
theorem qkf (p2 p1 : ByteArray) (a b : Addr) (w : World) (ha : ∃ c t, w.heap[a.block]? = some (.cells c t (0, 0))) (hb : ∃ c t, w.heap[b.block]? = some (.cells c t (0, 0))) :
  zC 60 #[qQ p2 (qQ p1 (qU a)), qU b] w (.bool (decide (a = b))) := by
 have HA := qa ha
 have HB := qa hb
 clear ha hb
 have ht := kO
 have hcm := qpy
 obtain ⟨E, HE⟩ := zx (Value.agg #[.string p2, qQ p1 (qU a)])
 rw [show qQ p2 (qQ p1 (qU a)) = .iface 173 E by rw [HE.o]; rfl, show qU b = .iface 282 (.pointer (some b)) from rfl]
 go_enter Tryz.func60, Tryz.ntmps60
 go_wp2_with fail
 rw [HE.o]
 refine (qrC p2 p1 a b w HA.o HB.o).mono ?_
 rintro e W ⟨rfl, hB⟩
 have BW := qa hB
 clear hB
 go_wp2_with fail
 go_ret
 exact ⟨rfl, BW.o⟩
structure ZO (w : World) (g : Nat) (a : Addr) : Prop where
 c : w.cell? ⟨g, 0, none⟩ = some (qU a)
 b : ∃ c t, w.heap[a.block]? = some (.cells c t (0, 0))
theorem ZO.below {w w' : World} {g : Nat} {a : Addr} (h : ZO w g a) (hb : zB w w') : ZO w' g a :=
 ⟨(hb.cell (zX w _ h.c)).trans h.c, Yj h.b hb⟩
structure qgz (w : World) (k p s g : Addr) : Prop where
 hE : w.cell? ⟨3, 0, none⟩ = some (j7 66)
 fk : ZO w 0 k
 fp : ZO w 1 p
 fs : ZO w 2 s
 fg : ZO w 4 g
 kp : p ≠ k
 ks : s ≠ k
 ps : s ≠ p
 gk : g ≠ k
 gp : g ≠ p
 gs : g ≠ s
theorem ZO.bex {w w' : World} {g b : Nat} {a : Addr} (h : ZO w g a) (hx : qG b w w') (hg : g ≠ b) (ha : a.block ≠ b) : ZO w' g a := by
 obtain ⟨c, t, e⟩ := h.b
 exact ⟨(zo (hx.block g (zX w _ h.c) hg)).trans h.c, c, t, (hx.block _ (qh e) ha).trans e⟩
theorem qgz.below {w w' : World} {k p s g : Addr} (h : qgz w k p s g) (hb : zB w w') : qgz w' k p s g :=
 ⟨(hb.cell (zX w _ h.hE)).trans h.hE, h.fk.below hb, h.fp.below hb, h.fs.below hb, h.fg.below hb, h.kp, h.ks, h.ps, h.gk, h.gp, h.gs⟩
def QC (k p s a : Addr) : Int := if a = k then 12 else if a = p then 2 else if a = s then 3 else 4
theorem qjg (p1 : ByteArray) (a : Addr) (w : World) (k p s g : Addr) (hS : qgz w k p s g) (ha : ∃ c t, w.heap[a.block]? = some (.cells c t (0, 0))) :
  zC 30 #[qQ p1 (qU a)] w (.int .i64 (QC k p s a)) := by
 have h1 := qlU
 have h2 := qlc
 have HS := qa hS
 have HA := qa ha
 clear hS ha
 obtain ⟨E, HE⟩ := zx (Value.agg #[.string p1, qU a])
 have HW : Hid (qQ p1 (qU a) = .iface 173 E) := by show _ = _; rw [HE.o]; rfl
 rw [HW.o]
 go_enter Tryz.func30, Tryz.ntmps30
 go_upto_region 5 with fail
 generalize hW0 : World.alloc _ _ = W0
 have B0 : Hid (zB w W0) := by rw [← hW0]; show Below _ _ _; go_grown
 clear hW0
 go_wp2_with fail
 refine (qeH E w.heap.size W0 (HS.o.below B0.o).hE (fun q W => by rw [← HW.o]; exact qi9 p1 a w.heap.size q W)).mono ?_
 rintro e W1 ⟨rfl, hB⟩
 have B1 := qq B0 hB
 clear hB B0
 go_wp2_with fail
 refine (qhz E (w.heap.size + 1) W1 (HS.o.below B1.o).hE (fun q W => by rw [← HW.o]; exact qjF p1 a (w.heap.size + 1) q W)).mono ?_
 rintro e W2 ⟨rfl, hB⟩
 have B2 := qq B1 hB
 clear hB B1
 have S2 := qa (HS.o.below B2.o)
 have ck := S2.o.fk.c
 go_wp2_with fail
 rw [← HW.o]
 refine (qlF p1 a k W2 (Yj HA.o B2.o) S2.o.fk.b).mono ?_
 rintro e W3 ⟨rfl, hB⟩
 have B3 := qq B2 hB
 clear hB B2 ck S2
 rw [HW.o]
 by_cases hk : a = k
 ·
  rw [zN hk]
  have EC : Hid (QC k p s a = 12) := by show _ = _; unfold QC; rw [if_pos hk]
  clear hk
  go_wp2_with fail
  go_ret
  exact ⟨by rw [EC.o]; rfl, B3.o⟩
 rw [zD hk]
 have Hk := qa hk
 clear hk
 have S3 := qa (HS.o.below B3.o)
 have cp := S3.o.fp.c
 go_wp2_with fail
 rw [← HW.o]
 refine (qlF p1 a p W3 (Yj HA.o B3.o) S3.o.fp.b).mono ?_
 rintro e W4 ⟨rfl, hB⟩
 have B4 := qq B3 hB
 clear hB B3 cp S3
 rw [HW.o]
 by_cases hp : a = p
 ·
  rw [zN hp]
  have EC : Hid (QC k p s a = 2) := by show _ = _; unfold QC; rw [if_neg Hk.o, if_pos hp]
  clear hp
  go_wp2_with fail
  go_ret
  exact ⟨by rw [EC.o]; rfl, B4.o⟩
 rw [zD hp]
 have Hp := qa hp
 clear hp
 have S4 := qa (HS.o.below B4.o)
 have cs := S4.o.fs.c
 go_wp2_with fail
 rw [← HW.o]
 refine (qlF p1 a s W4 (Yj HA.o B4.o) S4.o.fs.b).mono ?_
 rintro e W5 ⟨rfl, hB⟩
 have B5 := qq B4 hB
 clear hB B4 cs S4
 rw [HW.o]
 by_cases hs : a = s
 ·
  rw [zN hs]
  have EC : Hid (QC k p s a = 3) := by show _ = _; unfold QC; rw [if_neg Hk.o, if_neg Hp.o, if_pos hs]
  clear hs
  go_wp2_with fail
  go_ret
  exact ⟨by rw [EC.o]; rfl, B5.o⟩
 rw [zD hs]
 have EC : Hid (QC k p s a = 4) := by show _ = _; unfold QC; rw [if_neg Hk.o, if_neg Hp.o, if_neg hs]
 clear hs
 go_wp2_with fail
 go_ret
 exact ⟨by rw [EC.o]; rfl, B5.o⟩
theorem qcy (p2 p1 : ByteArray) (a : Addr) (w : World) (k p s g : Addr) (hS : qgz w k p s g) (ha : ∃ c t, w.heap[a.block]? = some (.cells c t (0, 0))) :
  zC 30 #[qQ p2 (qQ p1 (qU a))] w (.int .i64 (QC k p s a)) := by
 have h1 := qlU
 have h2 := qlc
 have HS := qa hS
 have HA := qa ha
 clear hS ha
 obtain ⟨E, HE⟩ := zx (Value.agg #[.string p2, qQ p1 (qU a)])
 have HW : Hid (qQ p2 (qQ p1 (qU a)) = .iface 173 E) := by show _ = _; rw [HE.o]; rfl
 rw [HW.o]
 go_enter Tryz.func30, Tryz.ntmps30
 go_upto_region 5 with fail
 generalize hW0 : World.alloc _ _ = W0
 have B0 : Hid (zB w W0) := by rw [← hW0]; show Below _ _ _; go_grown
 clear hW0
 go_wp2_with fail
 refine (qeH E w.heap.size W0 (HS.o.below B0.o).hE (fun q W => by rw [← HW.o]; exact qjL p2 p1 a w.heap.size q W)).mono ?_
 rintro e W1 ⟨rfl, hB⟩
 have B1 := qq B0 hB
 clear hB B0
 go_wp2_with fail
 refine (qhz E (w.heap.size + 1) W1 (HS.o.below B1.o).hE (fun q W => by rw [← HW.o]; exact qi7 p2 p1 a (w.heap.size + 1) q W)).mono ?_
 rintro e W2 ⟨rfl, hB⟩
 have B2 := qq B1 hB
 clear hB B1
 have S2 := qa (HS.o.below B2.o)
 have ck := S2.o.fk.c
 go_wp2_with fail
 rw [← HW.o]
 refine (qkf p2 p1 a k W2 (Yj HA.o B2.o) S2.o.fk.b).mono ?_
 rintro e W3 ⟨rfl, hB⟩
 have B3 := qq B2 hB
 clear hB B2 ck S2
 rw [HW.o]
 by_cases hk : a = k
 ·
  rw [zN hk]
  have EC : Hid (QC k p s a = 12) := by show _ = _; unfold QC; rw [if_pos hk]
  clear hk
  go_wp2_with fail
  go_ret
  exact ⟨by rw [EC.o]; rfl, B3.o⟩
 rw [zD hk]
 have Hk := qa hk
 clear hk
 have S3 := qa (HS.o.below B3.o)
 have cp := S3.o.fp.c
 go_wp2_with fail
 rw [← HW.o]
 refine (qkf p2 p1 a p W3 (Yj HA.o B3.o) S3.o.fp.b).mono ?_
 rintro e W4 ⟨rfl, hB⟩
 have B4 := qq B3 hB
 clear hB B3 cp S3
 rw [HW.o]
 by_cases hp : a = p
 ·
  rw [zN hp]
  have EC : Hid (QC k p s a = 2) := by show _ = _; unfold QC; rw [if_neg Hk.o, if_pos hp]
  clear hp
  go_wp2_with fail
  go_ret
  exact ⟨by rw [EC.o]; rfl, B4.o⟩
 rw [zD hp]
 have Hp := qa hp
 clear hp
 have S4 := qa (HS.o.below B4.o)
 have cs := S4.o.fs.c
 go_wp2_with fail
 rw [← HW.o]
 refine (qkf p2 p1 a s W4 (Yj HA.o B4.o) S4.o.fs.b).mono ?_
 rintro e W5 ⟨rfl, hB⟩
 have B5 := qq B4 hB
 clear hB B4 cs S4
 rw [HW.o]
 by_cases hs : a = s
 ·
  rw [zN hs]
  have EC : Hid (QC k p s a = 3) := by show _ = _; unfold QC; rw [if_neg Hk.o, if_neg Hp.o, if_pos hs]
  clear hs
  go_wp2_with fail
  go_ret
  exact ⟨by rw [EC.o]; rfl, B5.o⟩
 rw [zD hs]
 have EC : Hid (QC k p s a = 4) := by show _ = _; unfold QC; rw [if_neg Hk.o, if_neg Hp.o, if_neg hs]
 clear hs
 go_wp2_with fail
 go_ret
 exact ⟨by rw [EC.o]; rfl, B5.o⟩
theorem qiX (p2 p1 : ByteArray) (c : Int) (hc : c ≠ 0) (w : World) (hE : w.cell? ⟨3, 0, none⟩ = some (j7 66)) :
  zC 30 #[qQ p2 (qQ p1 (jS c))] w (.int .i64 c) := by
 have h1 := qlU
 have h2 := qlc
 have HE0 := qa hE
 clear hE
 obtain ⟨E, HE⟩ := zx (Value.agg #[.string p2, qQ p1 (jS c)])
 have HW : Hid (qQ p2 (qQ p1 (jS c)) = .iface 173 E) := by show _ = _; rw [HE.o]; rfl
 rw [HW.o]
 go_enter Tryz.func30, Tryz.ntmps30
 go_upto_region 5 with fail
 generalize hW0 : World.alloc _ _ = W0
 have B0 : Hid (zB w W0) := by rw [← hW0]; show Below _ _ _; go_grown
 have RI : Hid (qi W0 (w.heap.size + 1) #[.int .i64 0] 136) := by rw [← hW0]; exact Zd _ _ _
 have E0 : Hid (W0.cell? ⟨3, 0, none⟩ = some (j7 66)) := (B0.o.cell (zX w _ HE0.o)).trans HE0.o
 clear hW0
 go_wp2_with fail
 refine (qeH E w.heap.size W0 E0.o (fun q W => by rw [← HW.o]; exact qjf p2 p1 c w.heap.size q W)).mono ?_
 rintro e W1 ⟨rfl, hB⟩
 have RI := qa (qk RI.o hB)
 have E1 : Hid (W1.cell? ⟨3, 0, none⟩ = some (j7 66)) := (hB.cell (zX W0 _ E0.o)).trans E0.o
 have B1 := qq B0 hB
 clear hB B0 E0
 go_wp2_with fail
 rw [← HW.o]
 refine (qje p2 p1 c (w.heap.size + 1) W1 E1.o RI.o).mono ?_
 rintro e W2 ⟨rfl, hB, hR⟩
 have B2 : Hid (zB w W2) := B1.o.trans (hB.mono (by omega))
 have ci := zj W2 (w.heap.size + 1) 0 _ _ _ hR
 have hne : (c != 0) = true := by rw [bne_iff_ne]; exact hc
 clear hB B1 hR E1
 rw [HW.o]
 go_wp2_with fail
 go_ret
 exact ⟨rfl, B2.o⟩
end
end Go.Proofs.YtccgfabojbjmjaaGreatDoor
