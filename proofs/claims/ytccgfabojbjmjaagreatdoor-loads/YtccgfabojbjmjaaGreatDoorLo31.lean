import Derived.Test.YtccgfabojbjmjaaGreatDoorLo25
import Derived.Deep.RegionHeld3
import Derived.Deep.DrawnRows
import Derived.BigRegion
set_option maxRecDepth 100000
set_option maxHeartbeats 8000000
namespace Go.Proofs.YtccgfabojbjmjaaGreatDoor
open Go.RowKit
open Go.RowKit
def qU (a : Addr) : Value := .iface 282 (.pointer (some a))
def jS (c : Int) : Value := .iface 136 (.agg #[.int .i64 c])
theorem qbw (w : World) (c : Array Value) (t : TypeId) : zB w (w.alloc (.cells c t)) := (zJ _ _).alloc (zm _) _
section
theorem qi9 (p1 : ByteArray) (a : Addr) (g q : Nat) (w : World) :
  zC 99 #[qQ p1 (qU a), .iface 138 (zp g 0), .agg (js 138 q 150), j7 134] w (.bool false) := by
 have ht := kO
 have nA := qen
 have uA := ke
 have ha1 := qdN
 have ha2 := qf3
 have nAs := qir
 have nUn := qes
 have nUns := qcp
 unfold qQ
 go_enter Tryz.func99, Tryz.ntmps99
 go_wp2_with fail
 have B0 : Hid (zB w (w.alloc (.cells (js 138 q 150) 185))) := qbw _ _ _
 obtain ⟨W0, hW0⟩ := zy (w.alloc (.cells (js 138 q 150) 185))
 rw [← hW0] at B0 ⊢
 clear hW0
 refine wp_loop_rounds 2 ?_
 rw [rounds_succ]
 go_wp2_with fail
 refine (yR p1 (qU a) _).mono ?_
 rintro e W1 ⟨rfl, hB⟩
 have B1 := qq B0 hB
 clear hB B0
 unfold qU
 go_wp2_with fail
 rw [rounds_succ]
 go_wp2_with fail
 go_ret
 exact ⟨rfl, B1.o⟩
theorem qjF (p1 : ByteArray) (a : Addr) (g q : Nat) (w : World) :
  zC 99 #[qQ p1 (qU a), .iface 139 (zp g 0), .agg (js 139 q 150), j7 136] w (.bool false) := by
 have ht := kO
 have nA := qen
 have uA := ke
 have ha1 := qdk
 have ha2 := qge
 have nAs := qir
 have nUn := qes
 have nUns := qcp
 unfold qQ
 go_enter Tryz.func99, Tryz.ntmps99
 go_wp2_with fail
 have B0 : Hid (zB w (w.alloc (.cells (js 139 q 150) 185))) := qbw _ _ _
 obtain ⟨W0, hW0⟩ := zy (w.alloc (.cells (js 139 q 150) 185))
 rw [← hW0] at B0 ⊢
 clear hW0
 refine wp_loop_rounds 2 ?_
 rw [rounds_succ]
 go_wp2_with fail
 refine (yR p1 (qU a) _).mono ?_
 rintro e W1 ⟨rfl, hB⟩
 have B1 := qq B0 hB
 clear hB B0
 unfold qU
 go_wp2_with fail
 rw [rounds_succ]
 go_wp2_with fail
 go_ret
 exact ⟨rfl, B1.o⟩
theorem qjL (p2 p1 : ByteArray) (a : Addr) (g q : Nat) (w : World) :
  zC 99 #[qQ p2 (qQ p1 (qU a)), .iface 138 (zp g 0), .agg (js 138 q 150), j7 134] w (.bool false) := by
 have ht := kO
 have nA := qen
 have uA := ke
 have ha1 := qdN
 have ha2 := qf3
 have nAs := qir
 have nUn := qes
 have nUns := qcp
 unfold qQ
 go_enter Tryz.func99, Tryz.ntmps99
 go_wp2_with fail
 have B0 : Hid (zB w (w.alloc (.cells (js 138 q 150) 185))) := qbw _ _ _
 obtain ⟨W0, hW0⟩ := zy (w.alloc (.cells (js 138 q 150) 185))
 rw [← hW0] at B0 ⊢
 clear hW0
 refine wp_loop_rounds 3 ?_
 rw [rounds_succ]
 obtain ⟨E2, HE2⟩ := zx (Value.agg #[.string p1, qU a])
 rw [← HE2.o]
 go_wp2_with fail
 refine (yR p2 (.iface 173 E2) _).mono ?_
 rintro e W2 ⟨rfl, hB⟩
 have B2 := qq B0 hB
 clear hB B0
 rw [HE2.o]
 clear HE2 E2
 go_wp2_with fail
 rw [rounds_succ]
 go_wp2_with fail
 refine (yR p1 (qU a) _).mono ?_
 rintro e W1 ⟨rfl, hB⟩
 have B1 := qq B2 hB
 clear hB B2
 unfold qU
 go_wp2_with fail
 rw [rounds_succ]
 go_wp2_with fail
 go_ret
 exact ⟨rfl, B1.o⟩
theorem qi7 (p2 p1 : ByteArray) (a : Addr) (g q : Nat) (w : World) :
  zC 99 #[qQ p2 (qQ p1 (qU a)), .iface 139 (zp g 0), .agg (js 139 q 150), j7 136] w (.bool false) := by
 have ht := kO
 have nA := qen
 have uA := ke
 have ha1 := qdk
 have ha2 := qge
 have nAs := qir
 have nUn := qes
 have nUns := qcp
 unfold qQ
 go_enter Tryz.func99, Tryz.ntmps99
 go_wp2_with fail
 have B0 : Hid (zB w (w.alloc (.cells (js 139 q 150) 185))) := qbw _ _ _
 obtain ⟨W0, hW0⟩ := zy (w.alloc (.cells (js 139 q 150) 185))
 rw [← hW0] at B0 ⊢
 clear hW0
 refine wp_loop_rounds 3 ?_
 rw [rounds_succ]
 obtain ⟨E2, HE2⟩ := zx (Value.agg #[.string p1, qU a])
 rw [← HE2.o]
 go_wp2_with fail
 refine (yR p2 (.iface 173 E2) _).mono ?_
 rintro e W2 ⟨rfl, hB⟩
 have B2 := qq B0 hB
 clear hB B0
 rw [HE2.o]
 clear HE2 E2
 go_wp2_with fail
 rw [rounds_succ]
 go_wp2_with fail
 refine (yR p1 (qU a) _).mono ?_
 rintro e W1 ⟨rfl, hB⟩
 have B1 := qq B2 hB
 clear hB B2
 unfold qU
 go_wp2_with fail
 rw [rounds_succ]
 go_wp2_with fail
 go_ret
 exact ⟨rfl, B1.o⟩
theorem qjf (p2 p1 : ByteArray) (c : Int) (g q : Nat) (w : World) :
  zC 99 #[qQ p2 (qQ p1 (jS c)), .iface 138 (zp g 0), .agg (js 138 q 150), j7 134] w (.bool false) := by
 have ht := kO
 have nA := qen
 have uA := ke
 have ha1 := qdN
 have ha2 := qlY
 have nAs := qr3
 have nUn := qsE
 have nUns := qp2
 unfold qQ
 go_enter Tryz.func99, Tryz.ntmps99
 go_wp2_with fail
 have B0 : Hid (zB w (w.alloc (.cells (js 138 q 150) 185))) := qbw _ _ _
 obtain ⟨W0, hW0⟩ := zy (w.alloc (.cells (js 138 q 150) 185))
 rw [← hW0] at B0 ⊢
 clear hW0
 refine wp_loop_rounds 3 ?_
 rw [rounds_succ]
 obtain ⟨E2, HE2⟩ := zx (Value.agg #[.string p1, jS c])
 rw [← HE2.o]
 go_wp2_with fail
 refine (yR p2 (.iface 173 E2) _).mono ?_
 rintro e W2 ⟨rfl, hB⟩
 have B2 := qq B0 hB
 clear hB B0
 rw [HE2.o]
 clear HE2 E2
 go_wp2_with fail
 rw [rounds_succ]
 go_wp2_with fail
 refine (yR p1 (jS c) _).mono ?_
 rintro e W1 ⟨rfl, hB⟩
 have B1 := qq B2 hB
 clear hB B2
 unfold jS
 go_wp2_with fail
 rw [rounds_succ]
 go_wp2_with fail
 go_ret
 exact ⟨rfl, B1.o⟩
end
open Go.RowKit
section
theorem qeH (E : Value) (g : Nat) (w : World) (hE : w.cell? ⟨3, 0, none⟩ = some (j7 66))
  (hc : ∀ (q : Nat) (W : World), Calls Tryz.prog 99 #[.iface 173 E, .iface 138 (zp g 0), .agg (js 138 q 150), j7 134] W fun e w' => e = .returned (.bool false) ∧ zB W w') :
  zC 59 #[.iface 173 E, .iface 138 (zp g 0)] w (.bool false) := by
 have h1 := qjp g
 have h2 := qpW
 have hz := qmt
 have hk1 := qoK
 have hk2 := qpJ
 have he := qnt
 have hi := qqP
 have HC := qa hc
 clear hc
 go_enter Tryz.func59, Tryz.ntmps59
 go_upto_region 6 with (first
  | (refine qB 185 (.tmp 5) (.tmp 14) (w.heap.size + 1) (js 138 w.heap.size 150) (Zd _ _ _) (qaY _ _ _) rfl (qgK _ _ _) ?_))
 try rw [qH]
 generalize hW1 : World.setRow _ _ _ = W1
 have hB1 : Hid (zB w W1) := by
  rw [← hW1]; exact ze (((zJ _ _).alloc (zm _) _).alloc (by simp) _) (by omega) _
 have R5 : Hid (qi W1 (w.heap.size + 1) (js 138 w.heap.size 150) 185) := by rw [← hW1]; exact zd _ _ _ _ _ _ (Zd _ _ _)
 have RP : Hid (qi W1 w.heap.size #[zp g 0] 138) := by rw [← hW1]; exact (zc _ _ _ _ (by omega)).trans ((zb _ _ (by simp)).trans (za _ _))
 have h3 := qoh g w.heap.size W1 RP.o
 have hE1 : W1.cell? ⟨3, 0, none⟩ = some (j7 66) := (hB1.o.cell (zX w _ hE)).trans hE
 clear hW1 h1
 go_wp2_with (first
  | (refine qaA (by rfl) 185 (.tmp 5) (by rfl) (w.heap.size + 1) (by rfl) 185 (js 138 w.heap.size 150) (0, 0) _ R5.o Tryz.underlying185 rfl (qaY _ _ _) ?_))
 refine (HC.o w.heap.size W1).mono ?_
 rintro e W2 ⟨rfl, hB2⟩
 have BW := qq hB1 hB2
 clear hB2 h2 hz hk1 hk2 he hi h3 HC
 go_wp2
 go_ret
 exact ⟨rfl, BW.o⟩
theorem qhz (E : Value) (g : Nat) (w : World) (hE : w.cell? ⟨3, 0, none⟩ = some (j7 66))
  (hc : ∀ (q : Nat) (W : World), Calls Tryz.prog 99 #[.iface 173 E, .iface 139 (zp g 0), .agg (js 139 q 150), j7 136] W fun e w' => e = .returned (.bool false) ∧ zB W w') :
  zC 59 #[.iface 173 E, .iface 139 (zp g 0)] w (.bool false) := by
 have h1 := qdR g
 have h2 := qiL
 have hz := qmt
 have hk1 := qgg
 have hk2 := qik
 have he := qfP
 have hi := qiH
 have HC := qa hc
 clear hc
 go_enter Tryz.func59, Tryz.ntmps59
 go_upto_region 6 with (first
  | (refine qB 185 (.tmp 5) (.tmp 14) (w.heap.size + 1) (js 139 w.heap.size 150) (Zd _ _ _) (qaY _ _ _) rfl (qgK _ _ _) ?_))
 try rw [qH]
 generalize hW1 : World.setRow _ _ _ = W1
 have hB1 : Hid (zB w W1) := by
  rw [← hW1]; exact ze (((zJ _ _).alloc (zm _) _).alloc (by simp) _) (by omega) _
 have R5 : Hid (qi W1 (w.heap.size + 1) (js 139 w.heap.size 150) 185) := by rw [← hW1]; exact zd _ _ _ _ _ _ (Zd _ _ _)
 have RP : Hid (qi W1 w.heap.size #[zp g 0] 139) := by rw [← hW1]; exact (zc _ _ _ _ (by omega)).trans ((zb _ _ (by simp)).trans (za _ _))
 have h3 := qfw g w.heap.size W1 RP.o
 have hE1 : W1.cell? ⟨3, 0, none⟩ = some (j7 66) := (hB1.o.cell (zX w _ hE)).trans hE
 clear hW1 h1
 go_wp2_with (first
  | (refine qaA (by rfl) 185 (.tmp 5) (by rfl) (w.heap.size + 1) (by rfl) 185 (js 139 w.heap.size 150) (0, 0) _ R5.o Tryz.underlying185 rfl (qaY _ _ _) ?_))
 refine (HC.o w.heap.size W1).mono ?_
 rintro e W2 ⟨rfl, hB2⟩
 have BW := qq hB1 hB2
 clear hB2 h2 hz hk1 hk2 he hi h3 HC
 go_wp2
 go_ret
 exact ⟨rfl, BW.o⟩
theorem qgt (p2 p1 : ByteArray) (c : Int) (g q : Nat) (w : World) (hq : w.heap[q]? = some (.cells #[zp g 0] 139)) (hg : w.heap[g]? = some (.cells #[.int .i64 0] 136)) :
  Calls Tryz.prog 99 #[qQ p2 (qQ p1 (jS c)), .iface 139 (zp g 0), .agg (js 139 q 150), j7 136] w fun e w' => e = .returned (.bool true) ∧ Below g w w' ∧ w'.heap[g]? = some (.cells #[.int .i64 c] 136) := by
 have ht := kO
 have ha1 := qdk
 have ha2 := qk7
 have nA := qen
 have uA := ke
 unfold qQ
 have Hq : Hid _ := hq
 have Hg : Hid _ := hg
 have HGW : Hid (g < w.heap.size) := qh hg
 clear hq hg
 go_enter Tryz.func99, Tryz.ntmps99
 go_wp2_with fail
 obtain ⟨W0, hW0⟩ := zy (w.alloc (.cells (js 139 q 150) 185))
 have B0 : Hid (zB w W0) := by rw [hW0]; exact qbw _ _ _
 have R6 : Hid (qi W0 w.heap.size (js 139 q 150) 185) := by rw [hW0]; exact za _ _
 rw [← hW0]
 clear hW0
 have Hq := qa (qk Hq.o B0.o)
 have Hg := qa (qk Hg.o B0.o)
 refine wp_loop_rounds 3 ?_
 rw [rounds_succ]
 obtain ⟨E2, HE2⟩ := zx (Value.agg #[.string p1, jS c])
 rw [← HE2.o]
 go_wp2_with fail
 refine (yR p2 (.iface 173 E2) _).mono ?_
 rintro e W2 ⟨rfl, hB⟩
 have R6 := qa (qk R6.o hB)
 have Hq := qa (qk Hq.o hB)
 have Hg := qa (qk Hg.o hB)
 have B2 := qq B0 hB
 clear hB B0
 rw [HE2.o]
 clear HE2 E2
 go_wp2_with fail
 rw [rounds_succ]
 go_wp2_with fail
 refine (yR p1 (jS c) _).mono ?_
 rintro e W ⟨rfl, hB⟩
 have R6 := qa (qk R6.o hB)
 have RQ := qa (qk Hq.o hB)
 have RG := qa (qk Hg.o hB)
 have B1 := qq B2 hB
 have hgs : Hid (g < W.heap.size) := qh RG.o
 clear hB B2 Hq Hg nA uA ha1
 unfold jS
 have hel := qm4 g q W RQ.o
 have hv := qi4 c W
 have hst := qrw g W.heap.size c 136 (.int .i64 0) (W.alloc (.cells #[.int .i64 c] 136)) (za _ _) ((zb _ _ (qh RG.o)).trans RG.o)
 have HST := qa hst
 go_wp2_with fail
 rw [rounds_succ]
 go_wp2_with (first
  | (refine zL 185 (.tmp 6) w.heap.size (js 139 q 150) R6.o Tryz.underlying185 (qaY _ _ _) ?_))
 go_ret
 have hgl : g < w.heap.size := HGW.o
 exact ⟨rfl, ze ((B1.o.mono (Nat.le_of_lt hgl)).alloc (Nat.le_of_lt hgs.o) _) (zm _) _, zd _ _ _ _ _ _ ((zb _ _ (qh RG.o)).trans RG.o)⟩
theorem qje (p2 p1 : ByteArray) (c : Int) (g : Nat) (w : World) (hE : w.cell? ⟨3, 0, none⟩ = some (j7 66)) (hg : w.heap[g]? = some (.cells #[.int .i64 0] 136)) :
  Calls Tryz.prog 59 #[qQ p2 (qQ p1 (jS c)), .iface 139 (zp g 0)] w fun e w' => e = .returned (.bool true) ∧ Below g w w' ∧ w'.heap[g]? = some (.cells #[.int .i64 c] 136) := by
 have h1 := qdR g
 have h2 := qiL
 have hz := qmt
 have hk1 := qgg
 have hk2 := qik
 have he := qfP
 have hi := qiH
 have Hg : Hid _ := hg
 clear hg
 obtain ⟨E, HE⟩ := zx (Value.agg #[.string p2, qQ p1 (jS c)])
 rw [show qQ p2 (qQ p1 (jS c)) = .iface 173 E by rw [HE.o]; rfl]
 go_enter Tryz.func59, Tryz.ntmps59
 go_upto_region 6 with (first
  | (refine qB 185 (.tmp 5) (.tmp 14) (w.heap.size + 1) (js 139 w.heap.size 150) (Zd _ _ _) (qaY _ _ _) rfl (qgK _ _ _) ?_))
 try rw [qH]
 generalize hW1 : World.setRow _ _ _ = W1
 have hB1 : Hid (zB w W1) := by
  rw [← hW1]; exact ze (((zJ _ _).alloc (zm _) _).alloc (by simp) _) (by omega) _
 have R5 : Hid (qi W1 (w.heap.size + 1) (js 139 w.heap.size 150) 185) := by rw [← hW1]; exact zd _ _ _ _ _ _ (Zd _ _ _)
 have RP : Hid (qi W1 w.heap.size #[zp g 0] 139) := by rw [← hW1]; exact (zc _ _ _ _ (by omega)).trans ((zb _ _ (by simp)).trans (za _ _))
 have h3 := qfw g w.heap.size W1 RP.o
 have hE1 : W1.cell? ⟨3, 0, none⟩ = some (j7 66) := (hB1.o.cell (zX w _ hE)).trans hE
 clear hW1 h1
 go_wp2_with (first
  | (refine qaA (by rfl) 185 (.tmp 5) (by rfl) (w.heap.size + 1) (by rfl) 185 (js 139 w.heap.size 150) (0, 0) _ R5.o Tryz.underlying185 rfl (qaY _ _ _) ?_))
 rw [HE.o]
 refine (qgt p2 p1 c g w.heap.size W1 RP.o ((hB1.o.block _ (qh Hg.o)).trans Hg.o)).mono ?_
 rintro e W2 ⟨rfl, hB2, hR⟩
 have BW : Hid (Below g w W2) := (hB1.o.mono (Nat.le_of_lt (qh Hg.o))).trans hB2
 have RG := qa hR
 clear hB2 h2 hz hk1 hk2 he hi h3 hR
 go_wp2
 go_ret
 exact ⟨rfl, BW.o, RG.o⟩
end
theorem qgm (L : List UInt8) (f : Nat) (c : UInt8) (h : f < L.length) : (splice L f [c]).take (f + 1) = L.take f ++ [c] := by
 unfold splice
 rw [← z9, List.take_append_of_le_length (by simp; omega)]
 exact zP (by simp; omega)
theorem qmI (H : HS) : H.mix.st = yD H.st H.blk := by cases H; rfl
structure YX (l : List UInt8) (k : Nat) (H : HS) : Prop where
 len : H.blk.length = 128
 n : H.n = k
 st : H.st = ZT l jV (k / 128)
 blk : H.blk.take (k % 128) = (l.drop (128 * (k / 128))).take (k % 128)
theorem qoG (l : List UInt8) (k : Nat) (H : HS) (hk : k < l.length) (h : YX l k H) : YX l (k + 1) (H.put (l[k])) := by
 have hf : H.filled = k % 128 := by show H.n % 128 = _; rw [h.n]
 have hfl := H.filled_lt
 have hD : (l.drop (128 * (k / 128))).take (k % 128 + 1) = (l.drop (128 * (k / 128))).take (k % 128) ++ [l[k]] := by
  have hlt : k % 128 < (l.drop (128 * (k / 128))).length := by rw [Zi]; omega
  rw [List.take_succ_eq_append_getElem hlt, List.getElem_drop]
  congr 2
  congr 1; omega
 have hB : (splice H.blk H.filled [l[k]]).take (k % 128 + 1) = (l.drop (128 * (k / 128))).take (k % 128 + 1) := by
  rw [hD, ← h.blk, ← hf, qgm _ _ _ (by rw [h.len]; exact hfl)]
 have hL : (splice H.blk H.filled [l[k]]).length = 128 := (length_splice _ _ _ (by rw [h.len]; simp; omega)).trans h.len
 unfold HS.put HS.chunk HS.done
 by_cases h0 : (k + 1) % 128 = 0
 ·
  have hc : ({ H with blk := splice H.blk H.filled [l[k]], n := H.n + [l[k]].length } : HS).filled = 0 := by show (H.n + 1) % 128 = 0; rw [h.n]; exact h0
  rw [if_pos hc]
  have hq : (k + 1) / 128 = k / 128 + 1 := by omega
  have h127 : k % 128 + 1 = 128 := by omega
  have hblk : splice H.blk H.filled [l[k]] = chunk l (k / 128) := by
   have e := hB
   rw [h127] at e
   rw [zP (by rw [hL]; exact zm _)] at e
   exact e
  refine ⟨?_, ?_, ?_, ?_⟩
  · rw [qkk]; exact hL
  · show H.n + 1 = k + 1; rw [h.n]
  ·
   rw [qmI, hq]
   show yD H.st (splice H.blk H.filled [l[k]]) = yD (ZT l jV (k / 128)) (chunk l (k / 128))
   rw [h.st, hblk]
  · rw [h0]; simp
 ·
  have hc : ¬ ({ H with blk := splice H.blk H.filled [l[k]], n := H.n + [l[k]].length } : HS).filled = 0 := by show ¬ (H.n + 1) % 128 = 0; rw [h.n]; exact h0
  rw [if_neg hc]
  have hq : (k + 1) / 128 = k / 128 := by omega
  have hr : (k + 1) % 128 = k % 128 + 1 := by omega
  refine ⟨hL, ?_, ?_, ?_⟩
  · show H.n + 1 = k + 1; rw [h.n]
  · rw [hq]; exact h.st
  · rw [hq, hr]; exact hB
theorem qhQ (l : List UInt8) : ∀ k, k ≤ l.length → YX l k (H0.puts (l.take k))
 | 0, _ => ⟨qfB, rfl, rfl, by simp⟩
 | k + 1, hk => by
  have h := qoG l k _ (by omega) (qhQ l k (by omega))
  rw [List.take_succ_eq_append_getElem (by omega), HS.puts_append]
  exact h
theorem qqV (l : List UInt8) : YX l l.length (H0.puts l) := by
 have h := qhQ l l.length (zm _)
 rw [zP (zm _)] at h
 exact h
theorem qhw (p l : List UInt8) (s : S8) (q : Nat) (h : ∀ i, i < q → chunk p i = chunk l i) : ZT p s q = ZT l s q := by
 induction q with
 | zero => rfl
 | succ q ih =>
  show yD (ZT p s q) (chunk p q) = yD (ZT l s q) (chunk l q)
  rw [ih (fun i hi => h i (by omega)), h q (by omega)]
theorem qfC (l r : List UInt8) (i : Nat) (h : 128 * i + 128 ≤ l.length) : chunk (l ++ r) i = chunk l i := by
 unfold chunk
 rw [List.drop_append_of_le_length (by omega), List.take_append_of_le_length (by rw [Zi]; omega)]
theorem qd3 (x : BitVec 64) (k m : Nat) (h : x.toNat / 2 ^ (56 - 8 * k) % 256 = m % 256) : ZD x k = UInt8.ofNat m := by
 unfold ZD
 apply UInt8.toNat.inj
 rw [UInt8.toNat_ofNat', UInt8.toNat_ofNat', BitVec.toNat_ushiftRight, Nat.shiftRight_eq_div_pow]
 exact h
theorem qqs (H : HS) (n : Nat) (hn : H.n = n) (hb : n < 2305843009213693952) : JN n 16 = jL H.hi3 ++ jL H.lo3 := by
 have hlo : H.lo.toNat = n := by unfold HS.lo; rw [hn, BitVec.toNat_ofNat]; exact z6 (by omega)
 have hhi : H.hi = 0#64 := by
  unfold HS.hi; rw [hn]
  have : n / 18446744073709551616 = 0 := by omega
  rw [this]
 have h3 : H.hi3 = 0#64 := by
  unfold HS.hi3; rw [hhi]
  apply BitVec.eq_of_toNat_eq
  rw [BitVec.toNat_or, BitVec.toNat_ushiftRight, hlo, Nat.shiftRight_eq_div_pow]
  have : n / 2 ^ 61 = 0 := by omega
  rw [this]; simp
 have hl3 : H.lo3.toNat = 8 * n := by
  unfold HS.lo3; rw [BitVec.toNat_shiftLeft, hlo, Nat.shiftLeft_eq]; omega
 have e0 : ∀ k, ZD 0#64 k = 0 := fun k => by
  rw [qd3 0#64 k 0 (by simp)]; rfl
 have c0 : ∀ i, i < 8 → Qn n i = 0 := fun i hi => by
  unfold Qn; rw [if_neg (by omega)]
  have : n / 32 / 256 ^ (14 - i) = 0 := by
   rw [Nat.div_eq_zero_iff]; right
   have : 256 ^ 7 ≤ 256 ^ (14 - i) := Nat.pow_le_pow_right (by omega) (by omega)
   omega
  rw [this]; rfl
 have c1 : ∀ k, k < 7 → Qn n (8 + k) = ZD H.lo3 k := fun k hk => by
  unfold Qn; rw [if_neg (by omega)]
  refine (qd3 _ _ _ ?_).symm
  rw [hl3]
  have e : 56 - 8 * k = 8 + 8 * (14 - (8 + k)) := by omega
  rw [e, Nat.pow_add, Nat.pow_mul, ← Nat.div_div_eq_div_mul]
  have e2 : 8 * n / 2 ^ 8 = n / 32 := by omega
  rw [e2, Nat.mod_mod]
 have c2 : Qn n 15 = ZD H.lo3 7 := by
  unfold Qn; rw [if_pos rfl]
  refine (qd3 _ _ _ ?_).symm
  rw [hl3]; omega
 have hr : JN n 16 = [Qn n 0, Qn n 1, Qn n 2, Qn n 3, Qn n 4, Qn n 5, Qn n 6, Qn n 7, Qn n 8, Qn n 9, Qn n 10, Qn n 11, Qn n 12, Qn n 13, Qn n 14, Qn n 15] := rfl
 rw [hr, h3]
 unfold jL
 rw [e0, e0, e0, e0, e0, e0, e0, e0, c0 0 (by omega), c0 1 (by omega), c0 2 (by omega), c0 3 (by omega), c0 4 (by omega), c0 5 (by omega), c0 6 (by omega), c0 7 (by omega),
  ← c1 0 (by omega), ← c1 1 (by omega), ← c1 2 (by omega), ← c1 3 (by omega), ← c1 4 (by omega), ← c1 5 (by omega), ← c1 6 (by omega), ← c2]
 rfl
theorem qvC (M : List UInt8) (x y : BitVec 64) (h : M.length = 128) : QQ (QQ M 112 x 8) 120 y 8 = M.take 112 ++ (jL x ++ jL y) := by
 rw [qfi (QQ M 112 x 8) 120 y (by rw [qbK]; omega), qfi M 112 x (by omega)]
 have h1 : (M.take 112).length = 112 := by simp; omega
 have e1 : (M.take 112 ++ (jL x ++ M.drop (112 + 8))).take 120 = M.take 112 ++ jL x := by
  rw [← z9, List.take_append_of_le_length (by simp [h1, qbm])]
  exact zP (by simp [h1, qbm])
 have e2 : (M.take 112 ++ (jL x ++ M.drop (112 + 8))).drop (120 + 8) = [] := List.drop_eq_nil_of_le (by simp [qbm]; omega)
 rw [e1, e2]; simp
theorem qoH (X : HS) (B : List UInt8) : (HS.mix { X with blk := B }).st = yD X.st B := by cases X; rfl
theorem qmT (H : HS) : H.ended.st = yD H.roomed.st (QQ (QQ H.roomed.blk 112 H.hi3 8) 120 H.lo3 8) := qoH _ _
theorem qct (p : List UInt8) (s : S8) (k : Nat) : ZT p s (k + 1) = yD (ZT p s k) (chunk p k) := rfl
theorem qfH (H : HS) : H.marked.st = H.st := by cases H; rfl
theorem qdt (l : List UInt8) (NB : Nat) (hN : (Qk l).length = 128 * NB) (hb : l.length < 2305843009213693952) : (ZT (Qk l) jV NB).words.flatMap jL = jD l := by
 have I := qqV l
 obtain ⟨H, hH⟩ := zy (H0.puts l)
 rw [← hH] at I
 unfold jD HS.sum
 rw [← hH]
 clear hH
 congr 2
 obtain ⟨q, hq⟩ := zy (l.length / 128)
 obtain ⟨f, hf⟩ := zy (l.length % 128)
 have hfil : H.filled = f := by show H.n % 128 = f; rw [I.n, hf]
 have hD : H.blk.take f = l.drop (128 * q) := by
  rw [hf, hq, I.blk]; exact zP (by rw [Zi]; omega)
 have hDl : (l.drop (128 * q)).length = f := by rw [Zi]; omega
 have hst : H.st = ZT (Qk l) jV q := by
  rw [I.st, ← hq]
  refine (qhw _ _ _ _ fun i hi => ?_).symm
  unfold Qk ZA
  rw [z9]
  exact qfC _ _ _ (by omega)
 have hcnt := qqs H l.length I.n hb
 have hPd : (Qk l).drop (128 * q) = l.drop (128 * q) ++ (128 :: List.replicate (JL l.length) 0 ++ JN l.length 16) := by
  unfold Qk ZA
  rw [z9, List.drop_append_of_le_length (by omega)]
 have hPl : (Qk l).length = l.length + 1 + JL l.length + 16 := by unfold Qk; rw [Ze, YJ, qag]
 have hM : H.marked.blk = l.drop (128 * q) ++ (128 :: List.replicate (127 - f) 0) := by
  unfold HS.marked; rw [hfil, hD]
 rw [qmT]
 by_cases h112 : f < 112
 ·
  have hz : JL l.length = 111 - f := by unfold JL; omega
  have hNB : NB = q + 1 := by omega
  have hroom : H.roomed = H.marked := by unfold HS.roomed; rw [if_neg (by rw [hfil]; omega)]
  rw [hroom, hNB, qct, qfH, hst, qvC _ _ _ (H.marked_length I.len), hM]
  refine congrArg (yD _) ?_
  unfold chunk
  rw [hPd, hz, ← hcnt, zP (by simp [qag]; omega), List.take_append, zP (by omega), hDl]
  have e : (128 :: List.replicate (127 - f) (0 : UInt8)).take (112 - f) = 128 :: List.replicate (111 - f) 0 := by
   rw [show 112 - f = (111 - f) + 1 by omega, List.take_succ_cons, List.take_replicate]
   congr 2; omega
  rw [e]; simp
 ·
  have hz : JL l.length = 239 - f := by unfold JL; omega
  have hNB : NB = q + 1 + 1 := by omega
  have hroom : H.roomed = { H.marked.mix with blk := List.replicate 128 0 } := by unfold HS.roomed; rw [if_pos (by rw [hfil]; omega)]
  have hc1 : chunk (Qk l) q = H.marked.blk := by
   unfold chunk
   rw [hPd, hz, hM, List.take_append, zP (by omega), hDl]
   congr 1
   rw [List.take_append_of_le_length (by simp; omega), show 128 - f = (127 - f) + 1 by omega, List.take_succ_cons, List.take_replicate]
   congr 2; omega
  have hc2 : chunk (Qk l) (q + 1) = List.replicate 112 0 ++ (jL H.hi3 ++ jL H.lo3) := by
   unfold chunk
   rw [show 128 * (q + 1) = 128 * q + 128 by omega, ← List.drop_drop, hPd, hz, ← hcnt]
   rw [List.drop_append, List.drop_eq_nil_of_le (by omega), hDl, List.nil_append, List.drop_append_of_le_length (by simp; omega)]
   rw [show 128 - f = (127 - f) + 1 by omega]
   rw [List.drop_succ_cons, List.drop_replicate, show 239 - f - (127 - f) = 112 by omega]
   exact zP (by simp [qag])
  have hrs : H.roomed.st = yD H.st H.marked.blk := by rw [hroom, ← qfH H]; exact qmI _
  have hrb : H.roomed.blk = List.replicate 128 0 := by rw [hroom]
  rw [hrs, hrb, hNB, qct, qct, hc1, hc2, ← hst, qvC _ _ _ (by simp)]
  refine congrArg (yD _) ?_
  simp
open Go.RowKit
section
attribute [local go_sem] y7 Ji JU Ye yh Yr qiN qhJ
attribute [local go_sem ↓] Go.wp_at_zero Go.wp_at_succ
theorem qnT (Ws W3 : World) (gc gw gv0 capv0 m capw : Nat) (L : List (BitVec 64)) (S : S8) (c0 c1 c2 c3 c5 c6 c8 c9 c10 c11 c12 c15 c16 c17 c18 c19 c20 c21 c22 c23 c24 c25 c26 c27 c28 c29 c30 c31 c32 c33 c34 c35 c36 c37 c38 c39 c40 c41 c42 c43 c44 c45 c46 c47 c48 c49 c50 c51 c52 c53 c54 c55 c56 c57 c58 c59 c60 c61 c62 c63 c64 c65 c66 c67 c68 c69 c70 c71 c72 c73 c74 c75 c76 c77 c78 c79 c80 c81 c82 c83 c84 c85 c86 c87 c88 c89 c90 c91 c92 c93 c94 c95 c96 c97 c98 c99 c100 c101 c102 c103 c104 c105 c106 c107 c108 c109 c110 c111 c112 c113 c114 c115 c116 c117 c118 c119 c120 c121 c122 c123 c124 c125 c126 c127 c128 c129 c130 c131 c132 c133 c134 c135 c136 c137 c138 c139 c140 c141 c142 c143 c144 c145 c146 c147 c148 c149 c150 c151 c152 c153 c154 c155 c156 c157 c158 c159 c160 c161 c162 c163 c164 c165 c166 c167 c168 c169 c170 c171 c172 c173 c174 c175 c176 c177 c178 c179 c180 c181 c182 c183 c184 c185 c186 c187 c188 c189 c190 c191 c192 c193 c194 c195 c196 c197 c198 c199 c200 c201 c202 c203 c204 c205 c206 c207 c208 c209 c210 c211 c212 c213 c214 c215 c216 c217 c218 c219 c220 c221 c222 c223 c224 c225 c226 c227 c228 c229 c230 c231 c232 c233 c234 c235 c236 c237 c238 c239 c240 c241 c242 c243 c244 c245 c246 c247 c248 c249 c250 c251 c252 c253 c254 c255 c256 c257 c258 c259 c260 c261 c262 c263 c264 c265 c266 c267 c268 : Value) (Q : Exit → Act → World → Prop)
  (HM80 : Hid (m = 80)) (HRcs : Hid (qi Ws gc ((Y6.map uv).toArray) 59)) (HGCs : Hid (gc < Ws.heap.size)) (HCW : Hid (∀ i, i < 80 → Ws.cell? ⟨gw, i, none⟩ = some (.int .u64 (U (L.getD i 0))))) (HGL : Hid (gw < Ws.heap.size))
  (HCV0 : Hid (∀ i, i < 8 → W3.cell? ⟨gv0, i, none⟩ = some (.int .u64 (U (S.words.getD i 0))))) (HGV0 : Hid (Ws.heap.size ≤ gv0 ∧ gv0 < W3.heap.size)) (HB4 : Hid (zB Ws W3))
  (HEX : Hid (∀ (n : Nat) (T : S8) (gv capv : Nat) (u15 u16 u17 u18 u117 u118 u119 u120 u121 u122 u123 u124 u125 u126 u127 u128 u129 u130 u131 u132 u133 u134 u135 u136 u137 u138 u139 u140 u141 u142 u143 u144 u145 u146 u147 u148 u149 u150 u151 u152 u153 u154 u155 u156 u157 u158 u159 u160 u161 u162 u163 u164 u165 u166 u167 u168 u169 u170 u171 u172 u173 u174 u175 u176 u177 u178 u179 u180 u181 u182 u183 u184 u185 u186 u187 u188 u189 u190 u191 u192 u193 u194 u195 u196 u197 u198 u199 u200 u201 u202 u203 u204 u205 u206 u207 u208 u209 u210 u211 u212 u213 u214 u215 u216 u217 u218 u219 u220 u221 u222 u223 u224 u225 u226 u227 u228 u229 u230 u231 u232 : Value) (w' : World), n = 80 → Hid (T = QH L S 80) → Hid (∀ i, i < 8 → w'.cell? ⟨gv, i, none⟩ = some (.int .u64 (U (T.words.getD i 0)))) → Hid (Ws.heap.size ≤ gv ∧ gv < w'.heap.size) → Hid (zB Ws w') →
   Q (.exit 6) ⟨List.toArray (c0 :: c1 :: c2 :: c3 :: (.slice (some ⟨gc, 0, none⟩) 80 80) :: c5 :: c6 :: (.slice (some ⟨gw, 0, none⟩) m capw) :: c8 :: c9 :: c10 :: c11 :: c12 :: (.slice (some ⟨gv, 0, none⟩) 8 capv) :: (.int .i64 n) :: u15 :: u16 :: u17 :: u18 :: c19 :: c20 :: c21 :: c22 :: c23 :: c24 :: c25 :: c26 :: c27 :: c28 :: c29 :: c30 :: c31 :: c32 :: c33 :: c34 :: c35 :: c36 :: c37 :: c38 :: c39 :: c40 :: c41 :: c42 :: c43 :: c44 :: c45 :: c46 :: c47 :: c48 :: c49 :: c50 :: c51 :: c52 :: c53 :: c54 :: c55 :: c56 :: c57 :: c58 :: c59 :: c60 :: c61 :: c62 :: c63 :: c64 :: c65 :: c66 :: c67 :: c68 :: c69 :: c70 :: c71 :: c72 :: c73 :: c74 :: c75 :: c76 :: c77 :: c78 :: c79 :: c80 :: c81 :: c82 :: c83 :: c84 :: c85 :: c86 :: c87 :: c88 :: c89 :: c90 :: c91 :: c92 :: c93 :: c94 :: c95 :: c96 :: c97 :: c98 :: c99 :: c100 :: c101 :: c102 :: c103 :: c104 :: c105 :: c106 :: c107 :: c108 :: c109 :: c110 :: c111 :: c112 :: c113 :: c114 :: c115 :: c116 :: u117 :: u118 :: u119 :: u120 :: u121 :: u122 :: u123 :: u124 :: u125 :: u126 :: u127 :: u128 :: u129 :: u130 :: u131 :: u132 :: u133 :: u134 :: u135 :: u136 :: u137 :: u138 :: u139 :: u140 :: u141 :: u142 :: u143 :: u144 :: u145 :: u146 :: u147 :: u148 :: u149 :: u150 :: u151 :: u152 :: u153 :: u154 :: u155 :: u156 :: u157 :: u158 :: u159 :: u160 :: u161 :: u162 :: u163 :: u164 :: u165 :: u166 :: u167 :: u168 :: u169 :: u170 :: u171 :: u172 :: u173 :: u174 :: u175 :: u176 :: u177 :: u178 :: u179 :: u180 :: u181 :: u182 :: u183 :: u184 :: u185 :: u186 :: u187 :: u188 :: u189 :: u190 :: u191 :: u192 :: u193 :: u194 :: u195 :: u196 :: u197 :: u198 :: u199 :: u200 :: u201 :: u202 :: u203 :: u204 :: u205 :: u206 :: u207 :: u208 :: u209 :: u210 :: u211 :: u212 :: u213 :: u214 :: u215 :: u216 :: u217 :: u218 :: u219 :: u220 :: u221 :: u222 :: u223 :: u224 :: u225 :: u226 :: u227 :: u228 :: u229 :: u230 :: u231 :: u232 :: c233 :: c234 :: c235 :: c236 :: c237 :: c238 :: c239 :: c240 :: c241 :: c242 :: c243 :: c244 :: c245 :: c246 :: c247 :: c248 :: c249 :: c250 :: c251 :: c252 :: c253 :: c254 :: c255 :: c256 :: c257 :: c258 :: c259 :: c260 :: c261 :: c262 :: c263 :: c264 :: c265 :: c266 :: c267 :: c268 :: []), []⟩ w')) :
  Code.wp Tryz.prog (Code.loop (qkI 3)) Q ⟨List.toArray (c0 :: c1 :: c2 :: c3 :: (.slice (some ⟨gc, 0, none⟩) 80 80) :: c5 :: c6 :: (.slice (some ⟨gw, 0, none⟩) m capw) :: c8 :: c9 :: c10 :: c11 :: c12 :: (.slice (some ⟨gv0, 0, none⟩) 8 capv0) :: (.int .i64 0) :: c15 :: c16 :: c17 :: c18 :: c19 :: c20 :: c21 :: c22 :: c23 :: c24 :: c25 :: c26 :: c27 :: c28 :: c29 :: c30 :: c31 :: c32 :: c33 :: c34 :: c35 :: c36 :: c37 :: c38 :: c39 :: c40 :: c41 :: c42 :: c43 :: c44 :: c45 :: c46 :: c47 :: c48 :: c49 :: c50 :: c51 :: c52 :: c53 :: c54 :: c55 :: c56 :: c57 :: c58 :: c59 :: c60 :: c61 :: c62 :: c63 :: c64 :: c65 :: c66 :: c67 :: c68 :: c69 :: c70 :: c71 :: c72 :: c73 :: c74 :: c75 :: c76 :: c77 :: c78 :: c79 :: c80 :: c81 :: c82 :: c83 :: c84 :: c85 :: c86 :: c87 :: c88 :: c89 :: c90 :: c91 :: c92 :: c93 :: c94 :: c95 :: c96 :: c97 :: c98 :: c99 :: c100 :: c101 :: c102 :: c103 :: c104 :: c105 :: c106 :: c107 :: c108 :: c109 :: c110 :: c111 :: c112 :: c113 :: c114 :: c115 :: c116 :: c117 :: c118 :: c119 :: c120 :: c121 :: c122 :: c123 :: c124 :: c125 :: c126 :: c127 :: c128 :: c129 :: c130 :: c131 :: c132 :: c133 :: c134 :: c135 :: c136 :: c137 :: c138 :: c139 :: c140 :: c141 :: c142 :: c143 :: c144 :: c145 :: c146 :: c147 :: c148 :: c149 :: c150 :: c151 :: c152 :: c153 :: c154 :: c155 :: c156 :: c157 :: c158 :: c159 :: c160 :: c161 :: c162 :: c163 :: c164 :: c165 :: c166 :: c167 :: c168 :: c169 :: c170 :: c171 :: c172 :: c173 :: c174 :: c175 :: c176 :: c177 :: c178 :: c179 :: c180 :: c181 :: c182 :: c183 :: c184 :: c185 :: c186 :: c187 :: c188 :: c189 :: c190 :: c191 :: c192 :: c193 :: c194 :: c195 :: c196 :: c197 :: c198 :: c199 :: c200 :: c201 :: c202 :: c203 :: c204 :: c205 :: c206 :: c207 :: c208 :: c209 :: c210 :: c211 :: c212 :: c213 :: c214 :: c215 :: c216 :: c217 :: c218 :: c219 :: c220 :: c221 :: c222 :: c223 :: c224 :: c225 :: c226 :: c227 :: c228 :: c229 :: c230 :: c231 :: c232 :: c233 :: c234 :: c235 :: c236 :: c237 :: c238 :: c239 :: c240 :: c241 :: c242 :: c243 :: c244 :: c245 :: c246 :: c247 :: c248 :: c249 :: c250 :: c251 :: c252 :: c253 :: c254 :: c255 :: c256 :: c257 :: c258 :: c259 :: c260 :: c261 :: c262 :: c263 :: c264 :: c265 :: c266 :: c267 :: c268 :: []), []⟩ W3 := by
 have bm80 : (80 : Int) ≤ (m : Int) := by have := HM80.o; omega
 conv => arg 2; arg 1; whnf
 go_loopw [13, 14] (fun v i w4 => ∃ (n : Nat) (T : S8) (gv capv : Nat), n ≤ 80 ∧ Hid (T = QH L S n) ∧ i = .int .i64 n ∧ v = .slice (some ⟨gv, 0, none⟩) 8 capv ∧ Hid (∀ i, i < 8 → w4.cell? ⟨gv, i, none⟩ = some (.int .u64 (U (T.words.getD i 0)))) ∧ Hid (Ws.heap.size ≤ gv ∧ gv < w4.heap.size) ∧ Hid (zB Ws w4)) (fun _ i _ => 80 - (intOf i).toNat)
 case atStart => exact ⟨0, S, gv0, capv0, Zc _, rfl, rfl, rfl, HCV0, HGV0, HB4⟩
 case round =>
  clear HCV0 HGV0 HB4
  obtain ⟨n, T, gv, capv, hn, HT, rfl, rfl, HCV, HGV, HB4⟩ := hrel
  by_cases hn80 : n < 80
  ·
   have bn : (n : Int) < 80 := by omega
   have bnm : (n : Int) < (m : Int) := by omega
   obtain ⟨ww, HWW⟩ := zx (L.getD n 0)
   have HRD : Hid (Rd wr gv gc gw n T (kw n) ww) := by
    refine ⟨HCV.o 0 (by omega), HCV.o 1 (by omega), HCV.o 2 (by omega), HCV.o 3 (by omega), HCV.o 4 (by omega), HCV.o 5 (by omega), HCV.o 6 (by omega), HCV.o 7 (by omega), ?_, ?_⟩
    ·
     have e : wr.heap[gc]? = some (.cells (Y6.map uv).toArray 59) := (HB4.o.block gc HGCs.o).trans HRcs.o
     exact qhG e n (by exact hn80)
    · rw [HWW.o]; exact (HB4.o.cell (by exact HGL.o)).trans (HCW.o n hn80)
   generalize hkk : kw n = kk at HRD
   have HKK := qa hkk
   have HST : Hid (S8.mk ((T.h + (T.e &&& T.f ||| ~~~T.e &&& T.g) + kk + ww + (T.e.rotateRight 14 ^^^ T.e.rotateRight 18 ^^^ T.e.rotateRight 41)) + ((T.a &&& T.b ||| T.a &&& T.c ||| T.b &&& T.c) + (T.a.rotateRight 28 ^^^ T.a.rotateRight 34 ^^^ T.a.rotateRight 39))) T.a T.b T.c (T.d + (T.h + (T.e &&& T.f ||| ~~~T.e &&& T.g) + kk + ww + (T.e.rotateRight 14 ^^^ T.e.rotateRight 18 ^^^ T.e.rotateRight 41))) T.e T.f T.g = QH L S (n + 1)) := by
    show _ = _
    rw [qlh, qgC, qf6, ← HT.o, HKK.o, ← HWW.o]
    exact qnu kk ww T
   clear hkk HCV
   have ca := HRD.o.a
   have cb := HRD.o.b
   have cc := HRD.o.c
   have ce := HRD.o.e
   have cf := HRD.o.f
   have cg := HRD.o.g
   go_wp2_with fail
   go_quiet (fail)
   go_wp2_with fail
   go_quiet (fail)
   clear ca cb cc ce cf cg
   generalize hV : World.drewN _ _ = V
   have HRV : Hid (Rd V gv gc gw n T kk ww) := by rw [← hV]; first | exact (HRD.o.drewN _).drewN _ | exact HRD.o.drewN _
   have HBV : Hid (zB Ws V) := by rw [← hV]; exact ⟨HB4.o.os, HB4.o.tape, HB4.o.output, HB4.o.size, HB4.o.block⟩
   have HGVV : Hid (gv < V.heap.size) := by rw [← hV]; exact HGV.o.2
   clear hV HRD HB4 HGV
   have ce := HRV.o.e
   have ch := HRV.o.h
   have ck := HRV.o.k
   have cw := HRV.o.w
   go_wp2_with fail
   go_quiet ((go_at_call 105; exact Calls.quiet_of (qaK _ _ (by decide) (by decide) _)))
   clear ce ch ck cw
   generalize hV2 : World.drewN _ _ = V2
   have HRV2 : Hid (Rd V2 gv gc gw n T kk ww) := by rw [← hV2]; exact HRV.o.drewN _
   have HBV2 : Hid (zB Ws V2) := by rw [← hV2]; exact ⟨HBV.o.os, HBV.o.tape, HBV.o.output, HBV.o.size, HBV.o.block⟩
   have HGV2 : Hid (gv < V2.heap.size) := by rw [← hV2]; exact HGVV
   clear hV2 HRV HBV HGVV
   have ca := HRV2.o.a
   go_wp2_with fail
   go_quiet ((go_at_call 105; exact Calls.quiet_of (qaK _ _ (by decide) (by decide) _)))
   clear ca
   generalize hV3 : World.drewN _ _ = V3
   have HRV3 : Hid (Rd V3 gv gc gw n T kk ww) := by rw [← hV3]; exact HRV2.o.drewN _
   have HBV3 : Hid (zB Ws V3) := by rw [← hV3]; exact ⟨HBV2.o.os, HBV2.o.tape, HBV2.o.output, HBV2.o.size, HBV2.o.block⟩
   have HGV3 : Hid (gv < V3.heap.size) := by rw [← hV3]; exact HGV2
   clear hV3 HRV2 HBV2 HGV2
   have ca := HRV3.o.a
   have cb := HRV3.o.b
   have cc := HRV3.o.c
   have cd := HRV3.o.d
   have ce := HRV3.o.e
   have cf := HRV3.o.f
   have cg := HRV3.o.g
   go_wp2_with fail
   go_region_held3 (fun w' => w'.cell? ⟨gv, 0, none⟩ = some (.int .u64 (U T.a)) ∧ w'.cell? ⟨gv, 1, none⟩ = some (.int .u64 (U T.b)) ∧ w'.cell? ⟨gv, 2, none⟩ = some (.int .u64 (U T.c)) ∧ w'.cell? ⟨gv, 3, none⟩ = some (.int .u64 (U T.d)) ∧ w'.cell? ⟨gv, 4, none⟩ = some (.int .u64 (U T.e)) ∧ w'.cell? ⟨gv, 5, none⟩ = some (.int .u64 (U T.f)) ∧ w'.cell? ⟨gv, 6, none⟩ = some (.int .u64 (U T.g)))
    (first | exact ⟨(World.cell?_alloc_lt _ _ _ (by exact HGV3.o)).trans ca, (World.cell?_alloc_lt _ _ _ (by exact HGV3.o)).trans cb, (World.cell?_alloc_lt _ _ _ (by exact HGV3.o)).trans cc, (World.cell?_alloc_lt _ _ _ (by exact HGV3.o)).trans cd, (World.cell?_alloc_lt _ _ _ (by exact HGV3.o)).trans ce, (World.cell?_alloc_lt _ _ _ (by exact HGV3.o)).trans cf, (World.cell?_alloc_lt _ _ _ (by exact HGV3.o)).trans cg⟩ | go_keep) (fail)
   clear ca cb cc cd ce cf cg
   go_wp2
   go_roundw
   case rel =>
    refine ⟨n + 1, QH L S (n + 1), V3.heap.size, 8, by omega, rfl, by go_num, rfl, ?_, ?_, ?_⟩
    ·
     intro i hi
     rw [← HST.o]
     refine qhG (fr := (0, 0)) (t := 59) (l := S8.words _) ?_ i (by exact hi)
     exact za V3 _
    · exact ⟨HBV3.o.size, by simp⟩
    · exact (HBV3.o.alloc HBV3.o.size _).drew
   case measure => simp [intOf]; omega
  ·
   have hn' : n = 80 := by omega
   have HT' : Hid (T = QH L S 80) := by rw [hn'] at HT; exact HT
   have bn80 : (80 : Int) ≤ (n : Int) := by omega
   have HN := qa hn'
   clear HT hn' hn hn80
   go_wp2_with fail
   exact HEX.o n T gv capv _ _ _ _ _ _ _ _ _ _ _ _ _ _ _ _ _ _ _ _ _ _ _ _ _ _ _ _ _ _ _ _ _ _ _ _ _ _ _ _ _ _ _ _ _ _ _ _ _ _ _ _ _ _ _ _ _ _ _ _ _ _ _ _ _ _ _ _ _ _ _ _ _ _ _ _ _ _ _ _ _ _ _ _ _ _ _ _ _ _ _ _ _ _ _ _ _ _ _ _ _ _ _ _ _ _ _ _ _ _ _ _ _ _ _ _ _ _ _ _ _ HN.o HT' HCV HGV HB4
end
open Go.RowKit
def QK (s : ByteArray) (k : Nat) : Nat := qC ((bytesOf s).take k)
theorem qg3 (l : List UInt8) (c : UInt8) : qC (l ++ [c]) = qC l + c.toNat * 256 ^ l.length := by
 induction l with
 | nil => simp [qC]
 | cons d l ih =>
  simp only [List.cons_append, qC, List.length_cons, ih, Zk]
  rw [Nat.mul_add, ← Zm, Zl 256 (c.toNat), Zm, Zl 256 (256 ^ l.length)]
  omega
theorem kX (s : ByteArray) (k : Nat) (h : k < s.size) : QK s (k + 1) = QK s k + ((bytesOf s).getD k 0).toNat * 256 ^ k := by
 have hk : k < (bytesOf s).length := by rw [jY]; exact h
 unfold QK
 rw [List.take_succ_eq_append_getElem hk, qg3, Zh, Nat.min_eq_left (Nat.le_of_lt hk), Za, zO hk, Option.getD_some]
theorem kl (s : ByteArray) (k : Nat) (h : k ≤ s.size) : QK s k < 256 ^ k := by
 have := qb9 ((bytesOf s).take k)
 rw [Zh, jY, Nat.min_eq_left h] at this
 exact this
theorem qmo (a b : Nat) (ha : a < 4294967296) (hb : b < 4294967296) : bits .or .u32 (a : Int) (b : Int) = ((a ||| b : Nat) : Int) := by
 have hx : a ||| b < 2 ^ 32 := Nat.or_lt_two_pow (by omega) (by omega)
 have h1 : (BitVec.ofInt 32 (a : Int)).toNat = a := by
  rw [BitVec.ofInt_natCast, BitVec.toNat_ofNat]; exact z6 (by omega)
 have h2 : (BitVec.ofInt 32 (b : Int)).toNat = b := by
  rw [BitVec.ofInt_natCast, BitVec.toNat_ofNat]; exact z6 (by omega)
 show IntKind.u32.wrap ((BitVec.ofInt 32 (a : Int) ||| BitVec.ofInt 32 (b : Int)).toNat : Int) = _
 rw [BitVec.toNat_or, h1, h2, z7]
 omega
theorem or4 (x : Nat) (c : UInt8) (r M : Nat) (hM : M = 2 ^ (8 * r)) (hx : x < M) (hr : M ≤ 16777216) (z : Int) (hz : z = ((c.toNat * M : Nat) : Int)) : bits .or .u32 (x : Int) z = ((x + c.toNat * M : Nat) : Int) := by
 have hy := c.toNat_lt
 have b2 : c.toNat * M ≤ 255 * 16777216 := Nat.mul_le_mul (by omega) hr
 rw [hz, qmo _ _ (by omega) (by omega)]
 congr 1
 rw [Nat.or_comm, Nat.add_comm, Zl, hM]
 rw [hM] at hx
 exact (Nat.two_pow_add_eq_or_of_lt hx _).symm
theorem qak (what : ByteArray) (c : Int) (w : World) : Calls Tryz.prog 132 #[.string what, .int .i64 c] w fun e w' => e = .returned (qQ what (jS c)) ∧ w' = w := by
 go_enter Tryz.func132, Tryz.ntmps132
 go_wp2
 go_ret
 exact ⟨rfl, rfl⟩
theorem qi1 (a b : Int) (ha : 0 ≤ a) (ha2 : a < 4294967296) (hb : 0 ≤ b) (hb2 : b < 9223372036854775807) (w : World) : Calls Tryz.prog 158 #[.int .u32 a, .int .i64 b] w fun e w' => e = .returned (.bool (decide (a = b))) ∧ w' = w := by
 have e1 : IntKind.u64.wrap a = a := by rw [Zf]; omega
 have e2 : IntKind.u64.wrap b = b := by rw [Zf]; omega
 go_enter Tryz.func158, Tryz.ntmps158
 go_wp2
 go_ret
 exact ⟨rfl, rfl⟩
theorem qed (s : ByteArray) (hs : s.size = 4) (w : World) : Calls Tryz.prog 131 #[.string s] w fun e w' => e = .returned (.int .u32 (QK s 4 : Nat)) ∧ w' = w := by
 have i0 : ∀ w, (Instr.index 9 (.string s) (.int .i64 0)).run Tryz.prog w = .ok (.int .u8 (C8 ((bytesOf s).getD 0 0))) w := Jw s 0 (by omega)
 have i1 : ∀ w, (Instr.index 9 (.string s) (.int .i64 1)).run Tryz.prog w = .ok (.int .u8 (C8 ((bytesOf s).getD 1 0))) w := Jw s 1 (by omega)
 have i2 : ∀ w, (Instr.index 9 (.string s) (.int .i64 2)).run Tryz.prog w = .ok (.int .u8 (C8 ((bytesOf s).getD 2 0))) w := Jw s 2 (by omega)
 have i3 : ∀ w, (Instr.index 9 (.string s) (.int .i64 3)).run Tryz.prog w = .ok (.int .u8 (C8 ((bytesOf s).getD 3 0))) w := Jw s 3 (by omega)
 obtain ⟨c0, Hc0⟩ : ∃ c, Hid ((bytesOf s).getD 0 0 = c) := ⟨_, qa rfl⟩
 obtain ⟨c1, Hc1⟩ : ∃ c, Hid ((bytesOf s).getD 1 0 = c) := ⟨_, qa rfl⟩
 obtain ⟨c2, Hc2⟩ : ∃ c, Hid ((bytesOf s).getD 2 0 = c) := ⟨_, qa rfl⟩
 obtain ⟨c3, Hc3⟩ : ∃ c, Hid ((bytesOf s).getD 3 0 = c) := ⟨_, qa rfl⟩
 rw [Hc0.o] at i0
 rw [Hc1.o] at i1
 rw [Hc2.o] at i2
 rw [Hc3.o] at i3
 go_enter Tryz.func131, Tryz.ntmps131
 go_wp2
 go_loopw [3, 5] (fun v i wr => ∃ (k : Nat) (z : Int), k ≤ 4 ∧ i = .int .i64 k ∧ v = .int .u32 z ∧ Hid (z = (QK s k : Nat)) ∧ wr = w) (fun _ i _ => 4 - (intOf i).toNat)
 case atStart => exact ⟨0, 0, Zc _, rfl, rfl, qa rfl, rfl⟩
 case round =>
  obtain ⟨k, z, hk, rfl, rfl, Z, rfl⟩ := hrel
  by_cases hlt : k < 4
  ·
   obtain rfl | rfl | rfl | rfl : k = 0 ∨ k = 1 ∨ k = 2 ∨ k = 3 := by omega
   ·
    have e := kX s 0 (by omega)
    rw [Hc0.o] at e
    go_wp2_with fail
    refine ⟨⟨1, _, by decide, rfl, rfl, ?_, trivial⟩, by decide⟩
    show _ = _
    rw [Z.o, or4 _ c0 0 1 rfl (kl s 0 (by omega)) (by decide) _ (by have := c0.toNat_lt; unfold C8; omega), e]
   ·
    have e := kX s 1 (by omega)
    rw [Hc1.o] at e
    go_wp2_with fail
    refine ⟨⟨2, _, by decide, rfl, rfl, ?_, trivial⟩, by decide⟩
    show _ = _
    rw [Z.o, or4 _ c1 1 256 rfl (kl s 1 (by omega)) (by decide) _ (by have := c1.toNat_lt; unfold C8; omega), e]
   ·
    have e := kX s 2 (by omega)
    rw [Hc2.o] at e
    go_wp2_with fail
    refine ⟨⟨3, _, by decide, rfl, rfl, ?_, trivial⟩, by decide⟩
    show _ = _
    rw [Z.o, or4 _ c2 2 65536 rfl (kl s 2 (by omega)) (by decide) _ (by have := c2.toNat_lt; unfold C8; omega), e]
   ·
    have e := kX s 3 (by omega)
    rw [Hc3.o] at e
    go_wp2_with fail
    refine ⟨⟨4, _, by decide, rfl, rfl, ?_, trivial⟩, by decide⟩
    show _ = _
    rw [Z.o, or4 _ c3 3 16777216 rfl (kl s 3 (by omega)) (by decide) _ (by have := c3.toNat_lt; unfold C8; omega), e]
  ·
   obtain rfl : k = 4 := by omega
   go_wp2_with fail
   go_returns
   exact ⟨by rw [Z.o]; rfl, rfl⟩
end Go.Proofs.YtccgfabojbjmjaaGreatDoor
