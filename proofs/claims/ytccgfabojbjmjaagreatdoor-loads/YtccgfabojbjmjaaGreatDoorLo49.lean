import Derived.Test.YtccgfabojbjmjaaGreatDoorLo46
import Derived.Test.YtccgfabojbjmjaaGreatDoorLo43
set_option maxRecDepth 100000
set_option maxHeartbeats 8000000
namespace Go.Proofs.YtccgfabojbjmjaaGreatDoor
open Go.RowKit
open Go.RowKit
theorem qgi {ks : List Nat} {v : Int} {t : ByteArray} (h : Qs ks v t = 0) : 192 ≤ t.size := by
 unfold Qs at h
 by_cases c : Yb t = 0
 · exact (qo3 c).2
 · rw [if_neg c] at h; exact absurd h c
theorem RL.setV {w : World} {g : Nat} {kv : Value} {keys : List ByteArray} {v : Int} (h : RL w g kv keys v) (u : Int) (u0 : 0 ≤ u) (u1 : u < 4294967296) : RL (w.setCell ⟨g, 1, none⟩ (.int .u32 u)) g kv keys u ∧ qG g w (w.setCell ⟨g, 1, none⟩ (.int .u32 u)) := by
 rw [setCell_eq_setRow w g 1 _ _ _ _ h.row, show (#[kv, .int .u32 v] : Array Value).setIfInBounds 1 (.int .u32 u) = #[kv, .int .u32 u] from rfl]
 have ob : ∀ k, k ≠ g → (w.setRow g #[kv, .int .u32 u]).heap[k]? = w.heap[k]? := fun k hk => zc _ _ _ _ hk
 have hs : (w.setRow g #[kv, .int .u32 u]).heap.size = w.heap.size := by simp [World.setRow]
 refine ⟨⟨zd _ _ _ _ _ _ h.row, ?_, h.all32, u0, u1⟩, rfl, rfl, rfl, by omega, fun k _ hk => ob k hk⟩
 rcases h.ks with h1 | ⟨q, cap, h1, h2, h3, h4⟩
 · exact .inl h1
 · exact .inr ⟨q, cap, h1, by omega, h3, fun i hi => (zo (ob q h3)).trans (h4 i hi)⟩
theorem RL.setRow {w w' : World} {g : Nat} {kv : Value} {keys : List ByteArray} {v : Int} (h : RL w' g kv keys v) (hg : g < w.heap.size) (hq : ∀ q, kv.ownBlock = some q → q < w.heap.size) {z : Nat} (hz : w.heap.size ≤ z) (cs : Array Value) : RL (w'.setRow z cs) g kv keys v := by
 have ob : ∀ k, k ≠ z → (w'.setRow z cs).heap[k]? = w'.heap[k]? := fun k hk => zc _ _ _ _ hk
 have hs : (w'.setRow z cs).heap.size = w'.heap.size := by simp [World.setRow]
 refine ⟨(ob g (by omega)).trans h.row, ?_, h.all32, h.v0, h.v1⟩
 rcases h.ks with h1 | ⟨q, cap, h1, h2, h3, h4⟩
 · exact .inl h1
 ·
  have hq' := hq q (by rw [h1]; rfl)
  exact .inr ⟨q, cap, h1, by omega, h3, fun i hi => (zo (ob q (by omega))).trans (h4 i hi)⟩
theorem RL.own {w : World} {g : Nat} {kv : Value} {keys : List ByteArray} {v : Int} (h : RL w g kv keys v) : ∀ q, kv.ownBlock = some q → q < w.heap.size := by
 intro x hx
 rcases h.ks with ⟨rfl, _⟩ | ⟨q, cap, rfl, h2, _⟩
 · cases hx
 ·
  have e : q = x := by simpa [Value.ownBlock] using hx
  omega
section
attribute [local irreducible] QV j8 ZE yc Jz Jc yp y6 jD Qs
theorem qja (g : Nat) (kv : Value) (keys : List ByteArray) (v : Int) (t : ByteArray) (hm : t.size ≤ 140737488351232) (w : World) (hR : RL w g kv keys v) (c : Int) (hc : Qs (jK keys) v t = c) (hc0 : c ≠ 0) :
  zC 52 #[zp g 0, .string t] w (.tuple #[.agg #[.int .i64 0, .int .u32 0, .int .i64 0, .int .i64 0, .int .i64 0], .int .i64 c]) := by
 have hz := k8
 have B0 : zB w (w.alloc (.cells #[.int .i64 0, .int .u32 0, .int .i64 0, .int .i64 0, .int .i64 0] 47)) := (zJ _ _).alloc (zm _) _
 have H1 := qa (qk5 g kv keys v t hm _ (hR.below B0) c hc)
 have HB0 := qa B0
 clear hR hc hm B0
 have hcb : (c == 0) = false := by simp [hc0]
 go_enter Tryz.func52, Tryz.ntmps52
 go_wp2_with fail
 refine H1.o.mono ?_
 rintro e W1 ⟨rfl, hB⟩
 have B1 := qa (HB0.o.trans (hB.mono HB0.o.size))
 have R1 : Hid (qi W1 w.heap.size #[.int .i64 0, .int .u32 0, .int .i64 0, .int .i64 0, .int .i64 0] 47) := qk (za _ _) hB
 clear hB H1 HB0
 go_wp2_with (first
  | (refine qB 47 (.tmp 4) (.tmp 12) w.heap.size #[.int .i64 0, .int .u32 0, .int .i64 0, .int .i64 0, .int .i64 0] R1.o (by rw [ya]; rfl) rfl (by simp [Value.oneCell']) ?_))
 refine zh (v := .tuple #[.agg #[.int .i64 0, .int .u32 0, .int .i64 0, .int .i64 0, .int .i64 0], .int .i64 c]) (jJ Tryz.results52 _ _ (w.heap.size) 47 _ (0, 0) _ (by rfl) (zd _ _ _ _ _ _ R1.o) Tryz.underlying47 rfl (by rw [ya]; rfl)) rfl ⟨rfl, ze B1.o (zm _) _⟩
theorem qgM (g : Nat) (kv : Value) (keys : List ByteArray) (v : Int) (t : ByteArray) (hm : t.size ≤ 140737488351232) (w : World) (hR : RL w g kv keys v) (hc : Qs (jK keys) v t = 0) (n : Nat) (en : QV t = n) (i : Nat) (ei : j8 t = (i : Int)) (z : Nat) (ez : t.size = 192 + z) :
  Calls Tryz.prog 52 #[zp g 0, .string t] w fun e w' => e = .returned (.tuple #[.agg #[.int .i64 0, .int .u32 (n : Int), .int .i64 (i : Int), .int .i64 192, .int .i64 (z : Int)], .int .i64 0]) ∧ qG g w w' ∧ RL w' g kv keys (n : Int) := by
 have hz := k8
 have B0 : zB w (w.alloc (.cells #[.int .i64 0, .int .u32 0, .int .i64 0, .int .i64 0, .int .i64 0] 47)) := (zJ _ _).alloc (zm _) _
 have H1 := qa (qk5 g kv keys v t hm _ (hR.below B0) 0 hc)
 have HB0 := qa B0
 have HR := qa hR
 have lg := qh hR.row
 have lq := qa hR.own
 have hmx : Hid (t.size ≤ maxLen) := Zg hm (by decide)
 have h192 := qgi hc
 have n1 : n < 4294967296 := by rw [← en]; unfold QV; exact kl _ 4 (by rw [QS _ _ _ (by omega)]; omega)
 have En : Hid (n = QK (t.extract 8 (8 + 4)) 4) := by rw [← en]; unfold QV; rfl
 have i256 : (i : Int) < 256 := by rw [← ei]; unfold j8; exact yt _
 have hi16 : ∀ w, (Instr.index 9 (.string t) (.int .i64 16)).run Tryz.prog w = .ok (.int .u8 i) w := by intro w; rw [← ei]; unfold j8; exact Jw t 16 (by omega) w
 have hiw : IntKind.i64.wrap (i : Int) = i := by rw [zq]; omega
 have H192 := qa h192
 have hzb : z ≤ 140737488351232 := by omega
 have htz : (t.size : Int) = 192 + (z : Int) := by omega
 have hsub : IntKind.i64.wrap (192 + (z : Int) - 192) = (z : Int) := by rw [zq]; omega
 have hsub2 : IntKind.i64.wrap ((t.size : Int) - 192) = (z : Int) := by rw [zq]; omega
 clear hR hc hm B0 h192 en ei
 go_enter Tryz.func52, Tryz.ntmps52
 go_wp2_with fail
 refine H1.o.mono ?_
 rintro e W1 ⟨rfl, hB⟩
 have B1 := qa (HB0.o.trans (hB.mono HB0.o.size))
 have R1 : Hid (qi W1 w.heap.size #[.int .i64 0, .int .u32 0, .int .i64 0, .int .i64 0, .int .i64 0] 47) := qk (za _ _) hB
 clear hB H1 HB0
 go_wp2_with fail
 refine (qp3 t 8 n (by have := H192.o; omega) hmx.o En.o _).mono ?_
 rintro e W2 ⟨rfl, hB⟩
 have B2 := qa (B1.o.trans (hB.mono B1.o.size))
 have R2 := qa (qk R1.o hB)
 clear hB B1 R1
 have L2 := qa (HR.o.below B2.o)
 have C1 : W2.cell? ⟨g, 1, none⟩ = some (.int .u32 v) := by rw [zj W2 g 1 _ _ _ L2.o.row]; rfl
 have F1 : W2.frozen? ⟨g, 1, none⟩ = false := by simp [World.frozen?, L2.o.row]
 go_upto_region 5 with fail
 try rw [qH]
 obtain ⟨L3, K3⟩ := L2.o.setV (n : Int) (by omega) (by omega)
 generalize hW3 : World.setCell _ _ _ = W3 at *
 have HL3 := qa L3
 have HK3 := qa K3
 have R3 : Hid (qi W3 w.heap.size #[.int .i64 0, .int .u32 0, .int .i64 0, .int .i64 0, .int .i64 0] 47) := (K3.block _ (qh R2.o) (by omega)).trans R2.o
 have X3 : Hid (qG g w W3) := (qG.of B2.o).trans K3
 have D1 : Hid (W3.cell? ⟨g, 1, none⟩ = some (.int .u32 (n : Int))) := by show _ = _; rw [zj W3 g 1 _ _ _ L3.row]; rfl
 clear hW3 L3 K3 C1 F1 L2 B2 R2
 refine zM (S := fun w' => w'.cell? ⟨g, 1, none⟩ = some (.int .u32 (n : Int))) (by kernel_rfl) D1.o (fun hHeld => ?_)
 have K1 : Hid (qG g w W3.drew) := X3.o.drew
 have Q1 : Hid (RL W3.drew g kv keys (n : Int)) := HL3.o.below (zJ _ _).drew
 have R4 : Hid (W3.drew.heap[w.heap.size]? = _) := R3.o
 obtain ⟨V1, hV1⟩ := zy W3.drew
 rw [← hV1] at hHeld K1 Q1 R4 ⊢
 clear hV1
 refine zU 0 ⟨some 19, .move (.tmp 0), 41, "sign.go:134", #[], none⟩ (zp g 0) ?_
 simp only [qd]
 refine zU 1 ⟨some 20, .nilCheck (.tmp 19), 0, "sign.go:134", #[ql 0], none⟩ (zp g 0) ?_
 simp only [qd]
 refine zU 2 ⟨some 21, .fieldAddr 126 (.tmp 20) 1, 0, "sign.go:134", #[ql 1], none⟩ (zp g 1) ?_
 simp only [qd]
 refine zT 3 ⟨some 22, .load 39 (.tmp 21), 39, "sign.go:134", #[ql 2], none⟩ (.int .u32 (n : Int)) (Or.inl ⟨by rfl, fun v h => qcJ _ rfl _ rfl _ v h⟩) ?_
 simp only [qd]
 refine zU 4 ⟨some 23, .move (.tmp 1), 9, "sign.go:134", #[], none⟩ (.string t) ?_
 simp only [qd]
 refine zU 5 ⟨some 24, .index 9 (.tmp 23) (.const (.int .i64 16)), 5, "sign.go:134", #[ql 4], none⟩ (.int .u8 i) ?_
 simp only [qd]
 refine zU 6 ⟨some 25, .convert 5 3 (.tmp 24), 3, "sign.go:134", #[ql 5], none⟩ (.int .i64 (i : Int)) ?_
 simp only [qd]
 refine zU 7 ⟨some 26, .move (.tmp 1), 9, "sign.go:134", #[], none⟩ (.string t) ?_
 simp only [qd]
 refine zU 8 ⟨some 27, .call ⟨.builtin .len, #[.tmp 26], #[9]⟩, 3, "sign.go:134", #[ql 7], none⟩ (.int .i64 (192 + (z : Int))) ?_
 simp only [qd]
 refine zU 9 ⟨some 28, .binOp .sub 3 (.tmp 27) (.const (.int .i64 192)) 3, 3, "sign.go:134", #[ql 8], none⟩ (.int .i64 (z : Int)) ?_
 simp only [qd]
 refine zU 10 ⟨some 29, .build 47 #[(1, .tmp 22), (2, .tmp 25), (3, .const (.int .i64 192)), (4, .tmp 28)], 47, "sign.go:134", #[ql 3, ql 6, ql 9], none⟩ (.agg #[.int .i64 0, .int .u32 (n : Int), .int .i64 (i : Int), .int .i64 192, .int .i64 (z : Int)]) ?_
 simp only [qd]
 refine zR 11 ⟨none, .store 47 (.tmp 4) (.tmp 29), 0, "sign.go:134", #[ql 10, qj 0, qj 1, qj 2, qj 3, qj 4, qj 5, qj 6, qj 7, qj 8, qj 9, qj 10], none⟩ fun K hK => ?_
 refine zQ 47 (.tmp 4) (.tmp 29) (w.heap.size) #[.int .i64 0, .int .u32 (n : Int), .int .i64 (i : Int), .int .i64 192, .int .i64 (z : Int)] R4.o (by rw [ya]; rfl) rfl (by simp [Value.oneCell']) ?_
 rw [qH]
 have Q2 : Hid (RL (V1.setRow w.heap.size #[.int .i64 0, .int .u32 (n : Int), .int .i64 (i : Int), .int .i64 192, .int .i64 (z : Int)]) g kv keys (n : Int)) := Q1.o.setRow lg lq.o (zm _) _
 refine hK.o _ _ (by show _ = _; rw [zj _ g 1 _ _ _ Q2.o.row]; rfl) (fun hHeld => ?_)
 try simp only [qd]
 refine zU 12 ⟨some 5, .assign (.const (.int .i64 0)), 3, "sign.go:134", #[qT 11, qj 0, qj 1, qj 2, qj 3, qj 4, qj 5, qj 6, qj 7, qj 8, qj 9, qj 10, qj 11], none⟩ (.int .i64 0) ?_
 simp only [qd]
 refine zi (by kernel_rfl) ?_ _
 go_wp2_with fail
 refine zh (v := .tuple #[.agg #[.int .i64 0, .int .u32 (n : Int), .int .i64 (i : Int), .int .i64 192, .int .i64 (z : Int)], .int .i64 0]) (jJ Tryz.results52 _ _ (w.heap.size) 47 _ (0, 0) _ (by rfl) (zd _ _ _ _ _ _ R4.o) Tryz.underlying47 rfl (by rw [ya]; rfl)) rfl ⟨rfl, K1.o.setRow (zm _) _, Q2.o⟩
end
end Go.Proofs.YtccgfabojbjmjaaGreatDoor
