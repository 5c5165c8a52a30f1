import Derived.Test.YtccgfabojbjmjaaGreatDoorLo46
import Derived.Test.YtccgfabojbjmjaaGreatDoorLo43
set_option maxRecDepth 100000
set_option maxHeartbeats 8000000
namespace Go.Proofs.YtccgfabojbjmjaaGreatDoor
open Go.RowKit
open Go.RowKit
def yk (keys : List ByteArray) : Prop := keys.length ≤ 4 ∧ ∀ k ∈ keys, k.size = 32
def kI : ByteArray := ⟨#[116, 104, 101, 32, 107, 101, 121, 115]⟩
section
attribute [local irreducible] bA bL
theorem qjX (keys : List ByteArray) (hno : ¬ yk keys) (q cap : Nat) (w : World) (hS : yF w q keys) (hq : q < w.heap.size) :
  zC 88 #[.slice (some ⟨q, 0, none⟩) keys.length cap] w (.tuple #[.slice none 0 0, .bool false]) := by
 have HS := qa hS
 by_cases h4 : keys.length ≤ 4
 case neg =>
  have b4 : (4 : Int) < (keys.length : Int) := by omega
  clear h4 hS
  go_enter Tryz.func88, Tryz.ntmps88
  go_wp2_with fail
  go_returns
  exact ⟨rfl, zJ _ _⟩
 have H32 : Hid (¬ ∀ k ∈ keys, k.size = 32) := fun h => hno ⟨h4, h⟩
 obtain ⟨i0, HI0, HZ⟩ : ∃ i, Hid (Tryz.prog.info? 62 = some i) ∧ Hid (i.zero = some (.agg (bA 0)) ∧ i.size = 32 ∧ i.bytes = 32) := by
  have e := qh2
  cases hi : Tryz.prog.info? 62 with
  | none => rw [hi] at e; cases e
  | some i => rw [hi] at e; simp at e; exact ⟨i, rfl, e.1, e.2.1, e.2.2⟩
 have b4 : (keys.length : Int) ≤ 4 := by omega
 clear hS hno
 have ha1 := qg8
 go_enter Tryz.func88, Tryz.ntmps88
 go_wp2_with fail
 go_loopw [4, 12] (fun u v wr => ∃ i : Nat, i ≤ keys.length ∧ v = .int .i64 i ∧ Hid (∀ j (h : j < keys.length), j < i → keys[j].size = 32) ∧ Hid (wr.ownsRow w.heap.size 62 32 u i (cellsOf (jK (keys.take i)))) ∧ Hid (zB w wr)) (fun _ v _ => keys.length - (intOf v).toNat)
 case atStart => exact ⟨0, by omega, rfl, qa (fun j _ h => absurd h (by omega)), qa (World.ownsRow_nil _ _ _ _), qa (zJ _ _)⟩
 case round =>
  obtain ⟨i, hi, rfl, HA, HR, HB⟩ := hrel
  by_cases hlt : i < keys.length
  ·
   have bi : (i : Int) < (keys.length : Int) := by omega
   have hix := qgT q keys.length i cap hlt
   obtain ⟨K, EK⟩ := zx (keys[i])
   have c1 : wr.cell? ⟨q, i, none⟩ = some (.string K) := by rw [EK.o]; exact (HB.o.cell hq).trans (HS.o i hlt)
   by_cases k32 : K.size = 32
   case neg =>
    have hK : ¬ (K.size : Int) = 32 := by omega
    have hKb : ((K.size : Int) == 32) = false := by simp; omega
    clear k32
    go_wp2_with fail
    go_returns
    exact ⟨rfl, HB.o⟩
   have K32 := qa k32
   clear k32
   have hK : (K.size : Int) = 32 := by rw [K32.o]; rfl
   obtain ⟨m, Em⟩ := zx (qC (bytesOf K))
   obtain ⟨cp, W1, hcv, hR, hB, hSz⟩ := JT 9 89 5 JA Jt Jv K wr
   rw [K32.o] at hcv
   have lk : (bytesOf K).length = 32 := by rw [jY, K32.o]
   obtain ⟨z, hz⟩ := zy wr.heap.size
   rw [← hz] at hcv hR
   clear hz
   obtain ⟨M1, EM1⟩ := zx ((bytesOf K).map cv)
   rw [← EM1.o] at hR
   have R1 := qa hR
   have HM1 : Hid ((Tryz.prog.info? 62).map (·.size) = some M1.length) := by show _ = _; rw [kU, EM1.o, zv, lk]
   have EB1 : M1.toArray = bA m := by rw [EM1.o, Em.o]; exact qeR _ lk
   have HR1 : Hid (W1.ownsRow w.heap.size 62 32 u4 i (cellsOf (jK (keys.take i)))) := by
    obtain ⟨e1, ⟨rfl, e2⟩ | ⟨g, cap, cur, rfl, e2, e3, e4⟩⟩ := HR.o
    · exact ⟨e1, .inl ⟨rfl, e2⟩⟩
    · exact ⟨e1, .inr ⟨g, cap, cur, rfl, e2, (hB.block g (qh e3)).trans e3, e4⟩⟩
   have B1 := qq HB hB
   have hbs := qfK m W1
   have HR2 : Hid ((W1.alloc (.cells (bA m) 62)).ownsRow w.heap.size 62 32 u4 i (cellsOf (jK (keys.take i)))) := by
    obtain ⟨e1, ⟨rfl, e2⟩ | ⟨g, cap, cur, rfl, e2, e3, e4⟩⟩ := HR1.o
    · exact ⟨e1, .inl ⟨rfl, e2⟩⟩
    · exact ⟨e1, .inr ⟨g, cap, cur, rfl, e2, (zb _ _ (qh e3)).trans e3, e4⟩⟩
   have hsz := B1.o.size
   clear hR hB hSz HR
   go_wp2_with (first
    | (refine zG (by rfl) 62 (.tmp 22) (by rfl) z 0 (by rfl) M1 _ R1.o ZH rfl HM1.o ?_; rw [EB1])
    | (refine qcF _ (by rfl) 116 1 (.tmp 23) (by rfl) (.agg (bA m)) (by rfl) hbs ?_)
    | (at_builtin; refine wpList_append_own _ (by rfl) (.tmp 19) (.tmp 24) 116 (by rfl) w.heap.size 62 i0 (.agg (bA 0)) 32 32 qde HI0.o HZ.o.1 HZ.o.2.1 HZ.o.2.2 (by exact qgf 0) (by decide) u4 i _ (by rfl) HR2.o ⟨W1.heap.size, 0, none⟩ 1 1 (bL m) (by rfl) (by rw [qfN]) (fun j v hv => by rw [Addr.add_mid, Zb, zj _ _ j _ _ _ (za _ _), ← qt9, zV]; exact hv) (qim m) (by unfold maxLen; omega) (by omega) (by simp; omega) ?_; intro v1 W2 hO2 hG2 _))
   refine ⟨⟨i + 1, by omega, by go_num, ?_, ?_, ?_⟩, by simp [intOf]; omega⟩
   ·
    intro j h1 h2
    by_cases hj : j < i
    · exact HA.o j h1 hj
    ·
     obtain rfl : j = i := by omega
     rw [← EK.o]; exact K32.o
   ·
    rw [qfQ keys i hlt, qcK, ← EK.o, ← Em.o]
    exact hO2
   · exact (B1.o.alloc hsz _).grown hG2 (by simp; omega) (fun k hk => (HR2.o.lt k hk).1)
  ·
   exfalso
   apply H32.o
   intro k hk
   obtain ⟨j, hj, rfl⟩ := List.mem_iff_getElem.1 hk
   exact HA.o j hj (by omega)
end
theorem qnY (keys : List ByteArray) (hno : ¬ yk keys) (q cap : Nat) (v : Int) (w : World) (hS : yF w q keys) (hq : q < w.heap.size) (k : Addr) (hk : ZO w 0 k) :
  zC 53 #[.slice (some ⟨q, 0, none⟩) keys.length cap, .int .u32 v] w (.tuple #[.agg #[.slice none 0 0, .int .u32 0, .pointer none, .map none], qQ kI (qU k)]) := by
 have hz := qhX
 obtain ⟨W0, hW0⟩ := zy (w.alloc (.cells #[.slice none 0 0, .int .u32 0, .pointer none, .map none] 119))
 have B0 : zB w W0 := by rw [hW0]; exact (zJ _ _).alloc (zm _) _
 have R0 : Hid (qi W0 w.heap.size #[.slice none 0 0, .int .u32 0, .pointer none, .map none] 119) := by rw [hW0]; exact za _ _
 have H1 := qa (qjX keys hno q cap W0 (hS.below B0 hq) (zl hq B0.size))
 have HB0 := qa B0
 have HP := qa hk
 have gl : Hid (0 < w.heap.size) := zX w _ hk.c
 rw [hW0] at H1
 clear hS hno B0 hk
 go_enter Tryz.func53, Tryz.ntmps53
 go_wp2_with fail
 refine H1.o.mono ?_
 rintro e W1 ⟨rfl, hB⟩
 rw [← hW0] at hB
 have B1 := qa (HB0.o.trans (hB.mono HB0.o.size))
 have R1 := qa (qk R0.o hB)
 clear hB H1 R0 HB0
 have C1 : Hid (W1.cell? ⟨0, 0, none⟩ = some (qU k)) := (HP.o.below B1.o).c
 go_upto_region 3 with fail
 refine zM (S := fun w' => w'.cell? ⟨0, 0, none⟩ = some (qU k)) (by kernel_rfl) C1.o (fun hHeld => ?_)
 have K1 : Hid (zB w W1.drew) := B1.o.drew
 have R4 : Hid (W1.drew.heap[w.heap.size]? = _) := R1.o
 obtain ⟨V1, hV1⟩ := zy W1.drew
 rw [← hV1] at hHeld K1 R4 ⊢
 clear hV1
 refine zU 0 ⟨some 15, .build 119 #[], 119, "loader.go:27", #[], none⟩ (.agg #[.slice none 0 0, .int .u32 0, .pointer none, .map none]) ?_
 simp only [qd]
 refine zT 1 ⟨some 16, .load 66 (.global 0), 66, "loader.go:27", #[], none⟩ (qU k) (Or.inl ⟨by rfl, fun v h => qfU _ rfl _ v h⟩) ?_
 simp only [qd]
 refine zT 2 ⟨some 17, .build 173 #[(0, .const (.string { data := #[116, 104, 101, 32, 107, 101, 121, 115] })), (1, .tmp 16)], 173, "loader.go:27", #[ql 1], none⟩ (.agg #[.string kI, qU k]) (Or.inl ⟨by rfl, fun w _ => by first | (go_simp; done) | (go_simp; rfl)⟩) ?_
 simp only [qd]
 refine zT 3 ⟨some 18, .makeInterface 173 (.tmp 17), 66, "loader.go:27", #[ql 2, ⟨4, .gcOnly .lateStores⟩], none⟩ (qQ kI (qU k)) (Or.inl ⟨by rfl, fun w _ => by first | (go_simp; done) | (go_simp; rfl)⟩) ?_
 simp only [qd]
 refine zR 4 ⟨none, .store 119 (.tmp 4) (.tmp 15), 0, "loader.go:27", #[ql 0, qj 0, ⟨1, .textOnly .lateStores⟩, ⟨2, .textOnly .lateStores⟩, ⟨3, .textOnly .lateStores⟩], none⟩ fun K hK => ?_
 refine zQ 119 (.tmp 4) (.tmp 15) (w.heap.size) #[.slice none 0 0, .int .u32 0, .pointer none, .map none] R4.o (by rw [kY]; rfl) rfl (by simp [Value.oneCell']) ?_
 rw [qH]
 refine hK.o _ _ ((zo (zc _ _ _ _ (by have := gl.o; show 0 ≠ _; omega))).trans (HP.o.below K1.o).c) (fun hHeld => ?_)
 try simp only [qd]
 refine zT 5 ⟨some 5, .assign (.tmp 18), 66, "loader.go:27", #[ql 3, qT 4, qj 0, qj 1, qj 2, qj 3, qj 4], none⟩ (qQ kI (qU k)) (Or.inl ⟨by rfl, fun w _ => by first | (go_simp; done) | (go_simp; rfl)⟩) ?_
 simp only [qd]
 refine zi (by kernel_rfl) ?_ _
 go_wp2_with fail
 refine zh (v := .tuple #[.agg #[.slice none 0 0, .int .u32 0, .pointer none, .map none], qQ kI (qU k)]) (jJ Tryz.results53 _ _ (w.heap.size) 119 _ (0, 0) _ (by rfl) (zd _ _ _ _ _ _ R4.o) Tryz.underlying119 rfl (by rw [kY]; rfl)) rfl ⟨rfl, ze K1.o (zm _) _⟩
theorem qhc (keys : List ByteArray) (hno : ¬ yk keys) (q cap : Nat) (v : Int) (w : World) (hS : yF w q keys) (hq : q < w.heap.size) (k p s g : Addr) (hV : ZF w k p s g) :
  zC 25 #[.slice (some ⟨q, 0, none⟩) keys.length cap, .int .u32 v] w (.tuple #[.pointer none, .int .i64 12]) := by
 have hz := qhX
 have H1 := qa (qnY keys hno q cap v w hS hq k hV.sen.fk)
 have HV := qa hV
 clear hS hno hV
 obtain ⟨Q, HQ⟩ := zx (Value.agg #[.string kI, qU k])
 have hQ : qQ kI (qU k) = .iface 173 Q := by rw [HQ.o]; rfl
 rw [hQ] at H1
 go_enter Tryz.func25, Tryz.ntmps25
 go_wp2_with fail
 refine H1.o.mono ?_
 rintro e W1 ⟨rfl, hB⟩
 have B1 := qa hB
 clear hB H1
 go_upto_region 2 with (first
  | (refine qB 119 (.tmp 6) (.tmp 12) W1.heap.size #[.slice none 0 0, .int .u32 0, .pointer none, .map none] (za _ _) (by rw [kY]; rfl) rfl (by simp [Value.oneCell']) ?_))
 try rw [qH]
 generalize hW2 : World.setRow _ _ _ = W2
 have K2 : zB W1 W2 := by rw [← hW2]; exact ze ((zJ _ _).alloc (zm _) _) (zm _) _
 have B2 := qa (B1.o.trans (K2.mono B1.o.size))
 clear hW2 K2
 have V2 := qa (HV.o.below B2.o)
 have hcode : zC 30 #[.iface 173 Q] W2 (.int .i64 12) := by
  have e := qjg kI k W2 k p s g V2.o.sen V2.o.sen.fk.b
  rw [show QC k p s k = 12 by unfold QC; rw [if_pos rfl], hQ] at e
  exact e
 have HC := qa hcode
 clear hcode hQ
 go_wp2_with fail
 refine HC.o.mono ?_
 rintro e W3 ⟨rfl, hB⟩
 have B3 := qa (B2.o.trans (hB.mono B2.o.size))
 clear hB
 go_wp2_with fail
 go_returns
 exact ⟨rfl, B3.o⟩
end Go.Proofs.YtccgfabojbjmjaaGreatDoor
