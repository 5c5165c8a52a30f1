import Derived.Test.YtccgfabojbjmjaaGreatDoorLo33
import Derived.Lib.BufferWrite
set_option maxRecDepth 100000
set_option maxHeartbeats 8000000
namespace Go.Proofs.YtccgfabojbjmjaaGreatDoor
open Go.RowKit
open Go.RowKit
theorem qbI (l : List UInt8) : (jk l).size = l.length := by unfold jk; rfl
theorem qrG (l : List UInt8) : (Jk l 16).getD 16 0 = 0 := by
 unfold Jk
 simp [zr, List.getD]
theorem qqI (D : List Int) (l : List UInt8) (hD : D.length = 17) (h : ∀ i, i < 16 → D.getD i 0 = wI l i) (h16 : D.getD 16 0 = 0) : D = Jk l 16 := by
 refine List.ext_getElem (by rw [hD, qbj]) (fun i h1 h2 => ?_)
 have e : ∀ (L : List Int) (h : i < L.length), L[i] = L.getD i 0 := fun L h => by simp [List.getD, h]
 rw [e D h1, e _ h2]
 by_cases c : i < 16
 · rw [h i c, qic l 16 i c (by omega)]
 ·
  have : i = 16 := by omega
  subst this
  rw [h16, qrG]
theorem quq (n i : Nat) (hi : i < 16) : wI (qI n 32) i = ((n / 65536 ^ i % 65536 : Nat) : Int) := by
 unfold wI
 have g : ∀ j, j < 32 → (qI n 32).getD j 0 = Qe n j := fun j hj => qbX n 32 j hj
 rw [g _ (by omega), g _ (by omega)]
 unfold C8
 rw [Ja, Ja]
 have e1 : 65536 ^ i = 256 ^ (2 * i) := by rw [Nat.pow_mul]
 have e2 : n / 256 ^ (2 * i + 1) = n / 256 ^ (2 * i) / 256 := by rw [Zk, Nat.div_div_eq_div_mul]
 rw [e1, e2]
 omega
theorem qr4 (n : Nat) (hn : n < 115792089237316195423570985008687907853269984665640564039457584007913129639936) : sA (qI n 32) = ((dB 65536 17 (n : Int)).map iv).toArray := by
 rw [qpd, ← qqI (dB 65536 17 (n : Int)) (qI n 32) (ZG _ _ _)]
 ·
  intro i hi
  rw [qk8 65536 (by decide) 17 i _ (by omega), quq n i hi]
  rw [show ((65536 : Int) ^ i) = ((65536 ^ i : Nat) : Int) by simp]
  omega
 ·
  rw [qk8 65536 (by decide) 17 16 _ (by omega)]
  have e : (n : Int) / 65536 ^ 16 = 0 := by
   have : (65536 : Int) ^ 16 = 115792089237316195423570985008687907853269984665640564039457584007913129639936 := by decide
   rw [this]; omega
  rw [e]; rfl
theorem qtD (H : List UInt8) : ((yz (jk H) 0).map iv).toArray = sA (qI (qC H % jf) 32) := by
 rw [qr4 _ (Nat.lt_trans (Nat.mod_lt _ (by decide)) (by decide))]
 unfold yz
 rw [qad, Nat.pow_zero, Nat.div_one]
 rfl
theorem qfM (s : ByteArray) (w : World) (hs : s.size ≤ 140737488351744) :
  zC 61 #[.string s] w (.string (jk (jD (bytesOf s)))) := by
 refine (qhn s w hs).mono ?_
 rintro e w' ⟨NB, hNB, rfl, hB⟩
 refine ⟨?_, hB⟩
 rw [qdt (jt s) NB hNB (by rw [yI]; omega)]
 rfl
section
attribute [local irreducible] sA
theorem qk3 (s : ByteArray) (hs : s.size ≤ 140737488351744) (N : Nat) (hN : N = qC (jD (bytesOf s)) % jf) (w : World) :
  zC 38 #[.string s] w (.agg (sA (qI N 32))) := by
 have hz := qlX
 have HN := qa hN
 have HS := qa hs
 clear hN hs
 go_enter Tryz.func38, Tryz.ntmps38
 go_upto_region 1 with fail
 obtain ⟨W0, hW0⟩ := zy (w.alloc (.cells zS 91))
 have RZ : Hid (qi W0 w.heap.size zS 91) := by rw [hW0]; exact za _ _
 have BL : Hid (zB w W0) := by rw [hW0]; exact (zJ _ _).alloc (zm _) _
 rw [← hW0]
 clear hW0
 go_wp2_with fail
 refine (qfM s _ HS.o).mono ?_
 rintro e W1 ⟨rfl, hB⟩
 have RZ := qa (qk RZ.o hB)
 have BL := qq BL hB
 clear hB
 obtain ⟨H, EH⟩ := zx (jD (bytesOf s))
 rw [← EH.o]
 go_wp2_with fail
 refine (qgU (jk H) (by rw [qbI, EH.o, qao]; decide) _).mono ?_
 rintro e W2 ⟨rfl, hB⟩
 have RZ := qa (qk RZ.o hB)
 have BL := qq BL hB
 clear hB
 rw [qtD, EH.o, ← HN.o]
 go_wp2_with (first | (refine qB 91 (.tmp 2) (.tmp 7) w.heap.size (sA (qI N 32)) RZ.o (qbJ _) (qib _) (qiB _) ?_))
 refine zh (v := .agg (sA (qI N 32))) (results_cell_row Tryz.results38 _ _ w.heap.size 91 _ (0, 0) _ (by rfl) (zd _ _ _ _ _ _ RZ.o) y9 rfl (qbJ _)) rfl ⟨rfl, ze BL.o (zm _) _⟩
end
structure TI (a b d : List Int) (i k : Nat) : Prop where
 l : d.length = 35
 val : vB 65536 d = vB 65536 (a.take i) * vB 65536 b + a.getD i 0 * (65536 ^ i * vB 65536 (b.take k))
 b : ∀ x ∈ d, 0 ≤ x ∧ x ≤ (17 * i + k : Nat) * 4294967296
theorem qn7 {x y : Int} (hx : 0 ≤ x ∧ x < 65536) (hy : 0 ≤ y ∧ y < 65536) : 0 ≤ x * y ∧ x * y ≤ 4294967296 := by
 refine ⟨Int.mul_nonneg hx.1 hy.1, ?_⟩
 have h1 := Int.mul_le_mul_of_nonneg_left (show y ≤ 65536 by omega) hx.1
 omega
theorem TI.start (a b : List Int) : TI a b (List.replicate 35 0) 0 0 := by
 refine ⟨rfl, ?_, ?_⟩
 ·
  rw [List.take_zero, List.take_zero]
  have : vB 65536 (List.replicate 35 0) = 0 := by decide
  rw [this]; simp [vB]
 · intro x hx; rw [List.mem_replicate] at hx; omega
theorem TI.step {a b d : List Int} {i k : Nat} (h : TI a b d i k) (hb : b.length = 17) (ra : ∀ x ∈ a, 0 ≤ x ∧ x < 65536) (rb : ∀ x ∈ b, 0 ≤ x ∧ x < 65536) (ha : i < a.length) (hl : a.length = 17) (hk : k < 17) :
  TI a b (d.set (i + k) (d.getD (i + k) 0 + a.getD i 0 * b.getD k 0)) i (k + 1) := by
 have hp := qn7 (ra _ (jB ha)) (rb _ (jB (l := b) (i := k) (by omega)))
 have hlt : i + k < d.length := by rw [h.l]; omega
 refine ⟨by rw [List.length_set]; exact h.l, ?_, ?_⟩
 ·
  rw [YI _ _ _ _ hlt, qbL _ _ _ (by omega)]
  have e := h.val
  have e2 : (d.getD (i + k) 0 + a.getD i 0 * b.getD k 0 - d.getD (i + k) 0) * 65536 ^ (i + k) = a.getD i 0 * (65536 ^ i * (b.getD k 0 * 65536 ^ k)) := by
   rw [kZ, Int.pow_add]
   ac_rfl
  rw [e2, Int.mul_add, Int.mul_add]
  omega
 ·
  intro x hx
  rcases List.mem_or_eq_of_mem_set hx with hx | hx
  · have := h.b x hx; omega
  · have := h.b _ (jB hlt); omega
theorem TI.next {a b d : List Int} {i : Nat} (h : TI a b d i 17) (hb : b.length = 17) (ha : i < a.length) : TI a b d (i + 1) 0 := by
 refine ⟨h.l, ?_, fun x hx => by have := h.b x hx; omega⟩
 have e := h.val
 rw [zP (show b.length ≤ 17 by omega)] at e
 rw [e, qbL _ _ _ ha, Int.add_mul, List.take_zero]
 simp only [vB, Int.mul_zero, Int.add_zero]
 congr 1
 ac_rfl
structure TA (v : Int) (c d : List Int) (k : Nat) : Prop where
 l : d.length = 35
 val : vB 65536 d = v + vB 65536 (c.take k)
 b : ∀ x ∈ d, 0 ≤ x ∧ x ≤ 1241245548544 + k * 65536
theorem TA.step {v : Int} {c d : List Int} {k : Nat} (h : TA v c d k) (hc : c.length = 17) (rc : ∀ x ∈ c, 0 ≤ x ∧ x < 65536) (hk : k < 17) : TA v c (d.set k (d.getD k 0 + c.getD k 0)) (k + 1) := by
 have hp := rc _ (jB (l := c) (i := k) (by omega))
 have hlt : k < d.length := by rw [h.l]; omega
 refine ⟨by rw [List.length_set]; exact h.l, ?_, ?_⟩
 ·
  rw [YI _ _ _ _ hlt, qbL _ _ _ (by omega), kZ, h.val]
  omega
 ·
  intro x hx
  rcases List.mem_or_eq_of_mem_set hx with hx | hx
  · have := h.b x hx; omega
  · have := h.b _ (jB hlt); omega
structure TW (w wr : World) (q : Nat) (A B C d : List Int) : Prop where
 r0 : wr.heap[w.heap.size]? = some (.cells (A.map iv).toArray 91)
 r1 : wr.heap[w.heap.size + 1]? = some (.cells (B.map iv).toArray 91)
 r2 : wr.heap[w.heap.size + 2]? = some (.cells (C.map iv).toArray 91)
 r3 : wr.heap[w.heap.size + 3]? = some (.cells zS 91)
 r4 : wr.heap[q]? = some (.cells (d.map iv).toArray 3)
 be : zB w wr
theorem TW.set {w wr : World} {q : Nat} {A B C d : List Int} (h : TW w wr q A B C d) (hq : w.heap.size + 4 ≤ q) (i : Nat) (v : Int) : TW w (wr.setCell ⟨q, i, none⟩ (iv v)) q A B C (d.set i v) :=
 ⟨QR _ _ h.r0 (by omega), QR _ _ h.r1 (by omega), QR _ _ h.r2 (by omega), QR _ _ h.r3 (by omega), by rw [List.map_set]; exact Qg h.r4 i _, h.be.setCell (by show w.heap.size ≤ q; omega) _⟩
theorem TW.drew {w wr : World} {q : Nat} {A B C d : List Int} (h : TW w wr q A B C d) : TW w wr.drew q A B C d := ⟨h.r0, h.r1, h.r2, h.r3, h.r4, h.be.drew⟩
theorem qpK (n : Nat) (hn : n < 115792089237316195423570985008687907853269984665640564039457584007913129639936) : vB 65536 (dB 65536 17 (n : Int)) = n := by
 rw [Yd 65536 (by decide)]
 have : (65536 : Int) ^ 17 = 7588550360256754183279148073529370729071901715047420004889892225542594864082845696 := by decide
 rw [this]; omega
theorem qrW : RQ qqf g0 := by
 refine ⟨⟨j3, Yu, Yu⟩, ?_, ?_, ?_⟩
 ·
  show qp 1 ≠ 0
  rw [ZY]; exact qdj
 ·
  show qp 0 = 0 * qp 1
  rw [kC, Fin.zero_mul]
 ·
  show qp 1 = 1 * qp 1
  rw [Fin.one_mul]
theorem qrS (l : List UInt8) (j : Nat) : wI l j = ((qC l / 65536 ^ j % 65536 : Nat) : Int) := by
 have h0 := qar l (2 * j)
 have h1 := qar l (2 * j + 1)
 unfold wI C8
 rw [← h0, ← h1, Zk, show (256 : Nat) ^ (2 * j) = 65536 ^ j by rw [Nat.pow_mul], ← Nat.div_div_eq_div_mul]
 generalize qC l / 65536 ^ j = x
 omega
theorem qsm (x q r : Nat) (hr : r < 16) : x / 65536 ^ q % 65536 / 2 ^ r % 2 = x / 2 ^ (16 * q + r) % 2 := by
 have e : (65536 : Nat) ^ q = 2 ^ (16 * q) := by rw [Nat.pow_mul]
 rw [e, Nat.pow_add, ← Nat.div_div_eq_div_mul]
 generalize x / 2 ^ (16 * q) = y
 have h : r = 0 ∨ r = 1 ∨ r = 2 ∨ r = 3 ∨ r = 4 ∨ r = 5 ∨ r = 6 ∨ r = 7 ∨ r = 8 ∨ r = 9 ∨ r = 10 ∨ r = 11 ∨ r = 12 ∨ r = 13 ∨ r = 14 ∨ r = 15 := by omega
 rcases h with rfl | rfl | rfl | rfl | rfl | rfl | rfl | rfl | rfl | rfl | rfl | rfl | rfl | rfl | rfl | rfl <;> simp only [Nat.reducePow, Nat.pow_zero, Nat.div_one] <;> omega
theorem qqK (l : List UInt8) (i : Nat) : btI l i = decide (qC l / 2 ^ i % 2 = 1) := by
 unfold btI
 rw [qrS]
 have e : ((qC l / 65536 ^ (i / 16) % 65536 : Nat) : Int) / 2 ^ (i % 16) % 2 = ((qC l / 65536 ^ (i / 16) % 65536 / 2 ^ (i % 16) % 2 : Nat) : Int) := by
  rw [Int.natCast_emod, Int.natCast_ediv, Int.natCast_pow]; rfl
 rw [e, qsm _ _ _ (Nat.mod_lt _ (by decide)), show 16 * (i / 16) + i % 16 = i by omega]
 by_cases h : qC l / 2 ^ i % 2 = 1
 · rw [zN h, h]; rfl
 · rw [zD h, zD (by omega)]
theorem qo6 {q : Q3} {a : G} (h : RQ q a) (l : List UInt8) (hl : qC l < 115792089237316195423570985008687907853269984665640564039457584007913129639936) : ∀ k, k ≤ 256 → RQ (jd dN l q k) (Zx (qC l / 2 ^ (256 - k)) a)
 | 0, _ => by
  rw [Nat.sub_zero, Nat.div_eq_of_lt hl]; exact qrW
 | k + 1, hk => by
  have ih := qo6 h l hl k (by omega)
  rw [jd, qqK, qbE, qbE]
  have e := ql8 (qC l) (255 - k)
  rw [show 255 - k + 1 = 256 - k by omega] at e
  rw [show 256 - (k + 1) = 255 - k by omega]
  by_cases hb : qC l / 2 ^ (255 - k) % 2 = 1
  ·
   rw [zN hb, if_pos rfl, e, hb, qbf, qc6]
   exact qeA (qeA ih ih) h
  ·
   have hb0 : qC l / 2 ^ (255 - k) % 2 = 0 := by omega
   rw [zD hb, if_neg (by decide), e, hb0, Nat.add_zero, qc6]
   exact qeA ih ih
theorem qh6 {q : Q3} {a : G} (h : RQ q a) (l : List UInt8) (hl : qC l < 115792089237316195423570985008687907853269984665640564039457584007913129639936) : RQ (jd dN l q 256) (Zx (qC l) a) := by
 have := qo6 h l hl 256 (zm _)
 rw [Nat.sub_self, Nat.pow_zero, Nat.div_one] at this
 exact this
theorem qmn {s : ByteArray} (h : j6 dN s = true) : ∃ a : G, RP (kH s) a ∧ RQ (Qv dN s) a := by
 obtain ⟨x, y, hx, hy, e1, e2⟩ := qjm h
 have hb : yP s = true := by rw [qb6]; exact h
 have hd : jg (ym s) = true := by
  unfold yP at hb
  rw [Bool.and_eq_true] at hb
  exact hb.2
 obtain ⟨x', y', hx', hy', ho, e3⟩ := qoU hd
 have e4 : kH s = Yg x' y' := by unfold kH; rw [if_pos hb, e3]
 have e5 : Yg x y = Yg x' y' := e1.symm.trans e4
 have ex : x = x' := congrArg Pt.x e5
 have ey : y = y' := congrArg Pt.y e5
 subst ex ey
 exact ⟨_, by rw [e1]; exact qsn hx hy ho, by rw [e2]; exact qu6 hx hy ho⟩
theorem qlr {s : ByteArray} (h : yP s = true) : kH s = Qh (ym s) := by unfold kH; rw [if_pos h]
end Go.Proofs.YtccgfabojbjmjaaGreatDoor
