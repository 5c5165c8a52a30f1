import Derived.Test.YtccgfabojbjmjaaGreatDoorLo45
import Derived.Test.YtccgfabojbjmjaaGreatDoorLo42
import Derived.Deep.CutBlock
set_option maxRecDepth 100000
set_option maxHeartbeats 8000000
namespace Go.Proofs.YtccgfabojbjmjaaGreatDoor
open Go.RowKit
theorem qpz {k : ByteArray} (h : k.size = 32) : ym k = qC (bytesOf k) := by unfold ym ksB; rw [if_pos h]
theorem qg7 {k : ByteArray} (h : k.size = 32) : yP k = jg (qC (bytesOf k)) := by
 show (ksO k && jg (ym k)) = _
 rw [qpz h]
 unfold ksO
 rw [zN h, Bool.true_and]
theorem qp7 {q : Q3} {a : G} (h : RQ q a) : RQ ⟨sP 0 q.x, q.y, q.z⟩ (Jy a) := by
 refine ⟨⟨jR _ _, h.ok.y, h.ok.z⟩, h.z, ?_, h.y⟩
 show qp (sP 0 q.x) = (Jy a).x * qp q.z
 rw [J6 _ _ h.ok.x, kC, h.x]
 show 0 - a.x * qp q.z = -a.x * qp q.z
 grind
theorem qnU {k m g : ByteArray} (h32 : k.size = 32) (h64 : g.size = 64) (hp : yP k = true) : YP (rvQ k m g) = jk (qI (Yi (qC (bytesOf k)) m (bytesOf g)) 32) := by
 obtain ⟨a, h1, h2⟩ := qmn (s := k) (by rw [← qb6]; exact hp)
 have hd : jg (qC (bytesOf k)) = true := by rw [← qg7 h32]; exact hp
 have ls : ((bytesOf g).drop 32).length = 32 := by rw [Zi, jY, h64]
 have hS := qaE _ ls
 have eK : rvK k m g = Yp (qC (bytesOf k)) m (bytesOf g) := by
  unfold rvK Yp
  rw [qaR (bytesOf k) (by rw [jY, h32]), z9]
 have hk : Yp (qC (bytesOf k)) m (bytesOf g) < 115792089237316195423570985008687907853269984665640564039457584007913129639936 := by unfold Yp; exact qvP _
 have h1' : RP (Qh (qC (bytesOf k))) a := by rw [← qpz h32, ← qlr hp]; exact h1
 have R1 : RP (ZI (qV (qR qX) (qC ((bytesOf g).drop 32)) 64) (Qy (qV (Qj (qC (bytesOf k))) (Yp (qC (bytesOf k)) m (bytesOf g)) 64))) (vfG (qC ((bytesOf g).drop 32)) (Yp (qC (bytesOf k)) m (bytesOf g)) a) := by
  rw [qeQ hd]
  exact qkK (qhF qrZ hS) (qtF (qhF h1' hk))
 have R2 : RQ (rvQ k m g) (vfG (qC ((bytesOf g).drop 32)) (Yp (qC (bytesOf k)) m (bytesOf g)) a) := by
  have q1 := qh6 quo ((bytesOf g).drop 32) hS
  have q2 := qh6 (qp7 (by rw [← qdx] at h2; exact h2)) (qI (rvK k m g) 32) (by rw [kz _ (by rw [eK]; exact hk), eK]; exact hk)
  rw [kz _ (by rw [eK]; exact hk), qnB, eK] at q2
  have q3 := qeA q1 q2
  unfold rvQ vfG
  rw [← qbE] at q3
  rw [eK]
  have e : ∀ l q, jd ZC l q 256 = jd dN l q 256 := fun l q => by rw [qdx]
  rw [e, e, show ∀ x y, Jd ZC x y = Jd dN x y from fun x y => by rw [qdx]]
  exact q3
 rw [qqr R2]
 unfold Yi
 rw [qgO R1]
theorem qmX (k m g : ByteArray) : y6 k m g = yp k m g := by
 unfold y6 yp
 by_cases h : k.size = 32 ∧ g.size = 64
 ·
  rw [if_pos h, if_pos h, qdx, ← qb6, qg7 h.1]
  by_cases hd : jg (qC (bytesOf k)) = true
  ·
   rw [if_pos hd, if_pos hd]
   by_cases hl : qC ((bytesOf g).drop 32) < jf
   ·
    rw [if_pos hl, if_pos hl, qnU h.1 h.2 (by rw [qg7 h.1]; exact hd)]
    have l1 : ((bytesOf g).take 32).length = 32 := by rw [Zh, jY, h.2]; rfl
    have e : g.extract 0 32 = jk (qI (qC ((bytesOf g).take 32)) 32) := by
     rw [qaR _ l1, ← qer, Yl]
    rw [e]
    by_cases hc : Yi (qC (bytesOf k)) m (bytesOf g) = qC ((bytesOf g).take 32)
    · rw [if_pos hc, if_pos (by rw [hc])]
    ·
     rw [if_neg hc, if_neg]
     intro e2
     apply hc
     have e3 := congrArg (fun x => qC (bytesOf x)) e2
     simp only [qad] at e3
     rw [kz _ (by unfold Yi; exact qoR _), kz _ (qaE _ l1)] at e3
     exact e3
   · rw [if_neg hl, if_neg hl]
  · rw [if_neg hd, if_neg hd]
 · rw [if_neg h, if_neg h]
open Go.RowKit
theorem qoF (s : ByteArray) (a : Nat) (h : a + 4 ≤ s.size) (hs : s.size ≤ maxLen) (z0 z1 z2 z3 : Int) (e0 : z0 = C8 ((bytesOf s).getD a 0)) (e1 : z1 = C8 ((bytesOf s).getD (a + 1) 0)) (e2 : z2 = C8 ((bytesOf s).getD (a + 2) 0)) (e3 : z3 = C8 ((bytesOf s).getD (a + 3) 0)) (w : World) :
  zC 87 #[.string s, .int .i64 a] w (.int .u32 (z0 + z1 * 256 + z2 * 65536 + z3 * 16777216)) := by
 unfold maxLen at hs
 have i0 : ∀ w, (Instr.index 9 (.string s) (.int .i64 (a : Int))).run Tryz.prog w = .ok (.int .u8 z0) w := by intro w; rw [e0]; exact Jw s a (by omega) w
 have i1 : ∀ w, (Instr.index 9 (.string s) (.int .i64 ((a : Int) + 1))).run Tryz.prog w = .ok (.int .u8 z1) w := by intro w; rw [e1]; exact Jw s (a + 1) (by omega) w
 have i2 : ∀ w, (Instr.index 9 (.string s) (.int .i64 ((a : Int) + 2))).run Tryz.prog w = .ok (.int .u8 z2) w := by intro w; rw [e2]; exact Jw s (a + 2) (by omega) w
 have i3 : ∀ w, (Instr.index 9 (.string s) (.int .i64 ((a : Int) + 3))).run Tryz.prog w = .ok (.int .u8 z3) w := by intro w; rw [e3]; exact Jw s (a + 3) (by omega) w
 have p0 : 0 ≤ z0 := by rw [e0]; exact J5 _
 have q0 : z0 < 256 := by rw [e0]; exact yt _
 have p1 : 0 ≤ z1 := by rw [e1]; exact J5 _
 have q1 : z1 < 256 := by rw [e1]; exact yt _
 have p2 : 0 ≤ z2 := by rw [e2]; exact J5 _
 have q2 : z2 < 256 := by rw [e2]; exact yt _
 have p3 : 0 ≤ z3 := by rw [e3]; exact J5 _
 have q3 : z3 < 256 := by rw [e3]; exact yt _
 have b1 : (a : Int) + 3 < 9223372036854775807 := by omega
 clear e0 e1 e2 e3
 go_enter Tryz.func87, Tryz.ntmps87
 go_wp2_with fail
 refine zM (S := fun _ => True) (by kernel_rfl) trivial (fun hHeld => ?_)
 refine zT 0 ⟨some 5, .move (.tmp 0), 9, "sign.go:95", #[], none⟩ (.string s) (Or.inl ⟨by rfl, fun w _ => by first | (go_simp; done) | (go_simp; rw [z7]; omega) | (go_simp; rw [zq]; omega)⟩) ?_
 simp only [qd]
 refine zT 1 ⟨some 6, .move (.tmp 1), 3, "sign.go:95", #[], none⟩ (.int .i64 (a : Int)) (Or.inl ⟨by rfl, fun w _ => by first | (go_simp; done) | (go_simp; rw [z7]; omega) | (go_simp; rw [zq]; omega)⟩) ?_
 simp only [qd]
 refine zT 2 ⟨some 7, .index 9 (.tmp 5) (.tmp 6), 5, "sign.go:95", #[ql 0, ql 1], none⟩ (.int .u8 z0) (Or.inl ⟨by rfl, fun w _ => by first | (go_simp; done) | (go_simp; rw [z7]; omega) | (go_simp; rw [zq]; omega)⟩) ?_
 simp only [qd]
 refine zT 3 ⟨some 8, .convert 5 39 (.tmp 7), 39, "sign.go:95", #[ql 2], none⟩ (.int .u32 z0) (Or.inl ⟨by rfl, fun w _ => by first | (go_simp; done) | (go_simp; rw [z7]; omega) | (go_simp; rw [zq]; omega)⟩) ?_
 simp only [qd]
 refine zT 4 ⟨some 9, .move (.tmp 0), 9, "sign.go:95", #[], none⟩ (.string s) (Or.inl ⟨by rfl, fun w _ => by first | (go_simp; done) | (go_simp; rw [z7]; omega) | (go_simp; rw [zq]; omega)⟩) ?_
 simp only [qd]
 refine zT 5 ⟨some 10, .move (.tmp 1), 3, "sign.go:95", #[], none⟩ (.int .i64 (a : Int)) (Or.inl ⟨by rfl, fun w _ => by first | (go_simp; done) | (go_simp; rw [z7]; omega) | (go_simp; rw [zq]; omega)⟩) ?_
 simp only [qd]
 refine zT 6 ⟨some 11, .binOp .add 3 (.tmp 10) (.const (.int .i64 1)) 3, 3, "sign.go:95", #[ql 5], none⟩ (.int .i64 ((a : Int) + 1)) (Or.inl ⟨by rfl, fun w _ => by first | (go_simp; done) | (go_simp; rw [z7]; omega) | (go_simp; rw [zq]; omega)⟩) ?_
 simp only [qd]
 refine zT 7 ⟨some 12, .index 9 (.tmp 9) (.tmp 11), 5, "sign.go:95", #[ql 4, ql 6], none⟩ (.int .u8 z1) (Or.inl ⟨by rfl, fun w _ => by first | (go_simp; done) | (go_simp; rw [z7]; omega) | (go_simp; rw [zq]; omega)⟩) ?_
 simp only [qd]
 refine zT 8 ⟨some 13, .convert 5 39 (.tmp 12), 39, "sign.go:95", #[ql 7], none⟩ (.int .u32 z1) (Or.inl ⟨by rfl, fun w _ => by first | (go_simp; done) | (go_simp; rw [z7]; omega) | (go_simp; rw [zq]; omega)⟩) ?_
 simp only [qd]
 refine zT 9 ⟨some 14, .binOp .shl 39 (.tmp 13) (.const (.int .u64 8)) 129, 39, "sign.go:95", #[ql 8], none⟩ (.int .u32 (z1 * 256)) (Or.inl ⟨by rfl, fun w _ => by first | (go_simp; done) | (go_simp; rw [z7]; omega) | (go_simp; rw [zq]; omega)⟩) ?_
 simp only [qd]
 refine zT 10 ⟨some 15, .binOp .add 39 (.tmp 8) (.tmp 14) 39, 39, "sign.go:95", #[ql 3, ql 9], none⟩ (.int .u32 (z0 + z1 * 256)) (Or.inl ⟨by rfl, fun w _ => by first | (go_simp; done) | (go_simp; rw [z7]; omega) | (go_simp; rw [zq]; omega)⟩) ?_
 simp only [qd]
 refine zT 11 ⟨some 16, .move (.tmp 0), 9, "sign.go:95", #[], none⟩ (.string s) (Or.inl ⟨by rfl, fun w _ => by first | (go_simp; done) | (go_simp; rw [z7]; omega) | (go_simp; rw [zq]; omega)⟩) ?_
 simp only [qd]
 refine zT 12 ⟨some 17, .move (.tmp 1), 3, "sign.go:95", #[], none⟩ (.int .i64 (a : Int)) (Or.inl ⟨by rfl, fun w _ => by first | (go_simp; done) | (go_simp; rw [z7]; omega) | (go_simp; rw [zq]; omega)⟩) ?_
 simp only [qd]
 refine zT 13 ⟨some 18, .binOp .add 3 (.tmp 17) (.const (.int .i64 2)) 3, 3, "sign.go:95", #[ql 12], none⟩ (.int .i64 ((a : Int) + 2)) (Or.inl ⟨by rfl, fun w _ => by first | (go_simp; done) | (go_simp; rw [z7]; omega) | (go_simp; rw [zq]; omega)⟩) ?_
 simp only [qd]
 refine zT 14 ⟨some 19, .index 9 (.tmp 16) (.tmp 18), 5, "sign.go:95", #[ql 11, ql 13], none⟩ (.int .u8 z2) (Or.inl ⟨by rfl, fun w _ => by first | (go_simp; done) | (go_simp; rw [z7]; omega) | (go_simp; rw [zq]; omega)⟩) ?_
 simp only [qd]
 refine zT 15 ⟨some 20, .convert 5 39 (.tmp 19), 39, "sign.go:95", #[ql 14], none⟩ (.int .u32 z2) (Or.inl ⟨by rfl, fun w _ => by first | (go_simp; done) | (go_simp; rw [z7]; omega) | (go_simp; rw [zq]; omega)⟩) ?_
 simp only [qd]
 refine zT 16 ⟨some 21, .binOp .shl 39 (.tmp 20) (.const (.int .u64 16)) 129, 39, "sign.go:95", #[ql 15], none⟩ (.int .u32 (z2 * 65536)) (Or.inl ⟨by rfl, fun w _ => by first | (go_simp; done) | (go_simp; rw [z7]; omega) | (go_simp; rw [zq]; omega)⟩) ?_
 simp only [qd]
 refine zT 17 ⟨some 22, .binOp .add 39 (.tmp 15) (.tmp 21) 39, 39, "sign.go:95", #[ql 10, ql 16], none⟩ (.int .u32 (z0 + z1 * 256 + z2 * 65536)) (Or.inl ⟨by rfl, fun w _ => by first | (go_simp; done) | (go_simp; rw [z7]; omega) | (go_simp; rw [zq]; omega)⟩) ?_
 simp only [qd]
 refine zT 18 ⟨some 23, .move (.tmp 0), 9, "sign.go:95", #[], none⟩ (.string s) (Or.inl ⟨by rfl, fun w _ => by first | (go_simp; done) | (go_simp; rw [z7]; omega) | (go_simp; rw [zq]; omega)⟩) ?_
 simp only [qd]
 refine zT 19 ⟨some 24, .move (.tmp 1), 3, "sign.go:95", #[], none⟩ (.int .i64 (a : Int)) (Or.inl ⟨by rfl, fun w _ => by first | (go_simp; done) | (go_simp; rw [z7]; omega) | (go_simp; rw [zq]; omega)⟩) ?_
 simp only [qd]
 refine zT 20 ⟨some 25, .binOp .add 3 (.tmp 24) (.const (.int .i64 3)) 3, 3, "sign.go:95", #[ql 19], none⟩ (.int .i64 ((a : Int) + 3)) (Or.inl ⟨by rfl, fun w _ => by first | (go_simp; done) | (go_simp; rw [z7]; omega) | (go_simp; rw [zq]; omega)⟩) ?_
 simp only [qd]
 refine zT 21 ⟨some 26, .index 9 (.tmp 23) (.tmp 25), 5, "sign.go:95", #[ql 18, ql 20], none⟩ (.int .u8 z3) (Or.inl ⟨by rfl, fun w _ => by first | (go_simp; done) | (go_simp; rw [z7]; omega) | (go_simp; rw [zq]; omega)⟩) ?_
 simp only [qd]
 refine zT 22 ⟨some 27, .convert 5 39 (.tmp 26), 39, "sign.go:95", #[ql 21], none⟩ (.int .u32 z3) (Or.inl ⟨by rfl, fun w _ => by first | (go_simp; done) | (go_simp; rw [z7]; omega) | (go_simp; rw [zq]; omega)⟩) ?_
 simp only [qd]
 refine zT 23 ⟨some 28, .binOp .shl 39 (.tmp 27) (.const (.int .u64 24)) 129, 39, "sign.go:95", #[ql 22], none⟩ (.int .u32 (z3 * 16777216)) (Or.inl ⟨by rfl, fun w _ => by first | (go_simp; done) | (go_simp; rw [z7]; omega) | (go_simp; rw [zq]; omega)⟩) ?_
 simp only [qd]
 refine zT 24 ⟨some 29, .binOp .add 39 (.tmp 22) (.tmp 28) 39, 39, "sign.go:95", #[ql 17, ql 23], none⟩ (.int .u32 (z0 + z1 * 256 + z2 * 65536 + z3 * 16777216)) (Or.inl ⟨by rfl, fun w _ => by first | (go_simp; done) | (go_simp; rw [z7]; omega) | (go_simp; rw [zq]; omega)⟩) ?_
 simp only [qd]
 refine zT 25 ⟨some 4, .assign (.tmp 29), 39, "sign.go:95", #[ql 24, qj 0, qj 1, qj 2, qj 3, qj 4, qj 5, qj 6, qj 7, qj 8, qj 9, qj 10, qj 11, qj 12, qj 13, qj 14, qj 15, qj 16, qj 17, qj 18, qj 19, qj 20, qj 21, qj 22, qj 23, qj 24], none⟩ (.int .u32 (z0 + z1 * 256 + z2 * 65536 + z3 * 16777216)) (Or.inl ⟨by rfl, fun w _ => by first | (go_simp; done) | (go_simp; rw [z7]; omega) | (go_simp; rw [zq]; omega)⟩) ?_
 simp only [qd]
 refine zi (by kernel_rfl) ?_ _
 go_wp2_with fail
 go_returns
 exact ⟨rfl, (zJ _ _).drew⟩
open Go.RowKit
structure RL (w : World) (g : Nat) (kv : Value) (keys : List ByteArray) (v : Int) : Prop where
 row : w.heap[g]? = some (.cells #[kv, .int .u32 v] 126)
 ks : (kv = .slice none 0 0 ∧ keys = []) ∨ ∃ q cap, kv = .slice (some ⟨q, 0, none⟩) keys.length cap ∧ q < w.heap.size ∧ q ≠ g ∧ yF w q keys
 all32 : ∀ k ∈ keys, k.size = 32
 v0 : 0 ≤ v
 v1 : v < 4294967296
theorem RL.below {w w' : World} {g : Nat} {kv : Value} {keys : List ByteArray} {v : Int} (h : RL w g kv keys v) (hb : zB w w') : RL w' g kv keys v := by
 refine ⟨qk h.row hb, ?_, h.all32, h.v0, h.v1⟩
 rcases h.ks with h1 | ⟨q, cap, h1, h2, h3, h4⟩
 · exact .inl h1
 · exact .inr ⟨q, cap, h1, zl h2 hb.size, h3, h4.below hb h2⟩
theorem qod (u : ByteArray) (a : Nat) (h : a + 4 ≤ u.size) : (QK (u.extract a (a + 4)) 4 : Int) = C8 ((bytesOf u).getD a 0) + C8 ((bytesOf u).getD (a + 1) 0) * 256 + C8 ((bytesOf u).getD (a + 2) 0) * 65536 + C8 ((bytesOf u).getD (a + 3) 0) * 16777216 := by
 have hs : (u.extract a (a + 4)).size = 4 := by rw [QS _ _ _ h]; omega
 have g : ∀ k, k < 4 → (bytesOf (u.extract a (a + 4))).getD k 0 = (bytesOf u).getD (a + k) 0 := by
  intro k hk
  rw [Ys, Za, Zq, if_pos (by omega), Zr, Za]
 have e0 : QK (u.extract a (a + 4)) 0 = 0 := rfl
 have g0 : (bytesOf (u.extract a (a + 4))).getD 0 0 = (bytesOf u).getD a 0 := g 0 (by omega)
 rw [kX _ 3 (by omega), kX _ 2 (by omega), kX _ 1 (by omega), kX _ 0 (by omega), e0, g0, g 1 (by omega), g 2 (by omega), g 3 (by omega)]
 unfold C8
 omega
theorem qp3 (u : ByteArray) (a : Nat) (n : Nat) (h : a + 4 ≤ u.size) (hs : u.size ≤ maxLen) (hn : n = QK (u.extract a (a + 4)) 4) (w : World) :
  zC 87 #[.string u, .int .i64 a] w (.int .u32 n) := by
 rw [hn, qod u a h]
 exact qoF u a h hs _ _ _ _ rfl rfl rfl rfl w
theorem qn2 {a : Act} {o : Oper} (x y : Operand) (ho : o.op = .call { callee := .value (.func 87), args := #[x, y], argTypes := #[9, 3] }) (v1 v2 : Value) (hx : a.eval x = v1) (hy : a.eval y = v2) (w : World) :
  (execOp a.eval o).run Tryz.prog w = .ok (.enter 87 #[v1, v2]) w := by
 unfold execOp
 simp only [ho]
 subst hx hy
 go_simp
theorem qok {a : Act} {o : Oper} (x y z : Operand) (ho : o.op = .call { callee := .value (.func 42), args := #[x, y, z], argTypes := #[9, 9, 9] }) (v1 v2 v3 : Value) (hx : a.eval x = v1) (hy : a.eval y = v2) (hz : a.eval z = v3) (w : World) :
  (execOp a.eval o).run Tryz.prog w = .ok (.enter 42 #[v1, v2, v3]) w := by
 unfold execOp
 simp only [ho]
 subst hx hy hz
 go_simp
theorem qfx {a : Act} {o : Oper} (x : Operand) (ho : o.op = .load 38 x) (ad : Addr) (hx : a.eval x = .pointer (some ad)) (v : Value) (w : World) (h : w.cell? ad = some v) :
  (execOp a.eval o).run Tryz.prog w = .ok (.value v) w := by
 unfold execOp
 simp only [ho, hx]
 go_simp
theorem qcJ {a : Act} {o : Oper} (x : Operand) (ho : o.op = .load 39 x) (ad : Addr) (hx : a.eval x = .pointer (some ad)) (v : Value) (w : World) (h : w.cell? ad = some v) :
  (execOp a.eval o).run Tryz.prog w = .ok (.value v) w := by
 unfold execOp
 simp only [ho, hx]
 go_simp
theorem qvu (ky m g : ByteArray) (hm : m.size ≤ 140737488351232) (n : Int) (hn : yp ky m g = n) (w : World) :
  zC 42 #[.string ky, .string m, .string g] w (.int .i64 n) := by rw [← hn, ← qmX]; exact qjo ky m g hm w
theorem qlB (t : ByteArray) (h : 64 ≤ t.size) : bytesOf (t.extract 17 64) = QX ↔ ∀ j, 17 ≤ j → j < 64 → (bytesOf t).getD j 0 = 0 := by
 have hl : (bytesOf (t.extract 17 64)).length = 47 := by rw [jY, QS _ _ _ h]
 have hg : ∀ j, 17 ≤ j → j < 64 → (bytesOf (t.extract 17 64))[j - 17]? = (bytesOf t)[j]? := by
  intro j h1 h2
  rw [Ys, Zq, if_pos (by omega), Zr, show 17 + (j - 17) = j by omega]
 constructor
 ·
  intro e j h1 h2
  have := hg j h1 h2
  rw [e] at this
  rw [Za, ← this]
  unfold QX
  rw [List.getElem?_replicate, if_pos (by omega)]
  rfl
 ·
  intro e
  apply List.ext_getElem?
  intro i
  by_cases hi : i < 47
  ·
   have := hg (i + 17) (by omega) (by omega)
   rw [show i + 17 - 17 = i by omega] at this
   have hlt : i + 17 < (bytesOf t).length := by rw [jY]; omega
   have e2 := e (i + 17) (by omega) (by omega)
   rw [Za, zO hlt] at e2
   rw [this, zO hlt]
   unfold QX
   rw [List.getElem?_replicate, if_pos hi]
   exact congrArg some e2
  · rw [List.getElem?_eq_none (by omega), List.getElem?_eq_none (by show QX.length ≤ i; unfold QX; rw [List.length_replicate]; omega)]
section
attribute [local irreducible] QV j8 ZE yc Jz Jc yp y6 jD Qs
theorem qk5 (g : Nat) (kv : Value) (keys : List ByteArray) (v : Int) (t : ByteArray) (hm : t.size ≤ 140737488351232) (w : World) (hR : RL w g kv keys v) (d : Int) (hd : Qs (jK keys) v t = d) :
  zC 86 #[zp g 0, .string t] w (.int .i64 d) := by
 have HR := qa hR
 have Hm := qa hm
 have Hd := qa hd
 have hmx : t.size ≤ maxLen := Zg hm (by decide)
 have Hmx := qa hmx
 obtain ⟨pt, cap, hkv⟩ : ∃ pt cap, kv = .slice pt keys.length cap := by
  rcases hR.ks with ⟨rfl, rfl⟩ | ⟨q, cap, rfl, _⟩
  · exact ⟨_, _, rfl⟩
  · exact ⟨_, _, rfl⟩
 subst hkv
 have C0 : Hid (w.cell? ⟨g, 0, none⟩ = some (.slice pt keys.length cap)) := by show _ = _; rw [zj w g 0 _ _ _ hR.row]; rfl
 have C1 : Hid (w.cell? ⟨g, 1, none⟩ = some (.int .u32 v)) := by show _ = _; rw [zj w g 1 _ _ _ hR.row]; rfl
 have lg := qh hR.row
 clear hR hm hd hmx
 go_enter Tryz.func86, Tryz.ntmps86
 by_cases h1 : t.size < 192
 ·
  have h1' : (t.size : Int) < 192 := by omega
  have e1 : d = 5 := by
   rw [← Hd.o]
   unfold Qs Yb
   rw [if_pos h1]; rfl
  clear h1
  go_wp2_with fail
  go_returns
  exact ⟨by first | rfl | (rw [e1] <;> rfl), zJ _ _⟩
 have h1' : (192 : Int) ≤ (t.size : Int) := by omega
 have h8 : (8 : Int) ≤ (t.size : Int) := by omega
 have H192 : Hid (192 ≤ t.size) := by show _ ≤ _; omega
 obtain ⟨A, EA⟩ := zx (t.extract 0 8)
 have hxA : t.extract 0 8 = A := EA.o.symm
 have Hd : Hid (d = if A = yq then (if bytesOf (t.extract 17 64) = QX then (if QK (t.extract 12 16) 4 = t.size - 192 then chC (jK keys) v t else 8) else 7) else 6) := by
  show _ = _
  rw [← Hd.o, ← hxA]
  unfold Qs Yb
  rw [if_neg h1]
  by_cases a1 : t.extract 0 8 = yq
  ·
   rw [if_pos a1, if_pos a1]
   by_cases a2 : bytesOf (t.extract 17 64) = QX
   ·
    rw [if_pos a2, if_pos a2]
    by_cases a3 : QK (t.extract 12 16) 4 = t.size - 192
    · rw [if_pos a3, if_pos a3]; rfl
    · rw [if_neg a3, if_neg a3]; rfl
   · rw [if_neg a2, if_neg a2]; rfl
  · rw [if_neg a1, if_neg a1]; rfl
 clear h1
 by_cases h2 : A = yq
 case neg =>
  have hne : (A.toList == [76, 65, 84, 67, 72, 73, 77, 71]) = false := by rw [← qfa]; exact qeX h2
  have e1 : d = 6 := by rw [Hd.o, if_neg h2]
  clear h2
  go_wp2_with fail
  go_returns
  exact ⟨by first | rfl | (rw [e1] <;> rfl), zJ _ _⟩
 have heq : (A.toList == [76, 65, 84, 67, 72, 73, 77, 71]) = true := by rw [h2, qfa]; rfl
 have Hd := qa (Hd.o.trans (by rw [if_pos h2]))
 clear h2
 go_upto_block 0 with fail
 go_cut [5] from 15 to 22 (fun s5 wr => (∃ x, s5 = .int .i64 x) ∧ Hid (bytesOf (t.extract 17 64) = QX) ∧ wr = w)
 case first =>
  go_wp2_with fail
  go_loopw [5] (fun s5 wr => ∃ i : Nat, 17 ≤ i ∧ i ≤ 64 ∧ s5 = .int .i64 i ∧ Hid (∀ j, 17 ≤ j → j < i → (bytesOf t).getD j 0 = 0) ∧ wr = w) (fun s5 _ => 64 - (intOf s5).toNat)
  case atStart => exact ⟨17, by omega, by omega, rfl, qa (fun j h1 h2 => by omega), rfl⟩
  case round =>
   obtain ⟨i, i1, i2, rfl, Z, rfl⟩ := hrel
   by_cases hi : i < 64
   ·
    have bi : (i : Int) < 64 := by omega
    have hst := Jw t i (by have := H192.o; omega)
    obtain ⟨c, Ec⟩ := zx ((bytesOf t).getD i 0)
    rw [← Ec.o] at hst
    obtain ⟨y, Ey⟩ := zx (C8 c)
    rw [← Ey.o] at hst
    by_cases hc : c = 0
    ·
     have hy : y = 0 := by rw [Ey.o, hc]; rfl
     rw [hy] at hst
     go_wp2_with fail
     refine ⟨⟨i + 1, by omega, by omega, by go_num, qa ?_, trivial⟩, by simp [intOf]; omega⟩
     intro j j1 j2
     by_cases hj : j < i
     · exact Z.o j j1 hj
     ·
      obtain rfl : j = i := by omega
      rw [← Ec.o, hc]
    ·
     have hy : y ≠ 0 := by
      intro h
      apply hc
      rw [Ey.o] at h
      unfold C8 at h
      apply UInt8.toNat_inj.1
      show c.toNat = 0
      omega
     have hyb : (y == 0) = false := by simp [hy]
     have e1 : d = 7 := by
      rw [Hd.o, if_neg]
      intro h
      rw [qlB t (by have := H192.o; omega)] at h
      exact hc (by rw [Ec.o]; exact h i i1 hi)
     go_wp2_with fail
     go_returns
     exact ⟨by first | rfl | (rw [e1] <;> rfl), zJ _ _⟩
   ·
    obtain rfl : i = 64 := by omega
    go_wp2_with fail
    go_meet
    case rel => exact ⟨⟨_, rfl⟩, qa ((qlB t (by have := H192.o; omega)).2 (fun j h1 h2 => Z.o j h1 h2)), rfl⟩
 case rest =>
 obtain ⟨⟨x5, rfl⟩, Z, hwc⟩ := hcut
 have hwc' := hwc.symm
 subst hwc'
 clear hwc
 have Hd := qa (Hd.o.trans (by rw [if_pos Z.o]))
 clear Z heq hxA h8 EA
 obtain ⟨n, En⟩ := zx (α := Nat) (QK (t.extract 12 16) 4)
 have hn1 : n < 4294967296 := by rw [En.o]; exact kl _ 4 (by rw [QS _ _ _ (by have := H192.o; omega)]; omega)
 obtain ⟨i, Ei⟩ : ∃ i : Nat, Hid ((i : Int) = j8 t) := ⟨(j8 t).toNat, qa (Int.toNat_of_nonneg (qh0 t))⟩
 have i256 : (i : Int) < 256 := by rw [Ei.o]; unfold j8; exact yt _
 have hi16 : ∀ w, (Instr.index 9 (.string t) (.int .i64 16)).run Tryz.prog w = .ok (.int .u8 i) w := by intro w; rw [Ei.o]; unfold j8; exact Jw t 16 (by have := H192.o; omega) w
 have hiw : IntKind.i64.wrap (i : Int) = i := by rw [zq]; omega
 have hnw : IntKind.i64.wrap (n : Int) = n := by rw [zq]; omega
 go_wp2_with fail
 refine (qp3 t 12 n (by have := H192.o; omega) Hmx.o En.o _).mono ?_
 rintro e W1 ⟨rfl, hB⟩
 have B1 := qa hB
 clear hB
 obtain ⟨PP, EPP⟩ := zx (ZE t)
 have hxP : t.extract 192 t.size = PP := by rw [EPP.o]; unfold ZE; rfl
 go_wp2_with fail
 try rw [hxP]
 refine (qfM PP W1 (by rw [← hxP, QS _ _ _ (zm _)]; have := Hm.o; omega)).mono ?_
 rintro e W2 ⟨rfl, hB⟩
 have B2 := qa (B1.o.trans (hB.mono B1.o.size))
 clear hB B1
 obtain ⟨H, EH⟩ := zx (jk (jD (bytesOf PP)))
 rw [← EH.o]
 have hsub : IntKind.i64.wrap ((t.size : Int) - 192) = (t.size : Int) - 192 := by
  have := Hm.o
  rw [zq]; omega
 have C0 : Hid (W2.cell? ⟨g, 0, none⟩ = some (.slice pt keys.length cap)) := (B2.o.cell lg).trans C0.o
 have C1 : Hid (W2.cell? ⟨g, 1, none⟩ = some (.int .u32 v)) := (B2.o.cell lg).trans C1.o
 by_cases c3 : n = t.size - 192
 case neg =>
  have hb : ((n : Int) == (t.size : Int) - 192) = false := by simp; have := H192.o; omega
  have hb2 : ¬ ((n : Int) = (t.size : Int) - 192) := by have := H192.o; omega
  have e1 : d = 8 := by rw [Hd.o, ← En.o, if_neg c3]
  clear c3
  go_wp2_with fail
  go_returns
  exact ⟨by first | rfl | (rw [e1] <;> rfl), B2.o⟩
 have hb2 : (n : Int) = (t.size : Int) - 192 := by have := H192.o; omega
 have Hd : Hid (d = if (keys.length : Int) ≤ i then 9 else if (QV t : Int) < v then 10 else if jD (bytesOf PP) = Jc t then yp (keys.getD i ByteArray.empty) (yc t) (t.extract 128 192) else 11) := by
  show _ = _
  rw [Hd.o, ← En.o, if_pos c3]
  unfold jK
  rw [qmg keys HR.o.all32 v t H192.o, ← Ei.o, Int.toNat_natCast, ← EPP.o]
 clear c3
 have c0 := C0.o
 by_cases c4 : (keys.length : Int) ≤ i
 ·
  have e1 : d = 9 := by rw [Hd.o, if_pos c4]
  go_wp2_with fail
  go_returns
  exact ⟨by first | rfl | (rw [e1] <;> rfl), B2.o⟩
 have c4' : (i : Int) < (keys.length : Int) := by omega
 have Hd := qa (Hd.o.trans (by rw [if_neg c4]))
 clear c4
 obtain ⟨ve, Eve⟩ := zx (α := Nat) (QV t)
 have Eve2 : Hid (ve = QK (t.extract 8 (8 + 4)) 4) := by rw [Eve.o]; unfold QV; rfl
 obtain ⟨B, EB⟩ : ∃ B, Hid (decide ((ve : Int) < v) = B) := ⟨_, qa rfl⟩
 go_upto_region 17 with fail
 go_cut [46] from 47 to 53 (fun s46 wx => s46 = .bool B ∧ Hid (zB w wx) ∧ Hid (zB W2 wx))
 case first =>
  refine zM (S := fun w' => w'.cell? ⟨g, 1, none⟩ = some (.int .u32 v)) (by kernel_rfl) C1.o (fun hHeld => ?_)
  have K1 : Hid (zB W2 W2.drew) := (zJ _ _).drew
  obtain ⟨V1, hV1⟩ := zy W2.drew
  rw [← hV1] at hHeld K1 ⊢
  clear hV1
  refine zU 0 ⟨some 47, .move (.tmp 1), 9, "sign.go:119", #[], none⟩ (.string t) ?_
  simp only [qd]
  refine zU 2 ⟨some 49, .move (.tmp 0), 41, "sign.go:119", #[], none⟩ (zp g 0) ?_
  simp only [qd]
  refine zU 3 ⟨some 50, .nilCheck (.tmp 49), 0, "sign.go:119", #[ql 2], none⟩ (zp g 0) ?_
  simp only [qd]
  refine zU 4 ⟨some 51, .fieldAddr 126 (.tmp 50) 1, 0, "sign.go:119", #[ql 3], none⟩ (zp g 1) ?_
  simp only [qd]
  refine zT 5 ⟨some 52, .load 39 (.tmp 51), 39, "sign.go:119", #[ql 4], none⟩ (.int .u32 v) (Or.inl ⟨by rfl, fun v h => qcJ _ rfl _ rfl _ v h⟩) ?_
  simp only [qd]
  refine zR 1 ⟨some 48, .call ⟨.value (.func 87), #[.tmp 47, .const (.int .i64 8)], #[9, 3]⟩, 39, "sign.go:119", #[ql 0], none⟩ fun K hK => ?_
  refine zE (qn2 _ _ rfl (.string t) (.int .i64 8) rfl rfl V1) (qp3 t 8 ve (by have := H192.o; omega) Hmx.o Eve2.o V1) fun V2 HBx => ?_
  have K2 := qq K1 HBx
  refine hK.o _ _ ((K2.o.cell (zX _ _ C1.o)).trans C1.o) (fun hHeld => ?_)
  clear HBx
  try simp only [qd]
  refine zT 6 ⟨some 53, .binOp .lss 39 (.tmp 48) (.tmp 52) 39, 4, "sign.go:119", #[ql 1, ql 5], none⟩ (.bool B) (Or.inl ⟨by rfl, fun w _ => by first | (go_simp; done) | (go_simp; exact EB.o) | (go_simp; rw [EB.o])⟩) ?_
  simp only [qd]
  refine zT 7 ⟨some 46, .assign (.tmp 53), 4, "sign.go:119", #[ql 6, qT 1], none⟩ (.bool B) (Or.inl ⟨by rfl, fun w _ => by first | (go_simp; done) | (go_simp; exact EB.o) | (go_simp; rw [EB.o])⟩) ?_
  simp only [qd]
  refine zi (by kernel_rfl) ?_ _
  go_wp2_with fail
  go_meet
  case rel => exact ⟨rfl, qa (B2.o.trans (K2.o.mono B2.o.size)), K2⟩
 case rest =>
 obtain ⟨rfl, B3, K3⟩ := hcut
 obtain ⟨W3, hW3⟩ := zy wc
 rw [← hW3] at B3 K3 ⊢
 clear hW3
 cases hBv : B
 case true =>
  have c : (ve : Int) < v := by have := EB.o; rw [hBv] at this; simpa using this
  have e1 : d = 10 := by rw [Hd.o, ← Eve.o, if_pos c]
  clear c c0
  subst hBv
  go_wp2_with fail
  go_returns
  exact ⟨by first | rfl | (rw [e1] <;> rfl), B3.o⟩
 case false =>
 have hc5 : ¬ (ve : Int) < v := by have := EB.o; rw [hBv] at this; simpa using this
 have Hd := qa (Hd.o.trans (by rw [← Eve.o, if_neg hc5]))
 subst hBv
 clear EB hc5 c0
 obtain ⟨DD, EDD⟩ := zx (t.extract 64 128)
 have hxD : t.extract 64 128 = DD := EDD.o.symm
 obtain ⟨GG, EGG⟩ := zx (yc t)
 have hxG : t.extract 0 128 = GG := by rw [EGG.o]; unfold yc; rfl
 obtain ⟨SS, ESS⟩ := zx (t.extract 128 192)
 have hxS : t.extract 128 192 = SS := ESS.o.symm
 have k128 : (128 : Int) ≤ (t.size : Int) := by omega
 have k64 : (64 : Int) ≤ (t.size : Int) := by omega
 by_cases c6 : jD (bytesOf PP) = Jc t
 case neg =>
  have hne : (H.toList == DD.toList) = false := qeX (fun h => c6 (by unfold Jc; rw [hxD, ← h, EH.o, qad]))
  have e1 : d = 11 := by rw [Hd.o, if_neg c6]
  go_wp2_with fail
  go_returns
  exact ⟨by first | rfl | (rw [e1] <;> rfl), B3.o⟩
 have hHD : H = DD := by rw [EH.o, c6]; unfold Jc; rw [hxD, Yl]
 have heq : (H.toList == DD.toList) = true := by rw [hHD]; exact beq_self_eq_true _
 have hil : i < keys.length := by omega
 have e1 : Hid (d = yp keys[i] GG SS) := by show _ = _; rw [Hd.o, if_pos c6, ← EGG.o, ← ESS.o, Za, zO hil]; rfl
 clear c6 hHD
 obtain ⟨Ky, EKy⟩ := zx (keys[i])
 obtain ⟨q, hpt, hq1, hq2⟩ : ∃ q, pt = some ⟨q, 0, none⟩ ∧ q < w.heap.size ∧ w.cell? ⟨q, i, none⟩ = some (.string Ky) := by
  rcases HR.o.ks with ⟨h1, h2⟩ | ⟨q, cap', h1, h2, h3, h4⟩
  · rw [h2] at hil; exact absurd hil (by simp)
  ·
   refine ⟨q, by injection h1, h2, ?_⟩
   rw [EKy.o]; exact h4 i hil
 subst hpt
 have hkix := qgT q keys.length i cap hil
 have lG : Hid (GG.size ≤ 140737488351232) := by show _ ≤ _; rw [← hxG, QS _ _ _ (by have := H192.o; omega)]; omega
 have CK : Hid (∀ V : World, zB w V → V.cell? ⟨g, 0, none⟩ = some (.slice (some ⟨q, 0, none⟩) keys.length cap) ∧ V.cell? ⟨q, i, none⟩ = some (.string Ky)) := fun V hB => ⟨by rw [(hB.cell lg), zj w g 0 _ _ _ HR.o.row]; rfl, (hB.cell hq1).trans hq2⟩
 go_upto_region 21 with fail
 refine zM (S := fun w' => w'.cell? ⟨g, 0, none⟩ = some (.slice (some ⟨q, 0, none⟩) keys.length cap) ∧ w'.cell? ⟨q, i, none⟩ = some (.string Ky)) (by kernel_rfl) (CK.o _ B3.o.drew) (fun hHeld => ?_)
 have KV1 : Hid (zB w W3.drew) := B3.o.drew
 obtain ⟨V1, hV1⟩ := zy W3.drew
 rw [← hV1] at hHeld KV1 ⊢
 clear hV1
 refine zU 0 ⟨some 59, .move (.tmp 0), 41, "sign.go:124", #[], none⟩ (zp g 0) ?_
 simp only [qd]
 refine zU 1 ⟨some 60, .nilCheck (.tmp 59), 0, "sign.go:124", #[ql 0], none⟩ (zp g 0) ?_
 simp only [qd]
 refine zU 2 ⟨some 61, .fieldAddr 126 (.tmp 60) 0, 0, "sign.go:124", #[ql 1], none⟩ (zp g 0) ?_
 simp only [qd]
 refine zT 3 ⟨some 62, .load 38 (.tmp 61), 38, "sign.go:124", #[ql 2], none⟩ (.slice (some ⟨q, 0, none⟩) keys.length cap) (Or.inl ⟨by rfl, fun v h => qfx _ rfl _ rfl _ v h.1⟩) ?_
 simp only [qd]
 refine zU 4 ⟨some 63, .move (.tmp 7), 3, "sign.go:124", #[], none⟩ (.int .i64 i) ?_
 simp only [qd]
 refine zU 5 ⟨some 64, .indexAddr 38 (.tmp 62) (.tmp 63), 0, "sign.go:124", #[ql 3, ql 4], none⟩ (.pointer (some ⟨q, i, none⟩)) ?_
 simp only [qd]
 refine zT 6 ⟨some 65, .load 9 (.tmp 64), 9, "sign.go:124", #[ql 5], none⟩ (.string Ky) (Or.inl ⟨by rfl, fun v h => qdQ _ rfl _ rfl _ v h.2⟩) ?_
 simp only [qd]
 refine zU 7 ⟨some 66, .move (.tmp 1), 9, "sign.go:124", #[], none⟩ (.string t) ?_
 simp only [qd]
 refine zU 8 ⟨some 67, .slice 9 (.tmp 66) none (some (.const (.int .i64 128))) none, 9, "sign.go:124", #[ql 7], none⟩ (.string GG) ?_
 simp only [qd]
 refine zU 9 ⟨some 68, .move (.tmp 1), 9, "sign.go:124", #[], none⟩ (.string t) ?_
 simp only [qd]
 refine zU 10 ⟨some 69, .slice 9 (.tmp 68) (some (.const (.int .i64 128))) (some (.const (.int .i64 192))) none, 9, "sign.go:124", #[ql 9], none⟩ (.string SS) ?_
 simp only [qd]
 refine zR 11 ⟨some 70, .call ⟨.value (.func 42), #[.tmp 65, .tmp 67, .tmp 69], #[9, 9, 9]⟩, 3, "sign.go:124", #[ql 6, ql 8, ql 10], none⟩ fun K hK => ?_
 refine zE (qok _ _ _ rfl (.string Ky) (.string GG) (.string SS) rfl rfl rfl V1) (qvu Ky GG SS lG.o d (by rw [EKy.o, e1.o]) V1) fun V2 HBx => ?_
 have KV2 := qq KV1 HBx
 refine hK.o _ _ (CK.o _ KV2.o) (fun hHeld => ?_)
 clear HBx
 try simp only [qd]
 refine zU 12 ⟨some 4, .assign (.tmp 70), 3, "sign.go:124", #[ql 11, qT 11, qj 0, qj 1, qj 2, qj 3, qj 4, qj 5, qj 6, qj 7, qj 8, qj 9, qj 10, qj 11], none⟩ (.int .i64 d) ?_
 simp only [qd]
 refine zi (by kernel_rfl) ?_ _
 go_wp2_with fail
 go_returns
 exact ⟨rfl, KV2.o⟩
end
open Go.RowKit
theorem qhX (w : World) : (zeroValue 119).run Tryz.prog w = .ok (.agg #[.slice none 0 0, .int .u32 0, .pointer none, .map none]) w := by kernel_rfl
theorem kY : (Tryz.prog.info? 119).map (·.size) = some 4 := by kernel_rfl
theorem qrn (b : Nat) : QG b [] = #[] := rfl
structure qv7 (w w' : World) (kv : Value) (ks : List Nat) (b r : Nat) : Prop where
 be : zB w w'
 keys : YO w' kv ks
 own : ∀ x, kv.ownBlock = some x → w.heap.size ≤ x ∧ x < w'.heap.size ∧ x ≠ b ∧ x ≠ r
 b0 : w.heap.size ≤ b
 r0 : w.heap.size ≤ r
 br : b ≠ r
 base : w'.heap[b]? = some (.cells JC 86)
 map : w'.heap[r]? = some (.map #[] 0)
section
attribute [local irreducible] bA bL JC
theorem qka (keys : List ByteArray) (h4 : keys.length ≤ 4) (h32 : ∀ k ∈ keys, k.size = 32) (q cap : Nat) (v : Int) (w : World) (hS : yF w q keys) (hq : q < w.heap.size) :
  Calls Tryz.prog 53 #[.slice (some ⟨q, 0, none⟩) keys.length cap, .int .u32 v] w fun e w' => ∃ pt n cp b r, e = .returned (.tuple #[.agg (ZM (.slice pt n cp) v b r), .nilIface]) ∧ qv7 w w' (.slice pt n cp) (jK keys) b r := by
 have hz := qhX
 have hzb := qoB
 obtain ⟨W0, hW0⟩ := zy (w.alloc (.cells #[.slice none 0 0, .int .u32 0, .pointer none, .map none] 119))
 have B0 : zB w W0 := by rw [hW0]; exact (zJ _ _).alloc (zm _) _
 have R0 : Hid (qi W0 w.heap.size #[.slice none 0 0, .int .u32 0, .pointer none, .map none] 119) := by rw [hW0]; exact za _ _
 have H1 := qa (qgE keys h4 h32 q cap W0 (hS.below B0 hq) (zl hq B0.size))
 have HB0 := qa B0
 have ls := B0.size
 rw [hW0] at H1
 clear hS h4 h32 B0
 go_enter Tryz.func53, Tryz.ntmps53
 go_wp2_with fail
 refine H1.o.mono ?_
 rintro e W1 ⟨kv, rfl, hB, hK, hO⟩
 rw [← hW0] at hB hO
 have B1 := qa (HB0.o.trans (hB.mono ls))
 have R1 := qa (qk R0.o hB)
 have lW := hB.size
 clear hB H1 R0 HB0
 obtain ⟨pt, n, cp, hkv⟩ : ∃ pt n cp, kv = .slice pt n cp := by
  rcases hK with ⟨rfl, _⟩ | ⟨q', cap', rfl, _⟩
  · exact ⟨_, _, _, rfl⟩
  · exact ⟨_, _, _, rfl⟩
 subst hkv
 have HK := qa hK
 have HO := qa hO
 clear hK hO
 have hmm : ∀ w : World, (Instr.makeMap 117 none).run Tryz.prog w = .ok (.map (some w.heap.size)) (w.alloc (.map #[] 0)) := fun w => rfl
 have B2 : Hid (zB w ((W1.alloc (.cells JC 86)).alloc (.map #[] 0))) := (B1.o.alloc B1.o.size _).alloc (Zg B1.o.size (by simp)) _
 have K2 : Hid (zB W1 ((W1.alloc (.cells JC 86)).alloc (.map #[] 0))) := by show Below _ _ _; go_grown
 have RB : Hid (((W1.alloc (.cells JC 86)).alloc (.map #[] 0)).heap[W1.heap.size]? = some (.cells JC 86)) := (zb _ _ (by simp)).trans (za _ _)
 have RM : Hid (((W1.alloc (.cells JC 86)).alloc (.map #[] 0)).heap[W1.heap.size + 1]? = some (.map #[] 0)) := Zd _ _ _
 have R2 : Hid (((W1.alloc (.cells JC 86)).alloc (.map #[] 0)).heap[w.heap.size]? = some (.cells #[.slice none 0 0, .int .u32 0, .pointer none, .map none] 119)) := qk R1.o K2.o
 have l1 := qh R1.o
 go_wp2_with (first
  | (refine qB 119 (.tmp 4) (.tmp 23) w.heap.size #[.slice pt n cp, .int .u32 v, zp W1.heap.size 0, .map (some (W1.heap.size + 1))] R2.o (by rw [kY]; rfl) rfl (by simp [Value.oneCell']) ?_))
 generalize hW2 : (W1.alloc (.cells JC 86)).alloc (.map #[] 0) = W2 at *
 have ob : ∀ k, k ≠ w.heap.size → (W2.setRow w.heap.size #[.slice pt n cp, .int .u32 v, zp W1.heap.size 0, .map (some (W1.heap.size + 1))]).heap[k]? = W2.heap[k]? := fun k hk => zc _ _ _ _ hk
 have hs : (W2.setRow w.heap.size #[.slice pt n cp, .int .u32 v, zp W1.heap.size 0, .map (some (W1.heap.size + 1))]).heap.size = W2.heap.size := by simp [World.setRow]
 have l2 := K2.o.size
 have ow : ∀ x, (Value.slice pt n cp).ownBlock = some x → w.heap.size < x ∧ x < W1.heap.size := fun x hx => by
  have h := HO.o x hx
  have h2 : W0.heap.size = w.heap.size + 1 := by rw [hW0]; simp
  omega
 refine zh (v := .tuple #[.agg #[.slice pt n cp, .int .u32 v, zp W1.heap.size 0, .map (some (W1.heap.size + 1))], .nilIface]) (jJ Tryz.results53 _ _ (w.heap.size) 119 _ (0, 0) _ (by rfl) (zd _ _ _ _ _ _ R2.o) Tryz.underlying119 rfl (by rw [kY]; rfl)) rfl ⟨pt, n, cp, W1.heap.size, W1.heap.size + 1, rfl, ze B2.o (zm _) _, HK.o.kept (by omega) (fun x hx => (ob x (by have := ow x hx; omega)).trans (K2.o.block x (ow x hx).2)), fun x hx => by have := ow x hx; omega, by omega, by omega, by omega, (ob _ (by omega)).trans RB.o, (ob _ (by omega)).trans RM.o⟩
theorem qgn (keys : List ByteArray) (h4 : keys.length ≤ 4) (h32 : ∀ k ∈ keys, k.size = 32) (q cap : Nat) (v : Int) (v0 : 0 ≤ v) (v1 : v < 4294967296) (w : World) (hS : yF w q keys) (hq : q < w.heap.size) :
  Calls Tryz.prog 25 #[.slice (some ⟨q, 0, none⟩) keys.length cap, .int .u32 v] w fun e w' => ∃ g kv b r, e = .returned (.tuple #[zp g 0, .int .i64 0]) ∧ zB w w' ∧ Ld w' g 121 kv (jK keys) v b r [] 0 ∧ w.heap.size ≤ g ∧ w.heap.size ≤ b ∧ w.heap.size ≤ r ∧ ∀ x, kv.ownBlock = some x → w.heap.size ≤ x := by
 have hz := qhX
 have H1 := qa (qka keys h4 h32 q cap v w hS hq)
 have sm : Hid (∀ k ∈ jK keys, k < ZL) := by
  intro k hk
  obtain ⟨x, hx, rfl⟩ := List.mem_map.1 hk
  exact qaE _ (by rw [jY]; exact h32 x hx)
 clear hS hq h4 h32
 go_enter Tryz.func25, Tryz.ntmps25
 go_wp2_with fail
 refine H1.o.mono ?_
 rintro e W1 ⟨pt, n, cp, b, r, rfl, hN⟩
 have HN := qa hN
 clear hN H1
 rw [show ZM (.slice pt n cp) v b r = #[.slice pt n cp, .int .u32 v, zp b 0, .map (some r)] from rfl]
 go_upto_region 2 with (first
  | (refine qB 119 (.tmp 6) (.tmp 12) W1.heap.size #[.slice pt n cp, .int .u32 v, zp b 0, .map (some r)] (za _ _) (by rw [kY]; rfl) rfl (by simp [Value.oneCell']) ?_))
 try rw [qH]
 generalize hW2 : World.setRow _ _ _ = W2
 have K2 : Hid (zB W1 W2) := by rw [← hW2]; exact ze ((zJ _ _).alloc (zm _) _) (zm _) _
 obtain ⟨g6, hg6⟩ := zy W1.heap.size
 have R6 : Hid (qi W2 g6 #[.slice pt n cp, .int .u32 v, zp b 0, .map (some r)] 119) := by rw [← hW2, hg6]; exact zd _ _ _ _ _ _ (za _ _)
 have l2 : W1.heap.size < W2.heap.size := by have := qh R6.o; omega
 rw [← hg6]
 clear hW2 hg6
 go_wp2_with (first
  | (refine zL 119 (.tmp 6) g6 #[.slice pt n cp, .int .u32 v, zp b 0, .map (some r)] R6.o Tryz.underlying119 (by rw [kY]; rfl) ?_))
 go_returns
 have K3 : zB W1 (W2.alloc (.cells #[.slice pt n cp, .int .u32 v, zp b 0, .map (some r)] 121)) := K2.o.alloc K2.o.size _
 have h := HN.o
 have lb := qh h.base
 have lr := qh h.map
 have ls := h.be.size
 refine ⟨W2.heap.size, .slice pt n cp, b, r, rfl, h.be.trans (K3.mono ls), ⟨by exact za _ _, h.keys.kept K3.size (fun x hx => K3.block x (h.own x hx).2.1), sm.o, Or.inl (qmz ((K3.block b lb).trans h.base)), by rw [qrn]; exact (K3.block r lr).trans h.map, (fun x hx => by cases hx), v0, v1, by omega, by omega, h.br, fun x hx => ?_⟩, by omega, h.b0, h.r0, fun x hx => (h.own x hx).1⟩
 have := h.own x hx
 exact ⟨by omega, this.2.2.1, this.2.2.2⟩
end
end Go.Proofs.YtccgfabojbjmjaaGreatDoor
