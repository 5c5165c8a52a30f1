import Derived.Test.YtccgfabojbjmjaaGreatDoorLo24
import Derived.Test.YtccgfabojbjmjaaGreatDoorLo22
import Derived.Test.YtccgfabojbjmjaaGreatDoorLo19
import Derived.LaidEql
import Derived.Deep.QuietTactic
import Derived.BigQuiet
import Derived.Deep.AppendLies
import Derived.Deep.RegionHeld3
import Derived.Deep.DrawnRows
import Derived.BigRegion
set_option maxRecDepth 100000
set_option maxHeartbeats 8000000
namespace Go.Proofs.YtccgfabojbjmjaaGreatDoor
open Go.RowKit
open Go.RowKit
theorem qvA (r : Nat) : (fd r).getD 0 0 = ((r % 67108864 : Nat) : Int) := by rw [qhA r 0 (by decide), Nat.pow_zero, Nat.div_one]
def YP (p : Q3) : ByteArray := jk (qI (Qp (mP p.y (jm p.z)) (decide (mP p.x (jm p.z) % 2 = 1))) 32)
section
attribute [local irreducible] fA fL qA
theorem quu (p : Q3) (hp : p.Ok) (w : World) :
  zC 36 #[.agg (qA p)] w (.string (YP p)) := by
 have hz := JP
 have Hp := qa hp
 clear hp
 go_enter Tryz.func36, Tryz.ntmps36
 go_upto_region 1 with fail
 obtain ⟨W0, hW0⟩ := zy (w.alloc (.cells (qA p) 98))
 have RP : Hid (qi W0 w.heap.size (qA p) 98) := by rw [hW0]; exact za _ _
 have BL : Hid (zB w W0) := by rw [hW0]; show Below _ _ _; go_grown
 rw [← hW0]
 clear hW0
 go_wp2_with (first | (refine zG (by rfl) 95 (.tmp 6) (by rfl) (w.heap.size) 20 (by rfl) (fL p.z) _ (JJ RP.o).2.2 q7 rfl (Yt _) ?_))
 simp only [qiZ]
 refine (qck p.z Hp.o.z _).mono ?_
 rintro e W1 ⟨rfl, hB1⟩
 have RP := qa (qk RP.o hB1)
 have BL := qq BL hB1
 clear hB1
 obtain ⟨i, Ei⟩ := zx (jm p.z)
 have Hi : Hid (i < P) := by rw [Ei.o]; exact qbD _
 rw [← Ei.o]
 go_upto_region 2 with (first | (refine qB 95 (.tmp 3) (.tmp 8) W1.heap.size (fA i) (za _ _) (qO _) (jo _ _) (jn _) ?_))
 obtain ⟨g3, hg3⟩ := zy W1.heap.size
 obtain ⟨W2, hW2⟩ := zy ((W1.alloc (.cells (fA 0) 95)).setRow W1.heap.size (fA i))
 have lRPg3 : w.heap.size < g3 := by rw [hg3]; exact qh RP.o
 have RP' : Hid (qi W2 w.heap.size (qA p) 98) := by rw [hW2]; exact (zc _ _ _ _ (by omega)).trans ((zb _ _ (by omega)).trans RP.o)
 have RI : Hid (qi W2 g3 (fA i) 95) := by rw [hW2, hg3]; exact zd _ _ _ _ _ _ (za _ _)
 have BL' : Hid (zB w W2) := by rw [hW2]; exact ze (BL.o.alloc BL.o.size _) BL.o.size _
 rw [← hW2, ← hg3]
 clear hW2 hg3 BL RP
 have RP := RP'
 have BL := BL'
 clear RP' BL'
 go_wp2_with (first | (refine zG (by rfl) 95 (.tmp 9) (by rfl) (w.heap.size) 0 (by rfl) (fL p.x) _ (JJ RP.o).1 q7 rfl (Yt _) ?_) | (refine zL 95 (.tmp 3) (g3) (fA i) RI.o q7 (qO _) ?_))
 simp only [qiZ]
 refine (Qb p.x i Hp.o.x Hi.o _).mono ?_
 rintro e W3 ⟨rfl, hB3⟩
 have RP := qa (qk RP.o hB3)
 have RI := qa (qk RI.o hB3)
 have BL := qq BL hB3
 clear hB3
 obtain ⟨x, Ex⟩ := zx (mP p.x i)
 have Hx : Hid (x < P) := by rw [Ex.o]; exact qK _ _
 rw [← Ex.o]
 go_upto_region 3 with (first | (refine qB 95 (.tmp 4) (.tmp 12) W3.heap.size (fA x) (za _ _) (qO _) (jo _ _) (jn _) ?_))
 obtain ⟨g4, hg4⟩ := zy W3.heap.size
 obtain ⟨W4, hW4⟩ := zy ((W3.alloc (.cells (fA 0) 95)).setRow W3.heap.size (fA x))
 have lRPg4 : w.heap.size < g4 := by rw [hg4]; exact qh RP.o
 have lRIg4 : g3 < g4 := by rw [hg4]; exact qh RI.o
 have RP' : Hid (qi W4 w.heap.size (qA p) 98) := by rw [hW4]; exact (zc _ _ _ _ (by omega)).trans ((zb _ _ (by omega)).trans RP.o)
 have RI' : Hid (qi W4 g3 (fA i) 95) := by rw [hW4]; exact (zc _ _ _ _ (by omega)).trans ((zb _ _ (by omega)).trans RI.o)
 have RX : Hid (qi W4 g4 (fA x) 95) := by rw [hW4, hg4]; exact zd _ _ _ _ _ _ (za _ _)
 have BL' : Hid (zB w W4) := by rw [hW4]; exact ze (BL.o.alloc BL.o.size _) BL.o.size _
 rw [← hW4, ← hg4]
 clear hW4 hg4 BL RP RI
 have RP := RP'
 have RI := RI'
 have BL := BL'
 clear RP' RI' BL'
 go_wp2_with (first | (refine zG (by rfl) 95 (.tmp 13) (by rfl) (w.heap.size) 10 (by rfl) (fL p.y) _ (JJ RP.o).2.1 q7 rfl (Yt _) ?_) | (refine zL 95 (.tmp 3) (g3) (fA i) RI.o q7 (qO _) ?_))
 simp only [qiZ]
 refine (Qb p.y i Hp.o.y Hi.o _).mono ?_
 rintro e W5 ⟨rfl, hB5⟩
 have RP := qa (qk RP.o hB5)
 have RI := qa (qk RI.o hB5)
 have RX := qa (qk RX.o hB5)
 have BL := qq BL hB5
 clear hB5
 obtain ⟨y, Ey⟩ := zx (mP p.y i)
 have Hy : Hid (y < P) := by rw [Ey.o]; exact qK _ _
 rw [← Ey.o]
 go_upto_region 4 with (first | (refine qB 95 (.tmp 5) (.tmp 16) W5.heap.size (fA y) (za _ _) (qO _) (jo _ _) (jn _) ?_))
 obtain ⟨g5, hg5⟩ := zy W5.heap.size
 obtain ⟨W6, hW6⟩ := zy ((W5.alloc (.cells (fA 0) 95)).setRow W5.heap.size (fA y))
 have lRPg5 : w.heap.size < g5 := by rw [hg5]; exact qh RP.o
 have lRIg5 : g3 < g5 := by rw [hg5]; exact qh RI.o
 have lRXg5 : g4 < g5 := by rw [hg5]; exact qh RX.o
 have RP' : Hid (qi W6 w.heap.size (qA p) 98) := by rw [hW6]; exact (zc _ _ _ _ (by omega)).trans ((zb _ _ (by omega)).trans RP.o)
 have RI' : Hid (qi W6 g3 (fA i) 95) := by rw [hW6]; exact (zc _ _ _ _ (by omega)).trans ((zb _ _ (by omega)).trans RI.o)
 have RX' : Hid (qi W6 g4 (fA x) 95) := by rw [hW6]; exact (zc _ _ _ _ (by omega)).trans ((zb _ _ (by omega)).trans RX.o)
 have RY : Hid (qi W6 g5 (fA y) 95) := by rw [hW6, hg5]; exact zd _ _ _ _ _ _ (za _ _)
 have BL' : Hid (zB w W6) := by rw [hW6]; exact ze (BL.o.alloc BL.o.size _) BL.o.size _
 rw [← hW6, ← hg5]
 clear hW6 hg5 BL RP RI RX
 have RP := RP'
 have RI := RI'
 have RX := RX'
 have BL := BL'
 clear RP' RI' RX' BL'
 clear hz
 have cx := Qc (l := fd x) (T := 95) (fr := (0, 0)) (by have e := RX.o; unfold fA at e; exact e) 0 (by rw [Qo]; decide)
 obtain ⟨z, HZ⟩ := zx ((fd x).getD 0 0)
 rw [← HZ.o] at cx
 have z0 : 0 ≤ z := by rw [HZ.o, qvA]; omega
 have hodd : (z % 2 == 1) = decide (x % 2 = 1) := by
  rw [HZ.o, qvA]
  by_cases h : x % 2 = 1
  · rw [zN h, beq_iff_eq]; omega
  · rw [zD h, beq_eq_false_iff_ne]; omega
 obtain ⟨ob, Eo⟩ := zx (decide (x % 2 = 1))
 rw [← Eo.o] at hodd
 go_wp2_with (first | (refine zL 95 (.tmp 5) (g5) (fA y) RY.o q7 (qO _) ?_))
 refine (qsK y ob Hy.o _).mono ?_
 rintro e W7 ⟨rfl, hB7⟩
 have RP := qa (qk RP.o hB7)
 have RI := qa (qk RI.o hB7)
 have RX := qa (qk RX.o hB7)
 have RY := qa (qk RY.o hB7)
 have BL := qq BL hB7
 clear hB7
 obtain ⟨T, HT⟩ := zx (jk (qI (Qp y ob) 32))
 rw [← HT.o]
 go_wp2_with fail
 go_ret
 exact ⟨by rw [HT.o, Eo.o, Ey.o, Ex.o, Ei.o]; rfl, BL.o⟩
end
theorem qcd (a : Nat) : ∀ n, Cg a (Jx a n) (2 ^ n - 1)
 | 0 => by unfold Cg Jx; rw [Nat.pow_zero]
 | n + 1 => by
  have c := (((qcd a n).sqN 1).mP (Cg.one a))
  refine Cg.cast (e := (2 ^ n - 1) * 2 ^ 1 + 1) c ?_
  have : 0 < 2 ^ n := Nat.pow_pos (by decide)
  rw [Zk 2 n, Nat.pow_one]
  omega
theorem Cg.eq {a x e : Nat} (h : Cg a x e) (hx : x < P) : x = jz a e := by
 unfold Cg at h
 rw [z6 hx] at h
 exact h
theorem qcl (a : Nat) : jm a = Qa a := by
 rw [qhb]
 have c1 := Cg.one a
 have c := ((((((((qcd a 250).sqN 2).mP c1).sqN 2).mP c1).sqN 1).mP c1))
 refine (Cg.cast c ?_).eq (qbD a)
 decide +kernel
theorem qqo : Yz = Ql := by
 rw [← qtN]
 have c1 := Cg.one 2
 have c := ((((qcd 2 250).sqN 2).mP c1).sqN 1).mP c1
 refine (Cg.cast c ?_).eq (qK _ _)
 decide +kernel
theorem qsP : jz 121666 kJ = 37095705934669439343138083508754565189542113879843219016388785533085940283556 := qcS 121666 kJ _ 255 (by decide +kernel) (by decide +kernel)
theorem qdx : ZC = dN := by
 unfold ZC
 rw [qcl, qhb, qsP]
 decide +kernel
theorem qvj (a : Nat) : Qf a 0 = jz a (E8 + 1) := by
 have c : Cg a (sqN 1 (Jx a 251)) ((2 ^ 251 - 1) * 2 ^ 1) := (qcd a 251).sqN 1
 have e : Qf a 0 = sqN 1 (Jx a 251) := kj (Je 1 _ (qbo _ _))
 rw [e]
 refine (Cg.cast c ?_).eq (Je 1 _ (qbo _ _))
 decide +kernel
theorem quF (y : Nat) : vN y < P := QF _ _
theorem qoi (y : Nat) : uN y < P := jR _ _
theorem qgB (y : Nat) : ZB dN y = mP (uN y) (Qa (vN y)) := by
 unfold ZB uN vN
 rw [qcl, qeS dN]
theorem qkF (y : Nat) : Qf (ZB dN y) 0 = Jj (uN y) (vN y) := by
 rw [qvj, qgB, qf4 (qoi y) (quF y) (qn6 y)]
theorem qpw (y : Nat) : Qf (ZB dN y) 1 = mP (Jj (uN y) (vN y)) Ql := by
 show mP (Qf (ZB dN y) 0) Yz = _
 rw [qkF, qqo]
theorem t1 (y : Nat) : mP (Qf (ZB dN y) 0) (Qf (ZB dN y) 0) = ZB dN y ↔ QM (uN y) (vN y) = uN y := by
 rw [qiO (qoi y) (qn6 y), qkF, qgB]
theorem t2 (y : Nat) : mP (Qf (ZB dN y) 1) (Qf (ZB dN y) 1) = ZB dN y ↔ QM (uN y) (vN y) = sP 0 (uN y) := by
 rw [qiu (qoi y) (qn6 y), qpw, qn5 (qq9 _ _), qgB]
theorem qfF (y : Nat) : YT dN y = QB (uN y) (vN y) := by
 unfold YT Zz QB
 simp only [t1, t2]
 rw [qkF, qpw]
theorem qdO (y : Nat) : Zy (ZB dN y) = QZ (uN y) (vN y) := by
 unfold Zy QZ
 simp only [t1, t2]
theorem qkC (y : Nat) (odd : Bool) : JV dN y odd = JH y odd := by
 unfold JV JH
 rw [qfF]
theorem qqb (y : Nat) (odd : Bool) : (Zy (ZB dN y) && !(decide (YT dN y = 0) && odd)) = y5 y odd := by
 unfold y5
 rw [qdO, qfF]
 cases hb : QZ (uN y) (vN y)
 · simp
 ·
  simp only [if_true, Bool.true_and]
  unfold JH
  have hl := qca (uN y) (vN y)
  generalize QB (uN y) (vN y) = r at *
  by_cases h0 : r = 0
  ·
   subst h0
   cases odd
   · decide +kernel
   · decide +kernel
  ·
   have hop := ql0 hl h0
   rw [zD h0]
   simp only [Bool.false_and, Bool.not_false]
   by_cases hp : r % 2 = 1
   ·
    cases odd
    ·
     simp only [hp, decide_true]
     have : ¬ sP 0 r % 2 = 1 := by rw [hop]; omega
     simp [this]
    · simp [hp]
   ·
    cases odd
    · simp [hp]
    ·
     have : sP 0 r % 2 = 1 := by rw [hop]; omega
     simp [hp, this]
theorem qu3 : q0.Ok := ⟨j3, j3, j3⟩
theorem qlz (d y : Nat) (odd : Bool) : JV d y odd < P := by
 unfold JV; split
 · exact jR _ _
 · exact qgc _
theorem qk9 (d : Nat) (s : ByteArray) : (Qv d s).Ok := by
 unfold Qv; split
 · exact ⟨qlz _ _ _, Nat.mod_lt _ j3, qrh⟩
 · exact qu3
theorem qcN (d : Nat) (p q : Q3) : (Jd d p q).Ok := ⟨qK _ _, qK _ _, qK _ _⟩
theorem qkJ : ZC < P := qK _ _
theorem qrq (m : Nat) : Yc m = decide (m = m % P) := by
 unfold Yc
 congr 1
 apply propext
 constructor
 · intro h; exact (z6 h).symm
 · intro h; rw [h]; exact Nat.mod_lt _ j3
theorem qrM {s : ByteArray} (h : s.size = 32) : ym s = qC (bytesOf s) := by unfold ym ksB; rw [if_pos h]
theorem qkw {s : ByteArray} (h : s.size = 32) : ZS (ym s) = Qz s := by rw [qrM h]; rfl
theorem qk1 {s : ByteArray} (h : s.size = 32) : km (ym s) = yn s := by
 rw [← qlb _ (qsq s)]
 unfold yn
 rw [Ja, qrM h, qar]
theorem qsw {s : ByteArray} (h : s.size = 32) : yP s = j6 dN s := by
 unfold yP j6 jg ksO
 rw [qkw h, qk1 h, zN h, Bool.true_and, Bool.true_and, qrq]
 by_cases hy : Qz s = Qz s % P
 ·
  rw [zN hy, Bool.true_and, Bool.true_and]
  have e : Zu (Qz s) = Qz s % P := by
   unfold Zu
   rw [if_pos (by rw [hy]; exact Nat.mod_lt _ j3)]; exact hy
  rw [e, qqb]
 · rw [zD hy, Bool.false_and, Bool.false_and]
theorem qb6 (s : ByteArray) : yP s = j6 dN s := by
 by_cases h : s.size = 32
 · exact qsw h
 ·
  unfold yP j6 ksO
  rw [zD h, Bool.false_and, Bool.false_and]
theorem qj1 {s : ByteArray} (h : j6 dN s = true) : s.size = 32 ∧ Qz s = Qz s % P ∧ Zy (ZB dN (Qz s % P)) = true := by
 unfold j6 at h
 rw [Bool.and_eq_true, Bool.and_eq_true, Bool.and_eq_true] at h
 exact ⟨of_decide_eq_true h.1, of_decide_eq_true h.2.1, h.2.2.1⟩
theorem qjm {s : ByteArray} (h : j6 dN s = true) : ∃ x y, x < P ∧ y < P ∧ kH s = Yg x y ∧ Qv dN s = qvB x y := by
 obtain ⟨h32, hy, hr⟩ := qj1 h
 have hb : yP s = true := by rw [qb6]; exact h
 have hd : jg (ym s) = true := by
  unfold yP at hb
  rw [Bool.and_eq_true] at hb
  exact hb.2
 refine ⟨JH (Qz s % P) (yn s), Qz s % P, ?_, Nat.mod_lt _ j3, ?_, ?_⟩
 · rw [← qkC]; exact qlz _ _ _
 ·
  unfold kH
  rw [hb, if_pos rfl]
  unfold Qh
  rw [hd, if_pos rfl, qkw h32, qk1 h32]
  have e : Zu (Qz s) = Qz s % P := by
   unfold Zu
   rw [if_pos (by rw [hy]; exact Nat.mod_lt _ j3)]; exact hy
  rw [e]
  unfold yG
  rw [← qdO, hr, if_pos rfl]
 ·
  unfold Qv
  rw [h, if_pos rfl, qkC]
  rfl
theorem qdR (g : Nat) (w : World) : (callFunc 96 #[.iface 139 (zp g 0)]).run Tryz.prog w = .ok (.value (.agg (js 139 w.heap.size 150))) (w.alloc (.cells #[zp g 0] 139)) := by kernel_rfl
theorem qiL (q : Nat) (w : World) : (callFunc 97 #[.agg (js 139 q 150)]).run Tryz.prog w = .ok (.value (j7 139)) w := by kernel_rfl
theorem qet (q : Nat) (w : World) : (Extern.ReflectliteValue.parts (.agg (js 139 q 150))).run Tryz.prog w = .ok (some (139, ⟨q, 0, none⟩, 150)) w := by kernel_rfl
theorem qfw (g q : Nat) (w : World) (h : w.heap[q]? = some (.cells #[zp g 0] 139)) : (callFunc 98 #[.agg (js 139 q 150)]).run Tryz.prog w = .ok (.value (.bool false)) w := by
 rw [run_callFunc_extern Tryz.func98 (by kernel_rfl) (by kernel_rfl) (by kernel_rfl) (e := Extern.ReflectliteValue.method (Extern.ReflectliteValue.valueError "reflectlite.Value.IsNil" 0) Extern.ReflectliteValue.isNil) (by kernel_rfl)]
 have hl := qe2 w q _ _ _ _ _ h Tryz.underlying139 rfl
 simp [qg2, Extern.ReflectliteValue.isNil, Sem.run_bind, qet, hl]
theorem qjb (w : World) : (Extern.Rtype.elem? 139).run Tryz.prog w = .ok (some 136) w := by kernel_rfl
theorem qtS (g : Nat) (w : World) : (Extern.ReflectliteValue.mk 136 ⟨g, 0, none⟩ 256).run Tryz.prog w = .ok (.agg (js 136 g 409)) w := by kernel_rfl
theorem qm4 (g q : Nat) (w : World) (h : w.heap[q]? = some (.cells #[zp g 0] 139)) : (callFunc 146 #[.agg (js 139 q 150)]).run Tryz.prog w = .ok (.value (.agg (js 136 g 409))) w := by
 rw [run_callFunc_extern Tryz.func146 (by kernel_rfl) (by kernel_rfl) (by kernel_rfl) (e := Extern.ReflectliteValue.method (Extern.ReflectliteValue.valueError "reflectlite.Value.Elem" 0) Extern.ReflectliteValue.elem) (by kernel_rfl)]
 have hl := qe2 w q _ _ _ _ _ h Tryz.underlying139 rfl
 simp [qg2, Extern.ReflectliteValue.elem, Sem.run_bind, qet, hl, qjb, qtS, Extern.ReflectliteValue.flagAddr]
theorem qhD (h : Int) : (Tryz.prog.info? 136).map (·.size) = some (#[Value.int .i64 h] : Array Value).size := by kernel_rfl
theorem qrH (g q : Nat) (w : World) : (Extern.ReflectliteValue.set #[.agg (js 136 g 409), .agg (js 136 q 153)]).run Tryz.prog w =
  (loadVar 136 ⟨q, 0, none⟩ >>= fun v => storeVar 136 ⟨g, 0, none⟩ v >>= fun _ => pure (.tuple #[])).run Tryz.prog w := by kernel_rfl
theorem qrw (g q : Nat) (h : Int) (T : TypeId) (a : Value) (w : World) (hq : w.heap[q]? = some (.cells #[.int .i64 h] 136)) (hg : w.heap[g]? = some (.cells #[a] T (0, 0))) :
  (callFunc 147 #[.agg (js 136 g 409), .agg (js 136 q 153)]).run Tryz.prog w = .ok (.value (.tuple #[])) (w.setRow g #[.int .i64 h]) := by
 rw [run_callFunc_extern Tryz.func147 (by kernel_rfl) (by kernel_rfl) (by kernel_rfl) (e := Extern.ReflectliteValue.set) (by kernel_rfl)]
 have hl := run_loadVar_row (P := Tryz.prog) w q _ 136 _ _ _ hq Tryz.underlying136 rfl (qhD h)
 have hs := run_storeVar_row (P := Tryz.prog) w g T 136 #[a] #[.int .i64 h] hg (qhD h) rfl (by kernel_rfl)
 rw [qrH]
 simp [Sem.run_bind, hl, hs]
theorem qgg (w : World) : (callFunc 206 #[hN 139]).run Tryz.prog w = .ok (.value (.int .u8 22)) w := by kernel_rfl
theorem qik (w : World) : (callFunc 206 #[hN 136]).run Tryz.prog w = .ok (.value (.int .u8 25)) w := by kernel_rfl
theorem qfP (w : World) : (callFunc 219 #[.agg #[hN 139]]).run Tryz.prog w = .ok (.value (j7 136)) w := by kernel_rfl
theorem qiH (w : World) : (callFunc 220 #[.agg #[hN 136], j7 66]).run Tryz.prog w = .ok (.value (.bool true)) w := by kernel_rfl
theorem qdk (w : World) : (callFunc 217 #[.agg #[hN 173], j7 136]).run Tryz.prog w = .ok (.value (.bool false)) w := by kernel_rfl
theorem qk7 (w : World) : (callFunc 217 #[.agg #[hN 136], j7 136]).run Tryz.prog w = .ok (.value (.bool true)) w := by kernel_rfl
theorem qlY (w : World) : (callFunc 217 #[.agg #[hN 136], j7 134]).run Tryz.prog w = .ok (.value (.bool false)) w := by kernel_rfl
theorem qge (w : World) : (callFunc 217 #[.agg #[hN 282], j7 136]).run Tryz.prog w = .ok (.value (.bool false)) w := by kernel_rfl
theorem qf3 (w : World) : (callFunc 217 #[.agg #[hN 282], j7 134]).run Tryz.prog w = .ok (.value (.bool false)) w := by kernel_rfl
theorem qi4 (h : Int) (w : World) : (callFunc 96 #[.iface 136 (.agg #[.int .i64 h])]).run Tryz.prog w = .ok (.value (.agg (js 136 w.heap.size 153))) (w.alloc (.cells #[.int .i64 h] 136)) := by kernel_rfl
theorem qir (v : Value) (xT : TypeId) (w : World) : (Instr.typeAssert (.iface 282 v) xT 243 true).run Tryz.prog w = .ok (.tuple #[.nilIface, .bool false]) w := run_typeAssert_lacksB Tryz.underlying243 (by kernel_rfl) (by kernel_rfl) v xT w
theorem qr3 (v : Value) (xT : TypeId) (w : World) : (Instr.typeAssert (.iface 136 v) xT 243 true).run Tryz.prog w = .ok (.tuple #[.nilIface, .bool false]) w := run_typeAssert_lacksB Tryz.underlying243 (by kernel_rfl) (by kernel_rfl) v xT w
theorem qes (v : Value) (xT : TypeId) (w : World) : (Instr.typeAssert (.iface 282 v) xT 246 true).run Tryz.prog w = .ok (.tuple #[.nilIface, .bool false]) w := run_typeAssert_lacksB Tryz.underlying246 (by kernel_rfl) (by kernel_rfl) v xT w
theorem qsE (v : Value) (xT : TypeId) (w : World) : (Instr.typeAssert (.iface 136 v) xT 246 true).run Tryz.prog w = .ok (.tuple #[.nilIface, .bool false]) w := run_typeAssert_lacksB Tryz.underlying246 (by kernel_rfl) (by kernel_rfl) v xT w
theorem qcp (v : Value) (xT : TypeId) (w : World) : (Instr.typeAssert (.iface 282 v) xT 247 true).run Tryz.prog w = .ok (.tuple #[.nilIface, .bool false]) w := run_typeAssert_lacksB Tryz.underlying247 (by kernel_rfl) (by kernel_rfl) v xT w
theorem qp2 (v : Value) (xT : TypeId) (w : World) : (Instr.typeAssert (.iface 136 v) xT 247 true).run Tryz.prog w = .ok (.tuple #[.nilIface, .bool false]) w := run_typeAssert_lacksB Tryz.underlying247 (by kernel_rfl) (by kernel_rfl) v xT w
theorem qpk (v : Value) (xT : TypeId) (w : World) : (Instr.typeAssert (.iface 282 v) xT 250 true).run Tryz.prog w = .ok (.tuple #[.nilIface, .bool false]) w := run_typeAssert_lacksB Tryz.underlying250 (by kernel_rfl) (by kernel_rfl) v xT w
theorem qpp (v : Value) (xT : TypeId) (w : World) : (Instr.typeAssert (.iface 173 v) xT 250 true).run Tryz.prog w = .ok (.tuple #[.nilIface, .bool false]) w := run_typeAssert_lacksB Tryz.underlying250 (by kernel_rfl) (by kernel_rfl) v xT w
theorem qpy (w : World) : (callFunc 218 #[.agg #[hN 282]]).run Tryz.prog w = .ok (.value (.bool true)) w := by kernel_rfl
theorem qqc : (Tryz.prog.info? 282).map (·.comparable) = some true := by kernel_rfl
theorem qqM : (Tryz.prog.info? 301).map (·.size) = some 1 := by kernel_rfl
open Go.RowKit
def yQ (ws : List (BitVec 64)) (k : Nat) : List UInt8 := (ws.take k).flatMap jL ++ List.replicate (64 - 8 * k) 0
theorem qbm (x : BitVec 64) : (jL x).length = 8 := rfl
theorem qaw (ws : List (BitVec 64)) : (ws.flatMap jL).length = 8 * ws.length := by
 induction ws with
 | nil => rfl
 | cons x l ih => simp only [List.flatMap_cons, Ze, ih, qbm, List.length_cons]; omega
theorem qcH (ws : List (BitVec 64)) (k : Nat) (hw : ws.length = 8) (hk : k ≤ 8) : (yQ ws k).length = 64 := by
 unfold yQ; rw [Ze, qaw, Zh, List.length_replicate]; omega
theorem qrB (l : List UInt8) (off : Nat) (x : BitVec 64) (k : Nat) : yg (l.map cv) off x k = (QQ l off x k).map cv := by
 induction k with
 | zero => rfl
 | succ k ih => simp only [yg, QQ, ih, List.map_set]
theorem qju (ws : List (BitVec 64)) (k : Nat) (hw : ws.length = 8) (hk : k < 8) : QQ (yQ ws k) (8 * k) (ws.getD k 0) 8 = yQ ws (k + 1) := by
 rw [qfi _ _ _ (by rw [qcH ws k hw (by omega)]; omega)]
 have hl : ((ws.take k).flatMap jL).length = 8 * k := by rw [qaw, Zh]; omega
 have e1 : (yQ ws k).take (8 * k) = (ws.take k).flatMap jL := by
  unfold yQ; rw [List.take_append_of_le_length (by omega)]; exact zP (by omega)
 have e2 : (yQ ws k).drop (8 * k + 8) = List.replicate (64 - 8 * (k + 1)) 0 := by
  unfold yQ; rw [List.drop_append, List.drop_eq_nil_of_le (by omega), hl, List.drop_replicate, List.nil_append]
  congr 1; omega
 rw [e1, e2]
 unfold yQ
 have e3 : ws.take (k + 1) = ws.take k ++ [ws.getD k 0] := by
  rw [List.take_succ_eq_append_getElem (by omega)]; simp [List.getD, zO (show k < ws.length by omega)]
 rw [e3, List.flatMap_append, z9]
 simp
noncomputable def HS.sum (H : HS) : List UInt8 := H.ended.st.words.flatMap jL
theorem HS.sum_length (H : HS) : H.sum.length = 64 := by unfold HS.sum; rw [qaw]; rfl
theorem qlL (H : HS) : yQ H.ended.st.words 8 = H.sum := by
 unfold yQ HS.sum
 rw [zP (by rw [S8.words_length]; exact zm _)]; simp
theorem qc8 : Tryz.prog.underlying 102 = some (.array 64 5) := by kernel_rfl
theorem qks : (Tryz.prog.info? 102).map (·.size) = some 64 := by kernel_rfl
theorem qpA : ∃ fs, Tryz.prog.underlying 166 = some (.struct fs) := ⟨_, Tryz.underlying166⟩
theorem qrU : (Tryz.prog.info? 166).map (·.size) = some 138 := by kernel_rfl
def yA : Array Value := ((List.replicate 64 (0 : UInt8)).map cv).toArray
theorem qln (w : World) : (zeroValue 102).run Tryz.prog w = .ok (.agg yA) w := by kernel_rfl
def zH : Array Value := (HS.row ⟨⟨0, 0, 0, 0, 0, 0, 0, 0⟩, List.replicate 128 0, 0⟩).toArray
theorem qnj (w : World) : (zeroValue 166).run Tryz.prog w = .ok (.agg zH) w := by kernel_rfl
theorem qqh (b o : Nat) (z : Int) (l : Nat) (hz : z = l) (hl : l < 64) (w : World) :
  (Instr.sliceAt 102 (.pointer (some ⟨b, o, none⟩)) (some (.int .i64 z)) none none).run Tryz.prog w = .ok (.slice (some ⟨b, o + l, none⟩) (64 - l) (64 - l)) w := by
 subst hz
 have h1 : ((l : Int) ≤ 64) := by omega
 have h2 : ¬ 64 = l := by omega
 cases hq : Tryz.prog.info? 5 with
 | none => have := kS; rw [hq] at this; cases this
 | some i =>
  have hi : i.size = 1 := by have := kS; rw [hq] at this; simpa using this
  simp [Instr.sliceAt, Instr.sureAddr, run_underlying qc8, Instr.sliceBounds, run_sliceBound, sizeOf, typeInfo, hq, hi, h1, h2, Addr.add]
theorem qrF (s : S8) (j : Nat) (hj : j < 8) : ∀ w, (Instr.index 163 (.agg (w8 s).toArray) (.int .i64 j)).run Tryz.prog w = .ok (.int .u64 (U (s.words.getD j 0))) w := qoY s j hj
theorem qiA (H : HS) : ∀ v ∈ H.row, v.oneCell' = true := by
 intro v hv
 unfold HS.row at hv
 rcases List.mem_append.1 hv with h | h
 · obtain ⟨x, _, rfl⟩ := List.mem_map.1 h; rfl
 ·
  rcases List.mem_append.1 h with h | h
  · obtain ⟨x, _, rfl⟩ := List.mem_map.1 h; rfl
  · simp at h; rcases h with rfl | rfl <;> rfl
theorem qc5 (l : List UInt8) : ∀ v ∈ l.map cv, v.oneCell' = true := by
 intro v hv; obtain ⟨x, _, rfl⟩ := List.mem_map.1 hv; rfl
theorem qll {w : World} {b : Nat} {T : TypeId} {H : HS} (h : jw w b T H) : w.rangeAt b 0 (w8 H.st) := by
 intro j v hv
 have hj : j < 8 := by
  rcases Nat.lt_or_ge j 8 with g | g
  · exact g
  · rw [List.getElem?_eq_none (by simpa [w8, S8.words] using g)] at hv; cases hv
 rw [Zb, h.cell j]
 unfold HS.row; rw [z5 (by simpa [S8.words] using hj)]; exact hv
section
attribute [local go_sem] y7 Ji JU Ye yh Yr
attribute [local go_sem ↓] Go.wp_at_zero Go.wp_at_succ
theorem qmx (b : Nat) (T : TypeId) (H : HS) (w : World) (h : jw w b T H) (hK : j9 w) :
  zC 83 #[zp b 0] w (.agg (H.sum.map cv).toArray) := by
 have hz := qln
 have hzH := qnj
 have HH : Hid (jw w b T H) := h
 have HK : Hid (j9 w) := hK
 have hb : b < w.heap.size := h.lt
 obtain ⟨fs, huH⟩ := qpA
 have HU : Hid (Tryz.prog.underlying 166 = some (.struct fs)) := huH
 clear h hK huH
 obtain ⟨R, HR⟩ := zx H.row
 have hRl : R.length = 138 := by rw [HR.o]; exact H.row_length HH.o.len
 have HSz : Hid ((Tryz.prog.info? 166).map (·.size) = some R.toArray.size) := by show _ = _; rw [qrU]; simp [hRl]
 have HO : Hid (zH.size = R.toArray.size) := by show _ = _; simp [hRl]; rfl
 have HA : Hid (R.toArray.all (·.oneCell') = true) := by rw [HR.o]; exact all_oneCell_toArray (qiA H)
 have HG : Hid ((w.alloc (.cells yA 102)).heap[b]? = some (.cells R.toArray T (0, 0))) := by
  rw [HR.o]; exact (zb w _ hb).trans HH.o.heap
 clear hRl
 go_enter Tryz.func83, Tryz.ntmps83
 go_wp2_with (first
  | (refine zg (by rfl) 166 (.tmp 8) (by rfl) b (by rfl) T R.toArray (0, 0) _ HG.o HU.o rfl HSz.o ?_)
  | (refine qB 166 (.tmp 3) (.tmp 9) (w.heap.size + 1) R.toArray (Zd _ _ _) HSz.o HO.o HA.o ?_))
 obtain ⟨W1, hW1⟩ := zy (((w.alloc (.cells yA 102)).alloc (.cells zH 166)).setRow (w.heap.size + 1) R.toArray)
 rw [← hW1]
 obtain ⟨g, hg⟩ := zy (w.heap.size + 1)
 rw [← hg]
 have hgs : w.heap.size < g := by omega
 have hA1 : jw W1 g 166 H := by
  refine ⟨?_, HH.o.len⟩
  rw [hW1, hg, zd _ _ _ _ _ _ (Zd _ _ _), HR.o]
 have hB1 : zB w W1 := by
  rw [hW1]; exact ze (((zJ _ _).alloc (zm _) _).alloc (by simp) _) (by omega) _
 have hR1 : W1.heap[w.heap.size]? = some (.cells yA 102) := by
  rw [hW1, zc _ _ _ _ (by omega)]; exact heap_alloc2_old _ _ _
 clear hW1 hg HG HA HO HSz HU HR hz hzH
 refine (qjl g 166 H W1 hA1 (HK.o.below hB1 (by have := HK.o.lt; omega)) (by have := HK.o.lt; omega)).mono ?_
 rintro e W2 ⟨rfl, hA2, hT2⟩
 have hB2 : Hid (zB w W2) := hB1.trans (hT2.below (by omega) hB1.size)
 have hR2 : Hid (qi W2 w.heap.size yA 102) := (hT2.block _ (by have := hA1.lt; omega) (by omega)).trans hR1
 have hA2' : Hid (W2.rangeAt g 0 (w8 H.ended.st)) := qll hA2
 have hg2 : g < W2.heap.size := hA2.lt
 clear hA1 hB1 hR1 hA2 hT2
 obtain ⟨S, HS'⟩ := zx H.ended.st
 rw [← HS'.o] at hA2'
 have hz := qln
 have HRA : Hid ((W2.alloc (.cells yA 102)).rangeAt g 0 (w8 S)) := World.rangeAt_alloc hA2'.o _
 go_wp2_with (first | (refine zG (by rfl) 163 (.tmp 11) (by rfl) g 0 (by rfl) (w8 S) _ HRA.o qoW rfl qqA ?_))
 clear hz HRA
 obtain ⟨q, hq⟩ := zy W2.heap.size
 rw [← hq]
 go_loopw [13] (fun i wr => ∃ k : Nat, k ≤ 8 ∧ i = .int .i64 k ∧ Hid (qi wr q (((yQ S.words k).map cv).toArray) 102) ∧ Hid (qi wr w.heap.size yA 102) ∧ Hid (zB w wr)) (fun i _ => 8 - (intOf i).toNat)
 case atStart => exact ⟨0, Zc _, rfl, by rw [hq]; exact za W2 _, (zb W2 _ (by omega)).trans hR2.o, hB2.o.alloc (by omega) _⟩
 case round =>
  have hqs : Hid (w.heap.size < q) := by rw [hq]; show _ < _; omega
  clear hR2 hB2 hA2' hg2 hgs hq
  obtain ⟨k, hk, rfl, hr, hr0, hbel⟩ := hrel
  by_cases hlt : k < 8
  ·
   have bk : (k : Int) < 8 := by omega
   have hidx := qrF S k hlt
   have hsl := qqh q 0 (8 * (k : Int)) (8 * k) (by omega) (by omega)
   generalize hx : S.words.getD k 0 = x at hidx
   have HX : Hid (S.words.getD k 0 = x) := hx
   clear hx
   go_wp2_with fail
   refine (qai q (8 * k) (64 - 8 * k) (64 - 8 * k) 102 _ x wr (by omega) (by omega) hr.o (by rw [zv, qcH _ _ (S8.words_length S) hk]; omega)).mono ?_
   rintro e V ⟨rfl, hrow, hturn⟩
   have hrow' : Hid (qi V q (((yQ S.words (k + 1)).map cv).toArray) 102) := by
    have e := hrow
    rw [qrB, ← HX.o, qju _ _ (S8.words_length S) hlt] at e
    exact e
   have hr0' : Hid (qi V w.heap.size yA 102) := (hturn.block _ (by rcases Nat.lt_or_ge w.heap.size wr.heap.size with g | g; exact g; have := hr0.o; rw [qi, Array.getElem?_eq_none g] at this; cases this) (by have := hqs.o; omega)).trans hr0.o
   have hbel' : Hid (zB w V) := hbel.o.trans (hturn.below (by have := hqs.o; omega) hbel.o.size)
   clear hrow hturn hr hr0 hbel
   go_wp2_with fail
   go_roundw
   case rel => exact ⟨k + 1, by omega, by go_num, hrow', hr0', hbel'⟩
   case measure => simp [intOf]; omega
  ·
   have hk8 : k = 8 := by omega
   have hk' : (8 : Int) ≤ (k : Int) := by omega
   obtain ⟨M, HM⟩ := zx ((H.sum.map cv))
   have hr' : Hid (qi wr q M.toArray 102) := by
    have := hr.o; rw [hk8, HS'.o, qlL, ← HM.o] at this; exact this
   have hMl : M.length = 64 := by rw [HM.o, zv, H.sum_length]
   have HSz : Hid ((Tryz.prog.info? 102).map (·.size) = some M.toArray.size) := by show _ = _; rw [qks]; simp [hMl]
   have HO : Hid (yA.size = M.toArray.size) := by show _ = _; simp [hMl]; rfl
   have HA : Hid (M.toArray.all (·.oneCell') = true) := by rw [HM.o]; exact all_oneCell_toArray (qc5 _)
   clear hr hk8 hlt hk hMl
   go_wp2_with (first | (refine zL 102 (.tmp 4) q M.toArray hr'.o qc8 HSz.o ?_) | (refine qB 102 (.tmp 2) (.tmp 23) w.heap.size M.toArray hr0.o HSz.o HO.o HA.o ?_))
   refine zh (v := .agg M.toArray) (results_cell_row Tryz.results83 _ _ w.heap.size 102 M.toArray (0, 0) _ (by rfl) (zd _ _ _ _ _ _ hr0.o) qc8 rfl HSz.o) rfl ⟨by rw [HM.o], ze hbel.o (zm _) _⟩
end
open Go.RowKit
def jV : S8 := ⟨7640891576956012808#64, 13503953896175478587#64, 4354685564936845355#64, 11912009170470909681#64, 5840696475078001361#64, 11170449401992604703#64, 2270897969802886507#64, 6620516959819538809#64⟩
def H0 : HS := ⟨jV, List.replicate 128 0, 0⟩
theorem qfB : H0.blk.length = 128 := by simp [H0]
def r0 : Array Value := H0.row.toArray
theorem qqj : Tryz.prog.built 163 [(0, .int .u64 7640891576956012808), (1, .int .u64 13503953896175478587), (2, .int .u64 4354685564936845355), (3, .int .u64 11912009170470909681), (4, .int .u64 5840696475078001361), (5, .int .u64 11170449401992604703), (6, .int .u64 2270897969802886507), (7, .int .u64 6620516959819538809)] = some (w8 jV).toArray := by kernel_rfl
theorem qro : Tryz.prog.built 166 [(0, .agg (w8 jV).toArray)] = some r0 := by kernel_rfl
theorem qac {P : Program} {ops : Array Oper} {rest : List Oper} {o : Oper} {a : Act} {w : World} {Q : Exit → Act → World → Prop} (hg : o.guard = none) (t : TypeId) (parts : Array (Nat × Operand)) (ho : o.op = .build t parts) (cells : Array Value)
  (hb : P.built t (parts.map fun (i, x) => (i, a.eval x)).toList = some cells) (h : wpList P ops Q rest (a.put o.dst (.agg cells)) w) : wpList P ops Q (o :: rest) a w :=
 wpList_build hg t parts ho (by rw [hb]; rfl) (by rw [hb]; exact h)
theorem qfn : (Tryz.prog.info? 166).map (·.size) = some r0.size := by rw [qrU]; simp [r0, H0.row_length qfB]
theorem qpP : zH.size = r0.size := by
 have h1 : zH.size = 138 := by unfold zH; rw [List.size_toArray]; exact HS.row_length _ (by simp)
 rw [h1]; simp [r0, H0.row_length qfB]
theorem qhd : r0.all (·.oneCell') = true := all_oneCell_toArray (qiA H0)
section
theorem qkl (w : World) :
  zC 81 #[] w (.agg r0) := by
 have hzH := qnj
 go_enter Tryz.func81, Tryz.ntmps81
 obtain ⟨fs, huH⟩ := qpA
 have HU : Hid (Tryz.prog.underlying 166 = some (.struct fs)) := huH
 clear huH
 go_wp2_with (first
  | (refine qac (by rfl) 163 _ (by rfl) (w8 jV).toArray (by exact qqj) ?_)
  | (refine qac (by rfl) 166 _ (by rfl) r0 (by exact qro) ?_)
  | (refine qB 166 (.tmp 0) (.tmp 2) w.heap.size r0 (za _ _) qfn qpP qhd ?_))
 refine zh (v := .agg r0) (results_cell_row Tryz.results81 _ _ w.heap.size 166 r0 (0, 0) _ (by rfl) (zd _ _ _ _ _ _ (za _ _)) HU.o rfl qfn) rfl ⟨rfl, ze ((zJ _ _).alloc (zm _) _) (zm _) _⟩
noncomputable def jD (l : List UInt8) : List UInt8 := (H0.puts l).sum
theorem qao (l : List UInt8) : (jD l).length = 64 := HS.sum_length _
theorem qta (s : ByteArray) (w : World) (hK : j9 w) (hs : s.size ≤ maxLen) :
  zC 48 #[.string s] w (.agg ((jD (jt s)).map cv).toArray) := by
 have hz := qln
 have hzH := qnj
 have HK : Hid (j9 w) := hK
 clear hK
 go_enter Tryz.func48, Tryz.ntmps48
 go_wp2_with (first
  | (go_at_call 81; refine (qkl _).mono ?_; rintro e W1 ⟨rfl, hB1⟩)
  | (refine qB 166 (.tmp 3) (.tmp 4) W1.heap.size r0 (za _ _) qfn qpP qhd ?_))
 obtain ⟨V, hV⟩ := zy ((W1.alloc (.cells zH 166)).setRow W1.heap.size r0)
 rw [← hV]
 obtain ⟨g, hg⟩ := zy W1.heap.size
 rw [← hg]
 have hgs : w.heap.size < g := by have := hB1.size; simp at this; omega
 have hBw : zB w W1 := ((zJ _ _).alloc (zm _) _).trans (hB1.mono (by simp))
 have hAV : jw V g 166 H0 := ⟨by rw [hV, hg]; exact zd _ _ _ _ _ _ (za _ _), qfB⟩
 have hBV : zB w V := by rw [hV]; exact ze (hBw.alloc (by omega) _) (by omega) _
 have hRV : V.heap[w.heap.size]? = some (.cells yA 102) := by
  rw [hV, zc _ _ _ _ (by omega), zb _ _ (by omega), hB1.block _ (by simp)]; exact za _ _
 have hKV : j9 V := HK.o.below hBV HK.o.lt
 clear hV hg hB1 hBw hz hzH
 refine (qfv g 166 H0 s V hAV hKV (by have := HK.o.lt; omega) hs).mono ?_
 rintro e V2 ⟨rfl, hA2, hT2⟩
 have hB2 : Hid (zB w V2) := hBV.trans (hT2.below (by omega) hBV.size)
 have hR2 : Hid (qi V2 w.heap.size yA 102) := (hT2.block _ (by have := hAV.lt; omega) (by omega)).trans hRV
 have hA2' : Hid (jw V2 g 166 (H0.puts (jt s))) := hA2
 have hK2 : Hid (j9 V2) := hKV.turn hT2 (by have := HK.o.lt; omega)
 clear hAV hBV hRV hKV hA2 hT2
 go_wp2_with fail
 refine (qmx g 166 _ V2 hA2'.o hK2.o).mono ?_
 rintro e V3 ⟨rfl, hB3⟩
 obtain ⟨M, HM⟩ := zx (((H0.puts (jt s)).sum).map cv)
 rw [← HM.o]
 have hMl : M.length = 64 := by rw [HM.o, zv, HS.sum_length]
 have HSz : Hid ((Tryz.prog.info? 102).map (·.size) = some M.toArray.size) := by show _ = _; rw [qks]; simp [hMl]
 have HO : Hid (yA.size = M.toArray.size) := by show _ = _; simp [hMl]; rfl
 have HA : Hid (M.toArray.all (·.oneCell') = true) := by rw [HM.o]; exact all_oneCell_toArray (qc5 _)
 have hlt2 : w.heap.size < V2.heap.size := by have := hA2'.o.lt; omega
 have hR3 : Hid (qi V3 w.heap.size yA 102) := (hB3.block _ hlt2).trans hR2.o
 have hB3' : Hid (zB w V3) := hB2.o.trans (hB3.mono (by omega))
 clear hB3 hA2' hK2 hR2 hB2 hMl hlt2
 go_wp2_with (first | (refine qB 102 (.tmp 2) (.tmp 7) w.heap.size M.toArray hR3.o HSz.o HO.o HA.o ?_))
 refine zh (v := .agg M.toArray) (results_cell_row Tryz.results48 _ _ w.heap.size 102 M.toArray (0, 0) _ (by rfl) (zd _ _ _ _ _ _ hR3.o) qc8 rfl HSz.o) rfl ⟨by rw [HM.o]; rfl, ze hB3'.o (zm _) _⟩
end
open Go.RowKit
section
attribute [local go_sem] y7 Ji JU Ye yh Yr
theorem qgp (x : BitVec 64) (k : Int) (n : Nat) (hk : k = n) (h0 : 0 < n) (h1 : n < 64) (w : World) :
  Calls Tryz.prog 105 #[.int .u64 (U x), .int .i64 k] w fun e w' => e = .returned (.int .u64 (U (x.rotateRight n))) ∧ ∃ q, w' = w.drewN q := by
 subst hk
 have b0 : (0 : Int) ≤ (n : Int) := by omega
 have b1 : (n : Int) < 64 := by omega
 have b2 : (0 : Int) ≤ 64 - (n : Int) := by omega
 go_enter Tryz.func105, Tryz.ntmps105
 have HF : Hid (bits BinOp.or IntKind.u64 (U x / 2 ^ n) (IntKind.u64.wrap (U x * 2 ^ (64 - n))) = U (x.rotateRight n)) := by
  show _ = _
  rw [qmU, qj4, Ji, BitVec.or_comm, qoP x n h1]
 go_wp2
 go_quiet (fail)
 go_wp2
 go_ret
 exact ⟨congrArg (fun v => Ending.returned (.int .u64 v)) HF.o, nq, rfl⟩
end
theorem qgZ (x : BitVec 64) (c : UInt8) : x <<< 8 + BitVec.ofNat 64 c.toNat = x <<< 8 ||| BitVec.ofNat 64 c.toNat := by
 apply BitVec.add_eq_or_of_and_eq_zero
 apply BitVec.eq_of_getLsbD_eq
 intro i hi
 rw [BitVec.getLsbD_and, BitVec.getLsbD_shiftLeft, BitVec.getLsbD_ofNat]
 by_cases h8 : i < 8
 · simp [h8]
 ·
  have hc : c.toNat < 2 ^ i := zl c.toNat_lt (Nat.pow_le_pow_right (by omega) (by omega))
  rw [Nat.testBit_lt_two_pow hc]; simp
theorem qtR (x : BitVec 64) (c : UInt8) : IntKind.u64.wrap (IntKind.u64.wrap (256 * U x) + IntKind.u64.wrap (C8 c)) = U (x <<< 8 ||| BitVec.ofNat 64 c.toNat) := by
 rw [Int.mul_comm 256 (U x), qoX, qmj, yh, qgZ]
section
attribute [local go_sem] y7 Ji JU Ye yh Yr
theorem qha (b off cap : Nat) (f : Nat → UInt8) (w : World)
  (hc : ∀ i, i < 8 → w.cell? ⟨b, off + i, none⟩ = some (.int .u8 (C8 (f i)))) :
  Calls Tryz.prog 104 #[.slice (some ⟨b, off, none⟩) 8 cap] w fun e w' => e = .returned (.int .u64 (U (be f 8))) ∧ w' = w := by
 go_enter Tryz.func104, Tryz.ntmps104
 go_wp2
 go_loop [3, 4] (fun v i => ∃ k : Nat, k ≤ 8 ∧ i = .int .i64 k ∧ v = .int .u64 (U (be f k))) (fun _ i => 8 - (intOf i).toNat)
 case atStart => exact ⟨0, Zc _, rfl, rfl⟩
 case round =>
  obtain ⟨k, hk, rfl, rfl⟩ := hrel
  by_cases hlt : k < 8
  ·
   have hcell := hc k hlt
   clear hc
   have HE : Hid (IntKind.u64.wrap (IntKind.u64.wrap (256 * U (be f k)) + IntKind.u64.wrap (C8 (f k))) = U (be f (k + 1))) := qtR _ _
   go_wp2
   go_round
   case rel => exact ⟨k + 1, by omega, by go_num, congrArg (Value.int .u64) HE.o⟩
   case measure => simp [intOf]; omega
  ·
   clear hc
   obtain rfl : k = 8 := by omega
   go_wp2
   go_ret
   exact ⟨rfl, rfl⟩
theorem qeV (w : World) :
  Calls Tryz.prog 102 #[] w fun e w' => ∃ g, e = .returned (.slice (some ⟨g, 0, none⟩) 80 80) ∧ w.heap.size ≤ g ∧ w'.heap[g]? = some (.cells (Y6.map uv).toArray 59) ∧ zB w w' := by
 go_enter Tryz.func102, Tryz.ntmps102
 go_wp2_with fail
 go_ret
 refine ⟨w.heap.size, rfl, zm _, (za w _).trans ?_, (zJ _ _).alloc (zm _) _⟩
 kernel_rfl
end
open Go.RowKit
def JL (n : Nat) : Nat := (239 - n % 128) % 128
theorem qkX (n : Nat) : JL n < 128 := Nat.mod_lt _ (by decide)
theorem qhY (n : Nat) : (n + 1 + JL n) % 128 = 112 := by unfold JL; omega
theorem qmV (n k : Nat) (h : k < JL n) : (n + 1 + k) % 128 ≠ 112 := by unfold JL at h; omega
def Qn (n i : Nat) : UInt8 := if i = 15 then UInt8.ofNat (8 * (n % 32)) else UInt8.ofNat (n / 32 / 256 ^ (14 - i) % 256)
def JN (n j : Nat) : List UInt8 := (List.range 16).map fun i => if 16 - j ≤ i then Qn n i else 0
theorem qag (n j : Nat) : (JN n j).length = 16 := by simp [JN]
theorem qjH (n j : Nat) (h : j < 16) : (JN n j).set (15 - j) (Qn n (15 - j)) = JN n (j + 1) := by
 apply List.ext_getElem?
 intro i
 unfold JN
 rw [List.getElem?_set]
 by_cases hi : 15 - j = i
 ·
  subst hi
  have : 15 - j < 16 := by omega
  simp [this]
  intro hh; omega
 ·
  rw [if_neg hi]
  by_cases h16 : i < 16
  ·
   simp [h16]
   split <;> split <;> first | rfl | omega
  · simp [h16]
def ZA (l : List UInt8) (k : Nat) : List UInt8 := l ++ 128 :: List.replicate k 0
def Qk (l : List UInt8) : List UInt8 := ZA l (JL l.length) ++ JN l.length 16
theorem YJ (l : List UInt8) (k : Nat) : (ZA l k).length = l.length + 1 + k := by simp [ZA]; omega
theorem qmB (l : List UInt8) (k : Nat) : ZA l k ++ [0] = ZA l (k + 1) := by simp [ZA, List.replicate_succ']
def nAt (n j : Nat) : Nat := if j = 0 then n else n / 32 / 256 ^ (j - 1)
def qsv : Value → Nat
 | .slice _ n _ => n
 | _ => 0
theorem qpv : (Tryz.prog.info? 5).map (fun i => (i.zero, i.size, i.bytes)) = some (some (.int .u8 0), 1, 1) := by kernel_rfl
theorem qm8 (w : World) (s : ByteArray) (hs : s.size ≤ 140737488351744) : ∃ cap W1, (convert 9 89 (.string s)).run Tryz.prog w = .ok (.slice (some ⟨w.heap.size, 0, none⟩) s.size cap) W1 ∧
  Hid (q9 W1 w.heap.size 5 (.slice (some ⟨w.heap.size, 0, none⟩) s.size cap) ((jt s).map cv)) ∧ Hid (zB w W1) := by
 refine ⟨_, _, run_bytes_of_string (P := Tryz.prog) w 9 89 5 s (by kernel_rfl) YW (by kernel_rfl), ?_, (zJ _ _).drew.alloc (zm _) _⟩
 have hge := grownCap_ge w s.size 0 5
 have hsz : s.data.size = s.size := rfl
 refine .inr ⟨w.heap.size, _, _, _, by rw [zv, yI], zm _, za w.drew _, .inr (zm _), by rw [zv, yI]; exact hge, grownCap_le_maxLen w s.size 0 _ (by unfold maxLen; omega), ?_, ?_⟩
 · simp only [bytesRow, Array.size_append, Array.size_map, Array.size_replicate]; omega
 ·
  rw [zv, yI]
  simp only [bytesRow, Array.toList_append, Array.toList_map]
  rw [List.take_append_of_le_length (by simp)]
  exact zP (by simp)
theorem qtl {w : World} {g : Nat} {t : TypeId} {l : List UInt8} {fr : Nat × Nat} (h : w.heap[g]? = some (.cells (l.map cv).toArray t fr)) (i : Nat) (hi : i < l.length) : w.cell? ⟨g, i, none⟩ = some (.int .u8 (C8 (l.getD i 0))) := by
 rw [zj w g i _ t fr h]; simp [hi]
theorem qiT {w : World} {q p' j n : Nat} {t : TypeId} (h : w.heap[q]? = some (.cells ((JN n j).map cv).toArray t (0, 0))) (hp : p' + 1 + j = 16) :
  (w.setCell ⟨q, p', none⟩ (cv (Qn n p'))).heap[q]? = some (.cells ((JN n (j + 1)).map cv).toArray t (0, 0)) := by
 have e := Qg h p' (cv (Qn n p'))
 have e2 := qjH n j (by omega)
 rw [show 15 - j = p' by omega] at e2
 rw [← List.map_set, e2] at e
 exact e
def z16 : Array Value := ((JN 0 0).map cv).toArray
theorem qsj (w : World) : (Instr.makeSlice 89 (.int .i64 16) (.int .i64 16)).run Tryz.prog w = .ok (.slice (some ⟨w.heap.size, 0, none⟩) 16 16) (w.alloc (.cells z16 5)) := by kernel_rfl
section
theorem qiW (s : ByteArray) (w : World) (hs : s.size ≤ 140737488351744) :
  Calls Tryz.prog 103 #[.string s] w fun e w' => ∃ g cap, e = .returned (.slice (some ⟨g, 0, none⟩) (Qk (jt s)).length cap) ∧ w.heap.size ≤ g ∧ (Qk (jt s)).length ≤ cap ∧ cap ≤ maxLen ∧ g < w'.heap.size ∧
   (∀ i, i < (Qk (jt s)).length → w'.cell? ⟨g, i, none⟩ = some (.int .u8 (C8 ((Qk (jt s)).getD i 0)))) ∧ zB w w' := by
 obtain ⟨cap0, W1, hcv, hO1, hB1⟩ := qm8 w s hs
 obtain ⟨i0, hi, hz0, hz1, hz2⟩ := info_parts qpv
 have HI := qa hi
 have HZ0 := qa hz0
 have HZ1 := qa hz1
 have HZ2 := qa hz2
 clear hi hz0 hz1 hz2
 obtain ⟨Z, hZ⟩ := zy (JL s.size)
 have hZl : Z < 128 := by rw [hZ]; exact qkX _
 have HZ : Hid (Z = JL s.size) := hZ
 clear hZ
 go_enter Tryz.func103, Tryz.ntmps103
 go_wp2_with (first | (at_builtin; refine qaa _ (by rfl) (.tmp 10) (.tmp 11) 89 (by rfl) w.heap.size 5 i0 (.int .u8 0) 1 YW HI.o HZ0.o HZ1.o HZ2.o rfl _ _ (by rfl) (hO1.o.alloc _) ⟨W1.heap.size, 0, none⟩ 1 1 [.int .u8 128] (by rfl) rfl (cell_one_new _ _ _) (by intro u hu; simp at hu; subst hu; rfl) (by simp [yI, maxLen]; omega) (by simp [yI]; omega) (by have := hB1.o.size; simp; omega) ?_; intro v1 W2 hO2 hG2))
 have hB2 : Hid (zB w W2) := (hB1.o.alloc hB1.o.size _).grown hG2.o (by have := hB1.o.size; simp; omega) (fun k hk => by simp [Value.ownBlock] at hk; omega)
 have hO2' : Hid (q9 W2 w.heap.size 5 v1 ((ZA (jt s) 0).map cv)) := by
  have e := hO2.o
  have e2 : (jt s).map cv ++ [Value.int IntKind.u8 128] = (ZA (jt s) 0).map cv := by simp [ZA, C8]
  rw [e2] at e; exact e
 clear hO1 hB1 hG2 hO2 hcv
 go_loopw [3] (fun v wr => ∃ k n g cap : Nat, k ≤ Z ∧ Hid (n = s.size + 1 + k) ∧ v = .slice (some ⟨g, 0, none⟩) n cap ∧ n ≤ s.size + 129 ∧ Hid (w.heap.size ≤ g ∧ g < wr.heap.size ∧ n ≤ cap ∧ cap ≤ maxLen) ∧ Hid (q9 wr w.heap.size 5 v ((ZA (jt s) k).map cv)) ∧ Hid (zB w wr)) (fun v _ => s.size + 1 + Z - qsv v)
 case atStart =>
  obtain ⟨g, cap, h1, h2, h3, h4, h5, _⟩ := hO2'.o.form (by rw [zv, YJ]; omega)
  have e : ((ZA (jt s) 0).map cv).length = s.size + 1 + 0 := by rw [zv, YJ, yI]
  rw [e] at h1 h4
  exact ⟨0, _, g, cap, Zc _, rfl, h1, by omega, ⟨h2, h3, h4, h5⟩, hO2', hB2⟩
 case round =>
  clear hO2' hB2
  obtain ⟨k, n, g, cap, hk, HN, rfl, hn, HG, hO, hB⟩ := hrel
  have bn : (n : Int) ≤ 140737488351873 := by omega
  have hlen : ((ZA (jt s) k).map cv).length = n := by rw [zv, YJ, yI, HN.o]
  by_cases hlt : k < Z
  ·
   have ht : ((n : Int) % 128 != 112) = true := by
    have := qmV s.size k (by rw [← HZ.o]; exact hlt)
    rw [← HN.o] at this
    rw [bne_iff_ne]; omega
   have HL := qa hlen
   clear hlen
   go_wp2_with (first | (at_builtin; refine qaa _ (by rfl) (.tmp 17) (.tmp 18) 89 (by rfl) w.heap.size 5 i0 (.int .u8 0) 1 YW HI.o HZ0.o HZ1.o HZ2.o rfl _ _ (by rfl) (hO.o.alloc _) ⟨wr.heap.size, 0, none⟩ 1 1 [.int .u8 0] (by rfl) rfl (cell_one_new _ _ _) (by intro u hu; simp at hu; subst hu; rfl) (by rw [HL.o]; unfold maxLen; omega) (by rw [HL.o]; omega) (by have := hB.o.size; simp; omega) ?_; intro v1 W2 hO2 hG2))
   have hB2 : Hid (zB w W2) := (hB.o.alloc hB.o.size _).grown hG2.o (by have := hB.o.size; simp; omega) (fun k hk => by simp [Value.ownBlock] at hk; have := HG.o.1; omega)
   have hO2' : Hid (q9 W2 w.heap.size 5 v1 ((ZA (jt s) (k + 1)).map cv)) := by
    have e := hO2.o
    have e2 : (ZA (jt s) k).map cv ++ [Value.int IntKind.u8 0] = (ZA (jt s) (k + 1)).map cv := by rw [← qmB, List.map_append]; rfl
    rw [e2] at e; exact e
   obtain ⟨g', cap', h1, h2, h3, h4, h5, _⟩ := hO2'.o.form (by rw [zv, YJ]; omega)
   have e : ((ZA (jt s) (k + 1)).map cv).length = s.size + 1 + (k + 1) := by rw [zv, YJ, yI]
   rw [e] at h1 h4
   have HV := qa h1
   have HGG := qa (⟨h2, h3, h4, h5⟩ : w.heap.size ≤ g' ∧ g' < W2.heap.size ∧ s.size + 1 + (k + 1) ≤ cap' ∧ cap' ≤ maxLen)
   clear h1 h2 h3 h4 h5 e hO hB hO2 hG2
   go_wp2
   go_roundw
   case rel => exact ⟨k + 1, _, g', cap', by omega, rfl, HV.o, by omega, HGG, hO2', hB2⟩
   case measure => have := HN.o; rw [HV.o]; simp only [qsv]; omega
  ·
   have hkZ : k = Z := by omega
   have ht : ((n : Int) % 128 != 112) = false := by
    have := qhY s.size
    rw [← HZ.o, ← hkZ, ← HN.o] at this
    rw [bne_eq_false_iff_eq]; omega
   have hmk := qsj
   have hO' : Hid (q9 wr w.heap.size 5 (.slice (some ⟨g, 0, none⟩) n cap) ((ZA (jt s) Z).map cv)) := by rw [← hkZ]; exact hO
   have HNZ : Hid (n = s.size + 1 + Z) := by rw [← hkZ]; exact HN
   clear hlt hkZ hO hlen hk HN
   go_wp2_with fail
   clear ht hmk
   obtain ⟨q, hq⟩ := zy wr.heap.size
   rw [← hq]
   have HQ : Hid (w.heap.size ≤ q ∧ g < q) := by rw [hq]; exact ⟨hB.o.size, HG.o.2.1⟩
   go_loopw [4, 6] (fun nv i wr => ∃ (j p N : Nat) (jV : Int), i = .int .i64 jV ∧ nv = .int .i64 N ∧ N ≤ 140737488351744 ∧ Hid (jV = (p : Int) - 1) ∧ Hid (p + j = 16) ∧ Hid (N = nAt s.size j) ∧ Hid (qi wr q (((JN s.size j).map cv).toArray) 5) ∧
     Hid (q9 wr w.heap.size 5 (.slice (some ⟨g, 0, none⟩) n cap) ((ZA (jt s) Z).map cv)) ∧ Hid (zB w wr)) (fun _ i _ => (intOf i + 1).toNat)
   case atStart => exact ⟨0, 16, s.size, 15, rfl, rfl, hs, rfl, rfl, rfl, by rw [hq]; exact za wr _, hO'.o.alloc _, hB.o.alloc hB.o.size _⟩
   case round =>
    clear hO' hB hq
    obtain ⟨j, p, N, jV, rfl, rfl, hNb, HIV, HPJ, HNA, hr, hO, hB⟩ := hrel
    by_cases hp : 0 < p
    ·
     obtain ⟨p', rfl⟩ : ∃ p', p = p' + 1 := ⟨p - 1, by omega⟩
     obtain rfl : jV = (p' : Int) := by rw [HIV.o]; omega
     have hpj := HPJ.o
     have bp : (p' : Int) < 16 := by omega
     have hcell := qtl hr.o p' (by rw [qag]; omega)
     have hfz := frozen_of_row wr q p' _ _ hr.o
     generalize C8 ((JN s.size j).getD p' 0) = old at hcell
     by_cases h15 : p' = 15
     ·
      have hq15 : ((p' : Int) == 15) = true := by rw [h15]; rfl
      have H15 := qa h15
      clear hpj h15
      have HE : Hid (8 * ((N : Int) % 32) = C8 (Qn s.size p')) := by
       have hj : j = 0 := by have := HPJ.o; have := H15.o; omega
       show _ = _
       rw [HNA.o, hj, H15.o, nAt, if_pos rfl, Qn, if_pos rfl]
       unfold C8; rw [UInt8.toNat_ofNat']; omega
      go_wp2
      go_roundw
      case rel =>
       have hj : j = 0 := by have := HPJ.o; have := H15.o; omega
       refine ⟨j + 1, p', N / 32, (p' : Int) - 1, rfl, by go_num, by omega, rfl, by show p' + (j + 1) = 16; have := HPJ.o; omega, ?_, ?_, ?_, hB.o.setCell (by exact HQ.o.1) _⟩
       · show N / 32 = nAt s.size (j + 1); rw [HNA.o, hj]; simp [nAt]
       · rw [HE.o]; exact qiT hr.o HPJ.o
       · exact hO.o.kept fun k hk => by simp [Value.ownBlock] at hk; subst hk; exact Below.heap_setCell _ _ _ _ (by have := HQ.o.2; show _ ≠ q; omega)
      case measure => simp [intOf]
     ·
      have hq15 : ((p' : Int) == 15) = false := by rw [beq_eq_false_iff_ne]; omega
      have H15 := qa h15
      clear hpj h15
      have HE : Hid ((N : Int) % 256 = C8 (Qn s.size p')) := by
       have hj : 1 ≤ j := by have := HPJ.o; have := H15.o; omega
       have e1 : j - 1 = 14 - p' := by have := HPJ.o; omega
       show _ = _
       rw [HNA.o, nAt, if_neg (by omega), Qn, if_neg H15.o, e1]
       unfold C8; rw [UInt8.toNat_ofNat']; omega
      go_wp2
      go_roundw
      case rel =>
       have hj : 1 ≤ j := by have := HPJ.o; have := H15.o; omega
       refine ⟨j + 1, p', N / 256, (p' : Int) - 1, rfl, by go_num, by omega, rfl, by show p' + (j + 1) = 16; have := HPJ.o; omega, ?_, ?_, ?_, hB.o.setCell (by exact HQ.o.1) _⟩
       ·
        show N / 256 = nAt s.size (j + 1)
        obtain ⟨j', rfl⟩ : ∃ j', j = j' + 1 := ⟨j - 1, by omega⟩
        rw [HNA.o]; simp only [nAt, Nat.add_sub_cancel]; rw [if_neg (by omega), if_neg (by omega), Zk, Nat.div_div_eq_div_mul _ (256 ^ j')]
       · rw [HE.o]; exact qiT hr.o HPJ.o
       · exact hO.o.kept fun k hk => by simp [Value.ownBlock] at hk; subst hk; exact Below.heap_setCell _ _ _ _ (by have := HQ.o.2; show _ ≠ q; omega)
      case measure => simp [intOf]
    ·
     have hp0 : p = 0 := by omega
     have hj : j = 16 := by have := HPJ.o; omega
     have hiv : jV < 0 := by rw [HIV.o]; omega
     have hr' : Hid (qi wr q (((JN s.size 16).map cv).toArray) 5) := by rw [← hj]; exact hr
     have HL : Hid (((ZA (jt s) Z).map cv).length = n) := by show _ = _; rw [zv, YJ, yI, HNZ.o]
     clear hr hp hp0 hj
     go_wp2_with (first | (at_builtin; refine qaa _ (by rfl) (.tmp 44) (.tmp 45) 89 (by rfl) w.heap.size 5 i0 (.int .u8 0) 1 YW HI.o HZ0.o HZ1.o HZ2.o rfl _ _ (by rfl) hO.o ⟨q, 0, none⟩ 16 16 ((JN s.size 16).map cv) (by rfl) (by rw [zv, qag]) (by have e := World.news_of_block hr'.o; simpa using e) (by intro u hu; obtain ⟨x, _, rfl⟩ := List.mem_map.1 hu; rfl) (by rw [HL.o]; unfold maxLen; omega) (by rw [HL.o]; omega) hB.o.size ?_; intro v1 W2 hO2 hG2))
     have hB2 : Hid (zB w W2) := hB.o.grown hG2.o hB.o.size (fun k hk => by simp [Value.ownBlock] at hk; have := HG.o.1; omega)
     have hO2' : q9 W2 w.heap.size 5 v1 ((Qk (jt s)).map cv) := by
      have e := hO2.o
      rw [← List.map_append] at e
      unfold Qk; rw [yI, ← HZ.o]; exact e
     have hpl : ((Qk (jt s)).map cv).length = (Qk (jt s)).length := zv ..
     obtain ⟨g', cap', h1, h2, h3, h4, h5, h6⟩ := hO2'.form (by rw [hpl]; unfold Qk; rw [Ze, YJ]; omega)
     rw [hpl] at h1 h4 h6
     subst h1
     have H2 := qa h2
     have H3 := qa h3
     have H4 := qa h4
     have H5 := qa h5
     have H6 := qa h6
     clear h2 h3 h4 h5 h6 hO2' hpl hO2 hG2
     generalize hLN : (Qk (jt s)).length = LN at *
     go_wp2_with fail
     go_ret
     refine ⟨g', cap', rfl, H2.o, H4.o, H5.o, H3.o, fun i hi => ?_, hB2.o⟩
     rw [H6.o i hi]
     have : i < (Qk (jt s)).length := by rw [hLN]; exact hi
     simp [this]
end
theorem qlh (x y z : BitVec 64) : x &&& y ||| ~~~x &&& z = YM x y z := by
 unfold YM
 apply BitVec.eq_of_getLsbD_eq
 intro i hi
 simp only [BitVec.getLsbD_or, BitVec.getLsbD_and, BitVec.getLsbD_not, BitVec.getLsbD_xor, hi, decide_true, Bool.true_and]
 cases x.getLsbD i <;> cases y.getLsbD i <;> cases z.getLsbD i <;> rfl
theorem qgC (x y z : BitVec 64) : x &&& y ||| x &&& z ||| y &&& z = qaO x y z := by
 unfold qaO
 apply BitVec.eq_of_getLsbD_eq
 intro i hi
 simp only [BitVec.getLsbD_or, BitVec.getLsbD_and, BitVec.getLsbD_xor]
 cases x.getLsbD i <;> cases y.getLsbD i <;> cases z.getLsbD i <;> rfl
theorem qoz (l : List (BitVec 64)) (n : Nat) :
  qam (l.getD (n + 1) 0) + qal (l.getD (n + 14) 0) + l.getD n 0 + l.getD (n + 9) 0 = YQ l n := by
 unfold YQ; ac_rfl
theorem qnu (kk ww : BitVec 64) (s : S8) :
  (⟨(s.h + YM s.e s.f s.g + kk + ww + qau s.e) + (qaO s.a s.b s.c + qcA s.a), s.a, s.b, s.c,
   s.d + (s.h + YM s.e s.f s.g + kk + ww + qau s.e), s.e, s.f, s.g⟩ : S8) = qjn kk ww s := by
 unfold qjn
 have e : s.h + YM s.e s.f s.g + kk + ww + qau s.e = s.h + qau s.e + YM s.e s.f s.g + kk + ww := by ac_rfl
 rw [e, BitVec.add_comm (qaO s.a s.b s.c)]
def chunk (p : List UInt8) (k : Nat) : List UInt8 := (p.drop (128 * k)).take 128
noncomputable def ZT (p : List UInt8) (s : S8) : Nat → S8
 | 0 => s
 | k + 1 => yD (ZT p s k) (chunk p k)
theorem qbn (p : List UInt8) (s : S8) (k : Nat) : ZT p s (k + 1) = (ZT p s k).add (QH (je (chunk p k) 64) (ZT p s k) 80) := by
 rw [← qiy, ← qiI]; rfl
theorem qhf (l : List UInt8) : ∃ m, (Qk l).length = 128 * (m + 1) ∧ (Qk l).length ≤ l.length + 145 := by
 have e : (Qk l).length = l.length + 1 + JL l.length + 16 := by unfold Qk; rw [Ze, YJ, qag]
 have h1 := qhY l.length
 have h2 := qkX l.length
 rw [e]
 exact ⟨(l.length + 1 + JL l.length + 16) / 128 - 1, by omega, by omega⟩
theorem kQ (p : List UInt8) (k i : Nat) (h : i < 128) : (chunk p k).getD i 0 = p.getD (128 * k + i) 0 := by
 unfold chunk
 simp only [Za, Zq, h, if_pos, Zr]
theorem qlv (p : List UInt8) (k t : Nat) (ht : t < 16) : kG (chunk p k) t = be (fun i => p.getD (128 * k + 8 * t + i) 0) 8 := by
 unfold kG
 simp only [be]
 rw [kQ _ _ _ (by omega), kQ _ _ _ (by omega), kQ _ _ _ (by omega), kQ _ _ _ (by omega), kQ _ _ _ (by omega), kQ _ _ _ (by omega), kQ _ _ _ (by omega), kQ _ _ _ (by omega)]
 simp only [Nat.add_assoc]
theorem qhG {w : World} {g : Nat} {t : TypeId} {l : List (BitVec 64)} {fr : Nat × Nat} (h : w.heap[g]? = some (.cells (l.map uv).toArray t fr)) (i : Nat) (hi : i < l.length) : w.cell? ⟨g, i, none⟩ = some (.int .u64 (U (l.getD i 0))) := by
 rw [zj w g i _ t fr h]; simp [hi]
section
variable {P : Program} (w : World)
theorem qcM {ops : Array Oper} {o : Oper} {a : Act} {K : Act → World → Prop} {Q : Exit → Act → World → Prop} {E : Prop} (hgd : o.guard = none) (s x : Operand) (t : TypeId)
  (ho : o.op = .call { callee := .builtin .append, args := #[s, x], argTypes := #[t, t] })
  (B : Nat) (e : TypeId) (i : TypeInfo) (z : Value) (bytes : Nat) (ht : P.underlying t = some (.slice e)) (hi : P.info? e = some i) (hz : i.zero = some z)
  (hsize : i.size = 1) (hby : i.bytes = bytes) (hzs : z.cells.size = 1)
  (v : Value) (xs : List Value) (hs : a.eval s = v) (hown : q9 w B e v xs)
  (ad : Addr) (m c : Nat) (news : List Value) (hx : a.eval x = .slice (some ad) m c) (hl : news.length = m) (hnews : ∀ j u, news[j]? = some u → w.cell? (ad.add j) = some u) (h1 : ∀ u ∈ news, u.oneCell' = true)
  (h63 : xs.length + m ≤ maxLen) (hbytes : (xs.length + m) * bytes ≤ 140737488355328) (hbase : B ≤ w.heap.size)
  (h : ∀ v' w', Hid (q9 w' B e v' (xs ++ news)) → Hid (w.grownBy w' v.ownBlock) → Hid (∀ g j, v.ownBlock = some g → j < xs.length → w'.cell? ⟨g, j, none⟩ = w.cell? ⟨g, j, none⟩) → K (a.put o.dst v') w') :
  if Region.wanted o (yielded ops a.tmps) = true then Oper.wp P o a w K Q else E := by
 have hw : Region.wanted o (yielded ops a.tmps) = true := by simp [Region.wanted, hgd]
 rw [if_pos hw]
 obtain ⟨v', w', hr, h2, h3, h4⟩ := qbA (P := P) w B t o.type e i z bytes ht hi hz hsize hby hzs v xs hown ad m c news hl hnews h1 h63 hbytes hbase
 unfold Oper.wp execOp
 simp only [ho, resolve, invoke, builtin, Sem.run_bind, Sem.run_pure, Result.andThen_ok, List.map_toArray, List.map_cons, List.map_nil, hs, hx, hr]
 exact h v' w' h2 h3 h4
end
theorem qaK (x : BitVec 64) (k : Int) (h0 : 0 < k) (h1 : k < 64) (w : World) :
  Calls Tryz.prog 105 #[.int .u64 (U x), .int .i64 k] w fun e w' => e = .returned (.int .u64 (U (x.rotateRight k.toNat))) ∧ ∃ q, w' = w.drewN q :=
 qgp x k k.toNat (by omega) (by omega) (by omega) w
theorem qq4 : (Tryz.prog.info? 59).map (fun i => (i.zero, i.size, i.bytes)) = some (some (.int .u64 0), 1, 8) := by kernel_rfl
theorem qdn : Tryz.prog.underlying 196 = some (.slice 59) := by kernel_rfl
theorem qb0 {w : World} {g : Nat} {l : List (BitVec 64)} (h : ∀ i, i < (l.map uv).length → w.cell? ⟨g, i, none⟩ = (l.map uv)[i]?) (i : Nat) (hi : i < l.length) : w.cell? ⟨g, i, none⟩ = some (.int .u64 (U (l.getD i 0))) := by
 rw [h i (by simpa using hi)]; simp [hi]
structure Rd (w : World) (gv gc gw n : Nat) (T : S8) (kk ww : BitVec 64) : Prop where
 a : w.cell? ⟨gv, 0, none⟩ = some (.int .u64 (U T.a))
 b : w.cell? ⟨gv, 1, none⟩ = some (.int .u64 (U T.b))
 c : w.cell? ⟨gv, 2, none⟩ = some (.int .u64 (U T.c))
 d : w.cell? ⟨gv, 3, none⟩ = some (.int .u64 (U T.d))
 e : w.cell? ⟨gv, 4, none⟩ = some (.int .u64 (U T.e))
 f : w.cell? ⟨gv, 5, none⟩ = some (.int .u64 (U T.f))
 g : w.cell? ⟨gv, 6, none⟩ = some (.int .u64 (U T.g))
 h : w.cell? ⟨gv, 7, none⟩ = some (.int .u64 (U T.h))
 k : w.cell? ⟨gc, n, none⟩ = some (.int .u64 (U kk))
 w : w.cell? ⟨gw, n, none⟩ = some (.int .u64 (U ww))
theorem Rd.drewN {w : World} {gv gc gw n : Nat} {T : S8} {kk ww : BitVec 64} (h : Rd w gv gc gw n T kk ww) (q : Nat) : Rd (w.drewN q) gv gc gw n T kk ww := ⟨h.a, h.b, h.c, h.d, h.e, h.f, h.g, h.h, h.k, h.w⟩
theorem qoN (ws : List (BitVec 64)) : ∀ j, j < 8 * ws.length → (ws.flatMap jL).getD j 0 = ZD (ws.getD (j / 8) 0) (j % 8) := by
 induction ws with
 | nil => intro j hj; simp at hj
 | cons x l ih =>
  intro j hj
  simp only [List.flatMap_cons, Za]
  by_cases h : j < 8
  ·
   rw [z5 (by exact h)]
   have h0 : j / 8 = 0 := by omega
   have h1 : j % 8 = j := by omega
   rw [h0, h1]
   have hc : j = 0 ∨ j = 1 ∨ j = 2 ∨ j = 3 ∨ j = 4 ∨ j = 5 ∨ j = 6 ∨ j = 7 := by omega
   rcases hc with rfl | rfl | rfl | rfl | rfl | rfl | rfl | rfl <;> rfl
  ·
   rw [zY (by show 8 ≤ j; omega)]
   have e := ih (j - 8) (by simp at hj; omega)
   simp only [Za] at e
   have e1 : j / 8 = (j - 8) / 8 + 1 := by omega
   have e2 : j % 8 = (j - 8) % 8 := by omega
   rw [e1, e2, List.getElem?_cons_succ]
   exact e
theorem qlQ {w : World} {B : Nat} {e : TypeId} {v : Value} {xs : List Value} (h : q9 w B e v xs) {q : Nat} (hq : v.ownBlock = some q) : B ≤ q := by
 rcases h with ⟨rfl, _⟩ | ⟨g, cap, cur, fr, rfl, h1, _⟩
 · cases hq
 · simp [Value.ownBlock] at hq; omega
def ko : Code → List Code
 | .loop c => c :: ko c
 | .seq a b => ko a ++ ko b
 | .block _ c => ko c
 | .scope c => ko c
 | .cond _ a b => ko a ++ ko b
 | _ => []
noncomputable def qkI (n : Nat) : Code := (ko (Tryz.f61.body.getD .skip)).getD n .skip
end Go.Proofs.YtccgfabojbjmjaaGreatDoor
