import Derived.Test.YtccgfabojbjmjaaGreatDoorLo42
set_option maxRecDepth 100000
set_option maxHeartbeats 8000000
namespace Go.Proofs.YtccgfabojbjmjaaGreatDoor
open Go.RowKit
open Go.RowKit
abbrev yaH : Oper := ⟨some 40, .call ⟨.value (.func 134), #[.tmp 31, .tmp 39], #[170, 62]⟩, 154, "loader.go:81", #[ql 0, ql 8], none⟩
abbrev qkm : Oper := ⟨some 30, .move (.tmp 40), 154, "loader.go:81", #[ql 9], none⟩
abbrev qkH : Oper := ⟨some 41, .extract (.tmp 30) 0, 153, "loader.go:81", #[ql 10], none⟩
abbrev qlV : Oper := ⟨some 42, .extract (.tmp 30) 1, 66, "loader.go:81", #[ql 10, ⟨14, .gcOnly .lateStores⟩], none⟩
abbrev qla : Oper := ⟨some 6, .alloc 153, 0, "loader.go:81", #[], none⟩
abbrev qk2 : Oper := ⟨none, .store 153 (.tmp 6) (.tmp 41), 0, "loader.go:81", #[ql 13, ql 11, qT 9, qj 0, qj 1, qj 2, qj 3, qj 4, qj 5, qj 6, qj 7, qj 8, qj 9, qj 10, qj 11, ⟨12, .textOnly .lateStores⟩, qj 13], none⟩
abbrev qlR : Oper := ⟨some 7, .assign (.tmp 42), 66, "loader.go:81", #[ql 12, qT 14, qj 0, qj 1, qj 2, qj 3, qj 4, qj 5, qj 6, qj 7, qj 8, qj 9, qj 10, qj 11, qj 12, qj 13, qj 14], none⟩
structure ZF (w : World) (k p s g : Addr) : Prop where
 gl : Qq w
 tab : j9 w
 ord : QT w
 sen : qgz w k p s g
theorem ZF.below {w w' : World} {k p s g : Addr} (h : ZF w k p s g) (hb : zB w w') : ZF w' k p s g := ⟨h.gl.keep hb, h.tab.below hb h.tab.lt, h.ord.below hb h.ord.lt, h.sen.below hb⟩
theorem jG.below {b r B : Nat} {w w' : World} (h : jG b r w w') (hb : B ≤ b) (hr : B ≤ r) (hs : B ≤ w.heap.size) : Below B w w' := ⟨h.os, h.tape, h.output, h.size, fun k hk => h.block k (by omega) (by omega) (by omega)⟩
def jy (g : Nat) (T : TypeId) (kv : Value) (ks : List Nat) (v : Int) (b r : Nat) (w w' : World) : Prop := jG b r w w' ∧ ∃ l c, Ld w' g T kv ks v b r l c
theorem jy.trans {g : Nat} {T : TypeId} {kv : Value} {ks : List Nat} {v : Int} {b r : Nat} {u w w' : World} (h : jy g T kv ks v b r u w) (h' : jy g T kv ks v b r w w') : jy g T kv ks v b r u w' := ⟨h.1.trans h'.1, h'.2⟩
theorem Ld.below {w w' : World} {g : Nat} {T : TypeId} {kv : Value} {ks : List Nat} {v : Int} {b r : Nat} {l : List (Nat × Nat)} {c : Nat} (h : Ld w g T kv ks v b r l c) (hB : zB w w') : Ld w' g T kv ks v b r l c :=
 h.step (jG.ofB hB) (h.base.keep (hB.block b h.base.lt)) ((hB.block r (qh h.map)).trans h.map) h.ent
theorem jy.below {g : Nat} {T : TypeId} {kv : Value} {ks : List Nat} {v : Int} {b r : Nat} {u w w' : World} (h : jy g T kv ks v b r u w) (hB : zB w w') : jy g T kv ks v b r u w' := by
 obtain ⟨h1, l, c, h2⟩ := h
 exact ⟨h1.trans (jG.ofB hB), l, c, h2.below hB⟩
theorem jy.of {g : Nat} {T : TypeId} {kv : Value} {ks : List Nat} {v : Int} {b r : Nat} {w w' : World} {l : List (Nat × Nat)} {c : Nat} (h : Ld w g T kv ks v b r l c) (hB : zB w w') : jy g T kv ks v b r w w' := ⟨jG.ofB hB, l, c, h.below hB⟩
theorem jy.set {g : Nat} {T : TypeId} {kv : Value} {ks : List Nat} {v : Int} {b r : Nat} {w w' : World} {l : List (Nat × Nat)} {c : Nat} (h0 : Ld w g T kv ks v b r l c) (h : jy g T kv ks v b r w w') {q : Nat} (hq : w.heap.size ≤ q) (cs : Array Value) : jy g T kv ks v b r w (w'.setRow q cs) := by
 obtain ⟨h1, l', c', h2⟩ := h
 have lb := h0.base.lt
 have lr := qh h0.map
 have hx := h1.setRow hq cs
 exact ⟨hx, l', c', h0.step hx (h2.base.keep (zc _ _ _ _ (by omega))) ((zc _ _ _ _ (by omega)).trans h2.map) h2.ent⟩
def slT : ByteArray := ⟨#[116, 104, 101, 32, 115, 108, 111, 116]⟩
def vrT : ByteArray := ⟨#[116, 104, 101, 32, 118, 101, 114, 115, 105, 111, 110]⟩
noncomputable def JQ (p s g : Addr) (ks : List Nat) (v : Int) (t : ByteArray) : Value :=
 if (ks.length : Int) ≤ j8 t then qQ slT (jS 9) else if (QV t : Int) < v then qQ vrT (jS 10)
 else if jD (bytesOf (ZE t)) = Jc t then (if jg (ks.getD (j8 t).toNat 0) = true then yB s g (ks.getD (j8 t).toNat 0) (yc t) (Jz t) else qQ Ym (qU p)) else qQ dgT (jS 11)
theorem qdz {a : Act} {o : Oper} (x : Operand) (ho : o.op = .load 3 x) (ad : Addr) (hx : a.eval x = .pointer (some ad)) (v : Value) (w : World) (h : w.cell? ad = some v) :
  (execOp a.eval o).run Tryz.prog w = .ok (.value v) w := by
 unfold execOp
 simp only [ho, hx]
 go_simp
theorem qdp {a : Act} {o : Oper} (x : Operand) (ho : o.op = .load 39 x) (ad : Addr) (hx : a.eval x = .pointer (some ad)) (v : Value) (w : World) (h : w.cell? ad = some v) :
  (execOp a.eval o).run Tryz.prog w = .ok (.value v) w := by
 unfold execOp
 simp only [ho, hx]
 go_simp
theorem qch {a : Act} {o : Oper} (x : Operand) (ho : o.op = .load 116 x) (ad : Addr) (hx : a.eval x = .pointer (some ad)) (v : Value) (w : World) (h : w.cell? ad = some v) :
  (execOp a.eval o).run Tryz.prog w = .ok (.value v) w := by
 unfold execOp
 simp only [ho, hx]
 go_simp
theorem qel {a : Act} {o : Oper} (x y : Operand) (ho : o.op = .call { callee := .value (.func 134), args := #[x, y], argTypes := #[170, 62] }) (v1 v2 : Value) (hx : a.eval x = v1) (hy : a.eval y = v2) (w : World) :
  (execOp a.eval o).run Tryz.prog w = .ok (.enter 134 #[v1, v2]) w := by
 unfold execOp
 simp only [ho]
 subst hx hy
 go_simp
theorem qjc : Tryz.prog.underlying 116 = some (.slice 62) := by kernel_rfl
theorem qow (q n i cap : Nat) (hi : i < n) (w : World) : (Instr.indexAt 116 (.slice (some ⟨q, 0, none⟩) n cap) (.int .i64 i)).run Tryz.prog w = .ok (.pointer (some ⟨q, 32 * i, none⟩)) w := by
 cases hq : Tryz.prog.info? 62 with
 | none => have := kU; rw [hq] at this; cases this
 | some inf =>
  have hs : inf.size = 32 := by have := kU; rw [hq] at this; simpa using this
  simp [Instr.indexAt, asIntOf, run_underlying qjc, sizeOf, typeInfo, hq, hs, Addr.add_mid, Zl]
  intro h; omega
theorem qvz (g : Nat) (T : TypeId) (kv : Value) (ks : List Nat) (v : Int) (b r m : Nat) (hm : m < ZL) (k p s gA : Addr) (Y : Array Value) (E : Value) (hY : Y = ZV b m) (hE : E = ye p m) (w0 w : World) (hx : ∃ l c, Ld w g T kv ks v b r l c) (hV : ZF w0 k p s gA) (h0 : zB w0 w) (hb : w0.heap.size ≤ b) (hr : w0.heap.size ≤ r) :
  Calls Tryz.prog 134 #[zp g 0, .agg (bA m)] w fun e w' => e = .returned (.tuple #[.agg Y, E]) ∧ jy g T kv ks v b r w w' := by
 obtain ⟨l, c, hL⟩ := hx
 have h7 := hV.gl.seven
 rw [hY, hE]
 refine (qjq g T kv ks v b r m c l hm p w hL (hV.gl.keep h0) (by omega) (by omega) (hV.below h0).sen.fp (by have := qhy hV.sen.fp; omega)).mono ?_
 rintro e w' ⟨rfl, h1, h2⟩
 exact ⟨rfl, h1, h2⟩
theorem qvL (v k : Int) (p sg : ByteArray) (S D : List UInt8) (I : Array Value) (hI : I = Qi v k p sg S D) (hS : S.length = 64) (hD : D.length = 64) (hp : p.size ≤ maxLen) (w : World) (hK : j9 w) :
  zC 133 #[.agg I] w (ckE p D) := by rw [hI]; exact qdd v k p sg S D hS hD hp w hK
theorem qsI {w : World} {g : Nat} {v k : Int} {p sg : ByteArray} {S D : List UInt8} {T : TypeId} {fr : Nat × Nat} (h : w.heap[g]? = some (.cells (Qi v k p sg S D) T fr)) : w.rangeAt g 4 (S.map cv) := by
 intro j v hv
 have l : j < (S.map cv).length := by
  rcases Nat.lt_or_ge j (S.map cv).length with c | c
  · exact c
  · rw [List.getElem?_eq_none c] at hv; cases hv
 rw [zj w g (4 + j) _ T _ h, Qi, zV, Js, show 4 + j = j + 1 + 1 + 1 + 1 by omega, List.getElem?_cons_succ, List.getElem?_cons_succ, List.getElem?_cons_succ, List.getElem?_cons_succ, z5 l]
 exact hv
section
attribute [local irreducible] qb nL pA qP jb pL bA bL qX Qh jg jx jh Jq JC QG ZM Qi Js
theorem qgr (g : Nat) (T : TypeId) (kv : Value) (ks : List Nat) (v : Int) (b r clock : Nat) (l : List (Nat × Nat)) (t : ByteArray) (ht : 192 ≤ t.size) (hm : t.size ≤ maxLen) (k p s gA : Addr) (w0 w : World) (hL : Ld w g T kv ks v b r l clock)
  (hE : ZF w0 k p s gA) (h0 : zB w0 w) (hb : w0.heap.size ≤ b) (hr : w0.heap.size ≤ r) (IR : Array Value) (hIR : IR = Yo t) :
  Calls Tryz.prog 85 #[zp g 0, .agg IR] w fun e w' => e = .returned (JQ p s gA ks v t) ∧ jy g T kv ks v b r w w' := by
 have hz := qdq
 have h7 := hE.gl.seven
 have Hm := qa hm
 have Ht := qa ht
 have HE := qa hE
 have H0 := qa h0
 obtain ⟨n, En⟩ := zx (α := Nat) (QV t)
 obtain ⟨i, Ei⟩ : ∃ i : Nat, Hid ((i : Int) = j8 t) := ⟨(j8 t).toNat, qa (Int.toNat_of_nonneg (qh0 t))⟩
 obtain ⟨P, EP⟩ := zx (ZE t)
 obtain ⟨G, EG⟩ := zx (yc t)
 obtain ⟨S, ES⟩ := zx (Jz t)
 obtain ⟨D, ED⟩ := zx (Jc t)
 have EI : Hid (IR = Qi n i P G S D) := by show _ = _; rw [hIR, En.o, Ei.o, EP.o, EG.o, ES.o, ED.o]; rfl
 have lS : Hid (S.length = 64) := by show _ = _; rw [ES.o]; unfold Jz; rw [jY, QS _ _ _ (by omega)]
 have lD : Hid (D.length = 64) := by show _ = _; rw [ED.o]; unfold Jc; rw [jY, QS _ _ _ (by omega)]
 have lP : Hid (P.size ≤ maxLen) := by show _ ≤ _; rw [EP.o]; unfold ZE; rw [QS _ _ _ (by omega)]; omega
 have lG : Hid (G.size ≤ maxLen) := by show _ ≤ _; rw [EG.o]; unfold yc; rw [QS _ _ _ (by omega)]; unfold maxLen; omega
 have HIs : Hid (IR.size = 132) := by show _ = _; rw [EI.o]; exact qbZ _ _ _ _ _ _ lS.o lD.o
 have EC : Hid (JQ p s gA ks v t = if (ks.length : Int) ≤ i then qQ slT (jS 9) else if (n : Int) < v then qQ vrT (jS 10)
   else if jD (bytesOf P) = D then (if jg (ks.getD i 0) = true then yB s gA (ks.getD i 0) G S else qQ Ym (qU p)) else qQ dgT (jS 11)) := by
  show _ = _
  unfold JQ
  rw [← Ei.o, ← En.o, ← EP.o, ← EG.o, ← ES.o, ← ED.o]
  rfl
 obtain ⟨pt, cap, hkv⟩ : ∃ pt cap, kv = .slice pt ks.length cap := by
  rcases hL.keys with ⟨rfl, rfl⟩ | ⟨q, cap, rfl, _⟩
  · exact ⟨_, _, rfl⟩
  · exact ⟨_, _, rfl⟩
 subst hkv
 have HL := qa hL
 have lg := qh hL.row
 have lr := qh hL.map
 have lb := hL.base.lt
 have gb := hL.gb
 have gr := hL.gr
 clear hL hE h0 hm ht hIR
 go_enter Tryz.func85, Tryz.ntmps85
 go_upto_region 1 with fail
 obtain ⟨W0, hW0⟩ := zy (w.alloc (.cells IR 114))
 have RI : Hid (qi W0 w.heap.size IR 114) := by rw [hW0]; exact za _ _
 have B0 : Hid (zB w W0) := by rw [hW0]; exact (zJ _ _).alloc (zm _) _
 rw [← hW0]
 clear hW0
 have L0 := qa (HL.o.below B0.o)
 have C0 : Hid (W0.cell? ⟨g, 0, none⟩ = some (.slice pt ks.length cap)) := by show _ = _; rw [zj W0 g 0 _ T _ L0.o.row, ZM]; rfl
 have C1 : Hid (W0.cell? ⟨g, 1, none⟩ = some (.int .u32 v)) := by show _ = _; rw [zj W0 g 1 _ T _ L0.o.row, ZM]; rfl
 have CI0 : Hid (W0.cell? ⟨w.heap.size, 0, none⟩ = some (.int .u32 n)) := by show _ = _; rw [zj W0 _ 0 _ _ _ RI.o, EI.o, Qi, Js]; rfl
 have CI1 : Hid (W0.cell? ⟨w.heap.size, 1, none⟩ = some (.int .i64 i)) := by show _ = _; rw [zj W0 _ 1 _ _ _ RI.o, EI.o, Qi, Js]; rfl
 have CI3 : Hid (W0.cell? ⟨w.heap.size, 3, none⟩ = some (.string G)) := by show _ = _; rw [zj W0 _ 3 _ _ _ RI.o, EI.o, Qi, Js]; rfl
 obtain ⟨B, EB⟩ : ∃ B, Hid (decide ((ks.length : Int) ≤ (i : Int)) = B) := ⟨_, qa rfl⟩
 refine zM (S := fun w' => w'.cell? ⟨w.heap.size, 1, none⟩ = some (.int .i64 i) ∧ w'.cell? ⟨g, 0, none⟩ = some (.slice pt ks.length cap)) (by kernel_rfl) ⟨CI1.o, C0.o⟩ (fun hHeld => ?_)
 refine zU 0 ⟨some 8, .fieldAddr 114 (.tmp 3) 1, 0, "loader.go:72", #[], none⟩ (zp w.heap.size 1) ?_
 simp only [qd]
 refine zT 1 ⟨some 9, .load 3 (.tmp 8), 3, "loader.go:72", #[ql 0], none⟩ (.int .i64 i) (Or.inl ⟨by rfl, fun v h => qdz _ rfl _ rfl _ v h.1⟩) ?_
 simp only [qd]
 refine zU 2 ⟨some 10, .move (.tmp 0), 170, "loader.go:72", #[], none⟩ (zp g 0) ?_
 simp only [qd]
 refine zU 3 ⟨some 11, .nilCheck (.tmp 10), 0, "loader.go:72", #[ql 2], none⟩ (zp g 0) ?_
 simp only [qd]
 refine zU 4 ⟨some 12, .fieldAddr 119 (.tmp 11) 0, 0, "loader.go:72", #[ql 3], none⟩ (zp g 0) ?_
 simp only [qd]
 refine zT 5 ⟨some 13, .load 116 (.tmp 12), 116, "loader.go:72", #[ql 4], none⟩ (.slice pt ks.length cap) (Or.inl ⟨by rfl, fun v h => qch _ rfl _ rfl _ v h.2⟩) ?_
 simp only [qd]
 refine zU 6 ⟨some 14, .call ⟨.builtin .len, #[.tmp 13], #[116]⟩, 3, "loader.go:72", #[ql 5], none⟩ (.int .i64 ks.length) ?_
 simp only [qd]
 refine zT 7 ⟨some 15, .binOp .geq 3 (.tmp 9) (.tmp 14) 3, 4, "loader.go:72", #[ql 1, ql 6], none⟩ (.bool B) (Or.inl ⟨by rfl, fun w _ => by first | (go_simp; done) | (go_simp; exact EB.o) | (go_simp; rw [EB.o]) | (rw [← EB.o]; go_simp)⟩) ?_
 simp only [qd]
 refine zi (by kernel_rfl) ?_ _
 cases hBv : B
 case true =>
  have c : (ks.length : Int) ≤ i := by have := EB.o; rw [hBv] at this; simpa using this
  have EE : Hid (JQ p s gA ks v t = qQ slT (jS 9)) := by show _ = _; rw [EC.o, if_pos c]
  clear c
  subst hBv
  go_wp2_with fail
  refine (qak slT 9 _).mono ?_
  rintro e W1 ⟨rfl, hw⟩
  have hw' := hw.symm
  subst hw'
  clear hw
  go_wp2_with fail
  go_returns
  exact ⟨by rw [EE.o]; rfl, jy.of HL.o B0.o.drew⟩
 case false =>
 have hc1 : ¬ (ks.length : Int) ≤ i := by have := EB.o; rw [hBv] at this; simpa using this
 have Hc1 := qa hc1
 subst hBv
 clear EB hc1
 have B0 := qa B0.o.drew
 have RI : Hid (W0.drew.heap[w.heap.size]? = some (.cells IR 114)) := RI
 have C0 : Hid (W0.drew.cell? ⟨g, 0, none⟩ = some (.slice pt ks.length cap)) := C0
 have C1 : Hid (W0.drew.cell? ⟨g, 1, none⟩ = some (.int .u32 v)) := C1
 have CI0 : Hid (W0.drew.cell? ⟨w.heap.size, 0, none⟩ = some (.int .u32 n)) := CI0
 have CI1 : Hid (W0.drew.cell? ⟨w.heap.size, 1, none⟩ = some (.int .i64 i)) := CI1
 have CI3 : Hid (W0.drew.cell? ⟨w.heap.size, 3, none⟩ = some (.string G)) := CI3
 obtain ⟨W1, hW1⟩ := zy W0.drew
 rw [← hW1] at B0 RI C0 C1 CI0 CI1 CI3 ⊢
 clear hW1 L0
 obtain ⟨B, EB⟩ : ∃ B, Hid (decide ((n : Int) < v) = B) := ⟨_, qa rfl⟩
 go_upto_region 3 with fail
 refine zM (S := fun w' => w'.cell? ⟨w.heap.size, 0, none⟩ = some (.int .u32 n) ∧ w'.cell? ⟨g, 1, none⟩ = some (.int .u32 v)) (by kernel_rfl) ⟨CI0.o, C1.o⟩ (fun hHeld => ?_)
 refine zU 0 ⟨some 17, .fieldAddr 114 (.tmp 3) 0, 0, "loader.go:75", #[], none⟩ (zp w.heap.size 0) ?_
 simp only [qd]
 refine zT 1 ⟨some 18, .load 39 (.tmp 17), 39, "loader.go:75", #[ql 0], none⟩ (.int .u32 n) (Or.inl ⟨by rfl, fun v h => qdp _ rfl _ rfl _ v h.1⟩) ?_
 simp only [qd]
 refine zU 2 ⟨some 19, .move (.tmp 0), 170, "loader.go:75", #[], none⟩ (zp g 0) ?_
 simp only [qd]
 refine zU 3 ⟨some 20, .nilCheck (.tmp 19), 0, "loader.go:75", #[ql 2], none⟩ (zp g 0) ?_
 simp only [qd]
 refine zU 4 ⟨some 21, .fieldAddr 119 (.tmp 20) 1, 0, "loader.go:75", #[ql 3], none⟩ (zp g 1) ?_
 simp only [qd]
 refine zT 5 ⟨some 22, .load 39 (.tmp 21), 39, "loader.go:75", #[ql 4], none⟩ (.int .u32 v) (Or.inl ⟨by rfl, fun v h => qdp _ rfl _ rfl _ v h.2⟩) ?_
 simp only [qd]
 refine zT 6 ⟨some 23, .binOp .lss 39 (.tmp 18) (.tmp 22) 39, 4, "loader.go:75", #[ql 1, ql 5], none⟩ (.bool B) (Or.inl ⟨by rfl, fun w _ => by first | (go_simp; done) | (go_simp; exact EB.o) | (go_simp; rw [EB.o]) | (rw [← EB.o]; go_simp)⟩) ?_
 simp only [qd]
 refine zi (by kernel_rfl) ?_ _
 cases hBv : B
 case true =>
  have c : (n : Int) < v := by have := EB.o; rw [hBv] at this; simpa using this
  have EE : Hid (JQ p s gA ks v t = qQ vrT (jS 10)) := by show _ = _; rw [EC.o, if_neg (show ¬ (ks.length : Int) ≤ i by have := Hc1.o; omega), if_pos c]
  clear c
  subst hBv
  go_wp2_with fail
  refine (qak vrT 10 _).mono ?_
  rintro e W2 ⟨rfl, hw⟩
  have hw' := hw.symm
  subst hw'
  clear hw
  go_wp2_with fail
  go_returns
  exact ⟨by rw [EE.o]; rfl, jy.of HL.o B0.o.drew⟩
 case false =>
 have hc2 : ¬ (n : Int) < v := by have := EB.o; rw [hBv] at this; simpa using this
 have Hc2 := qa hc2
 subst hBv
 clear EB hc2 CI0 C1
 have B0 := qa B0.o.drew
 have RI : Hid (W1.drew.heap[w.heap.size]? = some (.cells IR 114)) := RI
 have C0 : Hid (W1.drew.cell? ⟨g, 0, none⟩ = some (.slice pt ks.length cap)) := C0
 have CI1 : Hid (W1.drew.cell? ⟨w.heap.size, 1, none⟩ = some (.int .i64 i)) := CI1
 have CI3 : Hid (W1.drew.cell? ⟨w.heap.size, 3, none⟩ = some (.string G)) := CI3
 obtain ⟨W2, hW2⟩ := zy W1.drew
 rw [← hW2] at B0 RI C0 CI1 CI3 ⊢
 clear hW2
 have l0 := H0.o.size
 go_wp2_with (first
  | (refine zL 114 (.tmp 3) w.heap.size IR RI.o Tryz.underlying114 (by rw [ZW, HIs.o]) ?_))
 refine (qvL n i P G S D IR EI.o lS.o lD.o lP.o W2 (HE.o.below (H0.o.trans (B0.o.mono l0))).tab).mono ?_
 rintro e W3 ⟨rfl, hB⟩
 have K3 := qa hB
 have B3 := qa (B0.o.trans (hB.mono B0.o.size))
 have lI := qh RI.o
 clear hB
 unfold ckE
 by_cases hd : jD (bytesOf P) = D
 case neg =>
  rw [if_neg hd]
  obtain ⟨Q, HQ⟩ := zx (Value.agg #[.string dgT, jS 11])
  have EE : Hid (JQ p s gA ks v t = .iface 173 Q) := by show _ = _; rw [EC.o, if_neg (show ¬ (ks.length : Int) ≤ i by have := Hc1.o; omega), if_neg (show ¬ (n : Int) < v by have := Hc2.o; omega), if_neg hd, HQ.o]; rfl
  rw [show qQ dgT (jS 11) = .iface 173 Q by rw [HQ.o]; rfl]
  clear hd
  go_wp2_with fail
  go_returns
  exact ⟨by rw [EE.o] <;> rfl, jy.of HL.o B3.o⟩
 case pos =>
 rw [if_pos hd]
 have Hd := qa hd
 clear hd
 have hlt : i < ks.length := by have := Hc1.o; omega
 obtain ⟨m, Em⟩ := zx (ks[i])
 have Em2 : Hid (ks.getD i 0 = m) := by show _ = _; rw [Em.o, Za, zO hlt]; rfl
 have Hm2 : Hid (m < ZL) := by rw [Em.o]; exact HL.o.small _ (List.getElem_mem hlt)
 have EC2 : Hid (JQ p s gA ks v t = if jg m = true then yB s gA m G S else qQ Ym (qU p)) := by show _ = _; rw [EC.o, if_neg (show ¬ (ks.length : Int) ≤ i by have := Hc1.o; omega), if_neg (show ¬ (n : Int) < v by have := Hc2.o; omega), if_pos Hd.o, Em2.o]
 obtain ⟨q, hpt, hq1, hq2⟩ : ∃ q, pt = some ⟨q, 0, none⟩ ∧ q < w.heap.size ∧ w.rangeAt q (32 * i) (bL m) := by
  rcases HL.o.keys with ⟨h1, h2⟩ | ⟨q, cap', h1, h2, h3, h4, h5⟩
  · rw [h2] at hlt; exact absurd hlt (by simp)
  ·
   refine ⟨q, by injection h1, h4, ?_⟩
   rw [Em.o]; exact h5 i hlt
 subst hpt
 have kg := HL.o.kg q rfl
 have L3 := qa (HL.o.below B3.o)
 have C0 : Hid (W3.cell? ⟨g, 0, none⟩ = some (.slice (some ⟨q, 0, none⟩) ks.length cap)) := (K3.o.cell (zX _ _ C0.o)).trans C0.o
 have CI1 : Hid (W3.cell? ⟨w.heap.size, 1, none⟩ = some (.int .i64 i)) := (K3.o.cell lI).trans CI1.o
 have CI3 : Hid (W3.cell? ⟨w.heap.size, 3, none⟩ = some (.string G)) := (K3.o.cell lI).trans CI3.o
 have RI : Hid (qi W3 w.heap.size IR 114) := qk RI.o K3.o
 have RQ : Hid (W3.rangeAt q (32 * i) (bL m)) := q8 hq2 B3.o hq1
 have lI3 := qh RI.o
 have lg3 := qh L3.o.row
 have lq3 : q < W3.heap.size := zl hq1 B3.o.size
 have N3 := qa (H0.o.trans (B3.o.mono l0))
 have ls3 := B3.o.size
 clear K3 B0 hq2
 obtain ⟨Y, EY⟩ := zx (ZV b m)
 obtain ⟨E, EE⟩ := zx (ye p m)
 have HYs : Hid ((Tryz.prog.info? 153).map (·.size) = some Y.size) := by
  show _ = _
  rw [EY.o]; unfold ZV; split
  · exact qbe _ _ _
  · exact qaF
 have HYo : Hid (jh.size = Y.size) := by
  show _ = _
  rw [EY.o]; unfold ZV; split
  · exact qc4 _ _ _
  · rfl
 have HYa : Hid (Y.all (·.oneCell') = true) := by
  show _ = _
  rw [EY.o]; unfold ZV; split
  · exact qcW _ _ _
  · exact qbR
 have SAT : Hid (∀ V : World, jG b r W3 V → V.cell? ⟨g, 0, none⟩ = some (.slice (some ⟨q, 0, none⟩) ks.length cap) ∧ V.cell? ⟨w.heap.size, 1, none⟩ = some (.int .i64 i) ∧ V.rangeAt q (32 * i) (bL m)) := fun _ hB => ⟨(zo (hB.block g lg3 gb gr)).trans C0.o, (zo (hB.block w.heap.size lI3 (by omega) (by omega))).trans CI1.o, qdb RQ.o (hB.block q lq3 kg.2.1 kg.2.2)⟩
 have hix := qow q ks.length i cap hlt
 go_upto_region 8 with fail
 go_cut [6, 7] from 30 to 42 (fun s6 s7 wx => ∃ g8, s6 = zp g8 0 ∧ s7 = E ∧ Hid (W3.heap.size ≤ g8) ∧ Hid (qi wx g8 Y 153) ∧ Hid (jy g T (.slice (some ⟨q, 0, none⟩) ks.length cap) ks v b r W3 wx))
 case first =>
  refine zM (S := fun w' => w'.cell? ⟨g, 0, none⟩ = some (.slice (some ⟨q, 0, none⟩) ks.length cap) ∧ w'.cell? ⟨w.heap.size, 1, none⟩ = some (.int .i64 i) ∧ w'.rangeAt q (32 * i) (bL m)) (by kernel_rfl) (SAT.o _ (jG.ofB (zJ _ _).drew)) (fun hHeld => ?_)
  have KV1 : Hid (jy g T (.slice (some ⟨q, 0, none⟩) ks.length cap) ks v b r W3 W3.drew) := jy.of L3.o (zJ _ _).drew
  obtain ⟨V1, hV1⟩ := zy W3.drew
  rw [← hV1] at hHeld KV1 ⊢
  clear hV1
  refine zU 0 ⟨some 31, .move (.tmp 0), 170, "loader.go:81", #[], none⟩ (zp g 0) ?_
  simp only [qd]
  refine zU 1 ⟨some 32, .move (.tmp 0), 170, "loader.go:81", #[], none⟩ (zp g 0) ?_
  simp only [qd]
  refine zU 2 ⟨some 33, .nilCheck (.tmp 32), 0, "loader.go:81", #[ql 1], none⟩ (zp g 0) ?_
  simp only [qd]
  refine zU 3 ⟨some 34, .fieldAddr 119 (.tmp 33) 0, 0, "loader.go:81", #[ql 2], none⟩ (zp g 0) ?_
  simp only [qd]
  refine zT 4 ⟨some 35, .load 116 (.tmp 34), 116, "loader.go:81", #[ql 3], none⟩ (.slice (some ⟨q, 0, none⟩) ks.length cap) (Or.inl ⟨by rfl, fun v h => qch _ rfl _ rfl _ v h.1⟩) ?_
  simp only [qd]
  refine zU 5 ⟨some 36, .fieldAddr 114 (.tmp 3) 1, 0, "loader.go:81", #[], none⟩ (zp w.heap.size 1) ?_
  simp only [qd]
  refine zT 6 ⟨some 37, .load 3 (.tmp 36), 3, "loader.go:81", #[ql 5], none⟩ (.int .i64 i) (Or.inl ⟨by rfl, fun v h => qdz _ rfl _ rfl _ v h.2.1⟩) ?_
  simp only [qd]
  refine zU 7 ⟨some 38, .indexAddr 116 (.tmp 35) (.tmp 37), 0, "loader.go:81", #[ql 4, ql 6], none⟩ (.pointer (some ⟨q, 32 * i, none⟩)) ?_
  simp only [qd]
  refine zT 8 ⟨some 39, .load 62 (.tmp 38), 62, "loader.go:81", #[ql 7], none⟩ (.agg (bA m)) (qdY (by rfl) _ rfl q (32 * i) m rfl (fun w h => h.2.2)) ?_
  simp only [qd]
  refine zW [9, 13] ?_
  refine zK yaH (fun K hK => ?_) ?_
  ·
   refine YS (by rfl) _ _ (qel _ _ rfl (zp g 0) (.agg (bA m)) rfl rfl V1) _ (jy g T (.slice (some ⟨q, 0, none⟩) ks.length cap) ks v b r V1) (qvz g T (.slice (some ⟨q, 0, none⟩) ks.length cap) ks v b r m Hm2.o k p s gA Y E EY.o EE.o w0 V1 KV1.o.2 HE.o (N3.o.trans (KV1.o.1.below (by omega) (by omega) N3.o.size)) hb hr) (fun V2 HBx => ?_)
   have KV2 : Hid (jy g T (.slice (some ⟨q, 0, none⟩) ks.length cap) ks v b r W3 V2) := KV1.o.trans HBx
   clear HBx
   refine hK.o _ _ (SAT.o _ KV2.o.1) fun hHeld => ?_
   try simp only [qd]
   refine zU 10 qkm (.tuple #[.agg Y, E]) ?_
   simp only [qd]
   refine zU 11 qkH (.agg Y) ?_
   simp only [qd]
   refine zU 12 qlV (E) ?_
   simp only [qd]
   refine zR 13 qla fun K hK => ?_
   refine zA (qaz rfl V2) ?_
   obtain ⟨gg3, hgg3⟩ := zy V2.heap.size
   have ZN : Hid ((V2.alloc (.cells jh 153)).heap[gg3]? = some (.cells jh 153)) := by rw [hgg3]; exact za _ _
   have KV3 : Hid (jy g T (.slice (some ⟨q, 0, none⟩) ks.length cap) ks v b r W3 (V2.alloc (.cells jh 153))) := KV2.o.below ((zJ _ _).alloc (zm _) _)
   have GG : Hid (W3.heap.size ≤ gg3) := by rw [hgg3]; exact KV2.o.1.size
   rw [← hgg3]
   obtain ⟨V3, hV3⟩ := zy (V2.alloc (.cells jh 153))
   rw [← hV3] at ZN KV3 ⊢
   clear hV3 hgg3
   refine hK.o _ _ (SAT.o _ KV3.o.1) fun hHeld => ?_
   try simp only [qd]
   refine zR 14 qk2 fun K hK => ?_
   refine zQ 153 (.tmp 6) (.tmp 41) (gg3) (Y) ZN.o HYs.o HYo.o HYa.o ?_
   rw [qH]
   refine hK.o _ _ (SAT.o _ (KV3.o.1.setRow GG.o _)) fun hHeld => ?_
   try simp only [qd]
   refine zU 15 qlR (E) ?_
   simp only [qd]
   refine zi (by kernel_rfl) ?_ _
   go_wp2_with fail
   go_meet
   case rel => exact ⟨gg3, rfl, rfl, GG, qa (zd _ _ _ _ _ _ ZN.o), qa (jy.set L3.o KV3.o GG.o _)⟩
  refine zK qla (fun K hK => ?_) ?_
  ·
   refine zA (qaz rfl V1) ?_
   obtain ⟨gg5, hgg5⟩ := zy V1.heap.size
   have ZN : Hid ((V1.alloc (.cells jh 153)).heap[gg5]? = some (.cells jh 153)) := by rw [hgg5]; exact za _ _
   have KV5 : Hid (jy g T (.slice (some ⟨q, 0, none⟩) ks.length cap) ks v b r W3 (V1.alloc (.cells jh 153))) := KV1.o.below ((zJ _ _).alloc (zm _) _)
   have GG : Hid (W3.heap.size ≤ gg5) := by rw [hgg5]; exact KV1.o.1.size
   rw [← hgg5]
   obtain ⟨V5, hV5⟩ := zy (V1.alloc (.cells jh 153))
   rw [← hV5] at ZN KV5 ⊢
   clear hV5 hgg5
   refine hK.o _ _ (SAT.o _ KV5.o.1) fun hHeld => ?_
   try simp only [qd]
   refine zR 9 yaH fun K hK => ?_
   refine YS (by rfl) _ _ (qel _ _ rfl (zp g 0) (.agg (bA m)) rfl rfl V5) _ (jy g T (.slice (some ⟨q, 0, none⟩) ks.length cap) ks v b r V5) (qvz g T (.slice (some ⟨q, 0, none⟩) ks.length cap) ks v b r m Hm2.o k p s gA Y E EY.o EE.o w0 V5 KV5.o.2 HE.o (N3.o.trans (KV5.o.1.below (by omega) (by omega) N3.o.size)) hb hr) (fun V6 HBx => ?_)
   have KV6 : Hid (jy g T (.slice (some ⟨q, 0, none⟩) ks.length cap) ks v b r W3 V6) := KV5.o.trans HBx
   have ZN : Hid (V6.heap[gg5]? = _) := (HBx.1.block _ (qh ZN.o) (by have := GG.o; omega) (by have := GG.o; omega)).trans ZN.o
   clear HBx
   refine hK.o _ _ (SAT.o _ KV6.o.1) fun hHeld => ?_
   try simp only [qd]
   refine zU 10 qkm (.tuple #[.agg Y, E]) ?_
   simp only [qd]
   refine zU 11 qkH (.agg Y) ?_
   simp only [qd]
   refine zU 12 qlV (E) ?_
   simp only [qd]
   refine zR 14 qk2 fun K hK => ?_
   refine zQ 153 (.tmp 6) (.tmp 41) (gg5) (Y) ZN.o HYs.o HYo.o HYa.o ?_
   rw [qH]
   refine hK.o _ _ (SAT.o _ (KV6.o.1.setRow GG.o _)) fun hHeld => ?_
   try simp only [qd]
   refine zU 15 qlR (E) ?_
   simp only [qd]
   refine zi (by kernel_rfl) ?_ _
   go_wp2_with fail
   go_meet
   case rel => exact ⟨gg5, rfl, rfl, GG, qa (zd _ _ _ _ _ _ ZN.o), qa (jy.set L3.o KV6.o GG.o _)⟩
  exact zu
 case rest =>
  obtain ⟨g8, rfl, hE9, GE, RY, X2⟩ := hcut
  have hE9' := hE9.symm
  subst hE9'
  obtain ⟨W4, hW4⟩ := zy wc
  rw [← hW4] at RY X2 ⊢
  clear hW4 SAT C0 CI1
  have XF : Hid (jy g T (.slice (some ⟨q, 0, none⟩) ks.length cap) ks v b r w W4) := (jy.of HL.o B3.o).trans X2.o
  by_cases hd : jg m = true
  case neg =>
   obtain ⟨Q, HQ⟩ := zx (Value.agg #[.string Ym, qU p])
   have hE : E = .iface 173 Q := by rw [EE.o, HQ.o]; unfold ye; rw [if_neg hd]; rfl
   have EV : Hid (JQ p s gA ks v t = .iface 173 Q) := by show _ = _; rw [EC2.o, if_neg hd, HQ.o]; rfl
   rw [hE]
   clear hE
   go_wp2_with fail
   go_returns
   exact ⟨by rw [EV.o] <;> rfl, XF.o⟩
  case pos =>
   have hE : E = .nilIface := by rw [EE.o]; unfold ye; rw [if_pos hd]
   have hY : Y = jx b m (Qj m) := by rw [EY.o]; unfold ZV; rw [if_pos hd]
   obtain ⟨F, EF⟩ := zx (Qj m)
   rw [← EF.o] at hY
   rw [hY] at RY HYs
   rw [hE]
   clear hE
   obtain ⟨Z, EZ⟩ := zx (yB s gA m G S)
   have EV : Hid (JQ p s gA ks v t = Z) := by show _ = _; rw [EC2.o, if_pos hd, EZ.o]
   have Hdc := qa hd
   clear hd
   have CI3 : Hid (W4.cell? ⟨w.heap.size, 3, none⟩ = some (.string G)) := (zo (X2.o.1.block w.heap.size lI3 (by omega) (by omega))).trans CI3.o
   have RI : Hid (qi W4 w.heap.size IR 114) := (X2.o.1.block _ lI3 (by omega) (by omega)).trans RI.o
   have RS : Hid (W4.rangeAt w.heap.size 4 (S.map cv)) := qsI (by rw [← EI.o]; exact RI.o)
   obtain ⟨M, EM⟩ := zx ((S.map cv).toArray)
   have NB := qa (N3.o.trans (X2.o.1.below (by omega) (by omega) N3.o.size))
   have V4 := qa (HE.o.below NB.o)
   have ci3 := CI3.o
   go_wp2_with (first
    | (refine zL 153 (.tmp 6) g8 (jx b m F) RY.o Tryz.underlying153 HYs.o ?_)
    | (refine zG (by rfl) 102 (.tmp 49) (by rfl) w.heap.size 4 (by rfl) (S.map cv) _ RS.o Jh rfl (by rw [zv, lS.o]; exact J7) ?_; rw [← EM.o]))
   obtain ⟨l4, c4, L4⟩ := X2.o.2
   refine (qqy b m G S lS.o lG.o Hdc.o F EF.o M EM.o s gA W4 V4.o.gl V4.o.tab V4.o.ord (by omega) L4.base V4.o.sen.fs V4.o.sen.fg (by have := qhy HE.o.sen.fg; omega) Z EZ.o).mono ?_
   rintro e W5 ⟨rfl, hX, hA⟩
   have XL : Hid (jy g T (.slice (some ⟨q, 0, none⟩) ks.length cap) ks v b r W4 W5) := ⟨jG.of hX, l4, c4, L4.step (jG.of hX) hA ((hX.block r (qh L4.map) (fun e => L4.br e.symm)).trans L4.map) L4.ent⟩
   clear hX hA L4
   go_wp2_with fail
   go_returns
   exact ⟨by rw [EV.o] <;> rfl, XF.o.trans XL.o⟩
end
open Go.RowKit
structure Zs (g b r : Nat) (w w' : World) : Prop where
 os : w'.os = w.os
 tape : w'.tape = w.tape
 output : w'.output = w.output
 size : w.heap.size ≤ w'.heap.size
 block : ∀ k, k < w.heap.size → k ≠ g → k ≠ b → k ≠ r → w'.heap[k]? = w.heap[k]?
theorem Zs.of {g b r : Nat} {w w' : World} (h : jG b r w w') : Zs g b r w w' := ⟨h.os, h.tape, h.output, h.size, fun k hk _ hb hr => h.block k hk hb hr⟩
theorem Zs.trans {g b r : Nat} {u v w : World} (h : Zs g b r u v) (k : Zs g b r v w) : Zs g b r u w :=
 ⟨k.os.trans h.os, k.tape.trans h.tape, k.output.trans h.output, Zg h.size k.size, fun j hj hg hb hr => (k.block j (zl hj h.size) hg hb hr).trans (h.block j hj hg hb hr)⟩
theorem Zs.ofB {g b r : Nat} {w w' : World} (h : zB w w') : Zs g b r w w' := Zs.of (jG.ofB h)
theorem Zs.below {g b r B : Nat} {w w' : World} (h : Zs g b r w w') (hg : B ≤ g) (hb : B ≤ b) (hr : B ≤ r) (hs : B ≤ w.heap.size) : Below B w w' := ⟨h.os, h.tape, h.output, h.size, fun k hk => h.block k (by omega) (by omega) (by omega) (by omega)⟩
def yS (g : Nat) (T : TypeId) (kv : Value) (ks : List Nat) (v : Int) (b r : Nat) (w w' : World) : Prop := Zs g b r w w' ∧ ∃ l c, Ld w' g T kv ks v b r l c
theorem yS.of {g : Nat} {T : TypeId} {kv : Value} {ks : List Nat} {v : Int} {b r : Nat} {w w' : World} (h : jy g T kv ks v b r w w') : yS g T kv ks v b r w w' := ⟨Zs.of h.1, h.2⟩
theorem yS.below {g : Nat} {T : TypeId} {kv : Value} {ks : List Nat} {v : Int} {b r : Nat} {u w w' : World} (h : yS g T kv ks v b r u w) (hB : zB w w') : yS g T kv ks v b r u w' := by
 obtain ⟨h1, l, c, h2⟩ := h
 exact ⟨h1.trans (Zs.ofB hB), l, c, h2.below hB⟩
noncomputable def ldE (p s g : Addr) (ks : List Nat) (v : Int) (t : ByteArray) : Value := if Yb t = 0 then JQ p s g ks v t else QW t
theorem qij (p s g : Addr) (ks : List Nat) (v : Int) (t : ByteArray) :
  (∃ x c, ldE p s g ks v t = qQ x (jS c) ∧ Qs ks v t = c ∧ c ≠ 0) ∨ (∃ x a, ldE p s g ks v t = qQ x (qU a) ∧ ((a = p ∧ Qs ks v t = 2) ∨ (a = s ∧ Qs ks v t = 3) ∨ (a = g ∧ Qs ks v t = 4))) ∨ (QW t = .nilIface ∧ 192 ≤ t.size ∧ JQ p s g ks v t = .nilIface ∧ Qs ks v t = 0) := by
 unfold ldE Qs Yb QW
 by_cases h1 : t.size < 192
 ·
  simp only [if_pos h1]
  exact .inl ⟨_, _, rfl, rfl, by decide⟩
 simp only [if_neg h1]
 by_cases h2 : t.extract 0 8 = yq
 case neg => simp only [if_neg h2]; exact .inl ⟨_, _, rfl, rfl, by decide⟩
 simp only [if_pos h2]
 by_cases h3 : bytesOf (t.extract 17 64) = QX
 case neg => simp only [if_neg h3]; exact .inl ⟨_, _, rfl, rfl, by decide⟩
 simp only [if_pos h3]
 by_cases h4 : QK (t.extract 12 16) 4 = t.size - 192
 case neg => simp only [if_neg h4]; exact .inl ⟨_, _, rfl, rfl, by decide⟩
 simp only [if_pos h4, if_true]
 unfold JQ chC
 by_cases c1 : (ks.length : Int) ≤ j8 t
 · simp only [if_pos c1]; exact .inl ⟨_, _, rfl, rfl, by decide⟩
 simp only [if_neg c1]
 by_cases c2 : (QV t : Int) < v
 · simp only [if_pos c2]; exact .inl ⟨_, _, rfl, rfl, by decide⟩
 simp only [if_neg c2]
 by_cases c3 : jD (bytesOf (ZE t)) = Jc t
 case neg => simp only [if_neg c3]; exact .inl ⟨_, _, rfl, rfl, by decide⟩
 simp only [if_pos c3]
 unfold ckC
 by_cases c4 : jg (ks.getD (j8 t).toNat 0) = true
 case neg => simp only [if_neg c4]; exact .inr (.inl ⟨_, _, rfl, .inl ⟨rfl, trivial⟩⟩)
 simp only [if_pos c4]
 unfold yB
 by_cases c5 : qC ((Jz t).drop 32) < jf
 case neg => simp only [if_neg c5]; exact .inr (.inl ⟨_, _, rfl, .inr (.inl ⟨rfl, trivial⟩)⟩)
 simp only [if_pos c5]
 by_cases c6 : Yi (ks.getD (j8 t).toNat 0) (yc t) (Jz t) = qC ((Jz t).take 32)
 case neg => simp only [if_neg c6]; exact .inr (.inl ⟨_, _, rfl, .inr (.inr ⟨rfl, trivial⟩)⟩)
 simp only [if_pos c6]
 exact .inr (.inr ⟨trivial, by omega, trivial, trivial⟩)
def YK : ByteArray := ⟨#[116, 104, 101, 32, 105, 109, 97, 103, 101]⟩
theorem qts (t : ByteArray) (hm : t.size ≤ maxLen) (hE : QW t = .nilIface) (h192 : 192 ≤ t.size) (I : Array Value) (hI : I = Yo t) (w : World) :
  zC 84 #[.string t] w (.tuple #[.agg I, .nilIface]) := by rw [hI]; exact qhi t hm hE h192 w
section
attribute [local irreducible] qb nL pA qP jb pL bA bL qX Qh jg jx jh Jq JC QG ZM Qi Js jZ
theorem qjC (g : Nat) (T : TypeId) (kv : Value) (ks : List Nat) (v : Int) (b r clock : Nat) (l : List (Nat × Nat)) (t : ByteArray) (hm : t.size ≤ maxLen) (E : Value) (hE : QW t = .iface 173 E) (w : World) (hL : Ld w g T kv ks v b r l clock) :
  Calls Tryz.prog 51 #[zp g 0, .string t] w fun e w' => e = .returned (.tuple #[.agg jZ, qQ YK (.iface 173 E)]) ∧ jy g T kv ks v b r w w' := by
 have hz := qbG
 have HE := qa hE
 have Hm := qa hm
 have HL := qa hL
 clear hE hm hL
 go_enter Tryz.func51, Tryz.ntmps51
 go_wp2_with fail
 refine (qjS t Hm.o E HE.o _).mono ?_
 rintro e W1 ⟨rfl, hB⟩
 have B1 : Hid (zB w W1) := ((zJ _ _).alloc (zm _) _).trans (hB.mono (by simp))
 have R1 : Hid (qi W1 w.heap.size jZ 114) := qk (za _ _) hB
 clear hB
 have hb0 := qdD
 go_upto_region 2 with (first
  | (refine qB 114 (.tmp 6) (.tmp 11) W1.heap.size jZ (za _ _) (by rw [ZW, yT]) rfl qcj ?_))
 try rw [qH]
 generalize hW2 : World.setRow _ _ _ = W2
 have l1 := qh R1.o
 have B2 : Hid (zB w W2) := by rw [← hW2]; exact ze (B1.o.alloc B1.o.size _) B1.o.size _
 have R2 : Hid (qi W2 w.heap.size jZ 114) := by rw [← hW2]; exact (zc _ _ _ _ (by omega)).trans ((zb _ _ l1).trans R1.o)
 clear hW2 B1 R1
 go_wp2_with (first
  | (refine qac (by rfl) 114 _ (by rfl) jZ (by exact hb0) ?_)
  | (refine qB 114 (.tmp 4) (.tmp 20) w.heap.size jZ R2.o (by rw [ZW, yT]) rfl qcj ?_))
 refine zh (v := .tuple #[.agg jZ, qQ YK (.iface 173 E)]) (jJ Tryz.results51 _ _ (w.heap.size) 114 _ (0, 0) _ (by rfl) (zd _ _ _ _ _ _ R2.o) Tryz.underlying114 rfl (by rw [ZW, yT])) rfl ⟨rfl, jy.of HL.o (ze B2.o (zm _) _)⟩
theorem qjY (g : Nat) (T : TypeId) (kv : Value) (ks : List Nat) (v : Int) (b r clock : Nat) (l : List (Nat × Nat)) (t : ByteArray) (hm : t.size ≤ maxLen) (hE0 : QW t = .nilIface) (h192 : 192 ≤ t.size) (k p s gA : Addr) (w0 w : World) (hL : Ld w g T kv ks v b r l clock)
  (hV : ZF w0 k p s gA) (h0 : zB w0 w) (hb : w0.heap.size ≤ b) (hr : w0.heap.size ≤ r) (E : Value) (hE : JQ p s gA ks v t = .iface 173 E) :
  Calls Tryz.prog 51 #[zp g 0, .string t] w fun e w' => e = .returned (.tuple #[.agg jZ, qQ YK (.iface 173 E)]) ∧ jy g T kv ks v b r w w' := by
 have hz := qbG
 have HE := qa hE
 have HE0 := qa hE0
 have Hm := qa hm
 have HL := qa hL
 have HV := qa hV
 have H0 := qa h0
 have l0 := h0.size
 have H192 := qa h192
 obtain ⟨I, EI⟩ := zx (Yo t)
 have HIs : Hid (I.size = 132) := by show _ = _; rw [EI.o]; exact qbZ _ _ _ _ _ _ (by unfold Jz; rw [jY, QS _ _ _ (by omega)]) (by unfold Jc; rw [jY, QS _ _ _ (by omega)])
 have HIa : Hid (I.all (·.oneCell') = true) := by show _ = _; rw [EI.o]; exact qcg _ _ _ _ _ _
 clear hE hm hL hV h0 h192 hE0
 go_enter Tryz.func51, Tryz.ntmps51
 go_wp2_with fail
 refine (qts t Hm.o HE0.o H192.o I EI.o _).mono ?_
 rintro e W1 ⟨rfl, hB⟩
 have B1 : Hid (zB w W1) := ((zJ _ _).alloc (zm _) _).trans (hB.mono (by simp))
 have R1 : Hid (qi W1 w.heap.size jZ 114) := qk (za _ _) hB
 clear hB
 have hb0 := qdD
 go_upto_region 2 with (first
  | (refine qB 114 (.tmp 6) (.tmp 11) W1.heap.size I (za _ _) (by rw [ZW, HIs.o]) (by rw [yT, HIs.o]) HIa.o ?_))
 try rw [qH]
 generalize hW2 : World.setRow _ _ _ = W2
 have l1 := qh R1.o
 have B2 : Hid (zB w W2) := by rw [← hW2]; exact ze (B1.o.alloc B1.o.size _) B1.o.size _
 have R2 : Hid (qi W2 w.heap.size jZ 114) := by rw [← hW2]; exact (zc _ _ _ _ (by omega)).trans ((zb _ _ l1).trans R1.o)
 obtain ⟨g6, hg6⟩ := zy W1.heap.size
 have R6 : Hid (qi W2 g6 I 114) := by rw [← hW2, hg6]; exact zd _ _ _ _ _ _ (za _ _)
 rw [← hg6]
 clear hW2 B1 R1 hg6 l1
 go_wp2_with (first
  | (refine zL 114 (.tmp 6) g6 I R6.o Tryz.underlying114 (by rw [ZW, HIs.o]) ?_))
 refine (qgr g T kv ks v b r clock l t H192.o Hm.o k p s gA w0 W2 (HL.o.below B2.o) HV.o (H0.o.trans (B2.o.mono l0)) hb hr I EI.o).mono ?_
 rintro e W3 ⟨rfl, hX⟩
 rw [HE.o]
 have lb := HL.o.base.lt
 have lr := qh HL.o.map
 have X3 := qa ((jy.of HL.o B2.o).trans hX)
 have R3 : Hid (qi W3 w.heap.size jZ 114) := (hX.1.block _ (qh R2.o) (by omega) (by omega)).trans R2.o
 clear hX B2 R2 R6
 go_wp2_with (first
  | (refine qac (by rfl) 114 _ (by rfl) jZ (by exact hb0) ?_)
  | (refine qB 114 (.tmp 4) (.tmp 20) w.heap.size jZ R3.o (by rw [ZW, yT]) rfl qcj ?_))
 refine zh (v := .tuple #[.agg jZ, qQ YK (.iface 173 E)]) (jJ Tryz.results51 _ _ (w.heap.size) 114 _ (0, 0) _ (by rfl) (zd _ _ _ _ _ _ R3.o) Tryz.underlying114 rfl (by rw [ZW, yT])) rfl ⟨rfl, jy.set HL.o X3.o (zm _) _⟩
theorem qrf (kv : Value) (v u : Int) (b r : Nat) : (ZM kv v b r).setIfInBounds 1 (.int .u32 u) = ZM kv u b r := by unfold ZM; rfl
theorem Ld.setV {w : World} {g : Nat} {T : TypeId} {kv : Value} {ks : List Nat} {v : Int} {b r : Nat} {l : List (Nat × Nat)} {c : Nat} (h : Ld w g T kv ks v b r l c) (u : Int) (u0 : 0 ≤ u) (u1 : u < 4294967296) : Ld (w.setCell ⟨g, 1, none⟩ (.int .u32 u)) g T kv ks u b r l c ∧ Zs g b r w (w.setCell ⟨g, 1, none⟩ (.int .u32 u)) := by
 rw [setCell_eq_setRow w g 1 _ T _ _ h.row, qrf]
 have ob : ∀ k, k ≠ g → (w.setRow g (ZM kv u b r)).heap[k]? = w.heap[k]? := fun k hk => zc _ _ _ _ hk
 have hs : (w.setRow g (ZM kv u b r)).heap.size = w.heap.size := by simp [World.setRow]
 refine ⟨⟨zd _ _ _ _ _ _ h.row, h.keys.kept (by omega) (fun q hq => ob q (h.kg q hq).1), h.small, h.base.keep (ob b (fun e => h.gb e.symm)), (ob r (fun e => h.gr e.symm)).trans h.map, h.ent, u0, u1, h.gb, h.gr, h.br, h.kg⟩, rfl, rfl, rfl, by omega, fun k _ hk _ _ => ob k hk⟩
theorem qj3 (g : Nat) (T : TypeId) (kv : Value) (ks : List Nat) (v : Int) (b r clock : Nat) (l : List (Nat × Nat)) (t : ByteArray) (hm : t.size ≤ maxLen) (hE0 : QW t = .nilIface) (h192 : 192 ≤ t.size) (k p s gA : Addr) (w0 w : World) (hL : Ld w g T kv ks v b r l clock)
  (hV : ZF w0 k p s gA) (h0 : zB w0 w) (hb : w0.heap.size ≤ b) (hr : w0.heap.size ≤ r) (hE : JQ p s gA ks v t = .nilIface) (I : Array Value) (hI : I = Yo t) :
  Calls Tryz.prog 51 #[zp g 0, .string t] w fun e w' => e = .returned (.tuple #[.agg I, .nilIface]) ∧ yS g T kv ks (QV t) b r w w' := by
 have hz := qbG
 have HE := qa hE
 have HE0 := qa hE0
 have Hm := qa hm
 have HL := qa hL
 have HV := qa hV
 have H0 := qa h0
 have l0 := h0.size
 have H192 := qa h192
 have EI := qa hI
 obtain ⟨n, En⟩ := zx (α := Nat) (QV t)
 have n1 : n < 4294967296 := by rw [En.o]; unfold QV; exact kl _ 4 (by rw [QS _ _ _ (by omega)]; omega)
 have HIs : Hid (I.size = 132) := by show _ = _; rw [EI.o]; exact qbZ _ _ _ _ _ _ (by unfold Jz; rw [jY, QS _ _ _ (by omega)]) (by unfold Jc; rw [jY, QS _ _ _ (by omega)])
 have HIa : Hid (I.all (·.oneCell') = true) := by show _ = _; rw [EI.o]; exact qcg _ _ _ _ _ _
 have HI0 : Hid (I[0]? = some (.int .u32 n)) := by show _ = _; rw [EI.o, En.o]; unfold Yo Qi Js; rfl
 rw [← En.o]
 clear hE hm hL hV h0 h192 hE0 hI
 go_enter Tryz.func51, Tryz.ntmps51
 go_wp2_with fail
 refine (qts t Hm.o HE0.o H192.o I EI.o _).mono ?_
 rintro e W1 ⟨rfl, hB⟩
 have B1 : Hid (zB w W1) := ((zJ _ _).alloc (zm _) _).trans (hB.mono (by simp))
 have R1 : Hid (qi W1 w.heap.size jZ 114) := qk (za _ _) hB
 clear hB
 go_upto_region 2 with (first
  | (refine qB 114 (.tmp 6) (.tmp 11) W1.heap.size I (za _ _) (by rw [ZW, HIs.o]) (by rw [yT, HIs.o]) HIa.o ?_))
 try rw [qH]
 generalize hW2 : World.setRow _ _ _ = W2
 have l1 := qh R1.o
 have B2 : Hid (zB w W2) := by rw [← hW2]; exact ze (B1.o.alloc B1.o.size _) B1.o.size _
 have R2 : Hid (qi W2 w.heap.size jZ 114) := by rw [← hW2]; exact (zc _ _ _ _ (by omega)).trans ((zb _ _ l1).trans R1.o)
 obtain ⟨g6, hg6⟩ := zy W1.heap.size
 have R6 : Hid (qi W2 g6 I 114) := by rw [← hW2, hg6]; exact zd _ _ _ _ _ _ (za _ _)
 have l6 : w.heap.size < g6 := by omega
 rw [← hg6]
 clear hW2 B1 R1 hg6 l1
 go_wp2_with (first
  | (refine zL 114 (.tmp 6) g6 I R6.o Tryz.underlying114 (by rw [ZW, HIs.o]) ?_))
 refine (qgr g T kv ks v b r clock l t H192.o Hm.o k p s gA w0 W2 (HL.o.below B2.o) HV.o (H0.o.trans (B2.o.mono l0)) hb hr I EI.o).mono ?_
 rintro e W3 ⟨rfl, hX⟩
 rw [HE.o]
 have lb := HL.o.base.lt
 have lr := qh HL.o.map
 have lg := qh HL.o.row
 have X3 := qa ((jy.of HL.o B2.o).trans hX)
 have R3 : Hid (qi W3 w.heap.size jZ 114) := (hX.1.block _ (qh R2.o) (by omega) (by omega)).trans R2.o
 have R6 : Hid (qi W3 g6 I 114) := (hX.1.block _ (qh R6.o) (by omega) (by omega)).trans R6.o
 clear hX B2 R2
 obtain ⟨X30, l3, c3, L3⟩ := X3.o
 have C6 : W3.cell? ⟨g6, 0, none⟩ = some (.int .u32 n) := by rw [zj W3 _ 0 _ _ _ R6.o]; exact HI0.o
 have C1 : W3.cell? ⟨g, 1, none⟩ = some (.int .u32 v) := by rw [zj W3 g 1 _ T _ L3.row, ZM]; rfl
 have F1 : W3.frozen? ⟨g, 1, none⟩ = false := by simp [World.frozen?, L3.row]
 have HX30 := qa X30
 have HL3 := qa L3
 clear X30 L3 X3
 go_upto_region 7 with fail
 try rw [qH]
 obtain ⟨L4, K4⟩ := HL3.o.setV (n : Int) (by omega) (by omega)
 generalize hW4 : World.setCell _ _ _ = W4 at *
 have HL4 := qa L4
 have Z4 : Hid (Zs g b r w W4) := (Zs.of HX30.o).trans K4
 have R4 : Hid (qi W4 w.heap.size jZ 114) := (K4.block _ (qh R3.o) (by omega) (by omega) (by omega)).trans R3.o
 have R6 : Hid (qi W4 g6 I 114) := (K4.block _ (qh R6.o) (by omega) (by omega) (by omega)).trans R6.o
 clear hW4 K4 L4 R3 C6 C1 F1
 go_wp2_with (first
  | (refine zL 114 (.tmp 6) g6 I R6.o Tryz.underlying114 (by rw [ZW, HIs.o]) ?_)
  | (refine qB 114 (.tmp 4) (.tmp 29) w.heap.size I R4.o (by rw [ZW, HIs.o]) (by rw [yT, HIs.o]) HIa.o ?_))
 have ob : ∀ k, k ≠ w.heap.size → (W4.setRow w.heap.size I).heap[k]? = W4.heap[k]? := fun k hk => zc _ _ _ _ hk
 have kgq : ∀ q, kv.ownBlock = some q → q ≠ w.heap.size := by
  intro q hq
  rcases HL.o.keys with ⟨rfl, _⟩ | ⟨q', cap, rfl, _, _, hlt, _⟩
  · cases hq
  ·
   have e : q' = q := by simpa [Value.ownBlock] using hq
   omega
 have hs : (W4.setRow w.heap.size I).heap.size = W4.heap.size := by simp [World.setRow]
 have h4 := HL4.o
 refine zh (v := .tuple #[.agg I, .nilIface]) (jJ Tryz.results51 _ _ (w.heap.size) 114 _ (0, 0) _ (by rfl) (zd _ _ _ _ _ _ R4.o) Tryz.underlying114 rfl (by rw [ZW, HIs.o])) rfl ⟨rfl, ⟨Z4.o.os, Z4.o.tape, Z4.o.output, by have := Z4.o.size; omega, fun k hk h1 h2 h3 => (ob k (by omega)).trans (Z4.o.block k hk h1 h2 h3)⟩, l3, c3, ⟨(ob g (by omega)).trans h4.row, h4.keys.kept (by omega) (fun q hq => ob q (kgq q hq)), h4.small, h4.base.keep (ob b (by omega)), (ob r (by omega)).trans h4.map, h4.ent, h4.v0, h4.v1, h4.gb, h4.gr, h4.br, h4.kg⟩⟩
end
open Go.RowKit
def vdA (c v k f n : Int) : Array Value := #[.int .i64 c, .int .u32 v, .int .i64 k, .int .i64 f, .int .i64 n]
theorem k8 (w : World) : (zeroValue 47).run Tryz.prog w = .ok (.agg #[.int .i64 0, .int .u32 0, .int .i64 0, .int .i64 0, .int .i64 0]) w := by kernel_rfl
theorem ya : (Tryz.prog.info? 47).map (·.size) = some 5 := by kernel_rfl
theorem qo3 {t : ByteArray} (h : Yb t = 0) : QW t = .nilIface ∧ 192 ≤ t.size := by
 unfold Yb at h
 unfold QW
 by_cases h1 : t.size < 192
 · rw [if_pos h1] at h; exact absurd h (by decide)
 rw [if_neg h1] at h ⊢
 by_cases h2 : t.extract 0 8 = yq
 case neg => rw [if_neg h2] at h; exact absurd h (by decide)
 rw [if_pos h2] at h ⊢
 by_cases h3 : bytesOf (t.extract 17 64) = QX
 case neg => rw [if_neg h3] at h; exact absurd h (by decide)
 rw [if_pos h3] at h ⊢
 by_cases h4 : QK (t.extract 12 16) 4 = t.size - 192
 case neg => rw [if_neg h4] at h; exact absurd h (by decide)
 rw [if_pos h4]
 exact ⟨rfl, by omega⟩
theorem qkL (g : Nat) (T : TypeId) (kv : Value) (ks : List Nat) (v : Int) (b r clock : Nat) (l : List (Nat × Nat)) (t : ByteArray) (hm : t.size ≤ maxLen) (k p s gA : Addr) (w0 w : World) (hL : Ld w g T kv ks v b r l clock)
  (hV : ZF w0 k p s gA) (h0 : zB w0 w) (hb : w0.heap.size ≤ b) (hr : w0.heap.size ≤ r) (hc : Qs ks v t ≠ 0) :
  ∃ Q, (Calls Tryz.prog 51 #[zp g 0, .string t] w fun e w' => e = .returned (.tuple #[.agg jZ, .iface 173 Q]) ∧ jy g T kv ks v b r w w') ∧
   ∀ W, ZF W k p s gA → zC 30 #[.iface 173 Q] W (.int .i64 (Qs ks v t)) := by
 have two : ∀ E, ldE p s gA ks v t = .iface 173 E → Calls Tryz.prog 51 #[zp g 0, .string t] w fun e w' => e = .returned (.tuple #[.agg jZ, qQ YK (.iface 173 E)]) ∧ jy g T kv ks v b r w w' := by
  intro E hE
  unfold ldE at hE
  by_cases h : Yb t = 0
  ·
   rw [if_pos h] at hE
   obtain ⟨h1, h2⟩ := qo3 h
   exact qjY g T kv ks v b r clock l t hm h1 h2 k p s gA w0 w hL hV h0 hb hr E hE
  ·
   rw [if_neg h] at hE
   exact qjC g T kv ks v b r clock l t hm E hE w hL
 rcases qij p s gA ks v t with ⟨x, c, h1, h2, h3⟩ | ⟨x, a, h1, h2⟩ | ⟨_, _, _, h⟩
 ·
  refine ⟨_, two _ h1, fun W hW => ?_⟩
  rw [h2]
  exact qiX YK x c h3 W hW.sen.hE
 ·
  refine ⟨_, two _ h1, fun W hW => ?_⟩
  have hS := hW.sen
  rcases h2 with ⟨rfl, h2⟩ | ⟨rfl, h2⟩ | ⟨rfl, h2⟩
  ·
   have e := qcy YK x a W k a s gA hS hS.fp.b
   rw [show QC k a s a = 2 by unfold QC; rw [if_neg hS.kp, if_pos rfl]] at e
   rw [h2]; exact e
  ·
   have e := qcy YK x a W k p a gA hS hS.fs.b
   rw [show QC k p a a = 3 by unfold QC; rw [if_neg hS.ks, if_neg hS.ps, if_pos rfl]] at e
   rw [h2]; exact e
  ·
   have e := qcy YK x a W k p s a hS hS.fg.b
   rw [show QC k p s a = 4 by unfold QC; rw [if_neg hS.gk, if_neg hS.gp, if_neg hS.gs]] at e
   rw [h2]; exact e
 · exact absurd h hc
section
attribute [local irreducible] qb nL pA qP jb pL bA bL qX Qh jg jx jh Jq JC QG ZM Qi Js jZ
theorem qqL (g : Nat) (T : TypeId) (kv : Value) (ks : List Nat) (v : Int) (b r clock : Nat) (l : List (Nat × Nat)) (t : ByteArray) (hm : t.size ≤ maxLen) (k p s gA : Addr) (w0 w : World) (hL : Ld w g T kv ks v b r l clock)
  (hV : ZF w0 k p s gA) (h0 : zB w0 w) (hb : w0.heap.size ≤ b) (hr : w0.heap.size ≤ r) (c : Int) (hc : Qs ks v t = c) (hc0 : c ≠ 0) :
  Calls Tryz.prog 22 #[zp g 0, .string t] w fun e w' => e = .returned (.agg (vdA c 0 0 0 0)) ∧ jy g T kv ks v b r w w' := by
 have hz := k8
 have hzi := qbG
 have l0 := h0.size
 obtain ⟨W0, hW0⟩ := zy (w.alloc (.cells #[.int .i64 0, .int .u32 0, .int .i64 0, .int .i64 0, .int .i64 0] 47))
 have B0 : zB w W0 := by rw [hW0]; exact (zJ _ _).alloc (zm _) _
 have R0 : Hid (qi W0 w.heap.size #[.int .i64 0, .int .u32 0, .int .i64 0, .int .i64 0, .int .i64 0] 47) := by rw [hW0]; exact za _ _
 obtain ⟨Q, h1, h2⟩ := qkL g T kv ks v b r clock l t hm k p s gA w0 W0 (hL.below B0) hV (h0.trans (B0.mono l0)) hb hr (by rw [hc]; exact hc0)
 rw [hc] at h2
 rw [hW0] at h1
 have H1 := qa h1
 have H2 := qa h2
 have HL := qa hL
 have HV := qa hV
 have H0 := qa h0
 have HB0 := qa B0
 have lb := hL.base.lt
 have lr := qh hL.map
 clear hm hL hV h0 hc h1 h2 B0
 go_enter Tryz.func22, Tryz.ntmps22
 go_wp2_with fail
 refine H1.o.mono ?_
 rintro e W1 ⟨rfl, hX⟩
 rw [← hW0] at hX
 have X1 := qa ((jy.of HL.o HB0.o).trans hX)
 have R1 : Hid (qi W1 w.heap.size #[.int .i64 0, .int .u32 0, .int .i64 0, .int .i64 0, .int .i64 0] 47) := (hX.1.block _ (qh R0.o) (by omega) (by omega)).trans R0.o
 clear hX H1 R0 HB0
 go_upto_region 2 with (first
  | (refine qB 114 (.tmp 5) (.tmp 13) W1.heap.size jZ (za _ _) (by rw [ZW, yT]) rfl qcj ?_))
 try rw [qH]
 have l1 := qh R1.o
 have ls := X1.o.1.size
 generalize hW2 : World.setRow _ _ _ = W2
 have K2 : zB W1 W2 := by rw [← hW2]; exact ze ((zJ _ _).alloc (zm _) _) (zm _) _
 have X2 := qa (X1.o.below K2)
 have R2 : Hid (qi W2 w.heap.size #[.int .i64 0, .int .u32 0, .int .i64 0, .int .i64 0, .int .i64 0] 47) := (K2.block _ l1).trans R1.o
 clear hW2 K2 X1 R1 hW0 l1
 have E2 := qa (HV.o.below (H0.o.trans (X2.o.1.below hb hr l0)))
 go_wp2_with fail
 refine (H2.o W2 E2.o).mono ?_
 rintro e W3 ⟨rfl, hB⟩
 have X3 := qa (X2.o.below hB)
 have R3 : Hid (qi W3 w.heap.size #[.int .i64 0, .int .u32 0, .int .i64 0, .int .i64 0, .int .i64 0] 47) := qk R2.o hB
 clear hB X2 R2 H2 E2
 go_wp2_with (first
  | (refine qB 47 (.tmp 4) (.tmp 19) w.heap.size #[.int .i64 c, .int .u32 0, .int .i64 0, .int .i64 0, .int .i64 0] R3.o (by rw [ya]; rfl) rfl (by simp [Value.oneCell']) ?_))
 refine zh (v := .agg #[.int .i64 c, .int .u32 0, .int .i64 0, .int .i64 0, .int .i64 0]) (results_cell_row Tryz.results22 _ _ (w.heap.size) 47 _ (0, 0) _ (by rfl) (zd _ _ _ _ _ _ R3.o) Tryz.underlying47 rfl (by rw [ya]; rfl)) rfl ⟨rfl, jy.set HL.o X3.o (zm _) _⟩
theorem yS.set {g : Nat} {T : TypeId} {kv : Value} {ks : List Nat} {v u : Int} {b r : Nat} {w w' : World} {l : List (Nat × Nat)} {c : Nat} (h0 : Ld w g T kv ks v b r l c) (h : yS g T kv ks u b r w w') {q : Nat} (hq : w.heap.size ≤ q) (cs : Array Value) : yS g T kv ks u b r w (w'.setRow q cs) := by
 obtain ⟨h1, l', c', h2⟩ := h
 have lb := h0.base.lt
 have lr := qh h0.map
 have lg := qh h0.row
 have ob : ∀ k, k < w.heap.size → (w'.setRow q cs).heap[k]? = w'.heap[k]? := fun k hk => zc _ _ _ _ (by omega)
 have hs : (w'.setRow q cs).heap.size = w'.heap.size := by simp [World.setRow]
 have kgq : ∀ x, kv.ownBlock = some x → x < w.heap.size := by
  intro x hx
  rcases h0.keys with ⟨rfl, _⟩ | ⟨q', cap, rfl, _, _, hlt, _⟩
  · cases hx
  ·
   have e : q' = x := by simpa [Value.ownBlock] using hx
   omega
 exact ⟨⟨h1.os, h1.tape, h1.output, by have := h1.size; omega, fun k hk a1 a2 a3 => (ob k hk).trans (h1.block k hk a1 a2 a3)⟩, l', c', ⟨(ob g lg).trans h2.row, h2.keys.kept (by omega) (fun x hx => ob x (kgq x hx)), h2.small, h2.base.keep (ob b lb), (ob r lr).trans h2.map, h2.ent, h2.v0, h2.v1, h2.gb, h2.gr, h2.br, h2.kg⟩⟩
theorem qnv (g : Nat) (T : TypeId) (kv : Value) (ks : List Nat) (v : Int) (b r clock : Nat) (l : List (Nat × Nat)) (t : ByteArray) (hm : t.size ≤ maxLen) (k p s gA : Addr) (w0 w : World) (hL : Ld w g T kv ks v b r l clock)
  (hV : ZF w0 k p s gA) (h0 : zB w0 w) (hb : w0.heap.size ≤ b) (hr : w0.heap.size ≤ r) (hc : Qs ks v t = 0) (n : Nat) (i : Int) (z : Nat) (en : QV t = n) (ei : j8 t = i) (ez : (ZE t).size = z) :
  Calls Tryz.prog 22 #[zp g 0, .string t] w fun e w' => e = .returned (.agg (vdA 0 n i 192 z)) ∧ yS g T kv ks n b r w w' := by
 have hz := k8
 have hzi := qbG
 have l0 := h0.size
 obtain ⟨W0, hW0⟩ := zy (w.alloc (.cells #[.int .i64 0, .int .u32 0, .int .i64 0, .int .i64 0, .int .i64 0] 47))
 have B0 : zB w W0 := by rw [hW0]; exact (zJ _ _).alloc (zm _) _
 have R0 : Hid (qi W0 w.heap.size #[.int .i64 0, .int .u32 0, .int .i64 0, .int .i64 0, .int .i64 0] 47) := by rw [hW0]; exact za _ _
 obtain ⟨e1, e2, e3⟩ : QW t = .nilIface ∧ 192 ≤ t.size ∧ JQ p s gA ks v t = .nilIface := by
  rcases qij p s gA ks v t with ⟨x, c, _, h2, h3⟩ | ⟨x, a, _, h2⟩ | ⟨h1, h2, h3, _⟩
  · exact absurd (h2.symm.trans hc) h3
  · rcases h2 with ⟨_, h2⟩ | ⟨_, h2⟩ | ⟨_, h2⟩ <;> exact absurd (h2.symm.trans hc) (by decide)
  · exact ⟨h1, h2, h3⟩
 obtain ⟨I, EI⟩ := zx (Yo t)
 have h1 := qj3 g T kv ks v b r clock l t hm e1 e2 k p s gA w0 W0 (hL.below B0) hV (h0.trans (B0.mono l0)) hb hr e3 I EI.o
 rw [en] at h1
 have HIs : Hid (I.size = 132) := by show _ = _; rw [EI.o]; exact qbZ _ _ _ _ _ _ (by unfold Jz; rw [jY, QS _ _ _ (by omega)]) (by unfold Jc; rw [jY, QS _ _ _ (by omega)])
 have HIa : Hid (I.all (·.oneCell') = true) := by show _ = _; rw [EI.o]; exact qcg _ _ _ _ _ _
 have HI0 : Hid (I[0]? = some (.int .u32 n)) := by show _ = _; rw [EI.o, ← en]; unfold Yo Qi Js; rfl
 have HI1 : Hid (I[1]? = some (.int .i64 i)) := by show _ = _; rw [EI.o, ← ei]; unfold Yo Qi Js; rfl
 obtain ⟨P, EP⟩ := zx (ZE t)
 have HI2 : Hid (I[2]? = some (.string P)) := by show _ = _; rw [EI.o, EP.o]; unfold Yo Qi Js; rfl
 have hPz : P.size = z := by rw [EP.o]; exact ez
 rw [hW0] at h1
 have H1 := qa h1
 have HL := qa hL
 have HB0 := qa B0
 have lb := hL.base.lt
 have lr := qh hL.map
 have lg := qh hL.row
 clear hm hL hV h0 hc h1 B0 e1 e2 e3 en ei ez
 go_enter Tryz.func22, Tryz.ntmps22
 go_wp2_with fail
 refine H1.o.mono ?_
 rintro e W1 ⟨rfl, hX⟩
 rw [← hW0] at hX
 have X1 : Hid (yS g T kv ks n b r w W1) := ⟨(Zs.ofB HB0.o).trans hX.1, hX.2⟩
 have R1 : Hid (qi W1 w.heap.size #[.int .i64 0, .int .u32 0, .int .i64 0, .int .i64 0, .int .i64 0] 47) := (hX.1.block _ (qh R0.o) (by omega) (by omega) (by omega)).trans R0.o
 clear hX H1 R0 HB0
 go_upto_region 2 with (first
  | (refine qB 114 (.tmp 5) (.tmp 13) W1.heap.size I (za _ _) (by rw [ZW, HIs.o]) (by rw [yT, HIs.o]) HIa.o ?_))
 try rw [qH]
 have l1 := qh R1.o
 have ls := X1.o.1.size
 generalize hW2 : World.setRow _ _ _ = W2
 have K2 : zB W1 W2 := by rw [← hW2]; exact ze ((zJ _ _).alloc (zm _) _) (zm _) _
 obtain ⟨g5, hg5⟩ := zy W1.heap.size
 have R5 : Hid (qi W2 g5 I 114) := by rw [← hW2, hg5]; exact zd _ _ _ _ _ _ (za _ _)
 have X2 := qa (X1.o.below K2)
 have R2 : Hid (qi W2 w.heap.size #[.int .i64 0, .int .u32 0, .int .i64 0, .int .i64 0, .int .i64 0] 47) := (K2.block _ l1).trans R1.o
 rw [← hg5]
 clear hW2 K2 X1 R1 hW0 l1 hg5
 have C0 : W2.cell? ⟨g5, 0, none⟩ = some (.int .u32 n) := by rw [zj W2 _ 0 _ _ _ R5.o]; exact HI0.o
 have C1 : W2.cell? ⟨g5, 1, none⟩ = some (.int .i64 i) := by rw [zj W2 _ 1 _ _ _ R5.o]; exact HI1.o
 have C2 : W2.cell? ⟨g5, 2, none⟩ = some (.string P) := by rw [zj W2 _ 2 _ _ _ R5.o]; exact HI2.o
 subst hPz
 go_wp2_with (first
  | (refine qB 47 (.tmp 4) (.tmp 27) w.heap.size #[.int .i64 0, .int .u32 n, .int .i64 i, .int .i64 192, .int .i64 P.size] R2.o (by rw [ya]; rfl) rfl (by simp [Value.oneCell']) ?_))
 refine zh (v := .agg #[.int .i64 0, .int .u32 n, .int .i64 i, .int .i64 192, .int .i64 P.size]) (results_cell_row Tryz.results22 _ _ (w.heap.size) 47 _ (0, 0) _ (by rfl) (zd _ _ _ _ _ _ R2.o) Tryz.underlying47 rfl (by rw [ya]; rfl)) rfl ⟨rfl, yS.set HL.o X2.o (zm _) _⟩
end
end Go.Proofs.YtccgfabojbjmjaaGreatDoor
