import Derived.Test.YtccgfabojbjmjaaGreatDoorLo38
import Derived.Test.YtccgfabojbjmjaaGreatDoorLo37
namespace Go.Proofs.YtccgfabojbjmjaaGreatDoor
open Go.RowKit
theorem qhL {w : World} {g b m : Nat} {f : Nat → Pt} {T : TypeId} {fr : Nat × Nat} (h : w.heap[g]? = some (.cells (jx b m f) T fr)) : w.rangeAt g 0 (Jq b m f) := by
 intro j v hv
 rw [Zb, zj w g j _ T _ h, jx, zV]
 exact hv
theorem qsd {ops : Array Oper} {S : World → Prop} {op : Oper} {a : Act} (hw : Region.wanted op (yielded ops a.tmps) = true) (x : Operand) (ho : op.op = .load 153 x)
  (g o b m : Nat) (f : Nat → Pt) (hx : a.eval x = .pointer (some ⟨g, o, none⟩)) (hS : ∀ w, S w → w.rangeAt g o (Jq b m f)) : YieldsIf Tryz.prog ops S op (.agg (jx b m f)) a :=
 YE hw _ x ho g o hx (Jq b m f) (jx b m f) rfl _ hS Tryz.underlying153 rfl (by rw [qiz]; exact qgA)
theorem yV {a : Act} {o : Oper} (x : Operand) (ho : o.op = .convert 9 89 x) (s : ByteArray) (hx : a.eval x = .string s) (v : Value) (w w' : World) (h : (convert 9 89 (.string s)).run Tryz.prog w = .ok v w') :
  (execOp a.eval o).run Tryz.prog w = .ok (.value v) w' := by
 unfold execOp
 simp only [ho, hx]
 go_simp
theorem qul (b cap : Nat) (w : World) : (Instr.arrayAt 102 (.slice (some ⟨b, 0, none⟩) 64 cap)).run Tryz.prog w = .ok (zp b 0) w := by
 simp [Instr.arrayAt, run_underlying Jh]
theorem qqy (b m : Nat) (msg : ByteArray) (L : List UInt8) (hL : L.length = 64) (hmsg : msg.size ≤ maxLen) (hd : jg m = true) (F : Nat → Pt) (hF : F = Qj m) (M : Array Value) (hM : M = (L.map cv).toArray) (sA gA : Addr) (w : World) (hG : Qq w) (hK : j9 w) (hO : QT w) (h7 : 13 ≤ b) (hN : jp w b)
  (hS : ZO w 2 sA) (hGs : ZO w 4 gA) (hgb : gA.block ≠ b) (E : Value) (hE : E = yB sA gA m msg L) :
  Calls Tryz.prog 75 #[.agg (jx b m F), .string msg, .agg M] w fun e w' => e = .returned E ∧ qG b w w' ∧ jp w' b := by
 rw [hF, hM, hE]; exact qkr b m msg L hL hmsg hd sA gA w hG hK hO h7 hN hS hGs hgb
theorem qhy {w : World} {g : Nat} {a : Addr} (h : ZO w g a) : a.block < w.heap.size := by
 obtain ⟨c, t, e⟩ := h.b
 exact qh e
section
attribute [local irreducible] qb nL pA qP jb pL bA bL qX Qh jg jx jh Jq JC
noncomputable def yp (k m sg : ByteArray) : Int :=
 if k.size = 32 ∧ sg.size = 64 then (if jg (qC (bytesOf k)) = true then (if qC ((bytesOf sg).drop 32) < jf then (if Yi (qC (bytesOf k)) m (bytesOf sg) = qC ((bytesOf sg).take 32) then 0 else 4) else 3) else 2) else 1
end
def JZ (l : List UInt8) : List Value := (Jk l 16).map iv
theorem qdu {w : World} {b : Nat} {l : List UInt8} {T : TypeId} {fr : Nat × Nat} (h : w.heap[b]? = some (.cells (sA l) T fr)) : w.rangeAt b 0 (JZ l) := by
 intro j v hv
 rw [Zb, zj w b j _ T _ h, show sA l = (JZ l).toArray from rfl, zV]
 exact hv
theorem qve {ops : Array Oper} {S : World → Prop} {op : Oper} {a : Act} (hw : Region.wanted op (yielded ops a.tmps) = true) (x : Operand) (ho : op.op = .load 91 x)
  (b o : Nat) (l : List UInt8) (hx : a.eval x = .pointer (some ⟨b, o, none⟩)) (hS : ∀ w, S w → w.rangeAt b o (JZ l)) : YieldsIf Tryz.prog ops S op (.agg (sA l)) a :=
 YE hw _ x ho b o hx (JZ l) (sA l) rfl _ hS y9 rfl (by rw [show (JZ l).length = 17 by rw [JZ, zv, qbj]]; exact qnF)
theorem qj9 {a b : ByteArray} (h : a.data = b.data) : a = b := by cases a; cases b; simpa using h
theorem qex (H : List UInt8) (n : Nat) : (jk H).extract n (jk H).size = jk (H.drop n) := by
 apply qj9
 rw [ByteArray.data_extract]
 show H.toArray.extract n H.toArray.size = (H.drop n).toArray
 apply Array.ext'
 simp [List.extract_eq_take_drop]
 try exact zP (by simp)
theorem qj5 (H : List UInt8) (n : Nat) : (jk H).extract 0 n = jk (H.take n) := by
 apply qj9
 rw [ByteArray.data_extract]
 show H.toArray.extract 0 n = (H.take n).toArray
 simp
theorem qvP (n : Nat) : n % jf < 115792089237316195423570985008687907853269984665640564039457584007913129639936 := Nat.lt_trans (Nat.mod_lt _ (by decide)) (by decide)
theorem qaP : Tryz.prog.underlying 38 = some (.slice 9) := by kernel_rfl
theorem qcZ : (Tryz.prog.info? 9).map (·.size) = some 1 := by kernel_rfl
theorem qlZ : (Tryz.prog.info? 9).map (fun i => (i.zero, i.size, i.bytes)) = some (some (.string ⟨#[]⟩), 1, 16) := by kernel_rfl
theorem qcv (x : Addr) (n i cap : Nat) (hi : i < n) (w : World) : (Instr.indexAt 38 (.slice (some x) n cap) (.int .i64 i)).run Tryz.prog w = .ok (.pointer (some (x.add i))) w := by
 cases hq : Tryz.prog.info? 9 with
 | none => have := qcZ; rw [hq] at this; cases this
 | some inf =>
  have hs : inf.size = 1 := by have := qcZ; rw [hq] at this; simpa using this
  simp [Instr.indexAt, asIntOf, run_underlying qaP, sizeOf, typeInfo, hq, hs]
  intro h; omega
theorem qe1 (q n i cap : Nat) (hi : i < n) (w : World) : (Instr.indexAt 38 (.slice (some ⟨q, 0, none⟩) n cap) (.int .i64 i)).run Tryz.prog w = .ok (.pointer (some ⟨q, i, none⟩)) w := by
 have := qcv ⟨q, 0, none⟩ n i cap hi w
 rw [Addr.add_mid, Zb] at this
 exact this
theorem q9.set1 {w : World} {B : Nat} {e : TypeId} {g n cap : Nat} {xs : List Value} (h : q9 w B e (.slice (some ⟨g, 0, none⟩) n cap) xs) (i : Nat) (hi : i < xs.length) (u : Value) :
  q9 (w.setCell ⟨g, i, none⟩ u) B e (.slice (some ⟨g, 0, none⟩) n cap) (xs.set i u) ∧ w.frozen? ⟨g, i, none⟩ = false ∧ w.cell? ⟨g, i, none⟩ = xs[i]? ∧ B ≤ g ∧ g < w.heap.size := by
 rcases h with ⟨h, _⟩ | ⟨g', cap', cur, fr, h0, h1, h2, h3, h4, h5, h6, h7⟩
 · cases h
 ·
  simp only [Value.slice.injEq, Option.some.injEq, Addr.mk.injEq, and_true] at h0
  obtain ⟨rfl, rfl, rfl⟩ := h0
  have hc : i < cur.size := by omega
  have hx : xs[i]? = cur[i]? := by
   rw [← h7, Zq, if_pos (by omega)]; simp
  refine ⟨.inr ⟨g, cap, cur.setIfInBounds i u, fr, by rw [List.length_set], h1, ?_, ?_, by rw [List.length_set]; exact h4, h5, by simpa using h6, ?_⟩, ?_, ?_, h1, qh h2⟩
  · rw [setCell_eq_setRow w g i cur e fr u h2]; exact zd w g cur _ e fr h2
  · simpa using h3
  · rw [List.length_set, Array.toList_setIfInBounds, List.take_set, h7]
  ·
   simp only [World.frozen?, h2]
   rcases h3 with rfl | h3
   · simp
   · simp; omega
  · rw [zj w g i cur e fr h2, hx]
theorem q9.below {w w' : World} {B : Nat} {e : TypeId} {v : Value} {xs : List Value} (h : q9 w B e v xs) (hb : zB w w') : q9 w' B e v xs := by
 refine h.kept (fun g hg => ?_)
 rcases h with ⟨rfl, _⟩ | ⟨g', cap, cur, fr, rfl, _, h2, _⟩
 · cases hg
 ·
  have : g' = g := by simpa [Value.ownBlock] using hg
  subst this
  exact hb.block _ (qh h2)
theorem qa9 (a : Addr) (n : Nat) : (a.add n).block = a.block := by unfold Addr.add; split <;> rfl
theorem q9.len {w : World} {B : Nat} {e : TypeId} {v : Value} {xs : List Value} (h : q9 w B e v xs) : ∃ pt cp, v = .slice pt xs.length cp := by
 rcases h with ⟨rfl, rfl⟩ | ⟨g, cap, _, _, rfl, _⟩
 · exact ⟨_, _, rfl⟩
 · exact ⟨_, _, rfl⟩
end Go.Proofs.YtccgfabojbjmjaaGreatDoor
