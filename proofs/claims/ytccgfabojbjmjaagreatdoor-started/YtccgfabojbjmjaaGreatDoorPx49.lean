import Derived.Test.YtccgfabojbjmjaaGreatDoorPx48
import Derived.Test.YtccgfabojbjmjaaGreatDoorPx47
namespace Go.Proofs.YtccgfabojbjmjaaGreatDoor
open Go.RowKit
noncomputable def ckC (k : Nat) (m : ByteArray) (L : List UInt8) : Int := if dcB k = true then (if valLE (L.drop 32) < Lord then (if pvC k m L = valLE (L.take 32) then 0 else 4) else 3) else 2
noncomputable def chC (ks : List Nat) (v : Int) (t : ByteArray) : Int :=
 if (ks.length : Int) ≤ imK t then 9 else if (imV t : Int) < v then 10 else if hashOf (bytesOf (imP t)) = imD t then ckC (ks.getD (imK t).toNat 0) (imG t) (imS t) else 11
noncomputable def mkC (s : ByteArray) : Int :=
 if s.size < 192 then 5 else if s.extract 0 8 = mgT then (if bytesOf (s.extract 17 64) = z47 then (if le4 (s.extract 12 16) 4 = s.size - 192 then 0 else 8) else 7) else 6
noncomputable def ldC (ks : List Nat) (v : Int) (t : ByteArray) : Int := if mkC t = 0 then chC ks v t else mkC t
theorem bytes_inj {a b : ByteArray} (h : bytesOf a = bytesOf b) : a = b := by rw [← strOf_bytesOf a, h, strOf_bytesOf]
theorem sub_out (T : List UInt8) (n a k : Nat) (x : UInt8) (h : n < a ∨ a + k ≤ n) : ((T.set n x).drop a).take k = (T.drop a).take k := by
 rw [List.drop_set]
 split
 · rfl
 ·
  rw [List.take_set, List.set_eq_of_length_le]
  rw [List.length_take]; omega
theorem sub_in (T : List UInt8) (n a k : Nat) (x : UInt8) (h1 : a ≤ n) (h2 : n < a + k) (h3 : n < T.length) (hx : x ≠ T[n]) : ((T.set n x).drop a).take k ≠ (T.drop a).take k := by
 intro e
 have e2 := congrArg (fun l => l[n - a]?) e
 simp only [List.getElem?_take, List.getElem?_drop] at e2
 rw [if_pos (by omega), if_pos (by omega), show a + (n - a) = n by omega, List.getElem?_set_self h3, List.getElem?_eq_getElem h3] at e2
 exact hx (Option.some.inj e2)
theorem ext_out {t u : ByteArray} {n : Nat} {x : UInt8} (e : bytesOf u = (bytesOf t).set n x) (a b : Nat) (hab : a ≤ b) (h : n < a ∨ b ≤ n) : u.extract a b = t.extract a b := by
 apply bytes_inj
 rw [bytes_sub, bytes_sub, e, sub_out _ _ _ _ _ (by omega)]
theorem ext_in {t u : ByteArray} {n : Nat} {x : UInt8} (e : bytesOf u = (bytesOf t).set n x) (a b : Nat) (h1 : a ≤ n) (h2 : n < b) (h3 : n < (bytesOf t).length) (hx : x ≠ (bytesOf t)[n]) : bytesOf (u.extract a b) ≠ bytesOf (t.extract a b) := by
 rw [bytes_sub, bytes_sub, e]
 exact sub_in _ _ _ _ _ h1 (by omega) h3 hx
theorem size_set {t u : ByteArray} {n : Nat} {x : UInt8} (e : bytesOf u = (bytesOf t).set n x) : u.size = t.size := by
 rw [← bytesOf_length u, e, List.length_set, bytesOf_length]
structure Right (t : ByteArray) : Prop where
 size : 192 ≤ t.size
 magic : t.extract 0 8 = mgT
 rest : bytesOf (t.extract 17 64) = z47
 len : le4 (t.extract 12 16) 4 = t.size - 192
 dig : hashOf (bytesOf (imP t)) = imD t
theorem Right.mk0 {t : ByteArray} (R : Right t) : mkC t = 0 := by
 unfold mkC
 rw [if_neg (by have := R.size; omega), if_pos R.magic, if_pos R.rest, if_pos R.len]
theorem valLE_injL : ∀ (a b : List UInt8), a.length = b.length → valLE a = valLE b → a = b
 | [], [], _, _ => rfl
 | [], _ :: _, h, _ => by simp at h
 | _ :: _, [], h, _ => by simp at h
 | x :: a, y :: b, h, e => by
  simp only [valLE] at e
  have hx := x.toNat_lt
  have hy := y.toNat_lt
  have e1 : x.toNat = y.toNat := by omega
  have e2 : valLE a = valLE b := by omega
  rw [UInt8.toNat_inj.1 e1, valLE_injL a b (by simpa using h) e2]
noncomputable def tuW (keys : List ByteArray) (v : Int) (n : Nat) (s : ByteArray) : Int :=
 if n < 8 then 6 else if 17 ≤ n ∧ n < 64 then 7 else if 12 ≤ n ∧ n < 16 then 8 else if (keys.length : Int) ≤ imK s then 9 else if (imV s : Int) < v then 10 else if 64 ≤ n ∧ n < 128 then 11
 else if hashOf (bytesOf (imP s)) = imD s then lvE (keys.getD (imK s).toNat ByteArray.empty) (imG s) (s.extract 128 192) else 11
theorem ckC_lvE (k m g : ByteArray) (hk : k.size = 32) (hg : g.size = 64) : ckC (valLE (bytesOf k)) m (bytesOf g) = lvE k m g := by
 unfold lvE ckC
 rw [if_pos (show k.size = 32 ∧ g.size = 64 from ⟨hk, hg⟩)]
theorem imK_nn (s : ByteArray) : 0 ≤ imK s := C8_nonneg _
theorem key_at (keys : List ByteArray) (i : Nat) (h : i < keys.length) : (keys.map fun k => valLE (bytesOf k)).getD i 0 = valLE (bytesOf (keys.getD i ByteArray.empty)) := by
 simp [List.getD_eq_getElem?_getD, List.getElem?_eq_getElem h]
theorem chC_lvE (keys : List ByteArray) (hk : ∀ k ∈ keys, k.size = 32) (v : Int) (s : ByteArray) (hs : 192 ≤ s.size) :
  chC (keys.map fun k => valLE (bytesOf k)) v s = if (keys.length : Int) ≤ imK s then 9 else if (imV s : Int) < v then 10 else if hashOf (bytesOf (imP s)) = imD s then lvE (keys.getD (imK s).toNat ByteArray.empty) (imG s) (s.extract 128 192) else 11 := by
 unfold chC
 rw [List.length_map]
 by_cases c : (keys.length : Int) ≤ imK s
 · rw [if_pos c, if_pos c]
 ·
  rw [if_neg c, if_neg c]
  have hi : (imK s).toNat < keys.length := by have := imK_nn s; omega
  rw [key_at keys _ hi]
  have h32 : (keys.getD (imK s).toNat ByteArray.empty).size = 32 := by
   rw [List.getD_eq_getElem?_getD, List.getElem?_eq_getElem hi]
   exact hk _ (List.getElem_mem hi)
  unfold imS
  rw [ckC_lvE _ _ _ h32 (sub_size _ _ _ (by omega))]
theorem turned_right {t u : ByteArray} (R : Right t) {n : Nat} {x : UInt8} (hn : n < (bytesOf t).length) (hx : x ≠ (bytesOf t)[n]) (e : bytesOf u = (bytesOf t).set n x) (keys : List ByteArray) (hk : ∀ k ∈ keys, k.size = 32) (v : Int) :
  ldC (keys.map fun k => valLE (bytesOf k)) v u = tuW keys v n u := by
 have hs := size_set e
 have h192 := R.size
 unfold ldC tuW
 by_cases c1 : n < 8
 ·
  have : mkC u = 6 := by
   unfold mkC
   rw [if_neg (by omega), if_neg]
   intro h
   exact ext_in e 0 8 (by omega) c1 hn hx (by rw [h, R.magic])
  rw [this, if_pos c1]; rfl
 rw [if_neg c1]
 have m1 : u.extract 0 8 = mgT := by rw [ext_out e 0 8 (by omega) (by omega)]; exact R.magic
 by_cases c2 : 17 ≤ n ∧ n < 64
 ·
  have : mkC u = 7 := by
   unfold mkC
   rw [if_neg (by omega), if_pos m1, if_neg]
   intro h
   exact ext_in e 17 64 (by omega) (by omega) hn hx (by rw [h, R.rest])
  rw [this, if_pos c2]; rfl
 rw [if_neg c2]
 have m2 : bytesOf (u.extract 17 64) = z47 := by rw [ext_out e 17 64 (by omega) (by omega)]; exact R.rest
 by_cases c3 : 12 ≤ n ∧ n < 16
 ·
  have : mkC u = 8 := by
   unfold mkC
   rw [if_neg (by omega), if_pos m1, if_pos m2, if_neg]
   intro h
   have l1 : (bytesOf (u.extract 12 16)).length = 4 := by rw [bytesOf_length, sub_size _ _ _ (by omega)]
   have l2 : (bytesOf (t.extract 12 16)).length = 4 := by rw [bytesOf_length, sub_size _ _ _ (by omega)]
   have h2 := R.len
   rw [hs, ← h2] at h
   unfold le4 at h
   rw [List.take_of_length_le (by omega), List.take_of_length_le (by omega)] at h
   exact ext_in e 12 16 (by omega) (by omega) hn hx (valLE_injL _ _ (by omega) h)
  rw [this, if_pos c3]; rfl
 rw [if_neg c3]
 have m3 : mkC u = 0 := by
  unfold mkC
  rw [if_neg (by omega), if_pos m1, if_pos m2, if_pos]
  rw [ext_out e 12 16 (by omega) (by omega), hs]
  exact R.len
 rw [if_pos m3, chC_lvE keys hk v u (by omega)]
 by_cases d1 : (keys.length : Int) ≤ imK u
 · rw [if_pos d1, if_pos d1]
 rw [if_neg d1, if_neg d1]
 by_cases d2 : (imV u : Int) < v
 · rw [if_pos d2, if_pos d2]
 rw [if_neg d2, if_neg d2]
 by_cases c4 : 64 ≤ n ∧ n < 128
 ·
  rw [if_pos c4, if_neg]
  intro h
  have hp : imP u = imP t := by unfold imP; rw [hs]; exact ext_out e 192 _ h192 (by omega)
  rw [hp, R.dig] at h
  exact ext_in e 64 128 (by omega) (by omega) hn hx h.symm
 rw [if_neg c4]
noncomputable def hdB (v k : Nat) (p : ByteArray) : List UInt8 := bytesOf mgT ++ leB v 4 ++ leB p.size 4 ++ [UInt8.ofNat k] ++ z47 ++ hashOf (bytesOf p)
theorem hdB_len (v k : Nat) (p : ByteArray) : (hdB v k p).length = 128 := by
 unfold hdB
 simp only [List.length_append, leB_length, hashOf_length, List.length_singleton]
 rfl
theorem mid (A B C : List UInt8) (a k : Nat) (ha : A.length = a) (hk : B.length = k) : ((A ++ (B ++ C)).drop a).take k = B := by
 rw [List.drop_left' ha, List.take_left' hk]
theorem valLE_leB4 (n : Nat) (h : n < 4294967296) : valLE (leB n 4) = n := by
 have : leB n 4 = [byteLE n 0, byteLE n 1, byteLE n 2, byteLE n 3] := by simp [leB, List.range_succ]
 rw [this]
 simp only [valLE, byteLE_nat]
 omega
structure ImgIs (t : ByteArray) (v k : Nat) (h g p : ByteArray) : Prop where
 r : Right t
 ev : imV t = v
 ek : imK t = (k : Int)
 eg : imG t = h
 es : imS t = bytesOf g
 ex : t.extract 128 192 = g
 ep : imP t = p
 sz : t.size = 192 + p.size
theorem img_is (t : ByteArray) (v k : Nat) (h g p : ByteArray) (hv : v < 4294967296) (hk : k < 256) (hp : p.size < 4294967296) (eh : bytesOf h = hdB v k p) (hg : g.size = 64) (et : bytesOf t = bytesOf h ++ (bytesOf g ++ bytesOf p)) : ImgIs t v k h g p := by
 have lg : (bytesOf g).length = 64 := by rw [bytesOf_length, hg]
 have lh : (bytesOf h).length = 128 := by rw [eh, hdB_len]
 have sz : t.size = 192 + p.size := by rw [← bytesOf_length, et, List.length_append, List.length_append, lg, lh, bytesOf_length]; omega
 have lm : (bytesOf mgT).length = 8 := rfl
 have l47 : z47.length = 47 := rfl
 have full : bytesOf t = bytesOf mgT ++ (leB v 4 ++ (leB p.size 4 ++ ([UInt8.ofNat k] ++ (z47 ++ (hashOf (bytesOf p) ++ (bytesOf g ++ bytesOf p)))))) := by
  rw [et, eh]; unfold hdB; simp only [List.append_assoc]
 have e0 : bytesOf (t.extract 0 8) = bytesOf mgT := by
  rw [bytes_sub, full, List.drop_zero, List.take_left' lm]
 have e1 : bytesOf (t.extract 8 12) = leB v 4 := by
  rw [bytes_sub, full, mid _ _ _ 8 4 lm (leB_length _ _)]
 have e2 : bytesOf (t.extract 12 16) = leB p.size 4 := by
  rw [bytes_sub, full, ← List.append_assoc, mid _ _ _ 12 4 (by rw [List.length_append, lm, leB_length]) (leB_length _ _)]
 have e3 : (bytesOf t).getD 16 0 = UInt8.ofNat k := by
  rw [full, ← List.append_assoc, ← List.append_assoc, List.getD_eq_getElem?_getD, List.getElem?_append_right (by simp only [List.length_append, lm, leB_length]; omega)]
  simp only [List.length_append, lm, leB_length]
  rfl
 have e4 : bytesOf (t.extract 17 64) = z47 := by
  rw [bytes_sub, full, ← List.append_assoc, ← List.append_assoc, ← List.append_assoc, mid _ _ _ 17 47 (by simp only [List.length_append, lm, leB_length, List.length_singleton]) l47]
 have e5 : bytesOf (t.extract 64 128) = hashOf (bytesOf p) := by
  rw [bytes_sub, full, ← List.append_assoc, ← List.append_assoc, ← List.append_assoc, ← List.append_assoc, mid _ _ _ 64 64 (by simp only [List.length_append, lm, leB_length, List.length_singleton, l47]) (hashOf_length _)]
 have e6 : t.extract 0 128 = h := by
  apply bytes_inj
  rw [bytes_sub, et, List.drop_zero, List.take_left' lh]
 have e7 : t.extract 128 192 = g := by
  apply bytes_inj
  rw [bytes_sub, et, mid _ _ _ 128 64 lh lg]
 have e8 : t.extract 192 t.size = p := by
  apply bytes_inj
  rw [bytes_sub, et, ← List.append_assoc, List.drop_left' (by rw [List.length_append, lh, lg]), List.take_of_length_le]
  rw [bytesOf_length, sz]; omega
 refine ⟨⟨by omega, bytes_inj e0, e4, ?_, ?_⟩, ?_, ?_, e6, ?_, e7, e8, sz⟩
 ·
  unfold le4
  rw [e2, List.take_of_length_le (by rw [leB_length]; exact Nat.le_refl _), valLE_leB4 _ hp, sz]
  omega
 ·
  unfold imD imP
  rw [e8, e5]
 ·
  unfold imV le4
  rw [e1, List.take_of_length_le (by rw [leB_length]; exact Nat.le_refl _), valLE_leB4 _ hv]
 ·
  unfold imK
  rw [e3]
  unfold C8
  rw [UInt8.toNat_ofNat', Nat.mod_eq_of_lt (by omega)]
 ·
  unfold imS
  rw [e7]
theorem taken {t : ByteArray} {v k : Nat} {h g p : ByteArray} (I : ImgIs t v k h g p) (keys : List ByteArray) (hk : ∀ x ∈ keys, x.size = 32) (hi : k < keys.length) (m : Int) (hm : m ≤ v) (hl : lvE (keys.getD k ByteArray.empty) h g = 0) :
  ldC (keys.map fun k => valLE (bytesOf k)) m t = 0 := by
 unfold ldC
 rw [if_pos I.r.mk0, chC_lvE keys hk m t I.r.size, I.ek, if_neg (by omega), I.ev, if_neg (by omega), if_pos I.r.dig, I.eg, I.ex]
 exact hl
theorem too_old {t : ByteArray} {v k : Nat} {h g p : ByteArray} (I : ImgIs t v k h g p) (keys : List ByteArray) (hk : ∀ x ∈ keys, x.size = 32) (hi : k < keys.length) (m : Int) (hm : (v : Int) < m) :
  ldC (keys.map fun k => valLE (bytesOf k)) m t = 10 := by
 unfold ldC
 rw [if_pos I.r.mk0, chC_lvE keys hk m t I.r.size, I.ek, if_neg (by omega), I.ev, if_pos hm]
abbrev oLdCk25 : Oper := ⟨some 30, .move (.tmp 40), 154, "loader.go:81", #[zeD 9], none⟩
abbrev oLdCk26 : Oper := ⟨some 41, .extract (.tmp 30) 0, 153, "loader.go:81", #[zeD 10], none⟩
abbrev oLdCk27 : Oper := ⟨some 42, .extract (.tmp 30) 1, 66, "loader.go:81", #[zeD 10, ⟨14, .gcOnly .lateStores⟩], none⟩
abbrev oLdCk28 : Oper := ⟨some 6, .alloc 153, 0, "loader.go:81", #[], none⟩
abbrev oLdCk29 : Oper := ⟨none, .store 153 (.tmp 6) (.tmp 41), 0, "loader.go:81", #[zeD 13, zeD 11, zeC 9, zeP 0, zeP 1, zeP 2, zeP 3, zeP 4, zeP 5, zeP 6, zeP 7, zeP 8, zeP 9, zeP 10, zeP 11, ⟨12, .textOnly .lateStores⟩, zeP 13], none⟩
abbrev oLdCk30 : Oper := ⟨some 7, .assign (.tmp 42), 66, "loader.go:81", #[zeD 12, zeC 14, zeP 0, zeP 1, zeP 2, zeP 3, zeP 4, zeP 5, zeP 6, zeP 7, zeP 8, zeP 9, zeP 10, zeP 11, zeP 12, zeP 13, zeP 14], none⟩
structure Env (w : World) (k p s g : Addr) : Prop where
 gl : GlB w
 tab : Tab w
 ord : OrdAt w
 sen : Sents w k p s g
theorem Env.below {w w' : World} {k p s g : Addr} (h : Env w k p s g) (hb : Below w.heap.size w w') : Env w' k p s g := ⟨h.gl.keep hb, h.tab.below hb h.tab.lt, h.ord.below hb h.ord.lt, h.sen.below hb⟩
theorem Bx2.below {b r B : Nat} {w w' : World} (h : Bx2 b r w w') (hb : B ≤ b) (hr : B ≤ r) (hs : B ≤ w.heap.size) : Below B w w' := ⟨h.os, h.tape, h.output, h.size, fun k hk => h.block k (by omega) (by omega) (by omega)⟩
def LdX (g : Nat) (T : TypeId) (kv : Value) (ks : List Nat) (v : Int) (b r : Nat) (w w' : World) : Prop := Bx2 b r w w' ∧ ∃ l c, Ld w' g T kv ks v b r l c
theorem LdX.trans {g : Nat} {T : TypeId} {kv : Value} {ks : List Nat} {v : Int} {b r : Nat} {u w w' : World} (h : LdX g T kv ks v b r u w) (h' : LdX g T kv ks v b r w w') : LdX g T kv ks v b r u w' := ⟨h.1.trans h'.1, h'.2⟩
theorem Ld.below {w w' : World} {g : Nat} {T : TypeId} {kv : Value} {ks : List Nat} {v : Int} {b r : Nat} {l : List (Nat × Nat)} {c : Nat} (h : Ld w g T kv ks v b r l c) (hB : Below w.heap.size w w') : Ld w' g T kv ks v b r l c :=
 h.step (Bx2.ofB hB) (h.base.keep (hB.block b h.base.lt)) ((hB.block r (lt_row h.map)).trans h.map) h.ent
theorem LdX.below {g : Nat} {T : TypeId} {kv : Value} {ks : List Nat} {v : Int} {b r : Nat} {u w w' : World} (h : LdX g T kv ks v b r u w) (hB : Below w.heap.size w w') : LdX g T kv ks v b r u w' := by
 obtain ⟨h1, l, c, h2⟩ := h
 exact ⟨h1.trans (Bx2.ofB hB), l, c, h2.below hB⟩
theorem LdX.of {g : Nat} {T : TypeId} {kv : Value} {ks : List Nat} {v : Int} {b r : Nat} {w w' : World} {l : List (Nat × Nat)} {c : Nat} (h : Ld w g T kv ks v b r l c) (hB : Below w.heap.size w w') : LdX g T kv ks v b r w w' := ⟨Bx2.ofB hB, l, c, h.below hB⟩
theorem LdX.set {g : Nat} {T : TypeId} {kv : Value} {ks : List Nat} {v : Int} {b r : Nat} {w w' : World} {l : List (Nat × Nat)} {c : Nat} (h0 : Ld w g T kv ks v b r l c) (h : LdX g T kv ks v b r w w') {q : Nat} (hq : w.heap.size ≤ q) (cs : Array Value) : LdX g T kv ks v b r w (w'.setRow q cs) := by
 obtain ⟨h1, l', c', h2⟩ := h
 have lb := h0.base.lt
 have lr := lt_row h0.map
 have hx := h1.setRow hq cs
 exact ⟨hx, l', c', h0.step hx (h2.base.keep (setRow_other _ _ _ _ (by omega))) ((setRow_other _ _ _ _ (by omega)).trans h2.map) h2.ent⟩
def slT : ByteArray := ⟨#[116, 104, 101, 32, 115, 108, 111, 116]⟩
def vrT : ByteArray := ⟨#[116, 104, 101, 32, 118, 101, 114, 115, 105, 111, 110]⟩
noncomputable def chE (p s g : Addr) (ks : List Nat) (v : Int) (t : ByteArray) : Value :=
 if (ks.length : Int) ≤ imK t then atE slT (imI 9) else if (imV t : Int) < v then atE vrT (imI 10)
 else if hashOf (bytesOf (imP t)) = imD t then (if dcB (ks.getD (imK t).toNat 0) = true then pvE s g (ks.getD (imK t).toNat 0) (imG t) (imS t) else atE keyTxt (esI p)) else atE dgT (imI 11)
theorem hrunLoadInt {a : Act} {o : Oper} (x : Operand) (ho : o.op = .load 3 x) (ad : Addr) (hx : a.eval x = .pointer (some ad)) (v : Value) (w : World) (h : w.cell? ad = some v) :
  (execOp a.eval o).run Tryz.prog w = .ok (.value v) w := by
 unfold execOp
 simp only [ho, hx]
 go_simp
theorem hrunLoadU32 {a : Act} {o : Oper} (x : Operand) (ho : o.op = .load 39 x) (ad : Addr) (hx : a.eval x = .pointer (some ad)) (v : Value) (w : World) (h : w.cell? ad = some v) :
  (execOp a.eval o).run Tryz.prog w = .ok (.value v) w := by
 unfold execOp
 simp only [ho, hx]
 go_simp
theorem hrunLoadCodes {a : Act} {o : Oper} (x : Operand) (ho : o.op = .load 116 x) (ad : Addr) (hx : a.eval x = .pointer (some ad)) (v : Value) (w : World) (h : w.cell? ad = some v) :
  (execOp a.eval o).run Tryz.prog w = .ok (.value v) w := by
 unfold execOp
 simp only [ho, hx]
 go_simp
theorem hrunPublic {a : Act} {o : Oper} (x y : Operand) (ho : o.op = .call { callee := .value (.func 134), args := #[x, y], argTypes := #[170, 62] }) (v1 v2 : Value) (hx : a.eval x = v1) (hy : a.eval y = v2) (w : World) :
  (execOp a.eval o).run Tryz.prog w = .ok (.enter 134 #[v1, v2]) w := by
 unfold execOp
 simp only [ho]
 subst hx hy
 go_simp
theorem underCodes : Tryz.prog.underlying 116 = some (.slice 62) := by kernel_rfl
theorem idxCodes (q n i cap : Nat) (hi : i < n) (w : World) : (Instr.indexAt 116 (.slice (some ⟨q, 0, none⟩) n cap) (.int .i64 i)).run Tryz.prog w = .ok (.pointer (some ⟨q, 32 * i, none⟩)) w := by
 cases hq : Tryz.prog.info? 62 with
 | none => have := sizeCode; rw [hq] at this; cases this
 | some inf =>
  have hs : inf.size = 32 := by have := sizeCode; rw [hq] at this; simpa using this
  simp [Instr.indexAt, asIntOf, run_underlying underCodes, sizeOf, typeInfo, hq, hs, Addr.add_mid, Nat.mul_comm]
  intro h; omega
theorem pubN (g : Nat) (T : TypeId) (kv : Value) (ks : List Nat) (v : Int) (b r m : Nat) (hm : m < big) (k p s gA : Addr) (Y : Array Value) (E : Value) (hY : Y = pubV b m) (hE : E = pubE p m) (w0 w : World) (hx : ∃ l c, Ld w g T kv ks v b r l c) (hV : Env w0 k p s gA) (h0 : Below w0.heap.size w0 w) (hb : w0.heap.size ≤ b) (hr : w0.heap.size ≤ r) :
  Calls Tryz.prog 134 #[.pointer (some ⟨g, 0, none⟩), .agg (bA m)] w fun e w' => e = .returned (.tuple #[.agg Y, E]) ∧ LdX g T kv ks v b r w w' := by
 obtain ⟨l, c, hL⟩ := hx
 have h7 := hV.gl.seven
 rw [hY, hE]
 refine (public_any g T kv ks v b r m c l hm p w hL (hV.gl.keep h0) (by omega) (by omega) (hV.below h0).sen.fp (by have := sent_blk hV.sen.fp; omega)).mono ?_
 rintro e w' ⟨rfl, h1, h2⟩
 exact ⟨rfl, h1, h2⟩
theorem ckDN (v k : Int) (p sg : ByteArray) (S D : List UInt8) (I : Array Value) (hI : I = imgA v k p sg S D) (hS : S.length = 64) (hD : D.length = 64) (hp : p.size ≤ maxLen) (w : World) (hK : Tab w) :
  Calls Tryz.prog 133 #[.agg I] w fun e w' => e = .returned (ckE p D) ∧ Below w.heap.size w w' := by rw [hI]; exact checkDigest_any v k p sg S D hS hD hp w hK
theorem img_sg {w : World} {g : Nat} {v k : Int} {p sg : ByteArray} {S D : List UInt8} {T : TypeId} {fr : Nat × Nat} (h : w.heap[g]? = some (.cells (imgA v k p sg S D) T fr)) : w.rangeAt g 4 (S.map cv) := by
 intro j v hv
 have l : j < (S.map cv).length := by
  rcases Nat.lt_or_ge j (S.map cv).length with c | c
  · exact c
  · rw [List.getElem?_eq_none c] at hv; cases hv
 rw [cell_of_row w g (4 + j) _ T _ h, imgA, List.getElem?_toArray, imgL, show 4 + j = j + 1 + 1 + 1 + 1 by omega, List.getElem?_cons_succ, List.getElem?_cons_succ, List.getElem?_cons_succ, List.getElem?_cons_succ, List.getElem?_append_left l]
 exact hv
section
attribute [local irreducible] num4A nL pA psA psL pL bA bL bpP dcP dcB pubA pubZ pubL baseZ meA ldA imgA imgL
set_option maxRecDepth 100000 in
set_option maxHeartbeats 4000000 in
theorem check_any (g : Nat) (T : TypeId) (kv : Value) (ks : List Nat) (v : Int) (b r clock : Nat) (l : List (Nat × Nat)) (t : ByteArray) (ht : 192 ≤ t.size) (hm : t.size ≤ maxLen) (k p s gA : Addr) (w0 w : World) (hL : Ld w g T kv ks v b r l clock)
  (hE : Env w0 k p s gA) (h0 : Below w0.heap.size w0 w) (hb : w0.heap.size ≤ b) (hr : w0.heap.size ≤ r) (IR : Array Value) (hIR : IR = imR t) :
  Calls Tryz.prog 85 #[.pointer (some ⟨g, 0, none⟩), .agg IR] w fun e w' => e = .returned (chE p s gA ks v t) ∧ LdX g T kv ks v b r w w' := by
 have hz := zeroPub
 have h7 := hE.gl.seven
 have Hm := hide hm
 have Ht := hide ht
 have HE := hide hE
 have H0 := hide h0
 obtain ⟨n, En⟩ : ∃ n : Nat, Hid (n = imV t) := ⟨_, hide rfl⟩
 obtain ⟨i, Ei⟩ : ∃ i : Nat, Hid ((i : Int) = imK t) := ⟨(imK t).toNat, hide (Int.toNat_of_nonneg (imK_nn t))⟩
 obtain ⟨P, EP⟩ : ∃ x, Hid (x = imP t) := ⟨_, hide rfl⟩
 obtain ⟨G, EG⟩ : ∃ x, Hid (x = imG t) := ⟨_, hide rfl⟩
 obtain ⟨S, ES⟩ : ∃ x, Hid (x = imS t) := ⟨_, hide rfl⟩
 obtain ⟨D, ED⟩ : ∃ x, Hid (x = imD t) := ⟨_, hide rfl⟩
 have EI : Hid (IR = imgA n i P G S D) := by show _ = _; rw [hIR, En.out, Ei.out, EP.out, EG.out, ES.out, ED.out]; rfl
 have lS : Hid (S.length = 64) := by show _ = _; rw [ES.out]; unfold imS; rw [bytesOf_length, sub_size _ _ _ (by omega)]
 have lD : Hid (D.length = 64) := by show _ = _; rw [ED.out]; unfold imD; rw [bytesOf_length, sub_size _ _ _ (by omega)]
 have lP : Hid (P.size ≤ maxLen) := by show _ ≤ _; rw [EP.out]; unfold imP; rw [sub_size _ _ _ (by omega)]; omega
 have lG : Hid (G.size ≤ maxLen) := by show _ ≤ _; rw [EG.out]; unfold imG; rw [sub_size _ _ _ (by omega)]; unfold maxLen; omega
 have HIs : Hid (IR.size = 132) := by show _ = _; rw [EI.out]; exact imgA_132 _ _ _ _ _ _ lS.out lD.out
 have EC : Hid (chE p s gA ks v t = if (ks.length : Int) ≤ i then atE slT (imI 9) else if (n : Int) < v then atE vrT (imI 10)
   else if hashOf (bytesOf P) = D then (if dcB (ks.getD i 0) = true then pvE s gA (ks.getD i 0) G S else atE keyTxt (esI p)) else atE dgT (imI 11)) := by
  show _ = _
  unfold chE
  rw [← Ei.out, ← En.out, ← EP.out, ← EG.out, ← ES.out, ← ED.out]
  rfl
 obtain ⟨pt, cap, hkv⟩ : ∃ pt cap, kv = .slice pt ks.length cap := by
  rcases hL.keys with ⟨rfl, rfl⟩ | ⟨q, cap, rfl, _⟩
  · exact ⟨_, _, rfl⟩
  · exact ⟨_, _, rfl⟩
 subst hkv
 have HL := hide hL
 have lg := lt_row hL.row
 have lr := lt_row hL.map
 have lb := hL.base.lt
 have gb := hL.gb
 have gr := hL.gr
 clear hL hE h0 hm ht hIR
 go_enter Tryz.func85, Tryz.ntmps85
 go_upto_region 1 with fail
 obtain ⟨W0, hW0⟩ : ∃ W, W = w.alloc (.cells IR 114) := ⟨_, rfl⟩
 have RI : Hid (W0.heap[w.heap.size]? = some (.cells IR 114 (0, 0))) := by rw [hW0]; exact heap_alloc_new _ _
 have B0 : Hid (Below w.heap.size w W0) := by rw [hW0]; exact (Below.refl _ _).alloc (Nat.le_refl _) _
 rw [← hW0]
 clear hW0
 have L0 := hide (HL.out.below B0.out)
 have C0 : Hid (W0.cell? ⟨g, 0, none⟩ = some (.slice pt ks.length cap)) := by show _ = _; rw [cell_of_row W0 g 0 _ T _ L0.out.row, ldA]; rfl
 have C1 : Hid (W0.cell? ⟨g, 1, none⟩ = some (.int .u32 v)) := by show _ = _; rw [cell_of_row W0 g 1 _ T _ L0.out.row, ldA]; rfl
 have CI0 : Hid (W0.cell? ⟨w.heap.size, 0, none⟩ = some (.int .u32 n)) := by show _ = _; rw [cell_of_row W0 _ 0 _ _ _ RI.out, EI.out, imgA, imgL]; rfl
 have CI1 : Hid (W0.cell? ⟨w.heap.size, 1, none⟩ = some (.int .i64 i)) := by show _ = _; rw [cell_of_row W0 _ 1 _ _ _ RI.out, EI.out, imgA, imgL]; rfl
 have CI3 : Hid (W0.cell? ⟨w.heap.size, 3, none⟩ = some (.string G)) := by show _ = _; rw [cell_of_row W0 _ 3 _ _ _ RI.out, EI.out, imgA, imgL]; rfl
 obtain ⟨B, EB⟩ : ∃ B, Hid (decide ((ks.length : Int) ≤ (i : Int)) = B) := ⟨_, hide rfl⟩
 refine wp_region_held_drew (S := fun w' => w'.cell? ⟨w.heap.size, 1, none⟩ = some (.int .i64 i) ∧ w'.cell? ⟨g, 0, none⟩ = some (.slice pt ks.length cap)) (by kernel_rfl) ⟨CI1.out, C0.out⟩ (fun hHeld => ?_)
 refine wpAnyH_take (i := 0) (oi := ⟨some 8, .fieldAddr 114 (.tmp 3) 1, 0, "loader.go:72", #[], none⟩) (v := .pointer (some ⟨w.heap.size, 1, none⟩)) rfl (by kernel_rfl) (by kernel_rfl) (by kernel_rfl) (fun _ _ _ h => h) (Or.inl ⟨by rfl, fun w _ => by go_simp⟩) hHeld ?_
 simp only [zaP, zsT, zsZ, zsS]
 refine wpAnyH_take (i := 1) (oi := ⟨some 9, .load 3 (.tmp 8), 3, "loader.go:72", #[zeD 0], none⟩) (v := .int .i64 i) rfl (by kernel_rfl) (by kernel_rfl) (by kernel_rfl) (fun _ _ _ h => h) (Or.inl ⟨by rfl, fun v h => hrunLoadInt _ rfl _ rfl _ v h.1⟩) hHeld ?_
 simp only [zaP, zsT, zsZ, zsS]
 refine wpAnyH_take (i := 2) (oi := ⟨some 10, .move (.tmp 0), 170, "loader.go:72", #[], none⟩) (v := .pointer (some ⟨g, 0, none⟩)) rfl (by kernel_rfl) (by kernel_rfl) (by kernel_rfl) (fun _ _ _ h => h) (Or.inl ⟨by rfl, fun w _ => by go_simp⟩) hHeld ?_
 simp only [zaP, zsT, zsZ, zsS]
 refine wpAnyH_take (i := 3) (oi := ⟨some 11, .nilCheck (.tmp 10), 0, "loader.go:72", #[zeD 2], none⟩) (v := .pointer (some ⟨g, 0, none⟩)) rfl (by kernel_rfl) (by kernel_rfl) (by kernel_rfl) (fun _ _ _ h => h) (Or.inl ⟨by rfl, fun w _ => by go_simp⟩) hHeld ?_
 simp only [zaP, zsT, zsZ, zsS]
 refine wpAnyH_take (i := 4) (oi := ⟨some 12, .fieldAddr 119 (.tmp 11) 0, 0, "loader.go:72", #[zeD 3], none⟩) (v := .pointer (some ⟨g, 0, none⟩)) rfl (by kernel_rfl) (by kernel_rfl) (by kernel_rfl) (fun _ _ _ h => h) (Or.inl ⟨by rfl, fun w _ => by go_simp⟩) hHeld ?_
 simp only [zaP, zsT, zsZ, zsS]
 refine wpAnyH_take (i := 5) (oi := ⟨some 13, .load 116 (.tmp 12), 116, "loader.go:72", #[zeD 4], none⟩) (v := .slice pt ks.length cap) rfl (by kernel_rfl) (by kernel_rfl) (by kernel_rfl) (fun _ _ _ h => h) (Or.inl ⟨by rfl, fun v h => hrunLoadCodes _ rfl _ rfl _ v h.2⟩) hHeld ?_
 simp only [zaP, zsT, zsZ, zsS]
 refine wpAnyH_take (i := 6) (oi := ⟨some 14, .call ⟨.builtin .len, #[.tmp 13], #[116]⟩, 3, "loader.go:72", #[zeD 5], none⟩) (v := .int .i64 ks.length) rfl (by kernel_rfl) (by kernel_rfl) (by kernel_rfl) (fun _ _ _ h => h) (Or.inl ⟨by rfl, fun w _ => by go_simp⟩) hHeld ?_
 simp only [zaP, zsT, zsZ, zsS]
 refine wpAnyH_take (i := 7) (oi := ⟨some 15, .binOp .geq 3 (.tmp 9) (.tmp 14) 3, 4, "loader.go:72", #[zeD 1, zeD 6], none⟩) (v := .bool B) rfl (by kernel_rfl) (by kernel_rfl) (by kernel_rfl) (fun _ _ _ h => h) (Or.inl ⟨by rfl, fun w _ => by first | (go_simp; done) | (go_simp; exact EB.out) | (go_simp; rw [EB.out]) | (rw [← EB.out]; go_simp)⟩) hHeld ?_
 simp only [zaP, zsT, zsZ, zsS]
 refine wpAnyH_done (by kernel_rfl) ?_ _
 cases hBv : B
 case true =>
  have c : (ks.length : Int) ≤ i := by have := EB.out; rw [hBv] at this; simpa using this
  have EE : Hid (chE p s gA ks v t = atE slT (imI 9)) := by show _ = _; rw [EC.out, if_pos c]
  clear c
  subst hBv
  go_wp2_with fail
  refine (ofImage_any slT 9 _).mono ?_
  rintro e W1 ⟨rfl, hw⟩
  have hw' := hw.symm
  subst hw'
  clear hw
  go_wp2_with fail
  go_returns
  exact ⟨by rw [EE.out]; rfl, LdX.of HL.out B0.out.drew⟩
 case false =>
 have hc1 : ¬ (ks.length : Int) ≤ i := by have := EB.out; rw [hBv] at this; simpa using this
 have Hc1 := hide hc1
 subst hBv
 clear EB hc1
 have B0 := hide B0.out.drew
 have RI : Hid (W0.drew.heap[w.heap.size]? = some (.cells IR 114 (0, 0))) := RI
 have C0 : Hid (W0.drew.cell? ⟨g, 0, none⟩ = some (.slice pt ks.length cap)) := C0
 have C1 : Hid (W0.drew.cell? ⟨g, 1, none⟩ = some (.int .u32 v)) := C1
 have CI0 : Hid (W0.drew.cell? ⟨w.heap.size, 0, none⟩ = some (.int .u32 n)) := CI0
 have CI1 : Hid (W0.drew.cell? ⟨w.heap.size, 1, none⟩ = some (.int .i64 i)) := CI1
 have CI3 : Hid (W0.drew.cell? ⟨w.heap.size, 3, none⟩ = some (.string G)) := CI3
 obtain ⟨W1, hW1⟩ : ∃ W, W = W0.drew := ⟨_, rfl⟩
 rw [← hW1] at B0 RI C0 C1 CI0 CI1 CI3 ⊢
 clear hW1 L0
 obtain ⟨B, EB⟩ : ∃ B, Hid (decide ((n : Int) < v) = B) := ⟨_, hide rfl⟩
 go_upto_region 3 with fail
 refine wp_region_held_drew (S := fun w' => w'.cell? ⟨w.heap.size, 0, none⟩ = some (.int .u32 n) ∧ w'.cell? ⟨g, 1, none⟩ = some (.int .u32 v)) (by kernel_rfl) ⟨CI0.out, C1.out⟩ (fun hHeld => ?_)
 refine wpAnyH_take (i := 0) (oi := ⟨some 17, .fieldAddr 114 (.tmp 3) 0, 0, "loader.go:75", #[], none⟩) (v := .pointer (some ⟨w.heap.size, 0, none⟩)) rfl (by kernel_rfl) (by kernel_rfl) (by kernel_rfl) (fun _ _ _ h => h) (Or.inl ⟨by rfl, fun w _ => by go_simp⟩) hHeld ?_
 simp only [zaP, zsT, zsZ, zsS]
 refine wpAnyH_take (i := 1) (oi := ⟨some 18, .load 39 (.tmp 17), 39, "loader.go:75", #[zeD 0], none⟩) (v := .int .u32 n) rfl (by kernel_rfl) (by kernel_rfl) (by kernel_rfl) (fun _ _ _ h => h) (Or.inl ⟨by rfl, fun v h => hrunLoadU32 _ rfl _ rfl _ v h.1⟩) hHeld ?_
 simp only [zaP, zsT, zsZ, zsS]
 refine wpAnyH_take (i := 2) (oi := ⟨some 19, .move (.tmp 0), 170, "loader.go:75", #[], none⟩) (v := .pointer (some ⟨g, 0, none⟩)) rfl (by kernel_rfl) (by kernel_rfl) (by kernel_rfl) (fun _ _ _ h => h) (Or.inl ⟨by rfl, fun w _ => by go_simp⟩) hHeld ?_
 simp only [zaP, zsT, zsZ, zsS]
 refine wpAnyH_take (i := 3) (oi := ⟨some 20, .nilCheck (.tmp 19), 0, "loader.go:75", #[zeD 2], none⟩) (v := .pointer (some ⟨g, 0, none⟩)) rfl (by kernel_rfl) (by kernel_rfl) (by kernel_rfl) (fun _ _ _ h => h) (Or.inl ⟨by rfl, fun w _ => by go_simp⟩) hHeld ?_
 simp only [zaP, zsT, zsZ, zsS]
 refine wpAnyH_take (i := 4) (oi := ⟨some 21, .fieldAddr 119 (.tmp 20) 1, 0, "loader.go:75", #[zeD 3], none⟩) (v := .pointer (some ⟨g, 1, none⟩)) rfl (by kernel_rfl) (by kernel_rfl) (by kernel_rfl) (fun _ _ _ h => h) (Or.inl ⟨by rfl, fun w _ => by go_simp⟩) hHeld ?_
 simp only [zaP, zsT, zsZ, zsS]
 refine wpAnyH_take (i := 5) (oi := ⟨some 22, .load 39 (.tmp 21), 39, "loader.go:75", #[zeD 4], none⟩) (v := .int .u32 v) rfl (by kernel_rfl) (by kernel_rfl) (by kernel_rfl) (fun _ _ _ h => h) (Or.inl ⟨by rfl, fun v h => hrunLoadU32 _ rfl _ rfl _ v h.2⟩) hHeld ?_
 simp only [zaP, zsT, zsZ, zsS]
 refine wpAnyH_take (i := 6) (oi := ⟨some 23, .binOp .lss 39 (.tmp 18) (.tmp 22) 39, 4, "loader.go:75", #[zeD 1, zeD 5], none⟩) (v := .bool B) rfl (by kernel_rfl) (by kernel_rfl) (by kernel_rfl) (fun _ _ _ h => h) (Or.inl ⟨by rfl, fun w _ => by first | (go_simp; done) | (go_simp; exact EB.out) | (go_simp; rw [EB.out]) | (rw [← EB.out]; go_simp)⟩) hHeld ?_
 simp only [zaP, zsT, zsZ, zsS]
 refine wpAnyH_done (by kernel_rfl) ?_ _
 cases hBv : B
 case true =>
  have c : (n : Int) < v := by have := EB.out; rw [hBv] at this; simpa using this
  have EE : Hid (chE p s gA ks v t = atE vrT (imI 10)) := by show _ = _; rw [EC.out, if_neg (show ¬ (ks.length : Int) ≤ i by have := Hc1.out; omega), if_pos c]
  clear c
  subst hBv
  go_wp2_with fail
  refine (ofImage_any vrT 10 _).mono ?_
  rintro e W2 ⟨rfl, hw⟩
  have hw' := hw.symm
  subst hw'
  clear hw
  go_wp2_with fail
  go_returns
  exact ⟨by rw [EE.out]; rfl, LdX.of HL.out B0.out.drew⟩
 case false =>
 have hc2 : ¬ (n : Int) < v := by have := EB.out; rw [hBv] at this; simpa using this
 have Hc2 := hide hc2
 subst hBv
 clear EB hc2 CI0 C1
 have B0 := hide B0.out.drew
 have RI : Hid (W1.drew.heap[w.heap.size]? = some (.cells IR 114 (0, 0))) := RI
 have C0 : Hid (W1.drew.cell? ⟨g, 0, none⟩ = some (.slice pt ks.length cap)) := C0
 have CI1 : Hid (W1.drew.cell? ⟨w.heap.size, 1, none⟩ = some (.int .i64 i)) := CI1
 have CI3 : Hid (W1.drew.cell? ⟨w.heap.size, 3, none⟩ = some (.string G)) := CI3
 obtain ⟨W2, hW2⟩ : ∃ W, W = W1.drew := ⟨_, rfl⟩
 rw [← hW2] at B0 RI C0 CI1 CI3 ⊢
 clear hW2
 have l0 := H0.out.size
 go_wp2_with (first
  | (refine wpList_load_row (by rfl) 114 (.tmp 3) (by rfl) w.heap.size (by rfl) _ IR (0, 0) _ RI.out Tryz.underlying114 rfl (by rw [sizeImg, HIs.out]) ?_))
 refine (ckDN n i P G S D IR EI.out lS.out lD.out lP.out W2 (HE.out.below (H0.out.trans (B0.out.mono l0))).tab).mono ?_
 rintro e W3 ⟨rfl, hB⟩
 have K3 := hide hB
 have B3 := hide (B0.out.trans (hB.mono B0.out.size))
 have lI := lt_row RI.out
 clear hB
 unfold ckE
 by_cases hd : hashOf (bytesOf P) = D
 case neg =>
  rw [if_neg hd]
  obtain ⟨Q, HQ⟩ : ∃ Q, Hid (Q = Value.agg #[.string dgT, imI 11]) := ⟨_, hide rfl⟩
  have EE : Hid (chE p s gA ks v t = .iface 173 Q) := by show _ = _; rw [EC.out, if_neg (show ¬ (ks.length : Int) ≤ i by have := Hc1.out; omega), if_neg (show ¬ (n : Int) < v by have := Hc2.out; omega), if_neg hd, HQ.out]; rfl
  rw [show atE dgT (imI 11) = .iface 173 Q by rw [HQ.out]; rfl]
  clear hd
  go_wp2_with fail
  go_returns
  exact ⟨by rw [EE.out] <;> rfl, LdX.of HL.out B3.out⟩
 case pos =>
 rw [if_pos hd]
 have Hd := hide hd
 clear hd
 have hlt : i < ks.length := by have := Hc1.out; omega
 obtain ⟨m, Em⟩ : ∃ m, Hid (m = ks[i]) := ⟨_, hide rfl⟩
 have Em2 : Hid (ks.getD i 0 = m) := by show _ = _; rw [Em.out, List.getD_eq_getElem?_getD, List.getElem?_eq_getElem hlt]; rfl
 have Hm2 : Hid (m < big) := by rw [Em.out]; exact HL.out.small _ (List.getElem_mem hlt)
 have EC2 : Hid (chE p s gA ks v t = if dcB m = true then pvE s gA m G S else atE keyTxt (esI p)) := by show _ = _; rw [EC.out, if_neg (show ¬ (ks.length : Int) ≤ i by have := Hc1.out; omega), if_neg (show ¬ (n : Int) < v by have := Hc2.out; omega), if_pos Hd.out, Em2.out]
 obtain ⟨q, hpt, hq1, hq2⟩ : ∃ q, pt = some ⟨q, 0, none⟩ ∧ q < w.heap.size ∧ w.rangeAt q (32 * i) (bL m) := by
  rcases HL.out.keys with ⟨h1, h2⟩ | ⟨q, cap', h1, h2, h3, h4, h5⟩
  · rw [h2] at hlt; exact absurd hlt (by simp)
  ·
   refine ⟨q, by injection h1, h4, ?_⟩
   rw [Em.out]; exact h5 i hlt
 subst hpt
 have kg := HL.out.kg q rfl
 have L3 := hide (HL.out.below B3.out)
 have C0 : Hid (W3.cell? ⟨g, 0, none⟩ = some (.slice (some ⟨q, 0, none⟩) ks.length cap)) := (K3.out.cell (World.block_lt_of_cell? _ _ C0.out)).trans C0.out
 have CI1 : Hid (W3.cell? ⟨w.heap.size, 1, none⟩ = some (.int .i64 i)) := (K3.out.cell lI).trans CI1.out
 have CI3 : Hid (W3.cell? ⟨w.heap.size, 3, none⟩ = some (.string G)) := (K3.out.cell lI).trans CI3.out
 have RI : Hid (W3.heap[w.heap.size]? = some (.cells IR 114 (0, 0))) := row_keep' RI.out K3.out
 have RQ : Hid (W3.rangeAt q (32 * i) (bL m)) := range_below hq2 B3.out hq1
 have lI3 := lt_row RI.out
 have lg3 := lt_row L3.out.row
 have lq3 : q < W3.heap.size := Nat.lt_of_lt_of_le hq1 B3.out.size
 have N3 := hide (H0.out.trans (B3.out.mono l0))
 have ls3 := B3.out.size
 clear K3 B0 hq2
 obtain ⟨Y, EY⟩ : ∃ Y, Hid (Y = pubV b m) := ⟨_, hide rfl⟩
 obtain ⟨E, EE⟩ : ∃ E, Hid (E = pubE p m) := ⟨_, hide rfl⟩
 have HYs : Hid ((Tryz.prog.info? 153).map (·.size) = some Y.size) := by
  show _ = _
  rw [EY.out]; unfold pubV; split
  · exact pubA_size _ _ _
  · exact pubZ_size
 have HYo : Hid (pubZ.size = Y.size) := by
  show _ = _
  rw [EY.out]; unfold pubV; split
  · exact pubA_old _ _ _
  · rfl
 have HYa : Hid (Y.all (·.oneCell') = true) := by
  show _ = _
  rw [EY.out]; unfold pubV; split
  · exact pubA_all _ _ _
  · exact pubZ_all
 have SAT : Hid (∀ V : World, Bx2 b r W3 V → V.cell? ⟨g, 0, none⟩ = some (.slice (some ⟨q, 0, none⟩) ks.length cap) ∧ V.cell? ⟨w.heap.size, 1, none⟩ = some (.int .i64 i) ∧ V.rangeAt q (32 * i) (bL m)) := fun _ hB => ⟨(World.cell?_of_block (hB.block g lg3 gb gr)).trans C0.out, (World.cell?_of_block (hB.block w.heap.size lI3 (by omega) (by omega))).trans CI1.out, range_blk RQ.out (hB.block q lq3 kg.2.1 kg.2.2)⟩
 have hix := idxCodes q ks.length i cap hlt
 go_upto_region 8 with fail
 go_cut [6, 7] from 30 to 42 (fun s6 s7 wx => ∃ g8, s6 = .pointer (some ⟨g8, 0, none⟩) ∧ s7 = E ∧ Hid (W3.heap.size ≤ g8) ∧ Hid (wx.heap[g8]? = some (.cells Y 153 (0, 0))) ∧ Hid (LdX g T (.slice (some ⟨q, 0, none⟩) ks.length cap) ks v b r W3 wx))
 case first =>
  refine wp_region_held_drew (S := fun w' => w'.cell? ⟨g, 0, none⟩ = some (.slice (some ⟨q, 0, none⟩) ks.length cap) ∧ w'.cell? ⟨w.heap.size, 1, none⟩ = some (.int .i64 i) ∧ w'.rangeAt q (32 * i) (bL m)) (by kernel_rfl) (SAT.out _ (Bx2.ofB (Below.refl _ _).drew)) (fun hHeld => ?_)
  have KV1 : Hid (LdX g T (.slice (some ⟨q, 0, none⟩) ks.length cap) ks v b r W3 W3.drew) := LdX.of L3.out (Below.refl _ _).drew
  obtain ⟨V1, hV1⟩ : ∃ V, V = W3.drew := ⟨_, rfl⟩
  rw [← hV1] at hHeld KV1 ⊢
  clear hV1
  refine wpAnyH_take (i := 0) (oi := ⟨some 31, .move (.tmp 0), 170, "loader.go:81", #[], none⟩) (v := .pointer (some ⟨g, 0, none⟩)) rfl (by kernel_rfl) (by kernel_rfl) (by kernel_rfl) (fun _ _ _ h => h) (Or.inl ⟨by rfl, fun w _ => by go_simp⟩) hHeld ?_
  simp only [zaP, zsT, zsZ, zsS]
  refine wpAnyH_take (i := 1) (oi := ⟨some 32, .move (.tmp 0), 170, "loader.go:81", #[], none⟩) (v := .pointer (some ⟨g, 0, none⟩)) rfl (by kernel_rfl) (by kernel_rfl) (by kernel_rfl) (fun _ _ _ h => h) (Or.inl ⟨by rfl, fun w _ => by go_simp⟩) hHeld ?_
  simp only [zaP, zsT, zsZ, zsS]
  refine wpAnyH_take (i := 2) (oi := ⟨some 33, .nilCheck (.tmp 32), 0, "loader.go:81", #[zeD 1], none⟩) (v := .pointer (some ⟨g, 0, none⟩)) rfl (by kernel_rfl) (by kernel_rfl) (by kernel_rfl) (fun _ _ _ h => h) (Or.inl ⟨by rfl, fun w _ => by go_simp⟩) hHeld ?_
  simp only [zaP, zsT, zsZ, zsS]
  refine wpAnyH_take (i := 3) (oi := ⟨some 34, .fieldAddr 119 (.tmp 33) 0, 0, "loader.go:81", #[zeD 2], none⟩) (v := .pointer (some ⟨g, 0, none⟩)) rfl (by kernel_rfl) (by kernel_rfl) (by kernel_rfl) (fun _ _ _ h => h) (Or.inl ⟨by rfl, fun w _ => by go_simp⟩) hHeld ?_
  simp only [zaP, zsT, zsZ, zsS]
  refine wpAnyH_take (i := 4) (oi := ⟨some 35, .load 116 (.tmp 34), 116, "loader.go:81", #[zeD 3], none⟩) (v := .slice (some ⟨q, 0, none⟩) ks.length cap) rfl (by kernel_rfl) (by kernel_rfl) (by kernel_rfl) (fun _ _ _ h => h) (Or.inl ⟨by rfl, fun v h => hrunLoadCodes _ rfl _ rfl _ v h.1⟩) hHeld ?_
  simp only [zaP, zsT, zsZ, zsS]
  refine wpAnyH_take (i := 5) (oi := ⟨some 36, .fieldAddr 114 (.tmp 3) 1, 0, "loader.go:81", #[], none⟩) (v := .pointer (some ⟨w.heap.size, 1, none⟩)) rfl (by kernel_rfl) (by kernel_rfl) (by kernel_rfl) (fun _ _ _ h => h) (Or.inl ⟨by rfl, fun w _ => by go_simp⟩) hHeld ?_
  simp only [zaP, zsT, zsZ, zsS]
  refine wpAnyH_take (i := 6) (oi := ⟨some 37, .load 3 (.tmp 36), 3, "loader.go:81", #[zeD 5], none⟩) (v := .int .i64 i) rfl (by kernel_rfl) (by kernel_rfl) (by kernel_rfl) (fun _ _ _ h => h) (Or.inl ⟨by rfl, fun v h => hrunLoadInt _ rfl _ rfl _ v h.2.1⟩) hHeld ?_
  simp only [zaP, zsT, zsZ, zsS]
  refine wpAnyH_take (i := 7) (oi := ⟨some 38, .indexAddr 116 (.tmp 35) (.tmp 37), 0, "loader.go:81", #[zeD 4, zeD 6], none⟩) (v := .pointer (some ⟨q, 32 * i, none⟩)) rfl (by kernel_rfl) (by kernel_rfl) (by kernel_rfl) (fun _ _ _ h => h) (Or.inl ⟨by rfl, fun w _ => by go_simp⟩) hHeld ?_
  simp only [zaP, zsT, zsZ, zsS]
  refine wpAnyH_take (i := 8) (oi := ⟨some 39, .load 62 (.tmp 38), 62, "loader.go:81", #[zeD 7], none⟩) (v := .agg (bA m)) rfl (by kernel_rfl) (by kernel_rfl) (by kernel_rfl) (fun _ _ _ h => h) (yldCode (by rfl) _ rfl q (32 * i) m rfl (fun w h => h.2.2)) hHeld ?_
  simp only [zaP, zsT, zsZ, zsS]
  refine wpAnyH_ready (rs := [9, 13]) (by kernel_rfl) (by simp) ?_
  refine AllReadyH.cons (o := ⟨some 40, .call ⟨.value (.func 134), #[.tmp 31, .tmp 39], #[170, 62]⟩, 154, "loader.go:81", #[zeD 0, zeD 8], none⟩) rfl (fun K hK => ?_) ?_
  ·
   refine step_callTo (by rfl) _ _ (hrunPublic _ _ rfl (.pointer (some ⟨g, 0, none⟩)) (.agg (bA m)) rfl rfl V1) _ (LdX g T (.slice (some ⟨q, 0, none⟩) ks.length cap) ks v b r V1) (pubN g T (.slice (some ⟨q, 0, none⟩) ks.length cap) ks v b r m Hm2.out k p s gA Y E EY.out EE.out w0 V1 KV1.out.2 HE.out (N3.out.trans (KV1.out.1.below (by omega) (by omega) N3.out.size)) hb hr) (fun V2 HBx => ?_)
   have KV2 : Hid (LdX g T (.slice (some ⟨q, 0, none⟩) ks.length cap) ks v b r W3 V2) := KV1.out.trans HBx
   clear HBx
   refine hK.out _ _ ?_ (fun hHeld => ?_)
   · exact SAT.out _ KV2.out.1
   clear hK K
   try simp only [zaP, zsT, zsZ, zsS]
   refine wpAnyH_take (i := 10) (oi := oLdCk25) (v := .tuple #[.agg Y, E]) rfl (by kernel_rfl) (by kernel_rfl) (by kernel_rfl) (fun _ _ _ h => h) (Or.inl ⟨by rfl, fun w _ => by go_simp⟩) hHeld ?_
   simp only [zaP, zsT, zsZ, zsS]
   refine wpAnyH_take (i := 11) (oi := oLdCk26) (v := .agg Y) rfl (by kernel_rfl) (by kernel_rfl) (by kernel_rfl) (fun _ _ _ h => h) (Or.inl ⟨by rfl, fun w _ => by go_simp⟩) hHeld ?_
   simp only [zaP, zsT, zsZ, zsS]
   refine wpAnyH_take (i := 12) (oi := oLdCk27) (v := E) rfl (by kernel_rfl) (by kernel_rfl) (by kernel_rfl) (fun _ _ _ h => h) (Or.inl ⟨by rfl, fun w _ => by go_simp⟩) hHeld ?_
   simp only [zaP, zsT, zsZ, zsS]
   refine wpAnyH_ready (rs := [13]) (by kernel_rfl) (by simp) ?_
   refine AllReadyH.cons (o := oLdCk28) rfl (fun K hK => ?_) AllReadyH.nil
   refine step_runTo (w' := V2.alloc (.cells pubZ 153)) (by rfl) (.pointer (some ⟨V2.heap.size, 0, none⟩)) (hrunAllocPub rfl V2) ?_
   obtain ⟨gg3, hgg3⟩ : ∃ g, g = V2.heap.size := ⟨_, rfl⟩
   have ZN : Hid ((V2.alloc (.cells pubZ 153)).heap[gg3]? = some (.cells pubZ 153 (0, 0))) := by rw [hgg3]; exact heap_alloc_new _ _
   have KV3 : Hid (LdX g T (.slice (some ⟨q, 0, none⟩) ks.length cap) ks v b r W3 (V2.alloc (.cells pubZ 153))) := KV2.out.below ((Below.refl _ _).alloc (Nat.le_refl _) _)
   have GG : Hid (W3.heap.size ≤ gg3) := by rw [hgg3]; exact KV2.out.1.size
   rw [← hgg3]
   obtain ⟨V3, hV3⟩ : ∃ V, V = V2.alloc (.cells pubZ 153) := ⟨_, rfl⟩
   rw [← hV3] at ZN KV3 ⊢
   clear hV3 hgg3
   refine hK.out _ _ ?_ (fun hHeld => ?_)
   · exact SAT.out _ KV3.out.1
   clear hK K
   try simp only [zaP, zsT, zsZ, zsS]
   refine wpAnyH_ready (rs := [14]) (by kernel_rfl) (by simp) ?_
   refine AllReadyH.cons (o := oLdCk29) rfl (fun K hK => ?_) AllReadyH.nil
   refine step_store_row _ (by rfl) 153 (.tmp 6) (.tmp 41) (by rfl) (gg3) (Y) (by rfl) (by rfl) 153 _ ZN.out HYs.out HYo.out HYa.out ?_
   rw [put_none']
   refine hK.out _ _ ?_ (fun hHeld => ?_)
   · exact SAT.out _ (KV3.out.1.setRow GG.out _)
   clear hK K
   try simp only [zaP, zsT, zsZ, zsS]
   refine wpAnyH_take (i := 15) (oi := oLdCk30) (v := E) rfl (by kernel_rfl) (by kernel_rfl) (by kernel_rfl) (fun _ _ _ h => h) (Or.inl ⟨by rfl, fun w _ => by go_simp⟩) hHeld ?_
   simp only [zaP, zsT, zsZ, zsS]
   refine wpAnyH_done (by kernel_rfl) ?_ _
   go_wp2_with fail
   go_meet
   case rel => exact ⟨gg3, rfl, rfl, GG, hide (setRow_heap _ _ _ _ _ _ ZN.out), hide (LdX.set L3.out KV3.out GG.out _)⟩
  refine AllReadyH.cons (o := oLdCk28) rfl (fun K hK => ?_) ?_
  ·
   refine step_runTo (w' := V1.alloc (.cells pubZ 153)) (by rfl) (.pointer (some ⟨V1.heap.size, 0, none⟩)) (hrunAllocPub rfl V1) ?_
   obtain ⟨gg5, hgg5⟩ : ∃ g, g = V1.heap.size := ⟨_, rfl⟩
   have ZN : Hid ((V1.alloc (.cells pubZ 153)).heap[gg5]? = some (.cells pubZ 153 (0, 0))) := by rw [hgg5]; exact heap_alloc_new _ _
   have KV5 : Hid (LdX g T (.slice (some ⟨q, 0, none⟩) ks.length cap) ks v b r W3 (V1.alloc (.cells pubZ 153))) := KV1.out.below ((Below.refl _ _).alloc (Nat.le_refl _) _)
   have GG : Hid (W3.heap.size ≤ gg5) := by rw [hgg5]; exact KV1.out.1.size
   rw [← hgg5]
   obtain ⟨V5, hV5⟩ : ∃ V, V = V1.alloc (.cells pubZ 153) := ⟨_, rfl⟩
   rw [← hV5] at ZN KV5 ⊢
   clear hV5 hgg5
   refine hK.out _ _ ?_ (fun hHeld => ?_)
   · exact SAT.out _ KV5.out.1
   clear hK K
   try simp only [zaP, zsT, zsZ, zsS]
   refine wpAnyH_ready (rs := [9]) (by kernel_rfl) (by simp) ?_
   refine AllReadyH.cons (o := ⟨some 40, .call ⟨.value (.func 134), #[.tmp 31, .tmp 39], #[170, 62]⟩, 154, "loader.go:81", #[zeD 0, zeD 8], none⟩) rfl (fun K hK => ?_) AllReadyH.nil
   refine step_callTo (by rfl) _ _ (hrunPublic _ _ rfl (.pointer (some ⟨g, 0, none⟩)) (.agg (bA m)) rfl rfl V5) _ (LdX g T (.slice (some ⟨q, 0, none⟩) ks.length cap) ks v b r V5) (pubN g T (.slice (some ⟨q, 0, none⟩) ks.length cap) ks v b r m Hm2.out k p s gA Y E EY.out EE.out w0 V5 KV5.out.2 HE.out (N3.out.trans (KV5.out.1.below (by omega) (by omega) N3.out.size)) hb hr) (fun V6 HBx => ?_)
   have KV6 : Hid (LdX g T (.slice (some ⟨q, 0, none⟩) ks.length cap) ks v b r W3 V6) := KV5.out.trans HBx
   have ZN : Hid (V6.heap[gg5]? = _) := (HBx.1.block _ (lt_row ZN.out) (by have := GG.out; omega) (by have := GG.out; omega)).trans ZN.out
   clear HBx
   refine hK.out _ _ ?_ (fun hHeld => ?_)
   · exact SAT.out _ KV6.out.1
   clear hK K
   try simp only [zaP, zsT, zsZ, zsS]
   refine wpAnyH_take (i := 10) (oi := oLdCk25) (v := .tuple #[.agg Y, E]) rfl (by kernel_rfl) (by kernel_rfl) (by kernel_rfl) (fun _ _ _ h => h) (Or.inl ⟨by rfl, fun w _ => by go_simp⟩) hHeld ?_
   simp only [zaP, zsT, zsZ, zsS]
   refine wpAnyH_take (i := 11) (oi := oLdCk26) (v := .agg Y) rfl (by kernel_rfl) (by kernel_rfl) (by kernel_rfl) (fun _ _ _ h => h) (Or.inl ⟨by rfl, fun w _ => by go_simp⟩) hHeld ?_
   simp only [zaP, zsT, zsZ, zsS]
   refine wpAnyH_take (i := 12) (oi := oLdCk27) (v := E) rfl (by kernel_rfl) (by kernel_rfl) (by kernel_rfl) (fun _ _ _ h => h) (Or.inl ⟨by rfl, fun w _ => by go_simp⟩) hHeld ?_
   simp only [zaP, zsT, zsZ, zsS]
   refine wpAnyH_ready (rs := [14]) (by kernel_rfl) (by simp) ?_
   refine AllReadyH.cons (o := oLdCk29) rfl (fun K hK => ?_) AllReadyH.nil
   refine step_store_row _ (by rfl) 153 (.tmp 6) (.tmp 41) (by rfl) (gg5) (Y) (by rfl) (by rfl) 153 _ ZN.out HYs.out HYo.out HYa.out ?_
   rw [put_none']
   refine hK.out _ _ ?_ (fun hHeld => ?_)
   · exact SAT.out _ (KV6.out.1.setRow GG.out _)
   clear hK K
   try simp only [zaP, zsT, zsZ, zsS]
   refine wpAnyH_take (i := 15) (oi := oLdCk30) (v := E) rfl (by kernel_rfl) (by kernel_rfl) (by kernel_rfl) (fun _ _ _ h => h) (Or.inl ⟨by rfl, fun w _ => by go_simp⟩) hHeld ?_
   simp only [zaP, zsT, zsZ, zsS]
   refine wpAnyH_done (by kernel_rfl) ?_ _
   go_wp2_with fail
   go_meet
   case rel => exact ⟨gg5, rfl, rfl, GG, hide (setRow_heap _ _ _ _ _ _ ZN.out), hide (LdX.set L3.out KV6.out GG.out _)⟩
  exact AllReadyH.nil
 case rest =>
  obtain ⟨g8, rfl, hE9, GE, RY, X2⟩ := hcut
  have hE9' := hE9.symm
  subst hE9'
  obtain ⟨W4, hW4⟩ : ∃ W, W = wc := ⟨_, rfl⟩
  rw [← hW4] at RY X2 ⊢
  clear hW4 SAT C0 CI1
  have XF : Hid (LdX g T (.slice (some ⟨q, 0, none⟩) ks.length cap) ks v b r w W4) := (LdX.of HL.out B3.out).trans X2.out
  by_cases hd : dcB m = true
  case neg =>
   obtain ⟨Q, HQ⟩ : ∃ Q, Hid (Q = Value.agg #[.string keyTxt, esI p]) := ⟨_, hide rfl⟩
   have hE : E = .iface 173 Q := by rw [EE.out, HQ.out]; unfold pubE; rw [if_neg hd]; rfl
   have EV : Hid (chE p s gA ks v t = .iface 173 Q) := by show _ = _; rw [EC2.out, if_neg hd, HQ.out]; rfl
   rw [hE]
   clear hE
   go_wp2_with fail
   go_returns
   exact ⟨by rw [EV.out] <;> rfl, XF.out⟩
  case pos =>
   have hE : E = .nilIface := by rw [EE.out]; unfold pubE; rw [if_pos hd]
   have hY : Y = pubA b m (pofF m) := by rw [EY.out]; unfold pubV; rw [if_pos hd]
   obtain ⟨F, EF⟩ : ∃ F, Hid (F = pofF m) := ⟨_, hide rfl⟩
   rw [← EF.out] at hY
   rw [hY] at RY HYs
   rw [hE]
   clear hE
   obtain ⟨Z, EZ⟩ : ∃ E, Hid (E = pvE s gA m G S) := ⟨_, hide rfl⟩
   have EV : Hid (chE p s gA ks v t = Z) := by show _ = _; rw [EC2.out, if_pos hd, EZ.out]
   have Hdc := hide hd
   clear hd
   have CI3 : Hid (W4.cell? ⟨w.heap.size, 3, none⟩ = some (.string G)) := (World.cell?_of_block (X2.out.1.block w.heap.size lI3 (by omega) (by omega))).trans CI3.out
   have RI : Hid (W4.heap[w.heap.size]? = some (.cells IR 114 (0, 0))) := (X2.out.1.block _ lI3 (by omega) (by omega)).trans RI.out
   have RS : Hid (W4.rangeAt w.heap.size 4 (S.map cv)) := img_sg (by rw [← EI.out]; exact RI.out)
   obtain ⟨M, EM⟩ : ∃ M, Hid (M = (S.map cv).toArray) := ⟨_, hide rfl⟩
   have NB := hide (N3.out.trans (X2.out.1.below (by omega) (by omega) N3.out.size))
   have V4 := hide (HE.out.below NB.out)
   have ci3 := CI3.out
   go_wp2_with (first
    | (refine wpList_load_row (by rfl) 153 (.tmp 6) (by rfl) g8 (by rfl) _ (pubA b m F) (0, 0) _ RY.out Tryz.underlying153 rfl HYs.out ?_)
    | (refine wpList_load_mid (by rfl) 102 (.tmp 49) (by rfl) w.heap.size 4 (by rfl) (S.map cv) _ RS.out under64 rfl (by rw [List.length_map, lS.out]; exact size64) ?_; rw [← EM.out]))
   obtain ⟨l4, c4, L4⟩ := X2.out.2
   refine (pubVerN b m G S lS.out lG.out Hdc.out F EF.out M EM.out s gA W4 V4.out.gl V4.out.tab V4.out.ord (by omega) L4.base V4.out.sen.fs V4.out.sen.fg (by have := sent_blk HE.out.sen.fg; omega) Z EZ.out).mono ?_
   rintro e W5 ⟨rfl, hX, hA⟩
   have XL : Hid (LdX g T (.slice (some ⟨q, 0, none⟩) ks.length cap) ks v b r W4 W5) := ⟨Bx2.of hX, l4, c4, L4.step (Bx2.of hX) hA ((hX.block r (lt_row L4.map) (fun e => L4.br e.symm)).trans L4.map) L4.ent⟩
   clear hX hA L4
   go_wp2_with fail
   go_returns
   exact ⟨by rw [EV.out] <;> rfl, XF.out.trans XL.out⟩
end
end Go.Proofs.YtccgfabojbjmjaaGreatDoor
