import Derived.Test.YtccgfabojbjmjaaGreatDoorPx11
import Derived.Deep.DeepHandedRow
import Derived.Test.YtccgfabojbjmjaaGreatDoorPx18
import Derived.ArgAppend
import Derived.Laws.IdiomStrings
import Derived.OwnWalk
import Derived.Deep.Draws
import Derived.Maps.AppendAt
import Derived.Deep.RegionHeld3
import Derived.Laws.CopyOwn
import Derived.Deep.AppendLies
import Derived.Test.YtccgfabojbjmjaaGreatDoorPx17
namespace Go.Proofs.YtccgfabojbjmjaaGreatDoor
open Go.RowKit
def Cg (a x e : Nat) : Prop := x % P = a ^ e % P
theorem Cg.one (a : Nat) : Cg a a 1 := by unfold Cg; rw [Nat.pow_one]
theorem Cg.mP {a x y e f : Nat} (hx : Cg a x e) (hy : Cg a y f) : Cg a (mP x y) (e + f) := by
 unfold Cg Proofs.YtccgfabojbjmjaaGreatDoor.mP at *
 rw [Nat.mod_mod, Nat.mul_mod, hx, hy, ← Nat.mul_mod, Nat.pow_add]
theorem Cg.sqN {a x e : Nat} (k : Nat) (hx : Cg a x e) : Cg a (sqN k x) (e * 2 ^ k) := by
 induction k generalizing x e with
 | zero => rw [Nat.pow_zero, Nat.mul_one]; exact hx
 | succ k ih =>
  have := ih (Cg.mP hx hx)
  rw [Nat.pow_succ, Nat.mul_comm (2 ^ k) 2, ← Nat.mul_assoc, Nat.mul_two]
  exact this
theorem Cg.cast {a x e f : Nat} (h : Cg a x e) (hf : e = f) : Cg a x f := hf ▸ h
theorem lgN_pow (a : Nat) : Cg a (lgN a) 1809251394333065553493296640760748560207343510400633813116524750123642650623 := by
 have c1 := Cg.one a
 have c2 := ((c1.sqN 1).mP c1).cast (show 1 * 2 ^ 1 + 1 = 3 by decide)
 have c4 := ((c2.sqN 2).mP c2).cast (show 3 * 2 ^ 2 + 3 = 15 by decide)
 have c5 := ((c4.sqN 1).mP c1).cast (show 15 * 2 ^ 1 + 1 = 31 by decide)
 have c10 := ((c5.sqN 5).mP c5).cast (show 31 * 2 ^ 5 + 31 = 1023 by decide)
 have c20 := ((c10.sqN 10).mP c10).cast (show 1023 * 2 ^ 10 + 1023 = 1048575 by decide)
 have c40 := ((c20.sqN 20).mP c20).cast (show 1048575 * 2 ^ 20 + 1048575 = 1099511627775 by decide)
 have c50 := ((c40.sqN 10).mP c10).cast (show 1099511627775 * 2 ^ 10 + 1023 = 1125899906842623 by decide)
 have c100 := ((c50.sqN 50).mP c50).cast (show 1125899906842623 * 2 ^ 50 + 1125899906842623 = 1267650600228229401496703205375 by decide)
 have c200 := ((c100.sqN 100).mP c100).cast (show 1267650600228229401496703205375 * 2 ^ 100 + 1267650600228229401496703205375 = 1606938044258990275541962092341162602522202993782792835301375 by decide)
 exact ((c200.sqN 50).mP c50).cast (by decide)
def E8 : Nat := 7237005577332262213973186563042994240829374041602535252466099000494570602493
theorem rpN_pow (a : Nat) : Cg a (rpN a) E8 :=
 (((lgN_pow a).sqN 2).mP (Cg.one a)).cast (by decide)
def Pm2 : Nat := 57896044618658097711785492504343953926634992332820282019728792003956564819947
theorem Pm2_succ : Pm2 + 1 = P - 1 := by decide
theorem invN_pow (a : Nat) : Cg a (invN a) Pm2 := by
 have c1 := Cg.one a
 exact (((lgN_pow a).sqN 5).mP ((c1.mP (c1.sqN 1)).mP (c1.sqN 3))).cast (by decide)
theorem invN_eq (a : Nat) : invN a = a ^ Pm2 % P := by
 have := invN_pow a
 unfold Cg at this
 rw [Nat.mod_eq_of_lt (invN_lt a)] at this; exact this
theorem fermat {a : Nat} (h : a % P ≠ 0) : a ^ (P - 1) % P = 1 := prP.2 a h
theorem inv_mul {a : Nat} (h : a % P ≠ 0) : a * invN a % P = 1 := by
 have e := invN_eq a
 rw [e, Nat.mul_mod, Nat.mod_mod, ← Nat.mul_mod, ← Nat.pow_succ', show Pm2.succ = P - 1 from Pm2_succ]
 exact fermat h
end Go.Proofs.YtccgfabojbjmjaaGreatDoor
namespace Go.Proofs.YtccgfabojbjmjaaGreatDoor
open Go.RowKit
theorem mP_comm (a b : Nat) : mP a b = mP b a := by unfold mP; rw [Nat.mul_comm]
theorem mP_assoc (a b c : Nat) : mP (mP a b) c = mP a (mP b c) := by
 unfold mP
 rw [Nat.mul_mod (a * b % P) c, Nat.mod_mod, ← Nat.mul_mod, Nat.mul_mod a (b * c % P), Nat.mod_mod, ← Nat.mul_mod, Nat.mul_assoc]
theorem mP_one {a : Nat} (h : a < P) : mP a 1 = a := by unfold mP; rw [Nat.mul_one, Nat.mod_eq_of_lt h]
theorem mP_inv {v : Nat} (h : v % P ≠ 0) : mP v (invN v) = 1 := inv_mul h
theorem E8_id : Pm2 * (E8 + 1) = 3 + 7 * E8 + (P - 1) * E8 := by decide +kernel
def pwP (a e : Nat) : Nat := a ^ e % P
theorem pwP_mP (a b e : Nat) : pwP (mP a b) e = mP (pwP a e) (pwP b e) := by
 unfold pwP mP
 rw [← Nat.pow_mod, Nat.mul_pow, Nat.mul_mod]
theorem pwP_add (a e f : Nat) : pwP a (e + f) = mP (pwP a e) (pwP a f) := by
 unfold pwP mP
 rw [Nat.pow_add, Nat.mul_mod]
theorem pwP_mul (a e f : Nat) : pwP (pwP a e) f = pwP a (e * f) := by
 unfold pwP
 rw [← Nat.pow_mod, ← Nat.pow_mul]
theorem pwP_lt (a e : Nat) : pwP a e < P := Nat.mod_lt _ P_pos
theorem pwP_one {a : Nat} (h : a < P) : pwP a 1 = a := by unfold pwP; rw [Nat.pow_one, Nat.mod_eq_of_lt h]
theorem one_pwP (e : Nat) : pwP 1 e = 1 := by unfold pwP; rw [Nat.one_pow]; decide
theorem pwP_fermat {v : Nat} (h : v % P ≠ 0) (e : Nat) : pwP v ((P - 1) * e) = 1 := by
 rw [← pwP_mul, show pwP v (P - 1) = 1 from fermat h, one_pwP]
theorem rpN_pw (a : Nat) : rpN a = pwP a E8 := by
 have := rpN_pow a
 unfold Cg at this
 rw [Nat.mod_eq_of_lt (rpN_lt a)] at this
 exact this
theorem invN_pw (a : Nat) : invN a = pwP a Pm2 := invN_eq a
theorem cbN_pw {v : Nat} (h : v < P) : cbN v = pwP v 3 := by
 rw [show 3 = 1 + 1 + 1 from rfl, pwP_add, pwP_add, pwP_one h]; rfl
theorem svN_pw {v : Nat} (h : v < P) : svN v = pwP v 7 := by
 rw [show 7 = 3 + 3 + 1 from rfl, pwP_add, pwP_add, pwP_one h, ← cbN_pw h]; rfl
theorem root_same {u v : Nat} (hu : u < P) (hv : v < P) (h0 : v % P ≠ 0) : rtN u v = pwP (mP u (invN v)) (E8 + 1) := by
 unfold rtN
 rw [rpN_pw, pwP_mP, cbN_pw hv, svN_pw hv, pwP_mP, invN_pw, pwP_mul, pwP_mul, E8_id, pwP_add v (3 + 7 * E8), pwP_fermat h0, mP_one (pwP_lt _ _), pwP_add v 3, Nat.add_comm E8 1, pwP_add u 1, pwP_one hu]
 rw [mP_assoc, mP_assoc, ← mP_assoc (pwP v 3) (pwP u E8), mP_comm (pwP v 3) (pwP u E8), mP_assoc]
theorem test_one {u v : Nat} (hu : u < P) (h0 : v % P ≠ 0) : sqrN u v = u ↔ mP (rtN u v) (rtN u v) = mP u (invN v) := by
 unfold sqrN
 constructor
 ·
  intro h
  have e : mP (mP (mP (rtN u v) (rtN u v)) v) (invN v) = mP u (invN v) := by rw [h]
  rw [mP_assoc _ v, mP_inv h0, mP_one (mP_lt _ _)] at e
  exact e
 ·
  intro h
  rw [h, mP_assoc, mP_comm (invN v) v, mP_inv h0, mP_one hu]
theorem sP_mP (u x : Nat) (hu : u < P) : mP (sP 0 u) x = sP 0 (mP u x) := by
 unfold mP sP
 rw [Nat.zero_add, Nat.zero_add]
 have h1 : u * x % P < P := Nat.mod_lt _ P_pos
 have e1 : ((P - u) * x + u * x) % P = 0 := by rw [← Nat.add_mul, Nat.sub_add_cancel (Nat.le_of_lt hu), Nat.mul_mod_right]
 have e2 : (P - u) % P * x % P = (P - u) * x % P := by rw [Nat.mul_mod, Nat.mod_mod, ← Nat.mul_mod]
 rw [e2]
 rw [Nat.add_mod] at e1
 have h2 : (P - u) * x % P < P := Nat.mod_lt _ P_pos
 generalize (P - u) * x % P = a at *
 generalize u * x % P = b at *
 rw [P_val] at *
 omega
theorem test_two {u v : Nat} (hu : u < P) (h0 : v % P ≠ 0) : sqrN u v = sP 0 u ↔ mP (rtN u v) (rtN u v) = sP 0 (mP u (invN v)) := by
 unfold sqrN
 rw [← sP_mP u (invN v) hu]
 constructor
 ·
  intro h
  have e : mP (mP (mP (rtN u v) (rtN u v)) v) (invN v) = mP (sP 0 u) (invN v) := by rw [h]
  rw [mP_assoc _ v, mP_inv h0, mP_one (mP_lt _ _)] at e
  exact e
 ·
  intro h
  rw [h, mP_assoc, mP_comm (invN v) v, mP_inv h0, mP_one (sP_lt _ _)]
theorem sizeU8 : (Tryz.prog.info? 5).map (·.size) = some 1 := by kernel_rfl
theorem underU8 : Tryz.prog.underlying 5 = some (.int .u8) := by kernel_rfl
theorem underStr : Tryz.prog.underlying 9 = some .string := by kernel_rfl
theorem underSl8 : Tryz.prog.underlying 89 = some (.slice 5) := by kernel_rfl
theorem slice32_all (b o : Nat) (w : World) :
  (Instr.sliceAt 61 (.pointer (some ⟨b, o, none⟩)) none none none).run Tryz.prog w = .ok (.slice (some ⟨b, o, none⟩) 32 32) w := by
 cases hq : Tryz.prog.info? 5 with
 | none => have := sizeU8; rw [hq] at this; cases this
 | some i =>
  simp [Instr.sliceAt, Instr.sureAddr, run_underlying under32, Instr.sliceBounds, sizeOf, typeInfo, hq, Addr.add]
theorem conv32 (w : World) (q : Nat) (l : List UInt8) (hl : l.length = 32) (T : TypeId) (h : w.heap[q]? = some (.cells (l.map cv).toArray T (0, 0))) :
  (convert 89 9 (.slice (some ⟨q, 0, none⟩) 32 32)).run Tryz.prog w = .ok (.string (strOf l)) w := by
 have e := run_convert_bytes_back (P := Tryz.prog) w 89 9 5 ⟨q, 0, none⟩ 32 l underSl8 underU8 underStr (fun i hi => by
  rw [Addr.add_mid, Nat.zero_add, cell_of_row w q i _ T _ h]
  simp [hi, C8])
 rw [hl] at e
 exact e
theorem leB_zero : leB 0 32 = List.replicate 32 0 := by decide +kernel
def codeN (y : Nat) (odd : Bool) : Nat := if odd then y + 57896044618658097711785492504343953926634992332820282019728792003956564819968 else y
def ksB (s : ByteArray) : List UInt8 := if s.size = 32 then bytesOf s else List.replicate 32 0
def ksO (s : ByteArray) : Bool := decide (s.size = 32)
theorem ksB_length (s : ByteArray) : (ksB s).length = 32 := by
 unfold ksB; split
 · rename_i h; rw [bytesOf_length, h]
 · simp
theorem array32 (b cap : Nat) (w : World) : (Instr.arrayAt 61 (.slice (some ⟨b, 0, none⟩) 32 cap)).run Tryz.prog w = .ok (.pointer (some ⟨b, 0, none⟩)) w := by
 simp [Instr.arrayAt, run_underlying under32]
theorem z32_all : z32.all (·.oneCell') = true := all_oneCell_toArray (bytes_cell _)
set_option maxRecDepth 100000 in
set_option maxHeartbeats 400000 in
theorem keySized_any (s : ByteArray) (w : World) :
  Calls Tryz.prog 117 #[.string s] w fun e w' => e = .returned (.tuple #[.agg ((ksB s).map cv).toArray, .bool (ksO s)]) ∧ Below w.heap.size w w' := by
 have hz := zero32
 by_cases h32 : s.size = 32
 ·
  have hbne : ((s.size : Int) != 32) = false := by rw [h32]; rfl
  have HE : Hid (ksB s = bytesOf s ∧ ksO s = true) := ⟨by unfold ksB; rw [if_pos h32], by unfold ksO; exact decide_eq_true h32⟩
  obtain ⟨cap, W1, hcv, hR, hB, hS⟩ := conv_bytes 9 89 5 underStr underSl8 underU8 s (w.alloc (.cells z32 61))
  simp only [World.size_alloc] at hcv hR hB hS
  have HR := hide hR
  have HB := hide hB
  have HZ : Hid (W1.heap[w.heap.size]? = some (.cells z32 61 (0, 0))) := (hB.block _ (by omega)).trans (heap_alloc_new _ _)
  have HBw : Hid (Below w.heap.size w W1) := ((Below.refl _ w).alloc (Nat.le_refl _) _).trans (hB.mono (by omega))
  have hlen : ((bytesOf s).map cv).length = 32 := by rw [List.length_map, bytesOf_length, h32]
  obtain ⟨M, HM⟩ : ∃ M, Hid (M = (bytesOf s).map cv) := ⟨_, rfl⟩
  have HSz : Hid ((Tryz.prog.info? 61).map (·.size) = some M.length) := by rw [HM.out, hlen]; exact size32
  have HSz2 : Hid ((Tryz.prog.info? 61).map (·.size) = some M.toArray.size) := by show _ = _; rw [size32]; simp [HM.out, bytesOf_length, h32]
  have HOo : Hid (z32.size = M.toArray.size) := by show _ = _; simp [HM.out, bytesOf_length, h32]; rfl
  have HA : Hid (M.toArray.all (·.oneCell') = true) := by rw [HM.out]; exact all_oneCell_toArray (bytes_cell _)
  rw [h32] at hcv
  rw [← HM.out] at HR
  have harr := array32 (w.heap.size + 1) cap W1
  clear hR hB hlen h32
  go_enter Tryz.func117, Tryz.ntmps117
  go_wp2_with (first
   | (refine wpList_load_mid (by rfl) 61 (.tmp 10) (by rfl) (w.heap.size + 1) 0 (by rfl) M _ HR.out under32 rfl HSz.out ?_)
   | (refine wpList_store_row (by rfl) 61 (.tmp 2) (.tmp 11) (by rfl) w.heap.size M.toArray (by rfl) (by rfl) 61 _ HZ.out HSz2.out HOo.out HA.out ?_))
  refine bodyPost_ret (v := .tuple #[.agg M.toArray, .bool true]) (results_cell_tmp_row Tryz.results117 _ _ w.heap.size 61 M.toArray (0, 0) _ (by rfl) (setRow_heap _ _ _ _ _ _ HZ.out) under32 rfl HSz2.out) rfl ⟨by rw [HE.out.1, HE.out.2, HM.out], below_setRow HBw.out (Nat.le_refl _) _⟩
 ·
  have hbne : ((s.size : Int) != 32) = true := by rw [bne_iff_ne]; omega
  have HE : Hid (ksB s = List.replicate 32 0 ∧ ksO s = false) := ⟨by unfold ksB; rw [if_neg h32], by unfold ksO; exact decide_eq_false h32⟩
  clear h32
  go_enter Tryz.func117, Tryz.ntmps117
  go_wp2_with (first
   | (refine wpList_store_row (by rfl) 61 (.tmp 2) (.tmp 7) (by rfl) w.heap.size z32 (by rfl) (by rfl) 61 _ (heap_alloc_new _ _) size32 rfl z32_all ?_))
  refine bodyPost_ret (v := .tuple #[.agg z32, .bool false]) (results_cell_tmp_row Tryz.results117 _ _ w.heap.size 61 z32 (0, 0) _ (by rfl) (setRow_heap _ _ _ _ _ _ (heap_alloc_new _ _)) under32 rfl size32) rfl ⟨by rw [HE.out.1, HE.out.2]; rfl, below_setRow (by go_grown) (Nat.le_refl _) _⟩
def Own (w : World) (B : Nat) (e : TypeId) (v : Value) (xs : List Value) : Prop :=
 (v = .slice none 0 0 ∧ xs = []) ∨
 ∃ g cap cur fr, v = .slice (some ⟨g, 0, none⟩) xs.length cap ∧ B ≤ g ∧ w.heap[g]? = some (.cells cur e fr) ∧ (fr = (0, 0) ∨ cur.size ≤ fr.1) ∧ xs.length ≤ cap ∧ cap ≤ maxLen ∧ cur.size = cap ∧ cur.toList.take xs.length = xs
theorem Own.nil (w : World) (B : Nat) (e : TypeId) : Own w B e (.slice none 0 0) [] := .inl ⟨rfl, rfl⟩
theorem Own.of_row {w : World} {B : Nat} {e : TypeId} {v : Value} {n : Nat} {xs : List Value} (h : w.ownsRow B e 1 v n xs) : Own w B e v xs := by
 obtain ⟨hl, ⟨rfl, rfl⟩ | ⟨g, cap, cur, rfl, h1, h2, h3, h4, h5, h6⟩⟩ := h
 · exact .inl ⟨rfl, List.eq_nil_of_length_eq_zero (by simpa using hl)⟩
 ·
  rw [Nat.mul_one] at hl h5 h6
  subst hl
  exact .inr ⟨g, cap, cur, (0, 0), rfl, h1, h2, .inl rfl, h3, h4, h5, h6⟩
theorem Own.mono {w : World} {B B' : Nat} {e : TypeId} {v : Value} {xs : List Value} (h : Own w B e v xs) (hB : B' ≤ B) : Own w B' e v xs := by
 rcases h with h | ⟨g, cap, cur, fr, h0, h1, h2⟩
 · exact .inl h
 · exact .inr ⟨g, cap, cur, fr, h0, Nat.le_trans hB h1, h2⟩
theorem Own.form {w : World} {B : Nat} {e : TypeId} {v : Value} {xs : List Value} (h : Own w B e v xs) (hx : 0 < xs.length) :
  ∃ g cap, v = .slice (some ⟨g, 0, none⟩) xs.length cap ∧ B ≤ g ∧ g < w.heap.size ∧ xs.length ≤ cap ∧ cap ≤ maxLen ∧ ∀ i, i < xs.length → w.cell? ⟨g, i, none⟩ = xs[i]? := by
 rcases h with ⟨_, rfl⟩ | ⟨g, cap, cur, fr, h0, h1, h2, _, h4, h5, h6, h7⟩
 · simp at hx
 ·
  refine ⟨g, cap, h0, h1, ?_, h4, h5, fun i hi => ?_⟩
  ·
   rcases Nat.lt_or_ge g w.heap.size with q | q
   · exact q
   · rw [Array.getElem?_eq_none q] at h2; cases h2
  ·
   rw [cell_of_row w g i cur e fr h2]
   have e1 : (cur.toList.take xs.length)[i]? = xs[i]? := by rw [h7]
   rw [List.getElem?_take, if_pos hi] at e1
   simpa using e1
theorem Own.kept {w w' : World} {B : Nat} {e : TypeId} {v : Value} {xs : List Value} (h : Own w B e v xs) (hk : ∀ g, v.ownBlock = some g → w'.heap[g]? = w.heap[g]?) : Own w' B e v xs := by
 rcases h with h | ⟨g, cap, cur, fr, h0, h1, h2, h3⟩
 · exact .inl h
 · exact .inr ⟨g, cap, cur, fr, h0, h1, (hk g (by rw [h0]; rfl)).trans h2, h3⟩
theorem Own.alloc {w : World} {B : Nat} {e : TypeId} {v : Value} {xs : List Value} (h : Own w B e v xs) (o : Obj) : Own (w.alloc o) B e v xs := by
 rcases h with h | ⟨g, cap, cur, fr, h0, h1, h2, h3⟩
 · exact .inl h
 ·
  refine .inr ⟨g, cap, cur, fr, h0, h1, ?_, h3⟩
  have hg : g < w.heap.size := by
   rcases Nat.lt_or_ge g w.heap.size with q | q
   · exact q
   · rw [Array.getElem?_eq_none q] at h2; cases h2
  exact (heap_alloc_old w o hg).trans h2
theorem _root_.Go.RowKit.Below.drewN {B : Nat} {a w : World} (h : Below B a w) (n : Nat) : Below B a (w.drewN n) := ⟨h.os, h.tape, h.output, h.size, h.block⟩
theorem setCells_row (g : Nat) (t : TypeId) (fr : Nat × Nat) : ∀ (vs : List Value) (o : Nat) (cur : Array Value) (w : World), w.heap[g]? = some (.cells cur t fr) → o + vs.length ≤ cur.size →
  ∃ cur' : Array Value, (w.setCells g o vs).heap[g]? = some (.cells cur' t fr) ∧ cur'.size = cur.size ∧ cur'.toList.take (o + vs.length) = cur.toList.take o ++ vs
 | [], o, cur, w, hg, _ => ⟨cur, hg, rfl, by simp⟩
 | v :: r, o, cur, w, hg, hl => by
  have hl' : o + (r.length + 1) ≤ cur.size := by simpa using hl
  have h1 : (w.setCell ⟨g, o, none⟩ v).heap[g]? = some (.cells (cur.setIfInBounds o v) t fr) := by
   rw [setCell_eq_setRow w g o cur t fr v hg]; exact setRow_heap w g cur _ t fr hg
  obtain ⟨c', a1, a2, a3⟩ := setCells_row g t fr r (o + 1) _ _ h1 (by simp; omega)
  refine ⟨c', a1, by simpa using a2, ?_⟩
  have e1 : o + (v :: r).length = o + 1 + r.length := by simp; omega
  rw [e1, a3]
  have e2 : (cur.setIfInBounds o v).toList.take (o + 1) = cur.toList.take o ++ [v] := by
   rw [Array.toList_setIfInBounds, List.take_succ_eq_append_getElem (by simp; omega), List.take_set_of_le (Nat.le_refl _)]
   simp
  rw [e2]; simp
theorem setCells_other (g k : Nat) (hk : k ≠ g) : ∀ (vs : List Value) (o : Nat) (w : World), (w.setCells g o vs).heap[k]? = w.heap[k]?
 | [], _, _ => rfl
 | v :: r, o, w => by rw [World.setCells, setCells_other g k hk r, Below.heap_setCell _ _ _ _ (by exact hk)]
theorem setCells_size (g : Nat) : ∀ (vs : List Value) (o : Nat) (w : World), (w.setCells g o vs).heap.size = w.heap.size
 | [], _, _ => rfl
 | v :: r, o, w => by rw [World.setCells, setCells_size g r]; simp
theorem setCells_rest (g : Nat) : ∀ (vs : List Value) (o : Nat) (w : World), (w.setCells g o vs).os = w.os ∧ (w.setCells g o vs).tape = w.tape ∧ (w.setCells g o vs).output = w.output
 | [], _, _ => ⟨rfl, rfl, rfl⟩
 | v :: r, o, w => by rw [World.setCells]; exact setCells_rest g r (o + 1) _
section
variable {P : Program} (w : World)
theorem run_append_Own (B : Nat) (t ty e : TypeId) (i : TypeInfo) (z : Value) (bytes : Nat) (ht : P.underlying t = some (.slice e)) (hi : P.info? e = some i) (hz : i.zero = some z)
  (hsize : i.size = 1) (hby : i.bytes = bytes) (hzs : z.cells.size = 1) (v : Value) (xs : List Value) (hown : Own w B e v xs)
  (a : Addr) (m c : Nat) (news : List Value) (hl : news.length = m) (hnews : ∀ j u, news[j]? = some u → w.cell? (a.add j) = some u) (h1 : ∀ u ∈ news, u.oneCell' = true)
  (h63 : xs.length + m ≤ maxLen) (hbytes : (xs.length + m) * bytes ≤ 140737488355328) (hbase : B ≤ w.heap.size) :
  ∃ v' w', (Builtin.append_ #[t, t] ty #[v, .slice (some a) m c]).run P w = .ok v' w' ∧ Own w' B e v' (xs ++ news) ∧ w.grownBy w' v.ownBlock ∧ ∀ g j, v.ownBlock = some g → j < xs.length → w'.cell? ⟨g, j, none⟩ = w.cell? ⟨g, j, none⟩ := by
 rcases hown with ⟨rfl, rfl⟩ | ⟨g, cap, cur, fr, rfl, hB, hg, hfr, hlc, hcm, hcs, htk⟩
 ·
  obtain ⟨v', w', hr, h2, h3, _⟩ := run_append_own (P := P) w B t ty e i z 1 bytes ht hi hz hsize hby hzs (by omega) (.slice none 0 0) 0 [] (World.ownsRow_nil w B e 1) a m c news (by omega) hnews h1 (by simpa using h63) (by simpa using hbytes) hbase
  exact ⟨v', w', hr, Own.of_row h2, h3, fun g j hg => by cases hg⟩
 ·
  have hcells : ∀ j, w.cell? ⟨g, j, none⟩ = cur[j]? := fun j => cell_of_row w g j cur e fr hg
  by_cases hroom : xs.length + m ≤ cap
  ·
   have hr := run_append_room_cells (P := P) w t ty e i ht hi g 0 xs.length cap a m c news (by rw [hsize]; omega) hnews h1 hroom
    (fun j hj => by rw [hsize, Nat.zero_add, Nat.mul_one, hcells]; simp; omega)
    (fun j hj => by
     rw [hsize, Nat.zero_add, Nat.mul_one]
     simp only [World.frozen?, hg]
     rcases hfr with rfl | hfr
     · simp
     · simp; omega)
   rw [hsize, Nat.zero_add, Nat.mul_one] at hr
   obtain ⟨cur', b1, b2, b3⟩ := setCells_row g e fr news xs.length cur w hg (by omega)
   refine ⟨_, _, hr, .inr ⟨g, cap, cur', fr, by rw [List.length_append, hl], hB, b1, by rw [b2]; exact hfr, by rw [List.length_append, hl]; exact hroom, hcm, by rw [b2, hcs], ?_⟩, ?_, ?_⟩
   · rw [List.length_append, b3, htk]
   · exact ⟨(setCells_rest g news _ w).1, (setCells_rest g news _ w).2.1, (setCells_rest g news _ w).2.2, by rw [setCells_size]; exact Nat.le_refl _, fun k _ hk => setCells_other g k (fun e => hk (by simp [Value.ownBlock, e])) news _ w⟩
   ·
    intro g' j hg' hj
    simp [Value.ownBlock] at hg'; subst hg'
    exact World.cell?_setCells_out _ news _ w _ (fun _ _ => Or.inl hj)
  ·
   obtain ⟨v', w', hrun, r1, r2⟩ := run_append_arg_grows (P := P) w t ty e i z 1 bytes ht hi hz hsize hby hzs (by omega) ⟨g, 0, none⟩ xs.length cap xs (by omega) (fun j u hj => by
    have hjl : j < xs.length := (List.getElem?_eq_some_iff.1 hj).1
    rw [Addr.add_lit, Nat.zero_add, hcells]
    have e1 : (cur.toList.take xs.length)[j]? = xs[j]? := by rw [htk]
    rw [List.getElem?_take, if_pos hjl] at e1
    rw [← hj, ← e1]; simp) a m c news (by omega) hnews (by omega) h63 hbytes
   exact ⟨v', w', hrun, (Own.of_row r1).mono hbase, ⟨r2.os, r2.tape, r2.output, r2.size, fun k hk _ => r2.block k hk (by simp)⟩, fun g' j hg' _ => by
    simp [Value.ownBlock] at hg'; subst hg'
    have hlt : g < w.heap.size := by
     rcases Nat.lt_or_ge g w.heap.size with q | q
     · exact q
     · rw [Array.getElem?_eq_none q] at hg; cases hg
    exact World.cell?_of_block (w := w) (r2.block g hlt (by simp))⟩
theorem wpList_append_Own {ops : Array Oper} {rest : List Oper} {o : Oper} {a : Act} {Q : Exit → Act → World → Prop} (hgd : o.guard = none) (s x : Operand) (t : TypeId)
  (ho : o.op = .call { callee := .builtin .append, args := #[s, x], argTypes := #[t, t] })
  (B : Nat) (e : TypeId) (i : TypeInfo) (z : Value) (bytes : Nat) (ht : P.underlying t = some (.slice e)) (hi : P.info? e = some i) (hz : i.zero = some z)
  (hsize : i.size = 1) (hby : i.bytes = bytes) (hzs : z.cells.size = 1)
  (v : Value) (xs : List Value) (hs : a.eval s = v) (hown : Own w B e v xs)
  (ad : Addr) (m c : Nat) (news : List Value) (hx : a.eval x = .slice (some ad) m c) (hl : news.length = m) (hnews : ∀ j u, news[j]? = some u → w.cell? (ad.add j) = some u) (h1 : ∀ u ∈ news, u.oneCell' = true)
  (h63 : xs.length + m ≤ maxLen) (hbytes : (xs.length + m) * bytes ≤ 140737488355328) (hbase : B ≤ w.heap.size)
  (h : ∀ v' w', Hid (Own w' B e v' (xs ++ news)) → Hid (w.grownBy w' v.ownBlock) → wpList P ops Q rest (a.put o.dst v') w') : wpList P ops Q (o :: rest) a w := by
 refine wpList_plain hgd fun _ hK => ?_
 obtain ⟨v', w', hr, h2, h3, _⟩ := run_append_Own (P := P) w B t o.type e i z bytes ht hi hz hsize hby hzs v xs hown ad m c news hl hnews h1 h63 hbytes hbase
 unfold Oper.wp execOp
 simp only [ho, resolve, invoke, builtin, Sem.run_bind, Sem.run_pure, Result.andThen_ok, List.map_toArray, List.map_cons, List.map_nil, hs, hx, hr]
 exact hK _ _ (h v' w' h2 h3)
end
section
variable {P : Program} (w : World)
end
theorem own_ge {w : World} {B : Nat} {e : TypeId} {v : Value} {xs : List Value} (h : Own w B e v xs) {q : Nat} (hq : v.ownBlock = some q) : B ≤ q := by
 rcases h with ⟨rfl, _⟩ | ⟨g, cap, cur, fr, rfl, h1, _⟩
 · cases hq
 · simp [Value.ownBlock] at hq; omega
noncomputable def HS.done (X : HS) : HS := if X.filled = 0 then X.mix else X
noncomputable def HS.chunk (H : HS) (l : List UInt8) : HS := HS.done { H with blk := splice H.blk H.filled l, n := H.n + l.length }
noncomputable def HS.put (H : HS) (c : UInt8) : HS := H.chunk [c]
noncomputable def HS.puts (H : HS) (l : List UInt8) : HS := l.foldl HS.put H
theorem HS.puts_append (H : HS) (l m : List UInt8) : H.puts (l ++ m) = (H.puts l).puts m := List.foldl_append ..
theorem HS.puts_cons (H : HS) (c : UInt8) (m : List UInt8) : H.puts (c :: m) = (H.put c).puts m := rfl
theorem splice_step {α : Type} (L : List α) (f : Nat) (c : α) (m : List α) (h : f + 1 + m.length ≤ L.length) : splice (splice L f [c]) (f + 1) m = splice L f (c :: m) := by
 unfold splice
 have h1 : (L.take f).length = f := by simp; omega
 have e1 : (L.take f ++ ([c] ++ L.drop (f + [c].length))).take (f + 1) = L.take f ++ [c] := by
  rw [← List.append_assoc, List.take_append_of_le_length (by simp; omega)]
  exact List.take_of_length_le (by simp; omega)
 have e2 : (L.take f ++ ([c] ++ L.drop (f + [c].length))).drop (f + 1 + m.length) = L.drop (f + 1 + m.length) := by
  rw [← List.append_assoc, List.drop_append, List.drop_eq_nil_of_le (by simp; omega), List.nil_append, List.drop_drop]
  congr 1; simp only [List.length_append, h1, List.length_singleton]; omega
 rw [e1, e2]
 simp only [List.append_assoc, List.cons_append, List.nil_append, List.length_cons]
 rw [show f + 1 + m.length = f + (m.length + 1) by omega]
theorem HS.chunk_cons (H : HS) (c : UInt8) (m : List UInt8) (hm : m ≠ []) (hl : H.blk.length = 128) (h : H.filled + (m.length + 1) ≤ 128) : H.chunk (c :: m) = (H.put c).chunk m := by
 have hm0 : 0 < m.length := List.length_pos_iff.2 hm
 have hf := H.filled_lt
 have e : H.put c = { H with blk := splice H.blk H.filled [c], n := H.n + 1 } := by
  unfold HS.put HS.chunk HS.done
  rw [if_neg]; rfl
  show ¬ (H.n + [c].length) % 128 = 0
  have : H.n % 128 = H.filled := rfl
  simp; omega
 have e2 : ({ H with blk := splice H.blk H.filled [c], n := H.n + 1 } : HS).filled = H.filled + 1 := by
  show (H.n + 1) % 128 = H.n % 128 + 1
  have : H.n % 128 = H.filled := rfl
  omega
 rw [e]
 unfold HS.chunk
 rw [e2]
 congr 2
 · exact (splice_step H.blk H.filled c m (by omega)).symm
 · simp; omega
theorem HS.chunk_puts (l : List UInt8) : ∀ (H : HS), l ≠ [] → H.blk.length = 128 → H.filled + l.length ≤ 128 → H.chunk l = H.puts l := by
 induction l with
 | nil => intro H h; exact absurd rfl h
 | cons c m ih =>
  intro H _ hl h
  by_cases hm : m = []
  · subst hm; rfl
  ·
   rw [H.chunk_cons c m hm hl (by simpa using h), H.puts_cons]
   have e : H.put c = { H with blk := splice H.blk H.filled [c], n := H.n + 1 } := by
    have hm0 : 0 < m.length := List.length_pos_iff.2 hm
    unfold HS.put HS.chunk HS.done
    rw [if_neg]; rfl
    show ¬ (H.n + [c].length) % 128 = 0
    have : H.n % 128 = H.filled := rfl
    simp at h ⊢; omega
   refine ih _ hm ?_ ?_
   · rw [e]; exact (length_splice _ _ _ (by have := H.filled_lt; simp; omega)).trans hl
   ·
    rw [e]; show (H.n + 1) % 128 + _ ≤ _
    have hm0 : 0 < m.length := List.length_pos_iff.2 hm
    have : H.n % 128 = H.filled := rfl
    simp at h; omega
theorem HS.row_splice (H : HS) (off : Nat) (l : List UInt8) (h : off + l.length ≤ H.blk.length) :
  H.row.take (8 + off) ++ l.map cv ++ H.row.drop (8 + off + l.length) = ({ H with blk := splice H.blk off l } : HS).row := by
 have h8 : (H.st.words.map uv).length = 8 := rfl
 have e1 : H.row.take (8 + off) = H.st.words.map uv ++ (H.blk.take off).map cv := by
  unfold HS.row
  rw [List.take_append, List.take_of_length_le (by rw [h8]; omega), h8, Nat.add_sub_cancel_left, List.take_append_of_le_length (by simp; omega), List.map_take]
 have e2 : H.row.drop (8 + off + l.length) = (H.blk.drop (off + l.length)).map cv ++ [uv H.hi, uv H.lo] := by
  unfold HS.row
  rw [List.drop_append, List.drop_eq_nil_of_le (by rw [h8]; omega), h8, List.nil_append, List.drop_append, List.map_drop]
  have : 8 + off + l.length - 8 = off + l.length := by omega
  rw [this]
  have h0 : off + l.length - (List.map cv H.blk).length = 0 := by simp; omega
  rw [h0]; rfl
 rw [e1, e2]
 show _ = H.st.words.map uv ++ ((splice H.blk off l).map cv ++ [uv H.hi, uv H.lo])
 simp [splice]
theorem run_copy_str {P : Program} (w : World) (dT sT ty elem : TypeId) (g o dLen dCap : Nat) (s : ByteArray) (cur : List Value) (t : TypeId) (n : Nat)
  (hu : P.underlying dT = some (.slice elem)) (hs : (P.info? elem).map (·.size) = some 1) (hg : w.heap[g]? = some (.cells cur.toArray t (0, 0))) (hn : Nat.min s.size dLen = n) (hfit : o + n ≤ cur.length) :
  (Builtin.copy_ #[dT, sT] ty #[.slice (some ⟨g, o, none⟩) dLen dCap, .string s]).run P w =
   .ok (goInt n) (w.setRow g (cur.take o ++ (s.data.toList.take n).map cv ++ cur.drop (o + n)).toArray) := by
 have hsz : s.size = s.data.toList.length := rfl
 have hln : n ≤ s.data.toList.length := by rw [← hsz, ← hn]; exact Nat.min_le_left _ _
 have hlen : ((s.data.toList.take n).map cv).length = n := by rw [List.length_map, List.length_take]; exact Nat.min_eq_left hln
 have hst := run_storeCells_at P g o t ((s.data.toList.take n).map cv) 0 cur.toArray w hg (by rw [hlen]; simpa using hfit) (by
  intro v hv; obtain ⟨x, _, rfl⟩ := List.mem_map.1 hv; rfl)
 rw [hlen] at hst
 simp only [Nat.add_zero] at hst
 have htk : (Array.map (fun b : UInt8 => Value.int IntKind.u8 (b.toNat : Int)) (s.extract 0 n).data).toList = (s.data.toList.take n).map cv := by
  simp only [Array.toList_map, ByteArray.data_extract, Array.toList_extract, List.extract_eq_take_drop, List.drop_zero, Nat.sub_zero]; rfl
 cases hq : P.info? elem with
 | none => simp [hq] at hs
 | some i =>
  simp only [Builtin.copy_, Sem.run_bind, run_underlying hu, Result.andThen_ok, Builtin.lenOf, Builtin.firstCells, Sem.run_pure, hn, List.getElem?_toArray, List.getElem?_cons_zero, List.getElem?_cons_succ]
  rw [htk]
  simp [sizeOf, typeInfo, hq, hst, -List.map_take]
def strLen : Value → Nat
 | .string s => s.size
 | _ => 0
def bytesOfH (s : ByteArray) : List UInt8 := s.data.toList
theorem bytesOf_lengthH (s : ByteArray) : (bytesOfH s).length = s.size := rfl
theorem bytesOf_extract (s : ByteArray) (n : Nat) : bytesOfH (s.extract n s.size) = (bytesOfH s).drop n := by
 unfold bytesOfH
 simp only [ByteArray.data_extract, Array.toList_extract, List.extract_eq_take_drop]
 exact List.take_of_length_le (by rw [List.length_drop]; exact Nat.le_refl _)
theorem extract_size (s : ByteArray) (n : Nat) : (s.extract n s.size).size = s.size - n := by simp
theorem sizeSl39 : Tryz.prog.underlying 89 = some (.slice 5) := by kernel_rfl
section
attribute [local go_sem] U_and U_or U_xor U_not U_add U_add_one
attribute [local go_sem ↓] Go.wp_at_zero Go.wp_at_succ
set_option maxRecDepth 100000 in
set_option maxHeartbeats 4000000 in
theorem write_any (b : Nat) (T : TypeId) (H : HS) (s : ByteArray) (w : World) (h : Has w b T H) (hK : Tab w) (hb0 : 9 ≠ b) (hs : s.size ≤ maxLen) :
  Calls Tryz.prog 82 #[.pointer (some ⟨b, 0, none⟩), .string s] w fun e w' => e = .returned (.tuple #[]) ∧ Has w' b T (H.puts (bytesOfH s)) ∧ Turn b w w' := by
 unfold maxLen at hs
 have HH : Hid (Has w b T H) := h
 have HK : Hid (Tab w) := hK
 clear h hK
 go_enter Tryz.func82, Tryz.ntmps82
 go_wp2_with fail
 go_loopw [1] (fun v wr => ∃ (t : ByteArray) (J : HS), v = .string t ∧ t.size ≤ 9223372036854775807 ∧ Hid (J.puts (bytesOfH t) = H.puts (bytesOfH s)) ∧ Hid (Has wr b T J) ∧ Hid (Turn b w wr)) (fun v _ => strLen v)
 case atStart => exact ⟨s, H, rfl, hs, rfl, HH, Turn.refl _ _⟩
 case round =>
  obtain ⟨t, J, rfl, ht, HJ, hJ, hT⟩ := hrel
  by_cases hpos : 0 < t.size
  ·
   obtain ⟨f, hf⟩ : ∃ f, f = J.filled := ⟨_, rfl⟩
   have hf1 : f < 128 := by rw [hf]; exact J.filled_lt
   obtain ⟨n, hn⟩ : ∃ n, n = Nat.min t.size (128 - f) := ⟨_, rfl⟩
   have hn1 : n ≤ t.size := by rw [hn]; exact Nat.min_le_left _ _
   have hn2 : n ≤ 128 - f := by rw [hn]; exact Nat.min_le_right _ _
   have hn0 : 0 < n := by rw [hn]; exact Nat.lt_min.2 ⟨hpos, by omega⟩
   have hsl := slice128 b 8 (f : Int) f rfl hf1
   obtain ⟨X, hX⟩ : ∃ X, X = J.row.take (8 + f) ++ ((bytesOfH t).take n).map cv ++ J.row.drop (8 + f + n) := ⟨_, rfl⟩
   have hcp : (Builtin.copy_ #[89, 9] 3 #[.slice (some ⟨b, 8 + f, none⟩) (128 - f) (128 - f), .string t]).run Tryz.prog wr.drew = .ok (goInt n) (wr.drew.setRow b X.toArray) := by
    rw [hX]
    exact run_copy_str wr.drew _ _ _ 5 b (8 + f) (128 - f) (128 - f) t J.row T n sizeSl39 sizeU8H hJ.out.heap hn.symm (by rw [J.row_length hJ.out.len]; omega)
   have HX : Hid (X = J.row.take (8 + f) ++ ((bytesOfH t).take n).map cv ++ J.row.drop (8 + f + n)) := hX
   have HF : Hid (f = J.filled) := hf
   clear hX hf hn
   go_wp2_with fail
   go_region_held3 (fun w' => w'.heap = wr.heap ∨ w'.heap = (wr.setRow b X.toArray).heap) (first | exact Or.inl rfl | exact Or.inr rfl)
    (first | (go_at_call 125; refine (filled_any b T J wr.drew ⟨hJ.out.heap, hJ.out.len⟩).mono ?_; rintro e w' ⟨rfl, rfl⟩; rw [← HF.out]))
   obtain ⟨W1, hW1⟩ : ∃ W1, W1 = wr.drew.setRow b X.toArray := ⟨_, rfl⟩
   rw [← hW1]
   obtain ⟨J1, hJ1⟩ : ∃ J1 : HS, J1 = { J with blk := splice J.blk f ((bytesOfH t).take n) } := ⟨_, rfl⟩
   have hl : ((bytesOfH t).take n).length = n := by rw [List.length_take, bytesOf_lengthH]; omega
   have hA1 : Hid (Has W1 b T J1) := by
    refine ⟨?_, ?_⟩
    ·
     rw [hW1, setRow_heap wr.drew b _ X.toArray T (0, 0) hJ.out.heap, HX.out, hJ1]
     have e := J.row_splice f ((bytesOfH t).take n) (by rw [hl, hJ.out.len]; omega)
     rw [hl] at e
     rw [e]
    · rw [hJ1]; exact (length_splice _ _ _ (by rw [hl, hJ.out.len]; omega)).trans hJ.out.len
   have hT1 : Hid (Turn b w W1) := by
    rw [hW1]
    exact hT.out.trans ⟨rfl, rfl, rfl, by simp, fun k _ hk => setRow_other wr.drew b k _ hk⟩
   have HC : Hid ((J1.count n).done.puts (bytesOfH (t.extract n t.size)) = H.puts (bytesOfH s)) := by
    show _ = _
    rw [bytesOf_extract, ← HJ.out]
    have e1 : (J1.count n).done = J.chunk ((bytesOfH t).take n) := by
     unfold HS.chunk; rw [hl, ← HF.out, hJ1]; rfl
    rw [e1, HS.chunk_puts _ J (by intro e; rw [e] at hl; simp at hl; omega) hJ.out.len (by rw [hl, ← HF.out]; omega), ← HS.puts_append, List.take_append_drop]
   clear hW1 hJ1 hcp hsl hJ hT HX HJ HF
   go_wp2_with fail
   refine (count_any b T J1 _ n (by omega) (by omega) W1 hA1.out).mono ?_
   rintro e W2 ⟨rfl, hA2, hT2⟩
   have hA2' : Hid (Has W2 b T (J1.count n)) := hA2
   have hT2' : Hid (Turn b w W2) := hT1.out.trans hT2
   clear hA2 hT2 hA1 hT1
   go_wp2_with fail
   refine (filled_any b T (J1.count n) W2 hA2'.out).mono ?_
   rintro e w' ⟨rfl, rfl⟩
   by_cases h0 : (J1.count n).filled = 0
   ·
    have hq : (((J1.count n).filled : Int) == 0) = true := by rw [h0]; rfl
    have HD : Hid ((J1.count n).done = (J1.count n).mix) := by show _ = _; unfold HS.done; rw [if_pos h0]
    clear h0
    go_wp2_with fail
    refine (mixBlock_any b T (J1.count n) w' hA2'.out (HK.out.turn hT2'.out hb0) hb0).mono ?_
    rintro e W3 ⟨rfl, hA3, hT3⟩
    rw [HD.out] at HC
    have hA3' : Hid (Has W3 b T (J1.count n).mix) := hA3
    have hT3' : Hid (Turn b w W3) := hT2'.out.trans hT3
    clear hA3 hT3 hA2' hT2'
    go_wp2_with fail
    go_roundw
    case rel => exact ⟨_, _, rfl, by rw [extract_size]; omega, HC, hA3', hT3'⟩
    case measure => simp only [strLen, extract_size]; omega
   ·
    have hq : (((J1.count n).filled : Int) == 0) = false := by simpa using h0
    have HD : Hid ((J1.count n).done = J1.count n) := by show _ = _; unfold HS.done; rw [if_neg h0]
    clear h0
    rw [HD.out] at HC
    go_wp2_with fail
    go_roundw
    case rel => exact ⟨_, _, rfl, by rw [extract_size]; omega, HC, hA2', hT2'⟩
    case measure => simp only [strLen, extract_size]; omega
  ·
   have h0 : t.size = 0 := by omega
   have hb : bytesOfH t = [] := List.eq_nil_of_length_eq_zero h0
   have HE : Hid (J = H.puts (bytesOfH s)) := by have := HJ.out; rw [hb] at this; exact this
   have hp : ¬ (0 : Int) < (t.size : Int) := by omega
   clear hpos h0 hb HJ
   go_wp2_with fail
   go_end0
   exact ⟨rfl, by rw [← HE.out]; exact hJ.out, hT.out⟩
end
theorem zeroU8 (w : World) : (zeroValue 5).run Tryz.prog w = .ok (.int .u8 0) w := by kernel_rfl
theorem zeroCells_u8 (n : Nat) : (Builtin.zeroCells (Value.int .u8 0).cells n).toList = (List.replicate n (0 : UInt8)).map cv := by
 have e : (Value.int .u8 0).cells = #[Value.int .u8 0] := rfl
 rw [e]
 unfold Builtin.zeroCells
 apply List.ext_getElem?
 intro i
 by_cases hi : i < n
 ·
  have h1 : i % 1 = 0 := Nat.mod_one i
  simp [hi]
  rw [h1]; rfl
 · simp [hi]
theorem run_clear_bytes (w : World) (ty : TypeId) (g o n cap : Nat) (cur : List Value) (t : TypeId) (hn : 0 < n) (hg : w.heap[g]? = some (.cells cur.toArray t (0, 0))) (hfit : o + n ≤ cur.length) :
  (Builtin.clear_ #[89] ty #[.slice (some ⟨g, o, none⟩) n cap]).run Tryz.prog w =
   .ok (.tuple #[]) (w.setRow g (cur.take o ++ (List.replicate n (0 : UInt8)).map cv ++ cur.drop (o + n)).toArray) := by
 obtain ⟨m, rfl⟩ : ∃ m, n = m + 1 := ⟨n - 1, by omega⟩
 have hlen : ((List.replicate (m + 1) (0 : UInt8)).map cv).length = m + 1 := by simp
 have hst := run_storeCells_at Tryz.prog g o t ((List.replicate (m + 1) (0 : UInt8)).map cv) 0 cur.toArray w hg (by rw [hlen]; simpa using hfit) (by
  intro v hv; obtain ⟨x, _, rfl⟩ := List.mem_map.1 hv; rfl)
 rw [hlen] at hst
 simp only [Nat.add_zero] at hst
 simp only [Builtin.clear_, Sem.run_bind, run_underlying sizeSl39, Result.andThen_ok, Sem.run_pure, List.getElem?_toArray, List.getElem?_cons_zero]
 simp only [zeroU8, Result.andThen_ok, zeroCells_u8]
 rw [hst]
 rfl
theorem run_clear_none (w : World) (ty : TypeId) (a : Option Addr) (cap : Nat) : (Builtin.clear_ #[89] ty #[.slice a 0 cap]).run Tryz.prog w = .ok (.tuple #[]) w := by
 cases a <;> simp [Builtin.clear_, run_underlying sizeSl39]
theorem slice128_end (b o : Nat) (w : World) :
  (Instr.sliceAt 164 (.pointer (some ⟨b, o, none⟩)) (some (.int .i64 128)) none none).run Tryz.prog w = .ok (.slice (some ⟨b, o, none⟩) 0 0) w := by
 cases hq : Tryz.prog.info? 5 with
 | none => have := sizeU8H; rw [hq] at this; cases this
 | some i =>
  have hi : i.size = 1 := by have := sizeU8H; rw [hq] at this; simpa using this
  simp [Instr.sliceAt, Instr.sureAddr, run_underlying under128, Instr.sliceBounds, run_sliceBound, sizeOf, typeInfo, hq, hi]
theorem slice128_all (b o : Nat) (w : World) :
  (Instr.sliceAt 164 (.pointer (some ⟨b, o, none⟩)) none none none).run Tryz.prog w = .ok (.slice (some ⟨b, o, none⟩) 128 128) w := by
 cases hq : Tryz.prog.info? 5 with
 | none => have := sizeU8H; rw [hq] at this; cases this
 | some i =>
  simp [Instr.sliceAt, Instr.sureAddr, run_underlying under128, Instr.sliceBounds, sizeOf, typeInfo, hq, Addr.add]
def layB (l : List UInt8) (off : Nat) (x : BitVec 64) : Nat → List UInt8
 | 0 => l
 | k + 1 => (layB l off x k).set (off + k) (byteOf x k)
theorem layB_length (l : List UInt8) (off : Nat) (x : BitVec 64) (k : Nat) : (layB l off x k).length = l.length := by
 induction k with
 | zero => rfl
 | succ k ih => simp [layB, ih]
theorem lay_row (H : HS) (off : Nat) (x : BitVec 64) (k : Nat) (h : off + k ≤ H.blk.length) : lay H.row (8 + off) x k = ({ H with blk := layB H.blk off x k } : HS).row := by
 induction k with
 | zero => cases H; rfl
 | succ k ih =>
  have e := HS.set_blk { H with blk := layB H.blk off x k } (off + k) (by show _ < (layB H.blk off x k).length; rw [layB_length]; omega) (byteOf x k)
  show (lay H.row (8 + off) x k).set (8 + off + k) (cv (byteOf x k)) = _
  rw [ih (by omega), Nat.add_assoc, e]
  rfl
def be8 (x : BitVec 64) : List UInt8 := [byteOf x 0, byteOf x 1, byteOf x 2, byteOf x 3, byteOf x 4, byteOf x 5, byteOf x 6, byteOf x 7]
theorem layB_all (l : List UInt8) (off : Nat) (x : BitVec 64) (h : off + 8 ≤ l.length) : layB l off x 8 = l.take off ++ (be8 x ++ l.drop (off + 8)) := by
 apply List.ext_getElem?
 intro i
 have ht : (l.take off).length = off := by simp; omega
 by_cases h1 : i < off
 ·
  rw [List.getElem?_append_left (by omega), List.getElem?_take, if_pos h1]
  simp only [layB]
  rw [List.getElem?_set_ne (by omega), List.getElem?_set_ne (by omega), List.getElem?_set_ne (by omega), List.getElem?_set_ne (by omega), List.getElem?_set_ne (by omega), List.getElem?_set_ne (by omega), List.getElem?_set_ne (by omega), List.getElem?_set_ne (by omega)]
 ·
  obtain ⟨j, rfl⟩ : ∃ j, i = off + j := ⟨i - off, by omega⟩
  rw [List.getElem?_append_right (by omega), ht, Nat.add_sub_cancel_left]
  by_cases h2 : j < 8
  ·
   rw [List.getElem?_append_left (by exact h2)]
   have hj : j = 0 ∨ j = 1 ∨ j = 2 ∨ j = 3 ∨ j = 4 ∨ j = 5 ∨ j = 6 ∨ j = 7 := by omega
   have hl : ∀ k, k < 8 → off + k < l.length := fun k hk => by omega
   have hl0 : off < l.length := by omega
   rcases hj with rfl | rfl | rfl | rfl | rfl | rfl | rfl | rfl <;> simp [layB, be8, hl, hl0]
  ·
   rw [List.getElem?_append_right (by show 8 ≤ j; omega), List.getElem?_drop]
   simp only [layB]
   have e : off + 8 + (j - (be8 x).length) = off + j := by show off + 8 + (j - 8) = _; omega
   rw [e, List.getElem?_set_ne (by omega), List.getElem?_set_ne (by omega), List.getElem?_set_ne (by omega), List.getElem?_set_ne (by omega), List.getElem?_set_ne (by omega), List.getElem?_set_ne (by omega), List.getElem?_set_ne (by omega), List.getElem?_set_ne (by omega)]
def HS.marked (H : HS) : HS := { H with blk := H.blk.take H.filled ++ (128 :: List.replicate (127 - H.filled) 0) }
noncomputable def HS.roomed (H : HS) : HS := if 112 ≤ H.filled then { H.marked.mix with blk := List.replicate 128 0 } else H.marked
def HS.hi3 (H : HS) : BitVec 64 := H.hi <<< 3 ||| H.lo >>> 61
def HS.lo3 (H : HS) : BitVec 64 := H.lo <<< 3
noncomputable def HS.ended (H : HS) : HS := HS.mix { H.roomed with blk := layB (layB H.roomed.blk 112 H.hi3 8) 120 H.lo3 8 }
theorem HS.marked_length (H : HS) (h : H.blk.length = 128) : H.marked.blk.length = 128 := by
 have := H.filled_lt
 simp [HS.marked, h]; omega
theorem HS.roomed_n (H : HS) : H.roomed.n = H.n := by
 unfold HS.roomed; split <;> cases H <;> rfl
end Go.Proofs.YtccgfabojbjmjaaGreatDoor
