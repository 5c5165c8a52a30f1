import Derived.Test.YtccgfabojbjmjaaGreatDoorSd11
import Derived.Deep.DeepHandedRow
import Derived.Test.YtccgfabojbjmjaaGreatDoorSd19
import Derived.ArgAppend
import Derived.Laws.IdiomStrings
import Derived.OwnWalk
import Derived.Deep.Draws
import Derived.Maps.AppendAt
import Derived.Deep.RegionHeld3
import Derived.Test.YtccgfabojbjmjaaGreatDoorSd18
namespace Go.Proofs.YtccgfabojbjmjaaGreatDoor
def Cg (a x e : Nat) : Prop := x % P = a ^ e % P
theorem Cg.one (a : Nat) : Cg a a 1 := by unfold Cg; rw [Nat.pow_one]
theorem Cg.mP {a x y e f : Nat} (hx : Cg a x e) (hy : Cg a y f) : Cg a (mP x y) (e + f) := by
 unfold Cg Proofs.YtccgfabojbjmjaaGreatDoor.mP at *
 rw [Nat.mod_mod, Nat.mul_mod, hx, hy, ← Nat.mul_mod, Nat.pow_add]
theorem Cg.sqN {a x e : Nat} (k : Nat) (hx : Cg a x e) : Cg a (sqN k x) (e * 2 ^ k) := by
 induction k generalizing x e with
 | zero => rw [Nat.pow_zero, Nat.mul_one]; exact hx
 | succ k ih =>
  have := ih (Cg.mP hx hx)
  rw [Nat.pow_succ, Nat.mul_comm (2 ^ k) 2, ← Nat.mul_assoc, Nat.mul_two]
  exact this
theorem Cg.cast {a x e f : Nat} (h : Cg a x e) (hf : e = f) : Cg a x f := hf ▸ h
theorem lgN_pow (a : Nat) : Cg a (lgN a) 1809251394333065553493296640760748560207343510400633813116524750123642650623 := by
 have c1 := Cg.one a
 have c2 := ((c1.sqN 1).mP c1).cast (show 1 * 2 ^ 1 + 1 = 3 by decide)
 have c4 := ((c2.sqN 2).mP c2).cast (show 3 * 2 ^ 2 + 3 = 15 by decide)
 have c5 := ((c4.sqN 1).mP c1).cast (show 15 * 2 ^ 1 + 1 = 31 by decide)
 have c10 := ((c5.sqN 5).mP c5).cast (show 31 * 2 ^ 5 + 31 = 1023 by decide)
 have c20 := ((c10.sqN 10).mP c10).cast (show 1023 * 2 ^ 10 + 1023 = 1048575 by decide)
 have c40 := ((c20.sqN 20).mP c20).cast (show 1048575 * 2 ^ 20 + 1048575 = 1099511627775 by decide)
 have c50 := ((c40.sqN 10).mP c10).cast (show 1099511627775 * 2 ^ 10 + 1023 = 1125899906842623 by decide)
 have c100 := ((c50.sqN 50).mP c50).cast (show 1125899906842623 * 2 ^ 50 + 1125899906842623 = 1267650600228229401496703205375 by decide)
 have c200 := ((c100.sqN 100).mP c100).cast (show 1267650600228229401496703205375 * 2 ^ 100 + 1267650600228229401496703205375 = 1606938044258990275541962092341162602522202993782792835301375 by decide)
 exact ((c200.sqN 50).mP c50).cast (by decide)
def E8 : Nat := 7237005577332262213973186563042994240829374041602535252466099000494570602493
theorem rpN_pow (a : Nat) : Cg a (rpN a) E8 :=
 (((lgN_pow a).sqN 2).mP (Cg.one a)).cast (by decide)
def Pm2 : Nat := 57896044618658097711785492504343953926634992332820282019728792003956564819947
theorem Pm2_succ : Pm2 + 1 = P - 1 := by decide
theorem invN_pow (a : Nat) : Cg a (invN a) Pm2 := by
 have c1 := Cg.one a
 exact (((lgN_pow a).sqN 5).mP ((c1.mP (c1.sqN 1)).mP (c1.sqN 3))).cast (by decide)
theorem invN_eq (a : Nat) : invN a = a ^ Pm2 % P := by
 have := invN_pow a
 unfold Cg at this
 rw [Nat.mod_eq_of_lt (invN_lt a)] at this; exact this
theorem fermat {a : Nat} (h : a % P ≠ 0) : a ^ (P - 1) % P = 1 := prP.2 a h
theorem inv_mul {a : Nat} (h : a % P ≠ 0) : a * invN a % P = 1 := by
 have e := invN_eq a
 rw [e, Nat.mul_mod, Nat.mod_mod, ← Nat.mul_mod, ← Nat.pow_succ', show Pm2.succ = P - 1 from Pm2_succ]
 exact fermat h
end Go.Proofs.YtccgfabojbjmjaaGreatDoor
namespace Go.Proofs.YtccgfabojbjmjaaGreatDoor
open Go.RowKit
theorem mP_comm (a b : Nat) : mP a b = mP b a := by unfold mP; rw [Nat.mul_comm]
theorem mP_assoc (a b c : Nat) : mP (mP a b) c = mP a (mP b c) := by
 unfold mP
 rw [Nat.mul_mod (a * b % P) c, Nat.mod_mod, ← Nat.mul_mod, Nat.mul_mod a (b * c % P), Nat.mod_mod, ← Nat.mul_mod, Nat.mul_assoc]
theorem mP_one {a : Nat} (h : a < P) : mP a 1 = a := by unfold mP; rw [Nat.mul_one, Nat.mod_eq_of_lt h]
theorem mP_inv {v : Nat} (h : v % P ≠ 0) : mP v (invN v) = 1 := inv_mul h
theorem E8_id : Pm2 * (E8 + 1) = 3 + 7 * E8 + (P - 1) * E8 := by decide +kernel
def pwP (a e : Nat) : Nat := a ^ e % P
theorem pwP_mP (a b e : Nat) : pwP (mP a b) e = mP (pwP a e) (pwP b e) := by
 unfold pwP mP
 rw [← Nat.pow_mod, Nat.mul_pow, Nat.mul_mod]
theorem pwP_add (a e f : Nat) : pwP a (e + f) = mP (pwP a e) (pwP a f) := by
 unfold pwP mP
 rw [Nat.pow_add, Nat.mul_mod]
theorem pwP_mul (a e f : Nat) : pwP (pwP a e) f = pwP a (e * f) := by
 unfold pwP
 rw [← Nat.pow_mod, ← Nat.pow_mul]
theorem pwP_lt (a e : Nat) : pwP a e < P := Nat.mod_lt _ P_pos
theorem pwP_one {a : Nat} (h : a < P) : pwP a 1 = a := by unfold pwP; rw [Nat.pow_one, Nat.mod_eq_of_lt h]
theorem one_pwP (e : Nat) : pwP 1 e = 1 := by unfold pwP; rw [Nat.one_pow]; decide
theorem pwP_fermat {v : Nat} (h : v % P ≠ 0) (e : Nat) : pwP v ((P - 1) * e) = 1 := by
 rw [← pwP_mul, show pwP v (P - 1) = 1 from fermat h, one_pwP]
theorem rpN_pw (a : Nat) : rpN a = pwP a E8 := by
 have := rpN_pow a
 unfold Cg at this
 rw [Nat.mod_eq_of_lt (rpN_lt a)] at this
 exact this
theorem invN_pw (a : Nat) : invN a = pwP a Pm2 := invN_eq a
theorem cbN_pw {v : Nat} (h : v < P) : cbN v = pwP v 3 := by
 rw [show 3 = 1 + 1 + 1 from rfl, pwP_add, pwP_add, pwP_one h]; rfl
theorem svN_pw {v : Nat} (h : v < P) : svN v = pwP v 7 := by
 rw [show 7 = 3 + 3 + 1 from rfl, pwP_add, pwP_add, pwP_one h, ← cbN_pw h]; rfl
theorem root_same {u v : Nat} (hu : u < P) (hv : v < P) (h0 : v % P ≠ 0) : rtN u v = pwP (mP u (invN v)) (E8 + 1) := by
 unfold rtN
 rw [rpN_pw, pwP_mP, cbN_pw hv, svN_pw hv, pwP_mP, invN_pw, pwP_mul, pwP_mul, E8_id, pwP_add v (3 + 7 * E8), pwP_fermat h0, mP_one (pwP_lt _ _), pwP_add v 3, Nat.add_comm E8 1, pwP_add u 1, pwP_one hu]
 rw [mP_assoc, mP_assoc, ← mP_assoc (pwP v 3) (pwP u E8), mP_comm (pwP v 3) (pwP u E8), mP_assoc]
theorem test_one {u v : Nat} (hu : u < P) (h0 : v % P ≠ 0) : sqrN u v = u ↔ mP (rtN u v) (rtN u v) = mP u (invN v) := by
 unfold sqrN
 constructor
 ·
  intro h
  have e : mP (mP (mP (rtN u v) (rtN u v)) v) (invN v) = mP u (invN v) := by rw [h]
  rw [mP_assoc _ v, mP_inv h0, mP_one (mP_lt _ _)] at e
  exact e
 ·
  intro h
  rw [h, mP_assoc, mP_comm (invN v) v, mP_inv h0, mP_one hu]
theorem sP_mP (u x : Nat) (hu : u < P) : mP (sP 0 u) x = sP 0 (mP u x) := by
 unfold mP sP
 rw [Nat.zero_add, Nat.zero_add]
 have h1 : u * x % P < P := Nat.mod_lt _ P_pos
 have e1 : ((P - u) * x + u * x) % P = 0 := by rw [← Nat.add_mul, Nat.sub_add_cancel (Nat.le_of_lt hu), Nat.mul_mod_right]
 have e2 : (P - u) % P * x % P = (P - u) * x % P := by rw [Nat.mul_mod, Nat.mod_mod, ← Nat.mul_mod]
 rw [e2]
 rw [Nat.add_mod] at e1
 have h2 : (P - u) * x % P < P := Nat.mod_lt _ P_pos
 generalize (P - u) * x % P = a at *
 generalize u * x % P = b at *
 rw [P_val] at *
 omega
theorem test_two {u v : Nat} (hu : u < P) (h0 : v % P ≠ 0) : sqrN u v = sP 0 u ↔ mP (rtN u v) (rtN u v) = sP 0 (mP u (invN v)) := by
 unfold sqrN
 rw [← sP_mP u (invN v) hu]
 constructor
 ·
  intro h
  have e : mP (mP (mP (rtN u v) (rtN u v)) v) (invN v) = mP (sP 0 u) (invN v) := by rw [h]
  rw [mP_assoc _ v, mP_inv h0, mP_one (mP_lt _ _)] at e
  exact e
 ·
  intro h
  rw [h, mP_assoc, mP_comm (invN v) v, mP_inv h0, mP_one (sP_lt _ _)]
theorem sizeU8 : (Tryz.prog.info? 5).map (·.size) = some 1 := by kernel_rfl
theorem underU8 : Tryz.prog.underlying 5 = some (.int .u8) := by kernel_rfl
theorem underStr : Tryz.prog.underlying 9 = some .string := by kernel_rfl
theorem underSl8 : Tryz.prog.underlying 89 = some (.slice 5) := by kernel_rfl
theorem slice32_all (b o : Nat) (w : World) :
  (Instr.sliceAt 61 (.pointer (some ⟨b, o, none⟩)) none none none).run Tryz.prog w = .ok (.slice (some ⟨b, o, none⟩) 32 32) w := by
 cases hq : Tryz.prog.info? 5 with
 | none => have := sizeU8; rw [hq] at this; cases this
 | some i =>
  simp [Instr.sliceAt, Instr.sureAddr, run_underlying under32, Instr.sliceBounds, sizeOf, typeInfo, hq, Addr.add]
theorem conv32 (w : World) (q : Nat) (l : List UInt8) (hl : l.length = 32) (T : TypeId) (h : w.heap[q]? = some (.cells (l.map cv).toArray T (0, 0))) :
  (convert 89 9 (.slice (some ⟨q, 0, none⟩) 32 32)).run Tryz.prog w = .ok (.string (strOf l)) w := by
 have e := run_convert_bytes_back (P := Tryz.prog) w 89 9 5 ⟨q, 0, none⟩ 32 l underSl8 underU8 underStr (fun i hi => by
  rw [Addr.add_mid, Nat.zero_add, cell_of_row w q i _ T _ h]
  simp [hi, C8])
 rw [hl] at e
 exact e
theorem array64 (b cap : Nat) (w : World) : (Instr.arrayAt 102 (.slice (some ⟨b, 0, none⟩) 64 cap)).run Tryz.prog w = .ok (.pointer (some ⟨b, 0, none⟩)) w := by
 simp [Instr.arrayAt, run_underlying under64]
section
attribute [local irreducible] wd V
set_option maxRecDepth 100000 in
set_option maxHeartbeats 400000 in
theorem latchReduce_any (s : ByteArray) (w : World) (hO : OrdAt w) :
  Calls Tryz.prog 19 #[.string s] w fun e w' => (s.size = 64 → e = .returned (.tuple #[.string (strOf (leB (valLE (bytesOf s) % Lord) 32)), .int .i64 0])) ∧ (s.size ≠ 64 → e = .returned (.tuple #[.string ⟨#[]⟩, .int .i64 1])) ∧ Below w.heap.size w w' := by
 have hz := zero32
 have HO := hide hO
 clear hO
 by_cases h64 : s.size = 64
 ·
  have hbne : ((s.size : Int) != 64) = false := by rw [h64]; rfl
  obtain ⟨cap, W1, hcv, hR, hB, hS⟩ := conv_bytes 9 89 5 underStr underSl8 underU8 s w
  have HR := hide hR
  have HB := hide hB
  have H64 := hide h64
  have hlen : ((bytesOf s).map cv).length = 64 := by rw [List.length_map, bytesOf_length, h64]
  have HSz : Hid ((Tryz.prog.info? 102).map (·.size) = some ((bytesOf s).map cv).length) := by rw [hlen]; exact size64
  rw [h64] at hcv
  obtain ⟨M, HM⟩ : ∃ M, Hid (M = (bytesOf s).map cv) := ⟨_, rfl⟩
  rw [← HM.out] at HSz HR
  clear hR hB hlen
  have harr := array64 w.heap.size cap W1
  go_enter Tryz.func19, Tryz.ntmps19
  go_wp2_with (first | (refine wpList_load_mid (by rfl) 102 (.tmp 10) (by rfl) w.heap.size 0 (by rfl) M _ HR.out under64 rfl HSz.out ?_))
  refine (reduce_list (bytesOf s) H64.out M HM.out W1 (HO.out.below HB.out HO.out.lt)).mono ?_
  rintro e Wr ⟨rfl, hBr⟩
  go_wp2_with fail
  refine (bytes_wd (valLE (bytesOf s) % Lord) Wr).mono ?_
  rintro e W2 ⟨rfl, hB2⟩
  obtain ⟨L, HL⟩ : ∃ L, Hid (L = leB (valLE (bytesOf s) % Lord) 32) := ⟨_, rfl⟩
  rw [← HL.out]
  have hLl : L.length = 32 := by rw [HL.out, leB_length]
  have HSz2 : Hid ((Tryz.prog.info? 61).map (·.size) = some (L.map cv).toArray.size) := by show _ = _; rw [size32]; simp [hLl]
  have HOo : Hid (z32.size = (L.map cv).toArray.size) := by show _ = _; simp [hLl]; rfl
  have HA : Hid ((L.map cv).toArray.all (·.oneCell') = true) := all_oneCell_toArray (bytes_cell _)
  have HB2 : Hid (Below w.heap.size w W2) := (HB.out.trans (hBr.mono HB.out.size)).trans (hB2.mono (HB.out.trans (hBr.mono HB.out.size)).size)
  have hsl := fun q => slice32_all q 0
  have hcv2 : (convert 89 9 (.slice (some ⟨W2.heap.size, 0, none⟩) 32 32)).run Tryz.prog ((W2.alloc (.cells z32 61)).setRow W2.heap.size (L.map cv).toArray) = .ok (.string (strOf L)) ((W2.alloc (.cells z32 61)).setRow W2.heap.size (L.map cv).toArray) :=
   conv32 _ _ L hLl 61 (setRow_heap _ _ _ _ _ _ (heap_alloc_new _ _))
  clear hB2 hLl hcv hBr
  generalize hC : (L.map cv).toArray = C at *
  clear hC
  go_wp2_with (first | (refine wpList_store_row (by rfl) 61 (.tmp 4) (.tmp 13) (by rfl) W2.heap.size C (by rfl) (by rfl) 61 _ (heap_alloc_new _ _) HSz2.out HOo.out HA.out ?_))
  go_returns
  exact ⟨fun _ => by rw [← HL.out]; rfl, fun h => absurd H64.out h, below_setRow (HB2.out.alloc HB2.out.size _) HB2.out.size _⟩
 ·
  have hbne : ((s.size : Int) != 64) = true := by rw [bne_iff_ne]; omega
  have H64 := hide h64
  clear h64
  go_enter Tryz.func19, Tryz.ntmps19
  go_wp2_with fail
  go_returns
  exact ⟨fun h => absurd h H64.out, fun _ => rfl, Below.refl _ _⟩
end
def ptA (x y z t : Nat) : Array Value := #[nv (wd x 0), nv (wd x 1), nv (wd x 2), nv (wd x 3), nv (wd y 0), nv (wd y 1), nv (wd y 2), nv (wd y 3), nv (wd z 0), nv (wd z 1), nv (wd z 2), nv (wd z 3), nv (wd t 0), nv (wd t 1), nv (wd t 2), nv (wd t 3)]
abbrev pt (x y z t : Nat) : Value := .agg (ptA x y z t)
abbrev zero16 : Array Value := #[.int .u64 0, .int .u64 0, .int .u64 0, .int .u64 0, .int .u64 0, .int .u64 0, .int .u64 0, .int .u64 0, .int .u64 0, .int .u64 0, .int .u64 0, .int .u64 0, .int .u64 0, .int .u64 0, .int .u64 0, .int .u64 0]
theorem underPt : ∃ fs, Tryz.prog.underlying 82 = some (.struct fs) := ⟨_, Tryz.underlying82⟩
theorem sizePt : (Tryz.prog.info? 82).map (·.size) = some 16 := by kernel_rfl
theorem ptA_size (x y z t : Nat) : (Tryz.prog.info? 82).map (·.size) = some (ptA x y z t).size := sizePt
theorem ptA_all (x y z t : Nat) : (ptA x y z t).all (·.oneCell') = true :=
 all_oneCell_toArray (cs := [nv (wd x 0), nv (wd x 1), nv (wd x 2), nv (wd x 3), nv (wd y 0), nv (wd y 1), nv (wd y 2), nv (wd y 3), nv (wd z 0), nv (wd z 1), nv (wd z 2), nv (wd z 3), nv (wd t 0), nv (wd t 1), nv (wd t 2), nv (wd t 3)]) (by intro v hv; simp at hv; rcases hv with rfl | rfl | rfl | rfl | rfl | rfl | rfl | rfl | rfl | rfl | rfl | rfl | rfl | rfl | rfl | rfl <;> rfl)
theorem builtPt (x y z t : Nat) : Tryz.prog.built 82 [(0, .agg (num4A x)), (1, .agg (num4A y)), (2, .agg (num4A z)), (3, .agg (num4A t))] = some (ptA x y z t) := by kernel_rfl
section
variable {P : Program} (w : World)
end
theorem fold16 (x y z t : Nat) : (Value.agg #[nv (wd x 0), nv (wd x 1), nv (wd x 2), nv (wd x 3), nv (wd y 0), nv (wd y 1), nv (wd y 2), nv (wd y 3), nv (wd z 0), nv (wd z 1), nv (wd z 2), nv (wd z 3), nv (wd t 0), nv (wd t 1), nv (wd t 2), nv (wd t 3)]) = .agg (ptA x y z t) := rfl
theorem feTimesE (a b : Nat) (ha : a < P) (hb : b < P) (w : World) :
  Calls Tryz.prog 93 #[fe a, fe b] w fun e w' => e = .returned (.agg #[nv (wd (mP a b) 0), nv (wd (mP a b) 1), nv (wd (mP a b) 2), nv (wd (mP a b) 3)]) ∧ Below w.heap.size w w' := feTimes a b ha hb w
theorem at5_0 (w : World) (A B C D E : Obj) : (((((w.alloc A).alloc B).alloc C).alloc D).alloc E).heap[w.heap.size]? = some A := by
 rw [heap_alloc_old _ _ (by simp only [World.size_alloc]; omega), heap_alloc_old _ _ (by simp only [World.size_alloc]; omega)]; exact heap3_0 _ _ _ _
theorem at5_1 (w : World) (A B C D E : Obj) : (((((w.alloc A).alloc B).alloc C).alloc D).alloc E).heap[w.heap.size + 1]? = some B := by
 rw [heap_alloc_old _ _ (by simp only [World.size_alloc]; omega), heap_alloc_old _ _ (by simp only [World.size_alloc]; omega)]; exact heap3_1 _ _ _ _
theorem at5_2 (w : World) (A B C D E : Obj) : (((((w.alloc A).alloc B).alloc C).alloc D).alloc E).heap[w.heap.size + 2]? = some C := by
 rw [heap_alloc_old _ _ (by simp only [World.size_alloc]; omega), heap_alloc_old _ _ (by simp only [World.size_alloc]; omega)]; exact heap3_2 _ _ _ _
theorem at5_3 (w : World) (A B C D E : Obj) : (((((w.alloc A).alloc B).alloc C).alloc D).alloc E).heap[w.heap.size + 3]? = some D := by
 have := heap3_1 ((w.alloc A).alloc B) C D E
 simpa using this
theorem at5_4 (w : World) (A B C D E : Obj) : (((((w.alloc A).alloc B).alloc C).alloc D).alloc E).heap[w.heap.size + 4]? = some E := by
 have := heap3_2 ((w.alloc A).alloc B) C D E
 simpa using this
section
attribute [local go_sem] fold16
set_option maxRecDepth 100000 in
set_option maxHeartbeats 2000000 in
theorem feParts (xa xb xc xd : Nat) (he : xa < P) (hf : xb < P) (hg : xc < P) (hh : xd < P) (w : World) :
  Calls Tryz.prog 121 #[fe xa, fe xb, fe xc, fe xd] w fun e w' => e = .returned (pt (mP xa xb) (mP xc xd) (mP xb xc) (mP xa xd)) ∧ Below w.heap.size w w' := by
 have He := hide he; have Hf := hide hf; have Hg := hide hg; have Hh := hide hh; clear he hf hg hh
 obtain ⟨fs, HU⟩ : ∃ fs, Hid (Tryz.prog.underlying 82 = some (.struct fs)) := underPt
 go_enter Tryz.func121, Tryz.ntmps121
 go_wp2_with fail
 obtain ⟨W0, hW0⟩ : ∃ W0, W0 = (((((w.alloc (.cells (num4A xa) 80)).alloc (.cells (num4A xb) 80)).alloc (.cells (num4A xc) 80)).alloc (.cells (num4A xd) 80)).alloc (.cells zero16 82)) := ⟨_, rfl⟩
 rw [← hW0]
 have R0 : Hid (W0.heap[w.heap.size]? = some (.cells (num4A xa) 80 (0, 0))) := by rw [hW0]; exact at5_0 _ _ _ _ _ _
 have R1 : Hid (W0.heap[w.heap.size + 1]? = some (.cells (num4A xb) 80 (0, 0))) := by rw [hW0]; exact at5_1 _ _ _ _ _ _
 have R2 : Hid (W0.heap[w.heap.size + 2]? = some (.cells (num4A xc) 80 (0, 0))) := by rw [hW0]; exact at5_2 _ _ _ _ _ _
 have R3 : Hid (W0.heap[w.heap.size + 3]? = some (.cells (num4A xd) 80 (0, 0))) := by rw [hW0]; exact at5_3 _ _ _ _ _ _
 have RZ : Hid (W0.heap[w.heap.size + 4]? = some (.cells zero16 82 (0, 0))) := by rw [hW0]; exact at5_4 _ _ _ _ _ _
 have BL0 : Hid (Below w.heap.size w W0) := by rw [hW0]; show Below _ _ _; go_grown
 have Z0 : Hid (w.heap.size + 4 < W0.heap.size) := lt_of_row RZ.out
 clear hW0
 obtain ⟨a0, a1, a2, a3⟩ := c4_of R0.out
 obtain ⟨b0, b1, b2, b3⟩ := c4_of R1.out
 obtain ⟨c0, c1, c2, c3⟩ := c4_of R2.out
 obtain ⟨d0, d1, d2, d3⟩ := c4_of R3.out
 go_region_held3 (fun w' => C4 w' w.heap.size xa ∧ C4 w' (w.heap.size + 1) xb ∧ C4 w' (w.heap.size + 2) xc ∧ C4 w' (w.heap.size + 3) xd)
  (first | exact ⟨c4_set (c4_below (c4_of R0.out) K3.out (lt_of_row R0.out)) (by omega), c4_set (c4_below (c4_of R1.out) K3.out (lt_of_row R1.out)) (by omega), c4_set (c4_below (c4_of R2.out) K3.out (lt_of_row R2.out)) (by omega), c4_set (c4_below (c4_of R3.out) K3.out (lt_of_row R3.out)) (by omega)⟩ | exact ⟨c4_below (c4_of R0.out) K3.out (lt_of_row R0.out), c4_below (c4_of R1.out) K3.out (lt_of_row R1.out), c4_below (c4_of R2.out) K3.out (lt_of_row R2.out), c4_below (c4_of R3.out) K3.out (lt_of_row R3.out)⟩ | exact ⟨c4_below (c4_of R0.out) K2.out (lt_of_row R0.out), c4_below (c4_of R1.out) K2.out (lt_of_row R1.out), c4_below (c4_of R2.out) K2.out (lt_of_row R2.out), c4_below (c4_of R3.out) K2.out (lt_of_row R3.out)⟩ | exact ⟨c4_below (c4_of R0.out) K1.out (lt_of_row R0.out), c4_below (c4_of R1.out) K1.out (lt_of_row R1.out), c4_below (c4_of R2.out) K1.out (lt_of_row R2.out), c4_below (c4_of R3.out) K1.out (lt_of_row R3.out)⟩ | exact ⟨c4_below (c4_of R0.out) K0.out (lt_of_row R0.out), c4_below (c4_of R1.out) K0.out (lt_of_row R1.out), c4_below (c4_of R2.out) K0.out (lt_of_row R2.out), c4_below (c4_of R3.out) K0.out (lt_of_row R3.out)⟩ | exact ⟨c4_of R0.out, c4_of R1.out, c4_of R2.out, c4_of R3.out⟩ | go_keep)
  (first
   | (go_at_call 93; (fail_if_success (have zz := K0)); refine (feTimesE xa xb He.out Hf.out _).mono ?_; rintro ee V0 ⟨rfl, HB⟩; have K0 : Hid (Below W0.heap.size W0 V0) := hide (undrew HB); clear HB)
   | (go_at_call 93; (fail_if_success (have zz := K1)); (have zz := K0; clear zz); refine (feTimesE xc xd Hg.out Hh.out _).mono ?_; rintro ee V1 ⟨rfl, HB⟩; have K1 : Hid (Below W0.heap.size W0 V1) := hide (K0.out.trans (HB.mono K0.out.size)); clear HB)
   | (go_at_call 93; (fail_if_success (have zz := K2)); (have zz := K1; clear zz); refine (feTimesE xb xc Hf.out Hg.out _).mono ?_; rintro ee V2 ⟨rfl, HB⟩; have K2 : Hid (Below W0.heap.size W0 V2) := hide (K1.out.trans (HB.mono K1.out.size)); clear HB)
   | (go_at_call 93; (fail_if_success (have zz := K3)); (have zz := K2; clear zz); refine (feTimesE xa xd He.out Hh.out _).mono ?_; rintro ee V3 ⟨rfl, HB⟩; have K3 : Hid (Below W0.heap.size W0 V3) := hide (K2.out.trans (HB.mono K2.out.size)); clear HB; have hst := storeRow_run (P := Tryz.prog) (cs := ptA (mP xa xb) (mP xc xd) (mP xb xc) (mP xa xd)) ((K3.out.block _ Z0.out).trans RZ.out) rfl (ptA_all _ _ _ _); have hs16 : (ptA (mP xa xb) (mP xc xd) (mP xb xc) (mP xa xd)).size = 16 := rfl))
 clear a0 a1 a2 a3 b0 b1 b2 b3 c0 c1 c2 c3 d0 d1 d2 d3 hst hs16
 go_wp2_with fail
 refine bodyPost_ret (v := pt (mP xa xb) (mP xc xd) (mP xb xc) (mP xa xd)) (results_cell_row Tryz.results121 _ _ (w.heap.size + 4) 82 (ptA (mP xa xb) (mP xc xd) (mP xb xc) (mP xa xd)) (0, 0) _ (by rfl) (setRow_heap _ _ _ _ _ _ ((K3.out.block _ Z0.out).trans RZ.out)) HU.out rfl (ptA_size _ _ _ _)) rfl ⟨rfl, below_setRow (BL0.out.trans (K3.out.mono BL0.out.size)) (by omega) _⟩
end
def kws : List (BitVec 64) := [
 4794697086780616226#64, 8158064640168781261#64, 13096744586834688815#64, 16840607885511220156#64,
 4131703408338449720#64, 6480981068601479193#64, 10538285296894168987#64, 12329834152419229976#64,
 15566598209576043074#64, 1334009975649890238#64, 2608012711638119052#64, 6128411473006802146#64,
 8268148722764581231#64, 9286055187155687089#64, 11230858885718282805#64, 13951009754708518548#64,
 16472876342353939154#64, 17275323862435702243#64, 1135362057144423861#64, 2597628984639134821#64,
 3308224258029322869#64, 5365058923640841347#64, 6679025012923562964#64, 8573033837759648693#64,
 10970295158949994411#64, 12119686244451234320#64, 12683024718118986047#64, 13788192230050041572#64,
 14330467153632333762#64, 15395433587784984357#64, 489312712824947311#64, 1452737877330783856#64,
 2861767655752347644#64, 3322285676063803686#64, 5560940570517711597#64, 5996557281743188959#64,
 7280758554555802590#64, 8532644243296465576#64, 9350256976987008742#64, 10552545826968843579#64,
 11727347734174303076#64, 12113106623233404929#64, 14000437183269869457#64, 14369950271660146224#64,
 15101387698204529176#64, 15463397548674623760#64, 17586052441742319658#64, 1182934255886127544#64,
 1847814050463011016#64, 2177327727835720531#64, 2830643537854262169#64, 3796741975233480872#64,
 4115178125766777443#64, 5681478168544905931#64, 6601373596472566643#64, 7507060721942968483#64,
 8399075790359081724#64, 8693463985226723168#64, 9568029438360202098#64, 10144078919501101548#64,
 10430055236837252648#64, 11840083180663258601#64, 13761210420658862357#64, 14299343276471374635#64,
 14566680578165727644#64, 15097957966210449927#64, 16922976911328602910#64, 17689382322260857208#64,
 500013540394364858#64, 748580250866718886#64, 1242879168328830382#64, 1977374033974150939#64,
 2944078676154940804#64, 3659926193048069267#64, 4368137639120453308#64, 4836135668995329356#64,
 5532061633213252278#64, 6448918945643986474#64, 6902733635092675308#64, 7801388544844847127#64]
def kw (i : Nat) : BitVec 64 := kws.getD i 0
def stepW (kk ww : BitVec 64) (s : S8) : S8 :=
 ⟨(s.h + bigSigma1W s.e + chooseW s.e s.f s.g + kk + ww) + (bigSigma0W s.a + majorityW s.a s.b s.c), s.a, s.b, s.c,
  s.d + (s.h + bigSigma1W s.e + chooseW s.e s.f s.g + kk + ww), s.e, s.f, s.g⟩
def rnds (l : List (BitVec 64)) (s : S8) : Nat → S8
 | 0 => s
 | n + 1 => stepW (kw n) (l.getD n 0) (rnds l s n)
theorem sch64_ex : ∃ f : List UInt8 → List (BitVec 64), ∀ blk, f blk = sch blk 64 := ⟨_, fun _ => rfl⟩
noncomputable def sch64 : List UInt8 → List (BitVec 64) := Classical.choose sch64_ex
theorem sch64_eq (blk : List UInt8) : sch64 blk = sch blk 64 := Classical.choose_spec sch64_ex blk
theorem rnd80_ex : ∃ f : List (BitVec 64) → S8 → S8, ∀ l s, f l s = rnds l s 80 := ⟨_, fun _ _ => rfl⟩
noncomputable def rnd80 : List (BitVec 64) → S8 → S8 := Classical.choose rnd80_ex
theorem rnd80_eq (l : List (BitVec 64)) (s : S8) : rnd80 l s = rnds l s 80 := Classical.choose_spec rnd80_ex l s
noncomputable def mixS (s : S8) (blk : List UInt8) : S8 := s.add (rnd80 (sch64 blk) s)
noncomputable def HS.mix (H : HS) : HS := { H with st := mixS H.st H.blk }
def Tab (w : World) : Prop := ∀ i, i < 80 → w.cell? ⟨9, i, none⟩ = some (.int .u64 (U (kw i)))
theorem Tab.lt {w : World} (h : Tab w) : 9 < w.heap.size := World.block_lt_of_cell? w _ (h 0 (by omega))
theorem Tab.turn {b : Nat} {w w' : World} (h : Tab w) (ht : Turn b w w') (hb : 9 ≠ b) : Tab w' := fun i hi =>
 (World.cell?_of_block (w := w) (ht.block 9 h.lt hb)).trans (h i hi)
theorem Tab.below {B : Nat} {w w' : World} (h : Tab w) (ht : Below B w w') (hb : 9 < B) : Tab w' := fun i hi =>
 (ht.cell (by exact hb)).trans (h i hi)
def rowLH (l : List (BitVec 64)) (H : HS) : List Value := l.map uv ++ (H.blk.map cv ++ [uv H.hi, uv H.lo])
theorem rowL_set (l : List (BitVec 64)) (H : HS) (i : Nat) (h : i < l.length) (x : BitVec 64) : (rowLH l H).set i (uv x) = rowLH (l.set i x) H := by
 unfold rowLH; rw [List.set_append_left _ _ (by simpa using h), ← List.map_set]
def addTo (s t : S8) : Nat → List (BitVec 64)
 | 0 => s.words
 | k + 1 => (addTo s t k).set k (s.words.getD k 0 + t.words.getD k 0)
theorem addTo_length (s t : S8) (k : Nat) : (addTo s t k).length = 8 := by
 induction k with
 | zero => rfl
 | succ k ih => simp [addTo, ih]
theorem addTo_all (s t : S8) : addTo s t 8 = (s.add t).words := rfl
theorem rowL_get (l : List (BitVec 64)) (H : HS) (i : Nat) (h : i < l.length) : (rowLH l H)[i]? = some (uv (l.getD i 0)) := by
 unfold rowLH; rw [List.getElem?_append_left (by simpa using h)]; simp [h]
theorem words_cell (s : S8) : ∀ v ∈ s.words.map uv, v.oneCell' = true := by
 intro v hv; obtain ⟨x, _, rfl⟩ := List.mem_map.1 hv; rfl
theorem under8 : Tryz.prog.underlying 163 = some (.array 8 59) := by kernel_rfl
theorem size8 : (Tryz.prog.info? 163).map (·.size) = some 8 := by kernel_rfl
theorem zero8 (w : World) : (zeroValue 163).run Tryz.prog w = .ok (.agg ((List.replicate 8 (0#64)).map uv).toArray) w := by kernel_rfl
theorem _root_.Go.RowKit.Below.drewN {B : Nat} {a w : World} (h : Below B a w) (n : Nat) : Below B a (w.drewN n) := ⟨h.os, h.tape, h.output, h.size, h.block⟩
section
variable {P : Program} (w : World)
end
section
variable {P : Program} (w : World)
end
end Go.Proofs.YtccgfabojbjmjaaGreatDoor
