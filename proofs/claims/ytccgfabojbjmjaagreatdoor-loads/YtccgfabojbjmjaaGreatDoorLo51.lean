import Derived.Test.YtccgfabojbjmjaaGreatDoorLo49
import Derived.Test.YtccgfabojbjmjaaGreatDoorLo50
import Derived.Test.YtccgfabojbjmjaaGreatDoorLo47
import Derived.Laws.MakeOwn
import Derived.Laws.CopyOwn
import Derived.Deep.CutBlock
set_option maxRecDepth 100000
set_option maxHeartbeats 8000000
namespace Go.Proofs.YtccgfabojbjmjaaGreatDoor
open Go.RowKit
open Go.RowKit
def yC (w : World) (a : Option Addr) (keys : List ByteArray) : Prop := ∀ i (h : i < keys.length), ∃ x, a = some x ∧ x.block < w.heap.size ∧ w.cell? (x.add i) = some (.string keys[i])
theorem yC.below {w w' : World} {a : Option Addr} {keys : List ByteArray} (h : yC w a keys) (hb : zB w w') : yC w' a keys := by
 intro i hi
 obtain ⟨x, h1, h2, h3⟩ := h i hi
 exact ⟨x, h1, zl h2 hb.size, (hb.cell (by rw [qa9]; exact h2)).trans h3⟩
theorem qtJ (w : World) : (zeroValue 126).run Tryz.prog w = .ok (.agg #[.slice none 0 0, .int .u32 0]) w := by kernel_rfl
theorem qkc (keys : List ByteArray) (hno : ¬ yk keys) (a : Option Addr) (cap : Nat) (v : Int) (w : World) (hS : yC w a keys) :
  zC 50 #[.slice a keys.length cap, .int .u32 v] w (.tuple #[.pointer none, .int .i64 12]) := by
 have HS := qa hS
 by_cases h4 : keys.length ≤ 4
 case neg =>
  have b4 : (4 : Int) < (keys.length : Int) := by omega
  clear h4 hS
  go_enter Tryz.func50, Tryz.ntmps50
  go_wp2_with fail
  go_returns
  exact ⟨rfl, zJ _ _⟩
 have H32 : Hid (¬ ∀ k ∈ keys, k.size = 32) := fun h => hno ⟨h4, h⟩
 have b4 : (keys.length : Int) ≤ 4 := by omega
 clear hS hno
 go_enter Tryz.func50, Tryz.ntmps50
 go_wp2_with fail
 go_loopw [6] (fun s6 wr => ∃ i : Nat, i ≤ keys.length ∧ s6 = .int .i64 i ∧ Hid (∀ j (h : j < keys.length), j < i → keys[j].size = 32) ∧ wr = w) (fun s6 _ => keys.length - (intOf s6).toNat)
 case atStart => exact ⟨0, by omega, rfl, qa (fun j _ h => absurd h (by omega)), rfl⟩
 case round =>
  obtain ⟨i, hi, rfl, HA, rfl⟩ := hrel
  by_cases hlt : i < keys.length
  ·
   have bi : (i : Int) < (keys.length : Int) := by omega
   obtain ⟨x, rfl, hx2, hx3⟩ := HS.o i hlt
   have hix := qcv x keys.length i cap hlt
   obtain ⟨K, EK⟩ := zx (keys[i])
   rw [← EK.o] at hx3
   by_cases k32 : K.size = 32
   ·
    have K32 := qa k32
    have hK : (K.size : Int) = 32 := by rw [k32]; rfl
    clear k32
    go_wp2_with fail
    refine ⟨⟨i + 1, by omega, by go_num, ?_, trivial⟩, by simp [intOf]; omega⟩
    intro j h1 h2
    by_cases hj : j < i
    · exact HA.o j h1 hj
    ·
     obtain rfl : j = i := by omega
     rw [← EK.o]; exact K32.o
   ·
    have hK : ¬ (K.size : Int) = 32 := by omega
    have hKb : ((K.size : Int) == 32) = false := by simp; omega
    clear k32
    go_wp2_with fail
    go_returns
    exact ⟨rfl, zJ _ _⟩
  ·
   exfalso
   apply H32.o
   intro k hk
   obtain ⟨j, hj, rfl⟩ := List.mem_iff_getElem.1 hk
   exact HA.o j hj (by omega)
theorem qjP (keys : List ByteArray) (hok : yk keys) (a : Option Addr) (cap : Nat) (v : Int) (v0 : 0 ≤ v) (v1 : v < 4294967296) (w : World) (hS : yC w a keys) (hn : a = none → keys.length = 0 ∧ cap = 0) :
  Calls Tryz.prog 50 #[.slice a keys.length cap, .int .u32 v] w fun e w' => ∃ g kv, e = .returned (.tuple #[zp g 0, .int .i64 0]) ∧ zB w w' ∧ RL w' g kv keys v ∧ w.heap.size ≤ g ∧ ∀ q, kv.ownBlock = some q → w.heap.size ≤ q := by
 have HS := qa hS
 have hz := qtJ
 have H32 := qa hok.2
 have b4 : (keys.length : Int) ≤ 4 := by have := hok.1; omega
 obtain ⟨i0, HI0, HZ0⟩ : ∃ i, Hid (Tryz.prog.info? 9 = some i) ∧ Hid (i.zero = some (.string ⟨#[]⟩) ∧ i.size = 1 ∧ i.bytes = 16) := by
  have e := qlZ
  cases hi : Tryz.prog.info? 9 with
  | none => rw [hi] at e; cases e
  | some i => rw [hi] at e; simp at e; exact ⟨i, rfl, e.1, e.2.1, e.2.2⟩
 clear hS hok
 go_enter Tryz.func50, Tryz.ntmps50
 go_wp2_with fail
 go_loopw [6] (fun s6 wr => ∃ i : Nat, i ≤ keys.length ∧ s6 = .int .i64 i ∧ wr = w) (fun s6 _ => keys.length - (intOf s6).toNat)
 case atStart => exact ⟨0, by omega, rfl, rfl⟩
 case round =>
  obtain ⟨i, hi, rfl, rfl⟩ := hrel
  by_cases hlt : i < keys.length
  ·
   have bi : (i : Int) < (keys.length : Int) := by omega
   obtain ⟨x, rfl, hx2, hx3⟩ := HS.o i hlt
   have hix := qcv x keys.length i cap hlt
   obtain ⟨K, EK⟩ := zx (keys[i])
   rw [← EK.o] at hx3
   have hK : (K.size : Int) = 32 := by rw [EK.o, H32.o _ (List.getElem_mem hlt)]; rfl
   go_wp2_with fail
   exact ⟨⟨i + 1, by omega, by go_num, trivial⟩, by simp [intOf]; omega⟩
  ·
   obtain rfl : i = keys.length := by omega
   go_upto_region 9 with fail
   obtain ⟨W0, hW0⟩ := zy (wr.alloc (.cells #[.slice none 0 0, .int .u32 v] 126))
   have B0 : Hid (zB wr W0) := by rw [hW0]; exact (zJ _ _).alloc (zm _) _
   have R0 : Hid (qi W0 wr.heap.size #[.slice none 0 0, .int .u32 v] 126) := by rw [hW0]; exact za _ _
   have s0 : W0.heap.size = wr.heap.size + 1 := by rw [hW0]; simp
   obtain ⟨g, hg⟩ := zy wr.heap.size
   rw [← hW0, ← hg]
   rw [← hg] at R0
   have c0 : W0.cell? ⟨g, 0, none⟩ = some (.slice none 0 0) := by rw [zj W0 g 0 _ _ _ R0.o]; rfl
   have S0 := qa (HS.o.below B0.o)
   have Hg := qa hg
   have g1 : g + 1 ≤ W0.heap.size := by omega
   clear hg hW0
   have fin : ∀ (W1 : World) (v2 : Value), q9 W1 (g + 1) 9 v2 (keys.map Value.string) → zB wr W1 → W1.heap[g]? = some (.cells #[.slice none 0 0, .int .u32 v] 126) → RL (W1.setCell ⟨g, 0, none⟩ v2) g v2 keys v ∧ zB wr (W1.setCell ⟨g, 0, none⟩ v2) ∧ ∀ q, v2.ownBlock = some q → wr.heap.size ≤ q := by
    intro W1 v2 hO hB hR
    have ob : ∀ k, k ≠ g → (W1.setRow g #[v2, .int .u32 v]).heap[k]? = W1.heap[k]? := fun k hk => zc _ _ _ _ hk
    have hsz : (W1.setRow g #[v2, .int .u32 v]).heap.size = W1.heap.size := by simp [World.setRow]
    rw [setCell_eq_setRow W1 g 0 _ _ _ _ hR, show (#[.slice none 0 0, .int .u32 v] : Array Value).setIfInBounds 0 v2 = #[v2, .int .u32 v] from rfl]
    refine ⟨⟨zd _ _ _ _ _ _ hR, ?_, H32.o, v0, v1⟩, ze hB (by have := Hg.o; omega) _, fun q hq => ?_⟩
    ·
     have hO0 := hO
     rcases hO with ⟨h1, h2⟩ | ⟨q, cap', cur, fr, h1, h2, h3, _⟩
     · exact .inl ⟨h1, List.map_eq_nil_iff.1 h2⟩
     ·
      rw [zv] at h1
      refine .inr ⟨q, cap', h1, by have := qh h3; omega, by omega, ?_⟩
      rw [h1] at hO0
      intro i hi
      exact (zo (ob q (by omega))).trans (qjz hO0 i hi)
    · have := qse hO hq; have := Hg.o; omega
   cases a with
   | none =>
    obtain ⟨hk0, rfl⟩ := hn rfl
    have hke : keys = [] := List.eq_nil_of_length_eq_zero hk0
    subst hke
    clear hn
    have F0 : W0.frozen? ⟨g, 0, none⟩ = false := by simp [World.frozen?, R0.o]
    have FIN := qa (fin W0 (.slice none 0 0) (q9.nil _ _ _) B0.o R0.o)
    clear fin
    go_wp2_with fail
    go_returns
    exact ⟨g, _, rfl, FIN.o.2.1, FIN.o.1, by have := Hg.o; omega, FIN.o.2.2⟩
   | some x =>
    have hnw : ∀ j u, (keys.map Value.string)[j]? = some u → W0.cell? (x.add j) = some u := by
     intro j u hu
     rw [Zp] at hu
     obtain ⟨K, hK, rfl⟩ := Option.map_eq_some_iff.1 hu
     obtain ⟨hj, rfl⟩ := List.getElem?_eq_some_iff.1 hK
     obtain ⟨x', h1, _, h3⟩ := S0.o j hj
     obtain rfl : x = x' := Option.some.inj h1
     exact h3
    have hon : ∀ u ∈ keys.map Value.string, u.oneCell' = true := by
     intro u hu
     obtain ⟨K, _, rfl⟩ := List.mem_map.1 hu
     rfl
    have HN := qa hnw
    have HON := qa hon
    have FIN := qa fin
    have F0 : W0.frozen? ⟨g, 0, none⟩ = false := by simp [World.frozen?, R0.o]
    clear hnw hon fin hn
    go_wp2_with (first | (at_builtin; refine qaa _ (by rfl) (.tmp 30) (.tmp 31) 38 (by rfl) (g + 1) 9 i0 (.string ⟨#[]⟩) 16 qaP HI0.o HZ0.o.1 HZ0.o.2.1 HZ0.o.2.2 rfl (.slice none 0 0) [] (by rfl) (q9.nil _ _ _) x keys.length cap (keys.map Value.string) (by rfl) (by rw [zv]) HN.o HON.o (by unfold maxLen; simp; omega) (by simp; omega) g1 ?_; intro v2 W1 hO2 hG2; obtain ⟨pt2, cp2, rfl⟩ := hO2.o.len; have RG : Hid (qi W1 g #[.slice none 0 0, .int .u32 v] 126) := (hG2.o.block g (by omega) (by simp [Value.ownBlock])).trans R0.o; have cg : W1.cell? ⟨g, 0, none⟩ = some (.slice none 0 0) := (by rw [zj W1 g 0 _ _ _ RG.o]; rfl); have fg : W1.frozen? ⟨g, 0, none⟩ = false := (by simp [World.frozen?, RG.o])))
    have B1 : zB wr W1 := B0.o.grown hG2.o (by have := Hg.o; omega) (fun k hk => by simp [Value.ownBlock] at hk)
    have H := FIN.o W1 _ (by simpa using hO2.o) B1 RG.o
    go_returns
    exact ⟨g, _, rfl, H.2.1, H.1, by have := Hg.o; omega, H.2.2⟩
open Go.RowKit
def leT : ByteArray := ⟨#[108, 101, 110, 116]⟩
theorem qvs (keys : List ByteArray) (a : Option Addr) (cap : Nat) (hn : keys.length + 1 ≤ 17592186044416) (w : World) (hS : yC w a keys) :
  Calls Tryz.prog 49 #[.slice a keys.length cap] w fun e w' => ∃ q, e = .returned (.slice (some ⟨q, 0, none⟩) keys.length (keys.length + 1)) ∧ zB w w' ∧ w.heap.size ≤ q ∧ w'.heap[q]? = some (.cells ((keys.map Value.string) ++ [Value.string leT]).toArray 9) := by
 have HS := qa hS
 obtain ⟨i0, HI0, HZ0⟩ : ∃ i, Hid (Tryz.prog.info? 9 = some i) ∧ Hid (i.zero = some (.string ⟨#[]⟩) ∧ i.size = 1 ∧ i.bytes = 16) := by
  have e := qlZ
  cases hi : Tryz.prog.info? 9 with
  | none => rw [hi] at e; cases e
  | some i => rw [hi] at e; simp at e; exact ⟨i, rfl, e.1, e.2.1, e.2.2⟩
 obtain ⟨n, En⟩ := zx keys.length
 rw [← En.o] at hn ⊢
 have hmk : ∀ w : World, (Instr.makeSlice 38 (.int .i64 ((n : Int) + 1)) (.int .i64 ((n : Int) + 1))).run Tryz.prog w = .ok (.slice (some ⟨w.heap.size, 0, none⟩) (n + 1) (n + 1)) (w.alloc (.cells (madeCells #[.string ⟨#[]⟩] (n + 1)) 9)) := by
  intro w
  have h := run_make (P := Tryz.prog) w 38 9 i0 (.string ⟨#[]⟩) qaP HI0.o HZ0.o.1 .i64 .i64 ((n : Int) + 1) ((n : Int) + 1) (by omega) (by omega) (by rw [HZ0.o.2.2]; omega) (by omega)
  rw [HZ0.o.2.1, Nat.mul_one, show ((n : Int) + 1).toNat = n + 1 by omega] at h
  exact h
 have hw1 : IntKind.i64.wrap ((n : Int) + 1) = (n : Int) + 1 := by rw [zq]; omega
 obtain ⟨q, Hq⟩ := zx w.heap.size
 obtain ⟨Z, EZ⟩ := zx ((madeCells #[.string ⟨#[]⟩] (n + 1)).toList)
 have lZ : Hid (Z.length = n + 1) := by show _ = _; rw [EZ.o, Array.length_toList, size_madeCells]
 obtain ⟨W0, hW0⟩ := zy (w.alloc (.cells (madeCells #[.string ⟨#[]⟩] (n + 1)) 9))
 have R0 : Hid (qi W0 q Z.toArray 9) := by rw [hW0, Hq.o, EZ.o]; exact za _ _
 have B0 : Hid (zB w W0) := by rw [hW0]; exact (zJ _ _).alloc (zm _) _
 have S0 := qa (HS.o.below B0.o)
 have HW0 := qa hW0
 clear hS hW0
 go_enter Tryz.func49, Tryz.ntmps49
 go_upto_region 2 with fail
 rw [← Hq.o, ← HW0.o]
 clear hmk
 have hpos : 0 < (keys.map Value.string).length → (some ⟨q, 0, none⟩ : Option Addr) = some ⟨q, 0, none⟩ ∧ ∃ ad, a = some ad ∧ ∀ j v, (keys.map Value.string)[j]? = some v → W0.cell? (ad.add j) = some v := by
  intro h0
  rw [zv] at h0
  obtain ⟨x, h1, _, _⟩ := S0.o 0 h0
  refine ⟨rfl, x, h1, fun j v hv => ?_⟩
  rw [Zp] at hv
  obtain ⟨K, hK, rfl⟩ := Option.map_eq_some_iff.1 hv
  obtain ⟨hj, rfl⟩ := List.getElem?_eq_some_iff.1 hK
  obtain ⟨x', h2, _, h3⟩ := S0.o j hj
  obtain rfl : x = x' := Option.some.inj (h1.symm.trans h2)
  exact h3
 have hone : ∀ u ∈ keys.map Value.string, u.oneCell' = true := by
  intro u hu
  obtain ⟨K, _, rfl⟩ := List.mem_map.1 hu
  rfl
 have lk : Hid ((keys.map Value.string).length = n) := by show _ = _; rw [zv, En.o]
 have HP := qa hpos
 have HO := qa hone
 clear hpos hone
 obtain ⟨W1, hcp, hR1, hB1⟩ : ∃ W1, (Builtin.copy_ #[38, 38] 3 #[.slice (some ⟨q, 0, none⟩) (n + 1) (n + 1), .slice a n cap]).run Tryz.prog W0 = .ok (.int .i64 n) W1 ∧ Hid (qi W1 q ((splice Z 0 (keys.map Value.string)).toArray) 9) ∧ zB w W1 := by
  by_cases h0 : n = 0
  ·
   have hk0 : keys = [] := List.eq_nil_of_length_eq_zero (by rw [← En.o]; exact h0)
   refine ⟨W0, ?_, ?_, B0.o⟩
   ·
    have h := run_copy_none (P := Tryz.prog) W0 38 38 3 9 (some ⟨q, 0, none⟩) a (n + 1) (n + 1) n cap qaP qcZ (by rw [h0]; rfl)
    rw [h, h0]; rfl
   ·
    show _ = _
    rw [hk0]
    simpa [splice] using R0.o
  ·
   obtain ⟨_, ad, had, hsrc⟩ := HP.o (by rw [lk.o]; omega)
   have h := run_copy_row (P := Tryz.prog) W0 38 38 3 9 q 0 (n + 1) (n + 1) ad n cap Z.toArray 9 (keys.map Value.string) qaP qcZ R0.o (by rw [lk.o]; show n = min n (n + 1); omega) hsrc (by rw [lk.o]; simp; rw [lZ.o]; omega) HO.o
   rw [lk.o] at h
   refine ⟨_, by rw [had]; exact h, ?_, ze B0.o (by have := Hq.o; omega) _⟩
   show _ = _
   rw [zd W0 q _ _ _ _ R0.o]
   simp [splice, lk.o]
 go_upto_region 3 with fail
 have B1 := qa hB1
 clear hcp
 obtain ⟨x, hx⟩ : ∃ x, Z.drop n = [x] := by
  have : (Z.drop n).length = 1 := by rw [Zi, lZ.o]; omega
  match h : Z.drop n with
  | [x] => exact ⟨x, rfl⟩
  | [] => rw [h] at this; cases this
  | _ :: _ :: _ => rw [h] at this; simp at this
 have R1 : Hid (qi W1 q (((keys.map Value.string) ++ [x]).toArray) 9) := by
  have h := hR1.o
  unfold splice at h
  rw [List.take_zero, List.nil_append, Zb, lk.o, hx] at h
  exact h
 clear hR1 hB1
 have C1 : W1.cell? ⟨q, n, none⟩ = some x := by
  rw [zj W1 q n _ _ _ R1.o, zV, zY (by rw [lk.o]; exact zm _), lk.o, Nat.sub_self]; rfl
 have F1 : W1.frozen? ⟨q, n, none⟩ = false := by simp [World.frozen?, R1.o]
 have hix := qe1 q (n + 1) n (n + 1) (by omega)
 go_wp2_with fail
 go_returns
 refine ⟨q, rfl, Below.setCell (p := ⟨q, n, none⟩) B1.o (by have := Hq.o; show w.heap.size ≤ q; omega) _, by have := Hq.o; omega, ?_⟩
 rw [setCell_eq_setRow W1 q n _ _ _ _ R1.o, zd W1 q _ _ _ _ R1.o]
 congr 2
 apply Array.ext'
 simp [lk.o, List.set_append_right _ _ (Nat.le_of_eq lk.o)]
 rfl
open Go.RowKit
def QP (w : World) (px pr : Option Addr) (keys : List ByteArray) (v : Int) (lo hi : Nat) : Prop :=
 (¬ yk keys ∧ px = none ∧ pr = none) ∨
 (yk keys ∧ ∃ gx kx bx rx l c gr kr jI, px = some ⟨gx, 0, none⟩ ∧ pr = some ⟨gr, 0, none⟩ ∧ Ld w gx 121 kx (jK keys) v bx rx l c ∧ RL w gr kr keys v ∧
  lo ≤ gx ∧ lo ≤ bx ∧ lo ≤ rx ∧ (∀ q, kx.ownBlock = some q → lo ≤ q ∧ q < jI) ∧ gx < jI ∧ bx < jI ∧ rx < jI ∧ jI ≤ gr ∧ gr < hi ∧ ∀ q, kr.ownBlock = some q → jI ≤ q ∧ q < hi)
theorem QP.none_iff {w : World} {px pr : Option Addr} {keys : List ByteArray} {v : Int} {lo hi : Nat} (h : QP w px pr keys v lo hi) : px.isNone = pr.isNone := by
 rcases h with ⟨_, rfl, rfl⟩ | ⟨_, _, _, _, _, _, _, _, _, _, rfl, rfl, _⟩
 · rfl
 · rfl
theorem QP.kept {w w' : World} {px pr : Option Addr} {keys : List ByteArray} {v : Int} {lo hi : Nat} (h : QP w px pr keys v lo hi) (hs : w.heap.size ≤ w'.heap.size) (hk : ∀ k, lo ≤ k → k < hi → k < w.heap.size → w'.heap[k]? = w.heap[k]?) (_ : lo ≤ hi) : QP w' px pr keys v lo hi := by
 rcases h with h | ⟨h0, gx, kx, bx, rx, l, c, gr, kr, jI, h1, h2, hL, hR, a1, a2, a3, a4, a5, a6, a7, a8, a9, a10⟩
 · exact .inl h
 ·
  have lg := qh hL.row
  have lb := hL.base.lt
  have lr := qh hL.map
  have lR := qh hR.row
  refine .inr ⟨h0, gx, kx, bx, rx, l, c, gr, kr, jI, h1, h2, ⟨(hk gx a1 (by omega) lg).trans hL.row, hL.keys.kept hs (fun q hq => hk q (a4 q hq).1 (by have := (a4 q hq).2; omega) (hL.keys.lt q hq)), hL.small, hL.base.keep (hk bx a2 (by omega) lb), (hk rx a3 (by omega) lr).trans hL.map, hL.ent, hL.v0, hL.v1, hL.gb, hL.gr, hL.br, hL.kg⟩, ⟨(hk gr (by omega) a9 lR).trans hR.row, ?_, hR.all32, hR.v0, hR.v1⟩, a1, a2, a3, a4, a5, a6, a7, a8, a9, a10⟩
  rcases hR.ks with b1 | ⟨q, cap, b1, b2, b3, b4⟩
  · exact .inl b1
  ·
   have hq := a10 q (by rw [b1]; rfl)
   exact .inr ⟨q, cap, b1, by omega, b3, fun i hi => (zo (hk q (by omega) hq.2 b2)).trans (b4 i hi)⟩
theorem QP.mono {w : World} {px pr : Option Addr} {keys : List ByteArray} {v : Int} {lo hi lo' hi' : Nat} (h : QP w px pr keys v lo hi) (h1 : lo' ≤ lo) (h2 : hi ≤ hi') : QP w px pr keys v lo' hi' := by
 rcases h with h | ⟨h0, gx, kx, bx, rx, l, c, gr, kr, jI, e1, e2, hL, hR, a1, a2, a3, a4, a5, a6, a7, a8, a9, a10⟩
 · exact .inl h
 · exact .inr ⟨h0, gx, kx, bx, rx, l, c, gr, kr, jI, e1, e2, hL, hR, by omega, by omega, by omega, fun q hq => ⟨by have := (a4 q hq).1; omega, (a4 q hq).2⟩, a5, a6, a7, a8, by omega, fun q hq => ⟨(a10 q hq).1, by have := (a10 q hq).2; omega⟩⟩
theorem quU (c : Int) (w : World) : Calls Tryz.prog 12 #[.int .i64 c] w fun e w' => e = .returned (.int .i64 c) ∧ w' = w := by
 go_enter Tryz.func12, Tryz.ntmps12
 go_wp2
 go_ret
 exact ⟨rfl, rfl⟩
theorem qv1 (keys : List ByteArray) (q cap : Nat) (v : Int) (v0 : 0 ≤ v) (v1 : v < 4294967296) (w : World) (hS : yF w q keys) (hq : q < w.heap.size) (k p s g : Addr) (hV : ZF w k p s g) :
  Calls Tryz.prog 25 #[.slice (some ⟨q, 0, none⟩) keys.length cap, .int .u32 v] w fun e w' => ∃ px ec, e = .returned (.tuple #[.pointer px, .int .i64 ec]) ∧ zB w w' ∧ ((¬ yk keys ∧ px = none ∧ ec = 12) ∨ (yk keys ∧ ec = 0 ∧ ∃ gx kx bx rx, px = some ⟨gx, 0, none⟩ ∧ Ld w' gx 121 kx (jK keys) v bx rx [] 0 ∧ w.heap.size ≤ gx ∧ w.heap.size ≤ bx ∧ w.heap.size ≤ rx ∧ ∀ x, kx.ownBlock = some x → w.heap.size ≤ x)) := by
 by_cases hok : yk keys
 ·
  refine (qgn keys hok.1 hok.2 q cap v v0 v1 w hS hq).mono ?_
  rintro e w' ⟨g, kv, b, r, rfl, hB, hL, h1, h2, h3, h4⟩
  exact ⟨_, _, rfl, hB, .inr ⟨hok, rfl, g, kv, b, r, rfl, hL, h1, h2, h3, h4⟩⟩
 ·
  refine (qhc keys hok q cap v w hS hq k p s g hV).mono ?_
  rintro e w' ⟨rfl, hB⟩
  exact ⟨_, _, rfl, hB, .inl ⟨hok, rfl, rfl⟩⟩
theorem qvS (keys : List ByteArray) (a : Option Addr) (cap : Nat) (v : Int) (v0 : 0 ≤ v) (v1 : v < 4294967296) (w : World) (hS : yC w a keys) (hn : a = none → keys.length = 0 ∧ cap = 0) :
  Calls Tryz.prog 50 #[.slice a keys.length cap, .int .u32 v] w fun e w' => ∃ pr ec, e = .returned (.tuple #[.pointer pr, .int .i64 ec]) ∧ zB w w' ∧ ((¬ yk keys ∧ pr = none ∧ ec = 12) ∨ (yk keys ∧ ec = 0 ∧ ∃ g kv, pr = some ⟨g, 0, none⟩ ∧ RL w' g kv keys v ∧ w.heap.size ≤ g ∧ ∀ q, kv.ownBlock = some q → w.heap.size ≤ q)) := by
 by_cases hok : yk keys
 ·
  refine (qjP keys hok a cap v v0 v1 w hS hn).mono ?_
  rintro e w' ⟨g, kv, rfl, hB, hR, h1, h2⟩
  exact ⟨_, _, rfl, hB, .inr ⟨hok, rfl, g, kv, rfl, hR, h1, h2⟩⟩
 ·
  refine (qkc keys hok a cap v w hS).mono ?_
  rintro e w' ⟨rfl, hB⟩
  exact ⟨_, _, rfl, hB, .inl ⟨hok, rfl, rfl⟩⟩
theorem qoT (w : World) : (zeroValue 43).run Tryz.prog w = .ok (.agg #[.pointer none, .pointer none]) w := by kernel_rfl
theorem Yw : (Tryz.prog.info? 43).map (·.size) = some 2 := by kernel_rfl
def ZQ : ByteArray := ⟨#[215, 90, 152, 1, 130, 177, 10, 183, 213, 75, 254, 211, 201, 100, 7, 58, 14, 225, 114, 243, 218, 166, 35, 37, 175, 2, 26, 104, 247, 7, 81, 26]⟩
theorem qqx (keys : List ByteArray) (a : Option Addr) (cap : Nat) (hn : keys.length + 1 ≤ 17592186044416) (hna : a = none → keys.length = 0 ∧ cap = 0) (v : Int) (v0 : 0 ≤ v) (v1 : v < 4294967296) (w : World) (hS : yC w a keys) (k p s g : Addr) (hV : ZF w k p s g) :
  Calls Tryz.prog 21 #[.slice a keys.length cap, .int .u32 v] w fun e w' => ∃ px pr, e = .returned (.tuple #[.agg #[.pointer px, .pointer pr], .bool true]) ∧ zB w w' ∧ QP w' px pr keys v w.heap.size w'.heap.size := by
 have hz := qoT
 have HS := qa hS
 have HV := qa hV
 have HNA := qa hna
 obtain ⟨n, En⟩ := zx keys.length
 have hw1 : IntKind.i64.wrap ((n : Int) + 1) = (n : Int) + 1 := by rw [En.o, zq]; omega
 have hn2 : n + 1 ≤ 17592186044416 := by rw [En.o]; exact hn
 have B0 : zB w (w.alloc (.cells #[.pointer none, .pointer none] 43)) := (zJ _ _).alloc (zm _) _
 have H1 := qvs keys a cap hn _ (hS.below B0)
 rw [← En.o] at H1
 have HL1 := qa H1
 have HB0 := qa B0
 rw [← En.o]
 clear hS hV hna hn B0 H1
 go_enter Tryz.func21, Tryz.ntmps21
 go_wp2_with fail
 refine HL1.o.mono ?_
 rintro e W1 ⟨q, rfl, hB, hq0, hR⟩
 have s0 : (w.alloc (.cells #[.pointer none, .pointer none] 43)).heap.size = w.heap.size + 1 := by simp
 rw [zB, s0] at hB; rw [s0] at hq0
 have B1 : Hid (zB w W1) := HB0.o.trans (hB.mono (by omega))
 have R1 : Hid (qi W1 w.heap.size #[.pointer none, .pointer none] 43) := (hB.block _ (by omega)).trans (za _ _)
 have RQ1 := qa hR
 have lq1 := qh hR
 clear hB hR HB0 HL1 s0
 have SA1 : Hid (yF W1 q keys) := by
  intro i hi
  rw [zj W1 q i _ _ _ RQ1.o, zV, z5 (by rw [zv]; exact hi), Zp, zO hi]; rfl
 have H2 := qv1 keys q (n + 1) v v0 v1 W1 SA1.o lq1 k p s g (HV.o.below B1.o)
 rw [← En.o] at H2
 have HX := qa H2
 clear H2
 go_wp2_with fail
 refine HX.o.mono ?_
 rintro e W2 ⟨px, ec, rfl, hB, hX⟩
 have B2 := qa (B1.o.trans (hB.mono B1.o.size))
 have R2 := qa (qk R1.o hB)
 have RQ2 := qa (qk RQ1.o hB)
 have K2 := qa hX
 have s12 := hB.size
 clear hB hX HX R1 RQ1 SA1
 have H3 := qvS keys a cap v v0 v1 W2 (HS.o.below B2.o) HNA.o
 rw [← En.o] at H3
 have HX := qa H3
 clear H3
 go_wp2_with fail
 refine HX.o.mono ?_
 rintro e W3 ⟨pr, ed, rfl, hB, hX⟩
 have B3 := qa (B2.o.trans (hB.mono B2.o.size))
 have R3 := qa (qk R2.o hB)
 have RQ3 := qa (qk RQ2.o hB)
 have s1 := B1.o.size
 have s3 := hB.size
 have TW3 : Hid (QP W3 px pr keys v (q + 1) W3.heap.size ∧ ec = ed) := by
  rcases K2.o with ⟨n1, rfl, rfl⟩ | ⟨o1, rfl, gx, kx, bx, rx, rfl, hL, x1, x2, x3, x4⟩
  ·
   rcases hX with ⟨n2, rfl, rfl⟩ | ⟨o2, _⟩
   · exact ⟨.inl ⟨n1, rfl, rfl⟩, rfl⟩
   · exact absurd o2 n1
  ·
   rcases hX with ⟨n2, _⟩ | ⟨o2, rfl, gr, kr, rfl, hRL, r1, r2⟩
   · exact absurd o1 n2
   ·
    have lx := qh hL.row
    have lb := hL.base.lt
    have lr := qh hL.map
    have lR := qh hRL.row
    have lko := hRL.own
    exact ⟨.inr ⟨o1, gx, kx, bx, rx, _, _, gr, kr, W2.heap.size, rfl, rfl, hL.below hB, hRL, by omega, by omega, by omega, fun z hz => ⟨by have := x4 z hz; omega, hL.keys.lt z hz⟩, lx, lb, lr, r1, lR, fun z hz => ⟨r2 z hz, lko z hz⟩⟩, rfl⟩
 have eed : ec = ed := TW3.o.2
 subst eed
 have hnone : px.isNone = pr.isNone := TW3.o.1.none_iff
 have SI3 := qa (HS.o.below B3.o)
 clear hB hX HX R2 RQ2 K2 B1 B2 s12
 have cL : W3.cell? ⟨q, n, none⟩ = some (.string leT) := by
  rw [zj W3 q n _ _ _ RQ3.o, zV, zY (by rw [zv, En.o]; exact zm _), zv, En.o, Nat.sub_self]; rfl
 have hle : (leT.toList == [108, 101, 110, 116]) = true := by rw [ByteArray.toList_eq]; rfl
 have hix := qe1 q (n + 1) n (n + 1) (by omega)
 go_upto_block 0 with fail
 go_cut [12, 13] from 40 to 57 (fun s12 s13 wr => s12 = .bool true ∧ (∃ x, s13 = .int .i64 x) ∧ Hid (zB W3 wr))
 case first =>
  go_wp2_with fail
  go_loopw [12, 13] (fun s12 s13 wr => ∃ i : Nat, i ≤ n ∧ s12 = .bool true ∧ s13 = .int .i64 i ∧ Hid (zB W3 wr)) (fun _ s13 _ => n - (intOf s13).toNat)
  case atStart => exact ⟨0, by omega, rfl, rfl, qa (zJ _ _)⟩
  case round =>
   obtain ⟨i, hi, rfl, rfl, HB⟩ := hrel
   by_cases hlt : i < n
   ·
    have bi : (i : Int) < (n : Int) := by omega
    have hik : i < keys.length := by rw [← En.o]; exact hlt
    obtain ⟨x, rfl, hx2, hx3⟩ := SI3.o i hik
    have hixa := qcv x n i cap hlt
    have hixq := qe1 q n i (n + 1) hlt
    obtain ⟨K, EK⟩ := zx (keys[i])
    rw [← EK.o] at hx3
    have ca : wr.cell? (x.add i) = some (.string K) := (HB.o.cell (by rw [qa9]; exact hx2)).trans hx3
    have cq : wr.cell? ⟨q, i, none⟩ = some (.string K) := by
     rw [HB.o.cell (qh RQ3.o), zj W3 q i _ _ _ RQ3.o, zV, z5 (by rw [zv]; exact hik), Zp, zO hik, EK.o]; rfl
    clear hx3
    go_wp2_with fail
    go_region
    go_wp2_with fail
    exact ⟨⟨i + 1, by omega, rfl, by go_num, qa HB.o.drew⟩, by simp [intOf]; omega⟩
   ·
    obtain rfl : i = n := by omega
    go_wp2_with fail
    go_meet
    case rel => exact ⟨rfl, ⟨_, rfl⟩, HB⟩
 case rest =>
 obtain ⟨rfl, ⟨x13, rfl⟩, K4⟩ := hcut
 obtain ⟨W4, hW4⟩ := zy wc
 rw [← hW4] at K4 ⊢
 clear hW4
 have B4 := qa (B3.o.trans (K4.o.mono B3.o.size))
 have R4 := qa (qk R3.o K4.o)
 have RQ4 := qa (qk RQ3.o K4.o)
 have TW4 : Hid (QP W4 px pr keys v (q + 1) W3.heap.size) := TW3.o.1.kept K4.o.size (fun k _ h2 _ => K4.o.block k h2) (by have := qh RQ3.o; omega)
 have s4 := K4.o.size
 have lq3 := qh RQ3.o
 clear cL hix hle R3 RQ3 B3 K4 SI3
 obtain ⟨cur, Ecur⟩ := zx (((keys.map Value.string) ++ [Value.string leT]).toArray)
 have scur : cur.size = n + 1 := by rw [Ecur.o]; simp [En.o]
 have RQ4 : Hid (qi W4 q cur 9) := by rw [Ecur.o]; exact RQ4.o
 go_upto_block 2 with fail
 go_cut [14] from 58 to 66 (fun s14 wr => (∃ x, s14 = .int .i64 x) ∧ Hid (qG q W4 wr))
 case first =>
  go_wp2_with fail
  go_loopw [14] (fun s14 wr => ∃ (i : Nat) (cur : Array Value), i ≤ n + 1 ∧ s14 = .int .i64 i ∧ cur.size = n + 1 ∧ Hid (qi wr q cur 9) ∧ Hid (qG q W4 wr)) (fun s14 _ => n + 1 - (intOf s14).toNat)
  case atStart => exact ⟨0, cur, by omega, rfl, scur, RQ4, qa (qG.of (zJ _ _))⟩
  case round =>
   clear RQ4 scur Ecur cur
   obtain ⟨i, cur, hi, rfl, scur, RQ, HX⟩ := hrel
   by_cases hlt : i < n + 1
   ·
    have bi : (i : Int) < (n : Int) + 1 := by omega
    have bi2 : (i : Int) < ((n + 1 : Nat) : Int) := by omega
    have hix := qe1 q (n + 1) i (n + 1) hlt
    have c1 : wr.cell? ⟨q, i, none⟩ = some cur[i] := by rw [zj wr q i _ _ _ RQ.o]; exact Zj (by omega)
    have f1 : wr.frozen? ⟨q, i, none⟩ = false := by simp [World.frozen?, RQ.o]
    go_wp2_with fail
    refine ⟨⟨i + 1, cur.setIfInBounds i (.string ZQ), by omega, by go_num, by simp [scur], ?_, ?_⟩, by simp [intOf]; omega⟩
    ·
     show _ = _
     have e := setCell_eq_setRow wr q i cur _ _ (.string ZQ) RQ.o
     exact (congrArg (fun z : World => z.heap[q]?) e).trans (zd wr q cur _ _ _ RQ.o)
    · exact HX.o.setCell i _
   ·
    obtain rfl : i = n + 1 := by omega
    go_wp2_with fail
    go_meet
    case rel => exact ⟨⟨_, rfl⟩, HX⟩
 case rest =>
 obtain ⟨⟨x14, rfl⟩, K5⟩ := hcut
 obtain ⟨W5, hW5⟩ := zy wc
 rw [← hW5] at K5 ⊢
 clear hW5
 have B5 : Hid (zB w W5) := B4.o.trans (K5.o.below (by have := qh RQ4.o; omega) |>.mono (by omega))
 have R5 : Hid (qi W5 w.heap.size #[.pointer none, .pointer none] 43) := (K5.o.block _ (qh R4.o) (by omega)).trans R4.o
 have TW5 : Hid (QP W5 px pr keys v (q + 1) W3.heap.size) := TW4.o.kept K5.o.size (fun k h1 _ h3 => K5.o.block k h3 (by omega)) (by omega)
 have s5 := K5.o.size
 go_wp2_with fail
 refine (quU ec _).mono ?_
 rintro e W ⟨rfl, hw⟩
 have hw' := hw.symm
 subst hw'
 clear hw
 go_wp2_with (first
  | (refine qB 43 (.tmp 4) (.tmp 85) w.heap.size #[.pointer px, .pointer pr] R5.o (by rw [Yw]; rfl) rfl (by simp [Value.oneCell']) ?_))
 have hsz : (W5.setRow w.heap.size #[.pointer px, .pointer pr]).heap.size = W5.heap.size := by simp [World.setRow]
 refine zh (v := .tuple #[.agg #[.pointer px, .pointer pr], .bool true]) (jJ Tryz.results21 _ _ (w.heap.size) 43 _ (0, 0) _ (by rfl) (zd _ _ _ _ _ _ R5.o) Tryz.underlying43 rfl (by rw [Yw]; rfl)) rfl ⟨px, pr, rfl, ze B5.o (zm _) _, (TW5.o.kept (by omega) (fun k h1 _ _ => zc _ _ _ _ (by omega)) (by omega)).mono (by omega) (by omega)⟩
end Go.Proofs.YtccgfabojbjmjaaGreatDoor
