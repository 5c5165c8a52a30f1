import Derived.Test.YtccgfabojbjmjaaGreatDoorLo10
import Derived.BigRegion
import Derived.Deep.RegionHeld3
import Derived.Deep.DrawnRows
import Derived.Laws.CopyOwn
set_option maxRecDepth 100000
set_option maxHeartbeats 8000000
namespace Go.Proofs.YtccgfabojbjmjaaGreatDoor
open Go.RowKit
open Go.RowKit
theorem kP : (Tryz.prog.info? 5).map (·.size) = some 1 := by kernel_rfl
theorem qe5 : Tryz.prog.underlying 5 = some (.int .u8) := by kernel_rfl
theorem quP (xs : Array Value) (i : Nat) (v : Value) (h : xs[i]? = some v) (w : World) : (part 5 xs i).run Tryz.prog w = .ok v w := by
 cases hq : Tryz.prog.info? 5 with
 | none => have := kP; rw [hq] at this; cases this
 | some inf =>
  have hi : inf.size = 1 := by have := kP; rw [hq] at this; simpa using this
  simp [part, sizeOf, typeInfo, hq, hi, h]
theorem qrl (l : List UInt8) (hl : l.length = 32) (i : Nat) (hi : i < 32) (w : World) :
  (Instr.index 61 (.agg (l.map cv).toArray) (.int .i64 i)).run Tryz.prog w = .ok (cv (l.getD i 0)) w := by
 cases hq : Tryz.prog.info? 5 with
 | none => have := kP; rw [hq] at this; cases this
 | some inf =>
  have hs : inf.size = 1 := by have := kP; rw [hq] at this; simpa using this
  have h0 : (l.map cv).toArray[i]? = some (cv (l.getD i 0)) := by simp [hl, hi]
  simp [Instr.index, asIntOf, run_underlying kL, sizeOf, typeInfo, hq, hs, quP _ i _ h0]
  intro h; omega
theorem qtG (n c q r : Nat) (hn : n < 256 ^ (8 * q + r)) (hc : c < 256) (hq : q < 4) (hr : r < 8) :
  wd n q < 2 ^ (r * 8) ∧ qb (n + c * 256 ^ (8 * q + r)) = ([nv (wd n 0), nv (wd n 1), nv (wd n 2), nv (wd n 3)].set q (nv (wd n q + c * 2 ^ (r * 8)))).toArray := by
 have h4 : q = 0 ∨ q = 1 ∨ q = 2 ∨ q = 3 := by omega
 have h8 : r = 0 ∨ r = 1 ∨ r = 2 ∨ r = 3 ∨ r = 4 ∨ r = 5 ∨ r = 6 ∨ r = 7 := by omega
 have key : wd n q < 2 ^ (r * 8) ∧ wd (n + c * 256 ^ (8 * q + r)) q = wd n q + c * 2 ^ (r * 8) ∧ (∀ p, p < 4 → p ≠ q → wd (n + c * 256 ^ (8 * q + r)) p = wd n p) := by
  refine ⟨?_, ?_, ?_⟩
  ·
   unfold wd
   rcases h4 with rfl | rfl | rfl | rfl <;> rcases h8 with rfl | rfl | rfl | rfl | rfl | rfl | rfl | rfl <;> simp only [Nat.reducePow, Nat.reduceMul, Nat.reduceAdd, Nat.pow_zero, Nat.div_one] at * <;> omega
  ·
   unfold wd
   rcases h4 with rfl | rfl | rfl | rfl <;> rcases h8 with rfl | rfl | rfl | rfl | rfl | rfl | rfl | rfl <;> simp only [Nat.reducePow, Nat.reduceMul, Nat.reduceAdd, Nat.pow_zero, Nat.div_one] at * <;> omega
  ·
   intro p hp hpq
   have hp4 : p = 0 ∨ p = 1 ∨ p = 2 ∨ p = 3 := by omega
   unfold wd
   rcases h4 with rfl | rfl | rfl | rfl <;> rcases hp4 with rfl | rfl | rfl | rfl <;> first | omega | (rcases h8 with rfl | rfl | rfl | rfl | rfl | rfl | rfl | rfl <;> simp only [Nat.reducePow, Nat.reduceMul, Nat.reduceAdd, Nat.pow_zero, Nat.div_one] at * <;> omega)
 obtain ⟨k0, k1, k2⟩ := key
 refine ⟨k0, ?_⟩
 unfold qb
 rcases h4 with rfl | rfl | rfl | rfl
 · rw [k1, k2 1 (by decide) (by decide), k2 2 (by decide) (by decide), k2 3 (by decide) (by decide)]; rfl
 · rw [k1, k2 0 (by decide) (by decide), k2 2 (by decide) (by decide), k2 3 (by decide) (by decide)]; rfl
 · rw [k1, k2 0 (by decide) (by decide), k2 1 (by decide) (by decide), k2 3 (by decide) (by decide)]; rfl
 · rw [k1, k2 0 (by decide) (by decide), k2 1 (by decide) (by decide), k2 2 (by decide) (by decide)]; rfl
theorem qi0 (l : List UInt8) (k : Nat) (hk : k < l.length) : qC (l.take (k + 1)) = qC (l.take k) + (l.getD k 0).toNat * 256 ^ k := by
 induction l generalizing k with
 | nil => simp at hk
 | cons c l ih => cases k with
  | zero => simp [qC]
  | succ k =>
   have := ih k (by simpa using hk)
   simp only [List.take_succ_cons, qC, List.getD_cons_succ] at *
   rw [this, Zk, Nat.mul_add]
   rw [Zl (256 ^ k) 256, Nat.mul_left_comm]; omega
theorem qd2 (l : List UInt8) : qC l < 256 ^ l.length := by
 induction l with
 | nil => simp [qC]
 | cons c l ih =>
  have := c.toNat_lt
  simp only [qC, List.length_cons, Zk]
  omega
theorem qqa {w : World} {g g' : Nat} {o : Obj} (i : Nat) (v : Value) (h : w.heap[g]? = some o) (hne : g ≠ g') : (w.setCell ⟨g', i, none⟩ v).drew.heap[g]? = some o :=
 (Below.heap_setCell w _ v g hne).trans h
theorem qtx (x y r : Nat) (hx : x < 2 ^ (r * 8)) (hy : y < 256) (hr : r < 8) : bits .or .u64 (V x) (V (y * 2 ^ (r * 8))) = V (x + y * 2 ^ (r * 8)) := by
 have b1 : 2 ^ (r * 8) ≤ 2 ^ 56 := Nat.pow_le_pow_right (by decide) (by omega)
 have b2 : y * 2 ^ (r * 8) ≤ 255 * 2 ^ 56 := Nat.mul_le_mul (by omega) b1
 have e1 : (2 : Nat) ^ 56 = 72057594037927936 := by decide
 rw [e1] at b1 b2
 unfold V
 rw [bits_or_u64_nat _ _ (by omega) (by omega)]
 congr 1
 rw [Nat.or_comm, Nat.add_comm, Zl]
 exact (Nat.two_pow_add_eq_or_of_lt hx y).symm
theorem qtE (c r : Nat) (hc : c < 256) (hr : r < 8) : IntKind.u64.wrap (V c * 2 ^ (r * 8)) = V (c * 2 ^ (r * 8)) := by
 have b1 : 2 ^ (r * 8) ≤ 2 ^ 56 := Nat.pow_le_pow_right (by decide) (by omega)
 have b2 : c * 2 ^ (r * 8) ≤ 255 * 2 ^ 56 := Nat.mul_le_mul (by omega) b1
 have e1 : (2 : Nat) ^ 56 = 72057594037927936 := by decide
 rw [e1] at b2
 unfold V
 rw [Zf, show ((c : Int) * 2 ^ (r * 8)) = ((c * 2 ^ (r * 8) : Nat) : Int) by rw [Int.natCast_mul, Int.natCast_pow]; rfl]
 omega
section
theorem qhl (l : List UInt8) (hl : l.length = 32) (w : World) :
  zC 89 #[.agg (l.map cv).toArray] w (.agg (qb (qC l))) := by
 have HL := qa hl
 clear hl
 obtain ⟨M, HM⟩ := zx ((l.map cv).toArray)
 rw [← HM.o]
 have HSz : Hid ((Tryz.prog.info? 61).map (·.size) = some M.size) := by show _ = _; rw [qf0, HM.o]; simp [HL.o]
 go_enter Tryz.func89, Tryz.ntmps89
 go_wp2_with (first | (refine zg (by rfl) 61 (.tmp 1) (by rfl) w.heap.size (by rfl) 61 M (0, 0) _ (JO _ _ _ _) kL rfl HSz.o ?_))
 go_loopw [7] (fun i wr => ∃ k : Nat, k ≤ 32 ∧ i = .int .i64 k ∧ Hid (qi wr (w.heap.size + 1) qD 60) ∧ Hid (qi wr (w.heap.size + 2) ((qb (qC (l.take k)))) 60) ∧ Hid (zB w wr)) (fun i _ => 32 - (intOf i).toNat)
 case atStart => exact ⟨0, Zc _, rfl, Jm _ _ _ _, by rw [List.take_zero]; show _ = _; rw [Jb]; rfl, by show Below _ _ _; go_grown⟩
 case round =>
  obtain ⟨k, hk, rfl, H1, H2, HB⟩ := hrel
  by_cases hlt : k < 32
  ·
   obtain ⟨q, hq⟩ := zy (k / 8)
   obtain ⟨r, hr⟩ := zy (k % 8)
   have e8 : (k : Int) / 8 = (q : Int) := by omega
   have er : (k : Int) % 8 = (r : Int) := by omega
   have bq : (q : Int) < 4 := by omega
   have br : (r : Int) < 8 := by omega
   have bk : (k : Int) < 32 := by omega
   obtain ⟨n, HNn⟩ := zx (qC (l.take k))
   rw [← HNn.o] at H2
   obtain ⟨c, HC⟩ := zx (l.getD k 0)
   have hidx := qrl l HL.o k hlt
   rw [← HC.o, ← HM.o] at hidx
   have hnl : n < 256 ^ (8 * q + r) := by
    have := qd2 (l.take k)
    rw [Zh, HL.o, Nat.min_eq_left (by omega), ← HNn.o] at this
    rw [show 8 * q + r = k by omega]; exact this
   obtain ⟨hx, hrow⟩ := qtG n c.toNat q r hnl c.toNat_lt (by omega) (by omega)
   have hor := qtx (wd n q) c.toNat r hx c.toNat_lt (by omega)
   have hshl := qtE c.toNat r c.toNat_lt (by omega)
   have hcv : IntKind.u64.wrap (C8 c) = V c.toNat := by
    have := c.toNat_lt; unfold C8 V; rw [Zf]; omega
   have c2 := YR H2.o q (by omega)
   have f2 := frozen_of_row wr (w.heap.size + 2) q _ _ H2.o
   have HR : Hid (qb (qC (l.take (k + 1))) = ([nv (wd n 0), nv (wd n 1), nv (wd n 2), nv (wd n 3)].set q (nv (wd n q + c.toNat * 2 ^ (r * 8)))).toArray) := by
    show _ = _
    rw [← hrow, qi0 l k (by rw [HL.o]; exact hlt), ← HC.o, HNn.o, show 8 * q + r = k by omega]
   obtain ⟨y, HY⟩ := zx (c.toNat * 2 ^ (r * 8))
   rw [← HY.o] at hor hshl HR
   clear hx hrow hnl hq hr
   go_wp2_with fail
   go_region
   go_wp2_with fail
   refine ⟨⟨k + 1, by omega, by go_num, qqa _ _ H1.o (by omega), ?_, (HB.o.setCell (by show _ ≤ _; simp; omega) _).drew⟩, by simp [intOf]; omega⟩
   rw [HR.o]
   exact Qg (cs := [nv (wd n 0), nv (wd n 1), nv (wd n 2), nv (wd n 3)]) H2.o q _
  ·
   obtain rfl : k = 32 := by omega
   have bk : (32 : Int) ≤ ((32 : Nat) : Int) := by omega
   obtain ⟨n, HNn⟩ := zx (qC l)
   have H2' : Hid (qi wr (w.heap.size + 2) (qb n) 60) := by
    have e := H2.o; rw [zP (by rw [HL.o]; exact zm _), ← HNn.o] at e; exact e
   clear H2 hlt hk
   go_wp2_with (first
    | (refine zL 60 (.tmp 3) (w.heap.size + 2) (qb n) H2'.o Jr Ju ?_)
    | (refine qB 60 (.tmp 2) (.tmp 24) (w.heap.size + 1) (qb n) H1.o Ju rfl (qY _) ?_))
   refine zh (v := .agg (qb n)) (results_cell_row Tryz.results89 _ _ (w.heap.size + 1) 60 (qb n) (0, 0) _ (by rfl) (zd _ _ _ _ _ _ H1.o) Jr rfl Ju) rfl ⟨by rw [HNn.o], ze HB.o (by omega) _⟩
end
theorem qcL (l : List UInt8) (hl : l.length = 32) (M : Array Value) (hM : M = (l.map cv).toArray) (w : World) :
  zC 89 #[.agg M] w (.agg (qb (qC l))) := by
 rw [hM]; exact qhl l hl w
theorem qgW (w : World) (g : Nat) (cs : Array Value) : (w.setRow g cs).heap.size = w.heap.size := by simp [World.setRow]
def Zu (n : Nat) : Nat := if n < P then n else 0
def Yc (n : Nat) : Bool := decide (n < P)
theorem qhs (n : Nat) : Zu n < P := by
 unfold Zu; split
 · assumption
 · exact j3
theorem qvF (a b : Nat) (ha : a < 115792089237316195423570985008687907853269984665640564039457584007913129639936) (hb : b < 115792089237316195423570985008687907853269984665640564039457584007913129639936) (w : World) :
  Calls Tryz.prog 123 #[.agg (qb a), .agg (qb b)] w fun e w' => ∃ d, e = .returned (.tuple #[.agg (qb d), nv (Yf a b)]) ∧ zB w w' := by
 have := qmH a b ha hb w
 rw [yN, yN, yN] at this
 exact this.mono fun e w' h => ⟨_, h.1, h.2⟩
section
theorem qle (l : List UInt8) (hl : l.length = 32) (T3 : TypeId) (fr3 : Nat × Nat) (w : World) (hG : w.heap[10]? = some (.cells (qb P) T3 fr3)) :
  zC 149 #[.agg (l.map cv).toArray] w (.tuple #[fe (Zu (qC l)), .bool (Yc (qC l))]) := by
 have HL := qa hl
 have HG := qa hG
 have h3 := qm hG
 have hb := qd2 l
 rw [hl] at hb
 clear hl hG
 obtain ⟨M, HM⟩ := zx ((l.map cv).toArray)
 rw [← HM.o]
 have HSz : Hid ((Tryz.prog.info? 61).map (·.size) = some M.size) := by show _ = _; rw [qf0, HM.o]; simp [HL.o]
 obtain ⟨n, HN⟩ := zx (qC l)
 have Hb : Hid (n < 115792089237316195423570985008687907853269984665640564039457584007913129639936) := by rw [HN.o]; exact hb
 rw [← HN.o]
 clear hb
 go_enter Tryz.func149, Tryz.ntmps149
 go_wp2_with (first | (refine zg (by rfl) 61 (.tmp 1) (by rfl) w.heap.size (by rfl) 61 M (0, 0) _ ((zb _ _ (by simp)).trans (za _ _)) kL rfl HSz.o ?_))
 refine (qcL l HL.o M HM.o _).mono ?_
 rintro e W1 ⟨rfl, hB⟩
 rw [← HN.o]
 have hz := hB.size
 simp only [World.size_alloc] at hB hz
 have HR : Hid (qi W1 (w.heap.size + 1) qD 80) := (hB.block _ (by omega)).trans (Zd _ _ _)
 have HB : Hid (zB w W1) := (((zJ _ w).alloc (zm _) _).alloc (by simp) _).trans (hB.mono (by omega))
 have HG1 := qa (qs HG.o HB.o h3)
 clear hB
 go_wp2_with (first
  | (refine qB 80 (.tmp 4) (.tmp 8) W1.heap.size (qb n) (za _ _) (jc _) rfl (qY _) ?_)
  | (refine zg (by rfl) 80 (.tmp 4) (by rfl) W1.heap.size (by rfl) 80 (qb n) (0, 0) _ (zd _ _ _ _ _ _ (za _ _)) jC rfl (jc _) ?_)
  | (refine zg (by rfl) 80 (.global 10) (by rfl) 10 (by rfl) T3 (qb P) fr3 _ ((zc _ _ _ _ (by omega)).trans ((zb _ _ (by omega)).trans HG1.o)) jC rfl (jc _) ?_))
 refine (qvF n P Hb.o (by decide) _).mono ?_
 rintro e W2 ⟨d, rfl, hB2⟩
 have hz2 := hB2.size
 simp only [zB, World.size_alloc, qgW] at hB2 hz2
 have HB2 : Hid (zB w W2) := (ze (HB.o.alloc HB.o.size _) HB.o.size _).trans (hB2.mono (by omega))
 have HR2 : Hid (qi W2 (w.heap.size + 1) qD 80) := (hB2.block _ (by omega)).trans ((zc _ _ _ _ (by omega)).trans ((zb _ _ (by omega)).trans HR.o))
 have HN2 : Hid (qi W2 W1.heap.size (qb n) 80) := (hB2.block _ (by omega)).trans (zd _ _ _ _ _ _ (za _ _))
 clear hB2
 by_cases hlt : n < P
 ·
  have hv : V (Yf n P) = 1 := by unfold Yf; rw [if_pos hlt]; rfl
  have HE : Hid (Zu n = n ∧ Yc n = true) := ⟨by unfold Zu; rw [if_pos hlt], by unfold Yc; exact zN hlt⟩
  clear hlt
  go_wp2_with (first
   | (refine qB 60 (.tmp 5) (.tmp 13) W2.heap.size (qb d) (za _ _) Ju rfl (qY _) ?_)
   | (refine zg (by rfl) 80 (.tmp 4) (by rfl) W1.heap.size (by rfl) 80 (qb n) (0, 0) _ ((zc _ _ _ _ (by omega)).trans ((zb _ _ (by omega)).trans HN2.o)) jC rfl (jc _) ?_)
   | (refine qB 80 (.tmp 2) (.tmp 18) (w.heap.size + 1) (qb n) ((zc _ _ _ _ (by omega)).trans ((zb _ _ (by omega)).trans HR2.o)) (jc _) rfl (qY _) ?_))
  refine zh (v := .tuple #[fe n, .bool true]) (jJ Tryz.results149 _ _ (w.heap.size + 1) 80 (qb n) (0, 0) _ (by rfl) (zd _ _ _ _ _ _ ((zc _ _ _ _ (by omega)).trans ((zb _ _ (by omega)).trans HR2.o))) jC rfl (jc _)) rfl ⟨by rw [HE.o.1, HE.o.2], ze (ze (HB2.o.alloc HB2.o.size _) HB2.o.size _) (by omega) _⟩
 ·
  have hv : V (Yf n P) = 0 := by unfold Yf; rw [if_neg hlt]; rfl
  have HE : Hid (Zu n = 0 ∧ Yc n = false) := ⟨by unfold Zu; rw [if_neg hlt], by unfold Yc; exact zD hlt⟩
  clear hlt
  go_wp2_with (first
   | (refine qB 60 (.tmp 5) (.tmp 13) W2.heap.size (qb d) (za _ _) Ju rfl (qY _) ?_)
   | (refine qB 80 (.tmp 2) (.tmp 17) (w.heap.size + 1) qD ((zc _ _ _ _ (by omega)).trans ((zb _ _ (by omega)).trans HR2.o)) J9 rfl qda ?_))
  refine zh (v := .tuple #[.agg qD, .bool false]) (jJ Tryz.results149 _ _ (w.heap.size + 1) 80 qD (0, 0) _ (by rfl) (zd _ _ _ _ _ _ ((zc _ _ _ _ (by omega)).trans ((zb _ _ (by omega)).trans HR2.o))) jC rfl J9) rfl ⟨?_, ze (ze (HB2.o.alloc HB2.o.size _) HB2.o.size _) (by omega) _⟩
  rw [HE.o.1, HE.o.2]
  show Ending.returned (.tuple #[.agg qD, .bool false]) = .returned (.tuple #[.agg (qb 0), .bool false])
  rw [qbq]
end
open Go.RowKit
section
attribute [local go_sem] y7 Ji JU Ye yh Yr
attribute [local go_sem ↓] Go.wp_at_zero Go.wp_at_succ
theorem qjj (b k n cap : Nat) (H : HS) (w : World) (hn : 8 ≤ n) (hm : n ≤ 9223372036854775807)
  (hc : ∀ i, i < 8 → w.cell? ⟨b, 8 + 8 * k + i, none⟩ = some (.int .u8 (C8 (H.blk.getD (8 * k + i) 0)))) :
  Calls Tryz.prog 163 #[.slice (some ⟨b, 8 + 8 * k, none⟩) n cap] w fun e w' => e = .returned (.int .u64 (U (kG H.blk k))) ∧ w' = w :=
 qgN b (8 + 8 * k) n cap (fun i => H.blk.getD (8 * k + i) 0) w hn hm hc
theorem qaU {w : World} {g g' : Nat} {o : Obj} (i : Nat) (v : Value) (h : w.heap[g]? = some o) (hne : g ≠ g') : (w.setCell ⟨g', i, none⟩ v).heap[g]? = some o := by
 rw [Below.heap_setCell _ _ _ _ (by exact hne)]; exact h
theorem qgk {wr : World} {g : Nat} {T : TypeId} {blk : List UInt8} {n : Nat} (hn : n < 64) (h : wr.heap[g]? = some (.cells (Qm (je blk n)).toArray T (0, 0))) :
  (wr.setCell ⟨g, 16 + n, none⟩ (uv (YQ (je blk n) n))).heap[g]? = some (.cells (Qm (je blk (n + 1))).toArray T (0, 0)) := by
 have e := Qg h (16 + n) (uv (YQ (je blk n) n))
 have e2 := qhH (je blk n) (YQ (je blk n) n) (by rw [kt]; omega)
 rw [kt] at e2
 rw [e2] at e
 exact e
theorem qfD {wr : World} {g : Nat} {T : TypeId} {blk : List UInt8} {n : Nat} (hn : n < 16) (h : wr.heap[g]? = some (.cells (Qm (JX blk n)).toArray T (0, 0))) :
  (wr.setCell ⟨g, n, none⟩ (uv (kG blk n))).heap[g]? = some (.cells (Qm (JX blk (n + 1))).toArray T (0, 0)) := by
 have e := Qg h n (uv (kG blk n))
 have e2 := qhH (JX blk n) (kG blk n) (by rw [qaC]; omega)
 rw [qaC] at e2
 rw [e2] at e
 exact e
theorem qlO {wr : World} {g : Nat} {T : TypeId} {l : List (BitVec 64)} (h : wr.heap[g]? = some (.cells (Qm l).toArray T (0, 0))) (i : Nat) (hi : i < l.length) :
  wr.cell? ⟨g, i, none⟩ = some (.int .u64 (U (l.getD i 0))) :=
 (zj wr g i _ _ _ h).trans (by simpa using qm3 l i hi)
theorem qax {w : World} {g i j : Nat} {v u : Value} (h : w.cell? ⟨g, i, none⟩ = some u) (hne : j ≠ i) : (w.setCell ⟨g, j, none⟩ v).drew.cell? ⟨g, i, none⟩ = some u := by
 rw [World.cell?_drew, World.cell?_setCell_other _ _ _ _ (by intro e; exact hne (congrArg Addr.off e))]; exact h
theorem qjI (b : Nat) (T : TypeId) (H : HS) (w : World) (h : jw w b T H) :
  zC 153 #[zp b 0] w (.agg (Qm (je H.blk 64)).toArray) := by
 have hz := qpl
 have HH : Hid (jw w b T H) := h
 have hb : b < w.heap.size := h.lt
 clear h
 go_enter Tryz.func153, Tryz.ntmps153
 go_wp2_with fail
 go_loopw [6] (fun i wr => ∃ k : Nat, k ≤ 16 ∧ i = .int .i64 k ∧ Hid (qi wr (w.heap.size + 1) ((Qm (JX H.blk k)).toArray) 257) ∧
   Hid (qi wr w.heap.size ((Qm []).toArray) 257) ∧ zB w wr) (fun i _ => 16 - (intOf i).toNat)
 case atStart => exact ⟨0, Zc _, rfl, Zd _ _ _, heap_alloc2_old _ _ _, ((zJ _ _).alloc (zm _) _).alloc (by simp) _⟩
 case round =>
  obtain ⟨k, hk, rfl, hr, hr0, hbel⟩ := hrel
  by_cases hlt : k < 16
  ·
   obtain ⟨v0, hv0⟩ := qej (JX H.blk k) k (by omega) (by rw [qaC]; omega)
   have hcell : wr.cell? ⟨w.heap.size + 1, k, none⟩ = some v0 := (zj wr (w.heap.size + 1) k _ _ _ hr.o).trans (by simpa using hv0)
   have hfr := frozen_of_row wr (w.heap.size + 1) k _ _ hr.o
   have hsl := YD b 8 (8 * (k : Int)) (8 * k) (by omega) (by omega)
   clear hv0 hz
   go_wp2_with fail
   refine (qjj b k (128 - 8 * k) (128 - 8 * k) H _ (by omega) (by omega) ?_).mono ?_
   ·
    intro i hi
    have hc := HH.o.cell (8 + (8 * k + i))
    rw [H.row_blk (8 * k + i) (by rw [HH.o.len]; omega)] at hc
    rw [← Nat.add_assoc] at hc
    exact (hbel.cell (by exact hb)).trans hc
   ·
    rintro e w' ⟨rfl, rfl⟩
    go_wp2_with fail
    go_roundw
    case rel => exact ⟨k + 1, by omega, by go_num, qfD hlt hr.o, qaU _ _ hr0.o (by omega), hbel.setCell (by simp) _⟩
    case measure => simp [intOf]; omega
  ·
   have hk16 : k = 16 := by omega
   have hr' : Hid (qi wr (w.heap.size + 1) ((Qm (je H.blk 0)).toArray) 257) := by have := hr.o; rw [hk16] at this; exact this
   have hk16' : (16 : Int) ≤ (k : Int) := by omega
   clear hz hr hk hk16 hlt
   go_wp2_with fail
   go_loopw [5] (fun i wr => ∃ n m : Nat, n ≤ 64 ∧ Hid (m = 16 + n) ∧ i = .int .i64 m ∧ Hid (qi wr (w.heap.size + 1) ((Qm (je H.blk n)).toArray) 257) ∧
    Hid (qi wr w.heap.size ((Qm []).toArray) 257) ∧ zB w wr) (fun i _ => 80 - (intOf i).toNat)
   case atStart => exact ⟨0, 16, Zc _, rfl, rfl, hr', hr0, hbel⟩
   case round =>
    clear hr' hr0 hbel
    obtain ⟨n, m, hn, hm, rfl, hr, hr0, hbel⟩ := hrel
    by_cases hlt : n < 64
    ·
     have hl := kt H.blk n
     have hm' := hm.o
     obtain ⟨m2, hm2⟩ := zy (n + 14)
     obtain ⟨m7, hm7⟩ := zy (n + 9)
     obtain ⟨m15, hm15⟩ := zy (n + 1)
     have c2 := qlO hr.o m2 (by omega)
     have c7 := qlO hr.o m7 (by omega)
     have c15 := qlO hr.o m15 (by omega)
     have c16 := qlO hr.o n (by omega)
     have e2 : IntKind.i64.wrap ((m : Int) - 2) = (m2 : Int) := by rw [zq]; omega
     have e7 : IntKind.i64.wrap ((m : Int) - 7) = (m7 : Int) := by rw [zq]; omega
     have e15 : IntKind.i64.wrap ((m : Int) - 15) = (m15 : Int) := by rw [zq]; omega
     have e16 : IntKind.i64.wrap ((m : Int) - 16) = (n : Int) := by rw [zq]; omega
     have b2 : (m2 : Int) < 80 := by omega
     have b7 : (m7 : Int) < 80 := by omega
     have b15 : (m15 : Int) < 80 := by omega
     have b16 : (n : Int) < 80 := by omega
     have bm : (m : Int) < 80 := by omega
     have n2 : m ≠ m2 := by omega
     have n7 : m ≠ m7 := by omega
     have n15 : m ≠ m15 := by omega
     have n16 : m ≠ n := by omega
     obtain ⟨v0, hv0⟩ := qej (je H.blk n) m (by omega) (by rw [kt]; omega)
     have hcell := (zj _ (w.heap.size + 1) m _ _ _ hr.o).trans (by simpa using hv0)
     have hfr := frozen_of_row _ (w.heap.size + 1) m _ _ hr.o
     clear hv0
     generalize hx2 : (je H.blk n).getD m2 0 = x2 at c2
     generalize hx7 : (je H.blk n).getD m7 0 = x7 at c7
     generalize hx15 : (je H.blk n).getD m15 0 = x15 at c15
     generalize hx16 : (je H.blk n).getD n 0 = x16 at c16
     have HX : Hid (qal x2 + x7 + qam x15 + x16 = YQ (je H.blk n) n) := by
      show _ = _
      unfold YQ; rw [← hx2, ← hx7, ← hx15, ← hx16, hm2, hm7, hm15]
     clear hx2 hx7 hx15 hx16 hl hm2 hm7 hm15 hm'
     go_wp2_with fail
     go_region_held3 (fun w' => w'.cell? ⟨w.heap.size + 1, m2, none⟩ = some (.int .u64 (U x2)) ∧ w'.cell? ⟨w.heap.size + 1, m7, none⟩ = some (.int .u64 (U x7)) ∧ w'.cell? ⟨w.heap.size + 1, m15, none⟩ = some (.int .u64 (U x15)) ∧ w'.cell? ⟨w.heap.size + 1, n, none⟩ = some (.int .u64 (U x16))) (first | exact ⟨qax c2 n2, qax c7 n7, qax c15 n15, qax c16 n16⟩ | go_keep)
      (first | (go_at_call 164; refine (qdI x2 _).mono ?_; rintro e w' ⟨rfl, rfl⟩) | (go_at_call 165; refine (qdF x15 _).mono ?_; rintro e w' ⟨rfl, rfl⟩))
     clear c2 c7 c15 c16 hcell hfr n2 n7 n15 n16 e2 e7 e15 e16 b2 b7 b15 b16
     go_wp2
     go_roundw
     case rel =>
      refine ⟨n + 1, m + 1, by omega, ?_, by go_num, ?_, qaU _ _ hr0.o (by omega), (hbel.setCell (by simp) _).drew⟩
      · have := hm.o; show m + 1 = 16 + (n + 1); omega
      · rw [HX.o, hm.o]; exact qgk hlt hr.o
     case measure => simp [intOf]; omega
    ·
     obtain rfl : n = 64 := by omega
     have hm80 : m = 80 := hm.o
     have hm' : (80 : Int) ≤ (m : Int) := by omega
     clear hm hm80 hlt hn
     have hsz : (Qm (je H.blk 64)).length = 80 := qaH _ (by rw [kt]; omega)
     have HS : Hid ((Tryz.prog.info? 257).map (·.size) = some (Qm (je H.blk 64)).toArray.size) := by show _ = _; rw [qpo]; simp [hsz]
     have HO : Hid ((Qm []).toArray.size = (Qm (je H.blk 64)).toArray.size) := by show _ = _; simp [hsz, qaH]
     have HA : Hid ((Qm (je H.blk 64)).toArray.all (·.oneCell') = true) := all_oneCell_toArray (qfr _)
     clear hsz
     generalize hR : (Qm (je H.blk 64)).toArray = R at *
     have HRq : Hid (R = (Qm (je H.blk 64)).toArray) := hR.symm
     clear hR
     go_wp2_with (first | (refine zL 257 (.tmp 3) (w.heap.size + 1) R hr.o qhu HS.o ?_) | (refine qB 257 (.tmp 2) (.tmp 46) w.heap.size R hr0.o HS.o HO.o HA.o ?_))
     refine zh (v := .agg R) (results_cell_row Tryz.results153 _ _ w.heap.size 257 R (0, 0) _ (by rfl) (zd _ _ _ _ _ _ hr0.o) qhu rfl HS.o) rfl ⟨by rw [HRq.o], ze hbel (zm _) _⟩
end
end Go.Proofs.YtccgfabojbjmjaaGreatDoor
