import Derived.Test.YtccgfabojbjmjaaGreatDoorCards
import Derived.Test.YtccgfabojbjmjaaGreatDoorTie
import Derived.ProofKit
import Derived.OpenShut
import Derived.ShutString
import Derived.ChangeOld
import Derived.Deep.DeepHandedRow
import Derived.Lib.LaidTab
import Derived.SizedLaws
import Derived.Test.YtccgfabojbjmjaaGreatDoorLo18
import Derived.Tactics
import Derived.Tactics2
import Derived.Below
import Derived.Laws.Pointers
import Derived.Laws.Externs
import Derived.Stop.Asserts
import Derived.RegionTactic
import Derived.RegionCalls
import Derived.ChangeAlike
import Derived.WalkKit
import Derived.Deep.QuietTactic
import Derived.BigQuiet
import Derived.Laws.CopyOwn
import Derived.Deep.CutRange
import Derived.Maps.AppendAt
import Derived.Deep.RegionHeld3
import Derived.OwnWalk
set_option maxRecDepth 100000
set_option maxHeartbeats 8000000
namespace Go.Proofs.YtccgfabojbjmjaaGreatDoor
open Go.ChangeShapes Go.WideShapes Go.ChangeAt Go.RowKit
theorem own : ownKnob Tryz.prog.godebug = none := by kernel_rfl
theorem qgR : laidOutB Tryz.prog = true := by kernel_rfl
theorem qvD : Tryz.prog.globalNamed "latch/scalar.order" = some 6 := by kernel_rfl
theorem qm0 : (Tryz.prog.globals[6]?).map (·.type) = some 60 := by kernel_rfl
theorem qtI : Tryz.prog.cellsOf 60 = 4 := by kernel_rfl
theorem qgY : Tryz.prog.cellsOf 59 = 1 := by kernel_rfl
theorem qeG : Tryz.prog.underlying 59 = some (.int .u64) := by kernel_rfl
def qkp : List Int := [6346243789798364141, 1503914060200516822, 0, 1152921504606846976]
theorem qnQ : (Rows.laid_latch_scalar_order : DataW Unit) = Lib.tabData .u64 qkp := by kernel_rfl
theorem qi8 {W : World} (t : Lib.TabIs Tryz.prog W "latch/scalar.order" .u64 qkp) : QT W := by
 unfold Lib.TabIs World.var? at t
 rw [qvD] at t
 simp only [Option.bind_some] at t
 split at t
 ·
  rename_i cs ty fr h
  refine ⟨ty, fr, h.trans ?_⟩
  rw [Option.some.inj t]
  rfl
 · cases t
theorem qmc {W : World} (h : laidMetH Tryz.prog [("latch/scalar.order", Rows.laid_latch_scalar_order)] W) : QT W := by
 refine qi8 (Lib.tabIs_of_head (rest := []) qvD qm0 Jr qeG qgY qtI ?_)
 rw [← qnQ]; exact h
abbrev hN (t : TypeId) : Value := .pointer (some ⟨13, t, none⟩)
abbrev j7 (t : TypeId) : Value := .iface 239 (.agg #[hN t])
def js (t : TypeId) (q : Nat) (f : Int) : Array Value := #[hN t, zp q 0, .int .u64 f]
theorem qaY (t : TypeId) (q : Nat) (f : Int) : (Tryz.prog.info? 185).map (·.size) = some (js t q f).size := by kernel_rfl
theorem qgK (t : TypeId) (q : Nat) (f : Int) : (js t q f).all (·.oneCell') = true := by kernel_rfl
theorem qmt (w : World) : (zeroValue 185).run Tryz.prog w = .ok (.agg #[.pointer none, .pointer none, .int .u64 0]) w := by kernel_rfl
theorem qe2 (w : World) (g : Nat) (t ty : TypeId) (v : Value) (fr : Nat × Nat) (d : TypeDesc) (h : w.heap[g]? = some (.cells #[v] t fr)) (hu : Tryz.prog.underlying ty = some d) (hd : (match d with | .struct _ | .array _ _ => true | _ => false) = false) :
  (loadVar ty ⟨g, 0, none⟩).run Tryz.prog w = .ok v w := by
 have hagg : (isAgg ty).run Tryz.prog w = .ok false w := by
  unfold isAgg
  rw [Sem.run_bind, run_underlying hu w]
  cases d <;> simp_all
 have hc := zj w g 0 _ t fr h
 simp [loadVar, Sem.run_bind, hagg, hc]
theorem qjp (g : Nat) (w : World) : (callFunc 96 #[.iface 138 (zp g 0)]).run Tryz.prog w = .ok (.value (.agg (js 138 w.heap.size 150))) (w.alloc (.cells #[zp g 0] 138)) := by kernel_rfl
theorem qpW (q : Nat) (w : World) : (callFunc 97 #[.agg (js 138 q 150)]).run Tryz.prog w = .ok (.value (j7 138)) w := by kernel_rfl
theorem qlH (q : Nat) (w : World) : (Extern.ReflectliteValue.parts (.agg (js 138 q 150))).run Tryz.prog w = .ok (some (138, ⟨q, 0, none⟩, 150)) w := by kernel_rfl
theorem qg2 (z : Sem Value) (f : TypeId → Addr → Nat → Nat → Sem Value) (v : Value) : Extern.ReflectliteValue.method z f #[v] = (Extern.ReflectliteValue.parts v >>= fun o => match o with | none => z | some (t, a, fl) => f t a fl (fl % 32)) := rfl
theorem qoh (g q : Nat) (w : World) (h : w.heap[q]? = some (.cells #[zp g 0] 138)) : (callFunc 98 #[.agg (js 138 q 150)]).run Tryz.prog w = .ok (.value (.bool false)) w := by
 rw [run_callFunc_extern Tryz.func98 (by kernel_rfl) (by kernel_rfl) (by kernel_rfl) (e := Extern.ReflectliteValue.method (Extern.ReflectliteValue.valueError "reflectlite.Value.IsNil" 0) Extern.ReflectliteValue.isNil) (by kernel_rfl)]
 have hl := qe2 w q _ _ _ _ _ h Tryz.underlying138 rfl
 simp [qg2, Extern.ReflectliteValue.isNil, Sem.run_bind, qlH, hl]
theorem qoK (w : World) : (callFunc 206 #[hN 138]).run Tryz.prog w = .ok (.value (.int .u8 22)) w := by kernel_rfl
theorem qpJ (w : World) : (callFunc 206 #[hN 134]).run Tryz.prog w = .ok (.value (.int .u8 25)) w := by kernel_rfl
theorem qnt (w : World) : (callFunc 219 #[.agg #[hN 138]]).run Tryz.prog w = .ok (.value (j7 134)) w := by kernel_rfl
theorem qqP (w : World) : (callFunc 220 #[.agg #[hN 134], j7 66]).run Tryz.prog w = .ok (.value (.bool true)) w := by kernel_rfl
theorem kO (t : TypeId) (v : Value) (w : World) : (callFunc 100 #[.iface t v]).run Tryz.prog w = .ok (.value (j7 t)) w := by kernel_rfl
theorem qdN (w : World) : (callFunc 217 #[.agg #[hN 173], j7 134]).run Tryz.prog w = .ok (.value (.bool false)) w := by kernel_rfl
def qQ (what : ByteArray) (e : Value) : Value := .iface 173 (.agg #[.string what, e])
theorem qaA {P : Program} {ops : Array Oper} {rest : List Oper} {o : Oper} {a : Act} {w : World} {Q : Exit → Act → World → Prop} (hw : Region.wanted o (yielded ops a.tmps) = true) (ty : TypeId) (x : Operand) (ho : o.op = .load ty x)
  (g : Nat) (hx : a.eval x = zp g 0) (t : TypeId) (cs : Array Value) (fr : Nat × Nat) (d : TypeDesc) (hg : w.heap[g]? = some (.cells cs t fr))
  (hu : P.underlying ty = some d) (hd : (match d with | .struct _ | .array _ _ => true | _ => false) = true) (hi : (P.info? ty).map (·.size) = some cs.size)
  (h : wpList P ops Q rest (a.put o.dst (.agg cs)) w) : wpList P ops Q (o :: rest) a w :=
 wpList_step fun K hK => by simp only [hw, if_true]; exact wp_load_row ty x ho g hx t cs fr d hg hu hd hi (hK _ _ h)
theorem yR (what : ByteArray) (e : Value) (w : World) : Calls Tryz.prog 212 #[.agg #[.string what, e]] w fun r w' => r = .returned e ∧ zB w w' := by
 go_enter Tryz.func212, Tryz.ntmps212
 have hc := zj (w.alloc (.cells #[.string what, e] 173)) w.heap.size 1 _ _ _ (za _ _)
 go_wp2
 go_ret
 exact ⟨rfl, (zJ _ _).alloc (zm _) _⟩
theorem qen (v : Value) (xT : TypeId) (w : World) : (Instr.typeAssert (.iface 173 v) xT 243 true).run Tryz.prog w = .ok (.tuple #[.nilIface, .bool false]) w := run_typeAssert_lacksB Tryz.underlying243 (by kernel_rfl) (by kernel_rfl) v xT w
theorem ke (v : Value) (xT : TypeId) (w : World) : (Instr.typeAssert (.iface 173 v) xT 246 true).run Tryz.prog w = .ok (.tuple #[.iface 173 v, .bool true]) w := run_typeAssert_hasB Tryz.underlying246 (by kernel_rfl) v xT w
theorem qlU (w : World) : (zeroValue 134).run Tryz.prog w = .ok (.agg #[.int .i64 0, .int .i64 0]) w := by kernel_rfl
theorem qlc (w : World) : (zeroValue 136).run Tryz.prog w = .ok (.agg #[.int .i64 0]) w := by kernel_rfl
def Y6 : List (BitVec 64) := [
 4794697086780616226#64, 8158064640168781261#64, 13096744586834688815#64, 16840607885511220156#64,
 4131703408338449720#64, 6480981068601479193#64, 10538285296894168987#64, 12329834152419229976#64,
 15566598209576043074#64, 1334009975649890238#64, 2608012711638119052#64, 6128411473006802146#64,
 8268148722764581231#64, 9286055187155687089#64, 11230858885718282805#64, 13951009754708518548#64,
 16472876342353939154#64, 17275323862435702243#64, 1135362057144423861#64, 2597628984639134821#64,
 3308224258029322869#64, 5365058923640841347#64, 6679025012923562964#64, 8573033837759648693#64,
 10970295158949994411#64, 12119686244451234320#64, 12683024718118986047#64, 13788192230050041572#64,
 14330467153632333762#64, 15395433587784984357#64, 489312712824947311#64, 1452737877330783856#64,
 2861767655752347644#64, 3322285676063803686#64, 5560940570517711597#64, 5996557281743188959#64,
 7280758554555802590#64, 8532644243296465576#64, 9350256976987008742#64, 10552545826968843579#64,
 11727347734174303076#64, 12113106623233404929#64, 14000437183269869457#64, 14369950271660146224#64,
 15101387698204529176#64, 15463397548674623760#64, 17586052441742319658#64, 1182934255886127544#64,
 1847814050463011016#64, 2177327727835720531#64, 2830643537854262169#64, 3796741975233480872#64,
 4115178125766777443#64, 5681478168544905931#64, 6601373596472566643#64, 7507060721942968483#64,
 8399075790359081724#64, 8693463985226723168#64, 9568029438360202098#64, 10144078919501101548#64,
 10430055236837252648#64, 11840083180663258601#64, 13761210420658862357#64, 14299343276471374635#64,
 14566680578165727644#64, 15097957966210449927#64, 16922976911328602910#64, 17689382322260857208#64,
 500013540394364858#64, 748580250866718886#64, 1242879168328830382#64, 1977374033974150939#64,
 2944078676154940804#64, 3659926193048069267#64, 4368137639120453308#64, 4836135668995329356#64,
 5532061633213252278#64, 6448918945643986474#64, 6902733635092675308#64, 7801388544844847127#64]
def kw (i : Nat) : BitVec 64 := Y6.getD i 0
def qjn (kk ww : BitVec 64) (s : S8) : S8 :=
 ⟨(s.h + qau s.e + YM s.e s.f s.g + kk + ww) + (qcA s.a + qaO s.a s.b s.c), s.a, s.b, s.c,
  s.d + (s.h + qau s.e + YM s.e s.f s.g + kk + ww), s.e, s.f, s.g⟩
def QH (l : List (BitVec 64)) (s : S8) : Nat → S8
 | 0 => s
 | n + 1 => qjn (kw n) (l.getD n 0) (QH l s n)
theorem qix : ∃ f : List UInt8 → List (BitVec 64), ∀ blk, f blk = je blk 64 := ⟨_, fun _ => rfl⟩
noncomputable def qtb : List UInt8 → List (BitVec 64) := Classical.choose qix
theorem qiy (blk : List UInt8) : qtb blk = je blk 64 := Classical.choose_spec qix blk
theorem qit : ∃ f : List (BitVec 64) → S8 → S8, ∀ l s, f l s = QH l s 80 := ⟨_, fun _ _ => rfl⟩
noncomputable def qr7 : List (BitVec 64) → S8 → S8 := Classical.choose qit
theorem qiI (l : List (BitVec 64)) (s : S8) : qr7 l s = QH l s 80 := Classical.choose_spec qit l s
noncomputable def yD (s : S8) (blk : List UInt8) : S8 := s.add (qr7 (qtb blk) s)
noncomputable def HS.mix (H : HS) : HS := { H with st := yD H.st H.blk }
def j9 (w : World) : Prop := ∀ i, i < 80 → w.cell? ⟨9, i, none⟩ = some (.int .u64 (U (kw i)))
theorem j9.lt {w : World} (h : j9 w) : 9 < w.heap.size := zX w _ (h 0 (by omega))
theorem j9.turn {b : Nat} {w w' : World} (h : j9 w) (ht : jl b w w') (hb : 9 ≠ b) : j9 w' := fun i hi =>
 (zo (w := w) (ht.block 9 h.lt hb)).trans (h i hi)
theorem j9.below {B : Nat} {w w' : World} (h : j9 w) (ht : Below B w w') (hb : 9 < B) : j9 w' := fun i hi =>
 (ht.cell (by exact hb)).trans (h i hi)
def kN (l : List (BitVec 64)) (H : HS) : List Value := l.map uv ++ (H.blk.map cv ++ [uv H.hi, uv H.lo])
theorem qnp (l : List (BitVec 64)) (H : HS) (i : Nat) (h : i < l.length) (x : BitVec 64) : (kN l H).set i (uv x) = kN (l.set i x) H := by
 unfold kN; rw [List.set_append_left _ _ (by simpa using h), ← List.map_set]
def yj (s t : S8) : Nat → List (BitVec 64)
 | 0 => s.words
 | k + 1 => (yj s t k).set k (s.words.getD k 0 + t.words.getD k 0)
theorem qbg (s t : S8) (k : Nat) : (yj s t k).length = 8 := by
 induction k with
 | zero => rfl
 | succ k ih => simp [yj, ih]
theorem qfG (s t : S8) : yj s t 8 = (s.add t).words := rfl
theorem qns (l : List (BitVec 64)) (H : HS) (i : Nat) (h : i < l.length) : (kN l H)[i]? = some (uv (l.getD i 0)) := by
 unfold kN; rw [z5 (by simpa using h)]; simp [h]
theorem qkE (s t : S8) (k i : Nat) (h : k ≤ i) : (yj s t k).getD i 0 = s.words.getD i 0 := by
 induction k with
 | zero => rfl
 | succ k ih =>
  have := ih (by omega)
  simp only [yj, Za, List.getElem?_set] at this ⊢
  rw [if_neg (by omega)]; exact this
theorem qev (s : S8) : ∀ v ∈ s.words.map uv, v.oneCell' = true := by
 intro v hv; obtain ⟨x, _, rfl⟩ := List.mem_map.1 hv; rfl
theorem qoW : Tryz.prog.underlying 163 = some (.array 8 59) := by kernel_rfl
theorem qqA : (Tryz.prog.info? 163).map (·.size) = some 8 := by kernel_rfl
theorem qvl (w : World) : (zeroValue 163).run Tryz.prog w = .ok (.agg ((List.replicate 8 (0#64)).map uv).toArray) w := by kernel_rfl
open Go.RowKit
section
attribute [local go_sem] y7 Ji JU Ye yh Yr
attribute [local go_sem ↓] Go.wp_at_zero Go.wp_at_succ
def z8 : Array Value := ((List.replicate 8 (0#64)).map uv).toArray
def z80 : Array Value := (Qm []).toArray
def w8 (s : S8) : List Value := s.words.map uv
theorem qiY {b : Nat} {w w1 W1 : World} {cs : List Value} {R : List Value} {Z : Array Value} {t : TypeId} (hb1 : zB w w1) (hb : b < w.heap.size) (hT : w1.rangeAt b 0 cs)
  (hW1 : W1 = (w1.alloc (.cells Z t)).setRow w1.heap.size R.toArray) :
  Hid (zB w W1 ∧ w1.heap.size < W1.heap.size ∧ W1.heap[w1.heap.size]? = some (.cells R.toArray t (0, 0)) ∧ W1.rangeAt b 0 cs) := by
 subst hW1
 refine ⟨ze (hb1.alloc hb1.size _) hb1.size _, by simp, zd _ _ _ _ _ _ (za _ _), fun j v hv => ?_⟩
 have := hb1.size
 rw [cell_setRow_other _ _ _ _ (by show b ≠ _; omega), World.cell?_alloc_lt _ _ _ (by show b < _; omega)]
 exact hT j v hv
theorem qjy {b g : Nat} {w W1 W2 : World} {cs : List Value} {R X : List Value} {Z : Array Value} {t t' : TypeId}
  (h : zB w W1 ∧ g < W1.heap.size ∧ W1.heap[g]? = some (.cells R.toArray t (0, 0)) ∧ W1.rangeAt b 0 cs)
  (hW2 : W2 = (W1.alloc (.cells Z t')).setRow W1.heap.size X.toArray) :
  Hid (zB w W2 ∧ W2.heap[g]? = some (.cells R.toArray t (0, 0)) ∧ W2.heap[W1.heap.size]? = some (.cells X.toArray t' (0, 0)) ∧ W2.heap.size = W1.heap.size + 1) := by
 subst hW2
 obtain ⟨h1, h2, h3, h4⟩ := h
 refine ⟨ze (h1.alloc h1.size _) h1.size _, ?_, zd _ _ _ _ _ _ (za _ _), by simp⟩
 rw [zc _ _ _ _ (by omega), zb _ _ h2]; exact h3
theorem YN {W : World} {g : Nat} {s : S8} {t : TypeId} (h : W.heap[g]? = some (.cells (w8 s).toArray t (0, 0))) (i : Nat) (hi : i < 8) : W.cell? ⟨g, i, none⟩ = some (.int .u64 (U (s.words.getD i 0))) := by
 rw [zj W g i _ _ _ h]
 have : i < s.words.length := hi
 simp [w8, this]
theorem qnG (s : S8) (w : World) : (Instr.index 163 (.agg #[.int .u64 (U s.a), .int .u64 (U s.b), .int .u64 (U s.c), .int .u64 (U s.d), .int .u64 (U s.e), .int .u64 (U s.f), .int .u64 (U s.g), .int .u64 (U s.h)]) (.int .i64 0)).run Tryz.prog w = .ok (.int .u64 (U s.a)) w := by kernel_rfl
theorem qnX (s : S8) (w : World) : (Instr.index 163 (.agg #[.int .u64 (U s.a), .int .u64 (U s.b), .int .u64 (U s.c), .int .u64 (U s.d), .int .u64 (U s.e), .int .u64 (U s.f), .int .u64 (U s.g), .int .u64 (U s.h)]) (.int .i64 1)).run Tryz.prog w = .ok (.int .u64 (U s.b)) w := by kernel_rfl
theorem qnz (s : S8) (w : World) : (Instr.index 163 (.agg #[.int .u64 (U s.a), .int .u64 (U s.b), .int .u64 (U s.c), .int .u64 (U s.d), .int .u64 (U s.e), .int .u64 (U s.f), .int .u64 (U s.g), .int .u64 (U s.h)]) (.int .i64 2)).run Tryz.prog w = .ok (.int .u64 (U s.c)) w := by kernel_rfl
theorem qoL (s : S8) (w : World) : (Instr.index 163 (.agg #[.int .u64 (U s.a), .int .u64 (U s.b), .int .u64 (U s.c), .int .u64 (U s.d), .int .u64 (U s.e), .int .u64 (U s.f), .int .u64 (U s.g), .int .u64 (U s.h)]) (.int .i64 3)).run Tryz.prog w = .ok (.int .u64 (U s.d)) w := by kernel_rfl
theorem qm5 (s : S8) (w : World) : (Instr.index 163 (.agg #[.int .u64 (U s.a), .int .u64 (U s.b), .int .u64 (U s.c), .int .u64 (U s.d), .int .u64 (U s.e), .int .u64 (U s.f), .int .u64 (U s.g), .int .u64 (U s.h)]) (.int .i64 4)).run Tryz.prog w = .ok (.int .u64 (U s.e)) w := by kernel_rfl
theorem qor (s : S8) (w : World) : (Instr.index 163 (.agg #[.int .u64 (U s.a), .int .u64 (U s.b), .int .u64 (U s.c), .int .u64 (U s.d), .int .u64 (U s.e), .int .u64 (U s.f), .int .u64 (U s.g), .int .u64 (U s.h)]) (.int .i64 5)).run Tryz.prog w = .ok (.int .u64 (U s.f)) w := by kernel_rfl
theorem qoe (s : S8) (w : World) : (Instr.index 163 (.agg #[.int .u64 (U s.a), .int .u64 (U s.b), .int .u64 (U s.c), .int .u64 (U s.d), .int .u64 (U s.e), .int .u64 (U s.f), .int .u64 (U s.g), .int .u64 (U s.h)]) (.int .i64 6)).run Tryz.prog w = .ok (.int .u64 (U s.g)) w := by kernel_rfl
theorem qnc (s : S8) (w : World) : (Instr.index 163 (.agg #[.int .u64 (U s.a), .int .u64 (U s.b), .int .u64 (U s.c), .int .u64 (U s.d), .int .u64 (U s.e), .int .u64 (U s.f), .int .u64 (U s.g), .int .u64 (U s.h)]) (.int .i64 7)).run Tryz.prog w = .ok (.int .u64 (U s.h)) w := by kernel_rfl
theorem qoY (s : S8) (j : Nat) (hj : j < 8) : ∀ w, (Instr.index 163 (.agg #[.int .u64 (U s.a), .int .u64 (U s.b), .int .u64 (U s.c), .int .u64 (U s.d), .int .u64 (U s.e), .int .u64 (U s.f), .int .u64 (U s.g), .int .u64 (U s.h)]) (.int .i64 j)).run Tryz.prog w = .ok (.int .u64 (U (s.words.getD j 0))) w := by
 intro w
 have h : j = 0 ∨ j = 1 ∨ j = 2 ∨ j = 3 ∨ j = 4 ∨ j = 5 ∨ j = 6 ∨ j = 7 := by omega
 rcases h with rfl | rfl | rfl | rfl | rfl | rfl | rfl | rfl
 · exact qnG s w
 · exact qnX s w
 · exact qnz s w
 · exact qoL s w
 · exact qm5 s w
 · exact qor s w
 · exact qoe s w
 · exact qnc s w
theorem qf6 (l : List (BitVec 64)) (s : S8) (n : Nat) : QH l s (n + 1) = qjn (kw n) (l.getD n 0) (QH l s n) := rfl
theorem qem (s t : S8) (k : Nat) : yj s t (k + 1) = (yj s t k).set k (s.words.getD k 0 + t.words.getD k 0) := rfl
theorem qkY (H : HS) (t : S8) : H.row = kN (yj H.st t 0) H := rfl
theorem qpN (H : HS) (l : List (BitVec 64)) (h : l = je H.blk 64) : H.mix.row = kN (H.st.add (QH l H.st 80)).words H := by
 rw [← qiy] at h; subst h; rw [← qiI]; cases H; rfl
theorem qkk (H : HS) : H.mix.blk = H.blk := by cases H; rfl
theorem qa0 {w : World} {g g' i j : Nat} {v u : Value} (h : w.cell? ⟨g, i, none⟩ = some u) (hne : g' ≠ g) : (w.setCell ⟨g', j, none⟩ v).drew.cell? ⟨g, i, none⟩ = some u := by
 rw [World.cell?_drew, World.cell?_setCell_other _ _ _ _ (by intro e; exact hne (congrArg Addr.block e))]; exact h
theorem qan (b : Nat) (T : TypeId) (H : HS) (w : World) (h : jw w b T H) (hK : j9 w) (_hb0 : 9 ≠ b) :
  Calls Tryz.prog 127 #[zp b 0] w fun e w' => e = .returned (.tuple #[]) ∧ jw w' b T H.mix ∧ jl b w w' := by
 have hz : ∀ w, (zeroValue 257).run Tryz.prog w = .ok (.agg z80) w := qpl
 have hz8 : ∀ w, (zeroValue 163).run Tryz.prog w = .ok (.agg z8) w := qvl
 have HH : Hid (jw w b T H) := h
 have HK : Hid (j9 w) := hK
 have hb : b < w.heap.size := h.lt
 clear h hK
 go_enter Tryz.func127, Tryz.ntmps127
 go_wp2_with fail
 refine (qjI b T H w HH.o).mono ?_
 rintro e w1 ⟨rfl, hb1⟩
 obtain ⟨L, HL⟩ := zx (je H.blk 64)
 rw [← HL.o]
 have HLL : Hid (L.length = 80) := by rw [HL.o]; exact kt _ _
 obtain ⟨R, HR⟩ := zx (Qm L)
 rw [← HR.o]
 have HSz : Hid ((Tryz.prog.info? 257).map (·.size) = some R.toArray.size) := by show _ = _; rw [qpo, HR.o]; simp [qaH, HLL.o]
 have HO : Hid (z80.size = R.toArray.size) := by show _ = _; rw [HR.o]; simp [z80, qaH, HLL.o]
 have HA : Hid (R.toArray.all (·.oneCell') = true) := by rw [HR.o]; exact all_oneCell_toArray (qfr _)
 have HT : Hid (w1.rangeAt b 0 (w8 H.st)) := by
  intro j v hv
  have hj : j < 8 := by simp only [w8, S8.words, Zp] at hv; rcases Nat.lt_or_ge j 8 with g | g; exact g; rw [List.getElem?_eq_none (by simpa using g)] at hv; cases hv
  rw [Zb, (hb1.cell (by exact hb) : w1.cell? ⟨b, j, none⟩ = w.cell? ⟨b, j, none⟩), HH.o.cell j]
  unfold HS.row at *; rw [z5 (by simpa [S8.words] using hj)]; exact hv
 go_wp2_with (first
  | (refine qB 257 (.tmp 2) (.tmp 18) w1.heap.size R.toArray (za _ _) HSz.o HO.o HA.o ?_; (obtain ⟨W1, hW1⟩ : ∃ W1, W1 = (w1.alloc (.cells z80 257)).setRow w1.heap.size R.toArray := ⟨_, rfl⟩); rw [← hW1]; have F1 := qiY hb1 hb HT.o hW1; clear hW1)
  | (refine zG (by rfl) 163 (.tmp 21) (by rfl) b 0 (by rfl) (w8 H.st) _ F1.o.2.2.2 qoW rfl qqA ?_)
  | (refine qB 163 (.tmp 3) (.tmp 22) W1.heap.size (w8 H.st).toArray (za _ _) qqA (by rfl) (by exact all_oneCell_toArray (qev _)) ?_; (obtain ⟨W2, hW2⟩ : ∃ W2, W2 = (W1.alloc (.cells z8 163)).setRow W1.heap.size (w8 H.st).toArray := ⟨_, rfl⟩); rw [← hW2]; have F2 := qjy F1.o hW2; clear hW2))
 obtain ⟨g1, hg1⟩ := zy w1.heap.size
 obtain ⟨g2, hg2⟩ := zy W1.heap.size
 have F3 : Hid (zB w W2 ∧ W2.heap[g1]? = some (.cells R.toArray 257) ∧ W2.heap[g2]? = some (.cells (w8 H.st).toArray 163) ∧ w.heap.size ≤ g1 ∧ w.heap.size ≤ g2 ∧ g1 < g2) := by
  rw [hg1, hg2]; exact ⟨F2.o.1, F2.o.2.1, F2.o.2.2.1, hb1.size, F1.o.1.size, F1.o.2.1⟩
 rw [← hg1, ← hg2]
 clear hg1 hg2 F1 F2 hb1 HT HA HO HSz hz hz8
 have c0 : W2.cell? ⟨g2, 0, none⟩ = some (.int .u64 (U H.st.a)) := YN F3.o.2.2.1 0 (by omega)
 have c1 : W2.cell? ⟨g2, 1, none⟩ = some (.int .u64 (U H.st.b)) := YN F3.o.2.2.1 1 (by omega)
 have c2 : W2.cell? ⟨g2, 2, none⟩ = some (.int .u64 (U H.st.c)) := YN F3.o.2.2.1 2 (by omega)
 have c3 : W2.cell? ⟨g2, 3, none⟩ = some (.int .u64 (U H.st.d)) := YN F3.o.2.2.1 3 (by omega)
 have c4 : W2.cell? ⟨g2, 4, none⟩ = some (.int .u64 (U H.st.e)) := YN F3.o.2.2.1 4 (by omega)
 have c5 : W2.cell? ⟨g2, 5, none⟩ = some (.int .u64 (U H.st.f)) := YN F3.o.2.2.1 5 (by omega)
 have c6 : W2.cell? ⟨g2, 6, none⟩ = some (.int .u64 (U H.st.g)) := YN F3.o.2.2.1 6 (by omega)
 have c7 : W2.cell? ⟨g2, 7, none⟩ = some (.int .u64 (U H.st.h)) := YN F3.o.2.2.1 7 (by omega)
 go_quiet (fail)
 clear c0 c1 c2 c3 c4 c5 c6 c7
 go_wp2_with fail
 go_loopw [4, 5, 6, 7, 8, 9, 10, 11, 39] (fun va vb vc vd ve vf vg vh i wr => ∃ (k : Nat) (s : S8), k ≤ 80 ∧ Hid (s = QH L H.st k) ∧ i = .int .i64 k ∧ va = .int .u64 (U s.a) ∧ vb = .int .u64 (U s.b) ∧ vc = .int .u64 (U s.c) ∧ vd = .int .u64 (U s.d) ∧
   ve = .int .u64 (U s.e) ∧ vf = .int .u64 (U s.f) ∧ vg = .int .u64 (U s.g) ∧ vh = .int .u64 (U s.h) ∧
   Hid (zB w wr ∧ wr.heap[g1]? = some (.cells R.toArray 257) ∧ wr.heap[g2]? = some (.cells (w8 H.st).toArray 163) ∧ w.heap.size ≤ g1 ∧ w.heap.size ≤ g2 ∧ g1 < g2)) (fun _ _ _ _ _ _ _ _ i _ => 80 - (intOf i).toNat)
 case atStart => exact ⟨0, H.st, Zc _, rfl, rfl, rfl, rfl, rfl, rfl, rfl, rfl, rfl, rfl, ⟨⟨F3.o.1.os, F3.o.1.tape, F3.o.1.output, F3.o.1.size, F3.o.1.block⟩, F3.o.2⟩⟩
 case round =>
  clear F3
  obtain ⟨k, s, hk, hs, rfl, rfl, rfl, rfl, rfl, rfl, rfl, rfl, rfl, F3⟩ := hrel
  by_cases hlt : k < 80
  ·
   have bk : (k : Int) < 80 := by omega
   have hck : wr.cell? ⟨9, k, none⟩ = some (.int .u64 (U (kw k))) := HK.o.below F3.o.1 (by have := HK.o.lt; omega) k hlt
   have hcw : wr.cell? ⟨g1, k, none⟩ = some (.int .u64 (U (L.getD k 0))) := by
    have := F3.o.2.1; rw [HR.o] at this
    exact qlO this k (by rw [HLL.o]; exact hlt)
   generalize hww : L.getD k 0 = ww at hcw
   have HN : Hid (qjn (kw k) ww s = QH L H.st (k + 1)) := by show _ = _; rw [qf6, hs.o, ← hww]
   clear hww
   generalize kw k = kk at *
   go_wp2_with fail
   go_quiet (first | (go_at_call 154; exact Calls.quiet_of_same (qeL _ _)) | (go_at_call 155; exact Calls.quiet_of_same (qjK _ _ _ _)))
   go_wp2_with (first | (go_at_call 156; refine (qeW _ _).mono ?_; rintro e w' ⟨rfl, rfl⟩) | (go_at_call 157; refine (qfA _ _ _ _).mono ?_; rintro e w' ⟨rfl, rfl⟩))
   go_roundw
   case rel => exact ⟨k + 1, qjn kk ww s, by omega, HN.o, by go_num, rfl, rfl, rfl, rfl, rfl, rfl, rfl, rfl, ⟨⟨F3.o.1.os, F3.o.1.tape, F3.o.1.output, F3.o.1.size, F3.o.1.block⟩, F3.o.2⟩⟩
   case measure => simp [intOf]; omega
  ·
   have hk80 : k = 80 := by omega
   have hk' : (80 : Int) ≤ (k : Int) := by omega
   have hs' : Hid (s = QH L H.st 80) := by have := hs.o; rw [hk80] at this; exact this
   clear hs hk80 hlt hk
   go_wp2_with fail
   have HG : Hid (w.heap.size ≤ g2) := F3.o.2.2.2.2.1
   go_loopw [88] (fun i wr => ∃ j : Nat, j ≤ 8 ∧ i = .int .i64 j ∧ Hid (wr.heap[b]? = some (.cells (kN (yj H.st s j) H).toArray T (0, 0))) ∧ Hid (qi wr g2 ((w8 H.st).toArray) 163) ∧ Hid (jl b w wr)) (fun i _ => 8 - (intOf i).toNat)
   case atStart => exact ⟨0, Zc _, rfl, by rw [← qkY]; exact (F3.o.1.block b hb).trans HH.o.heap, F3.o.2.2.1, jl.of_below F3.o.1⟩
   case round =>
    clear F3
    obtain ⟨j, hj, rfl, hr, hr2, ht⟩ := hrel
    by_cases hlt : j < 8
    ·
     have bj : (j : Int) < 8 := by omega
     have hidx := qoY s j hlt
     have hc2 := YN hr2.o j hlt
     have hcb : wr.cell? ⟨b, j, none⟩ = some (.int .u64 (U ((yj H.st s j).getD j 0))) := (zj wr b j _ _ _ hr.o).trans (by simpa using qns (yj H.st s j) H j (by rw [qbg]; exact hlt))
     have hfb := frozen_of_row wr b j _ _ hr.o
     have hne : b ≠ g2 := by have := HG.o; omega
     generalize hold : H.st.words.getD j 0 = x at hc2
     generalize hnew : s.words.getD j 0 = y at hidx
     generalize (yj H.st s j).getD j 0 = y0 at hcb
     have HX : Hid (H.st.words.getD j 0 + s.words.getD j 0 = x + y) := by show _ = _; rw [hold, hnew]
     clear hold hnew hk'
     go_wp2_with fail
     go_region_held3 (fun w' => w'.cell? ⟨g2, j, none⟩ = some (.int .u64 (U x))) (first | exact qa0 hc2 hne | go_keep) (fail)
     go_wp2
     go_roundw
     case rel =>
      refine ⟨j + 1, by omega, by go_num, ?_, qaU _ _ hr2.o (Ne.symm hne), (ht.o.setCell rfl _).drew⟩
      have e := Qg hr.o j (uv (x + y))
      rw [qnp _ _ _ (by rw [qbg]; exact hlt)] at e
      rw [qem, HX.o]
      exact e
     case measure => simp [intOf]; omega
    ·
     have hj8 : j = 8 := by omega
     have hj' : (8 : Int) ≤ (j : Int) := by omega
     rw [hj8] at hr
     clear hj8 hj hlt hk'
     go_wp2_with fail
     go_end0
     refine ⟨rfl, ⟨?_, by rw [qkk]; exact HH.o.len⟩, ht.o⟩
     rw [qpN H L HL.o, ← hs'.o, ← qfG]
     exact hr.o
end
noncomputable def HS.done (X : HS) : HS := if X.filled = 0 then X.mix else X
noncomputable def HS.chunk (H : HS) (l : List UInt8) : HS := HS.done { H with blk := splice H.blk H.filled l, n := H.n + l.length }
noncomputable def HS.put (H : HS) (c : UInt8) : HS := H.chunk [c]
noncomputable def HS.puts (H : HS) (l : List UInt8) : HS := l.foldl HS.put H
theorem HS.puts_append (H : HS) (l m : List UInt8) : H.puts (l ++ m) = (H.puts l).puts m := List.foldl_append ..
theorem HS.puts_cons (H : HS) (c : UInt8) (m : List UInt8) : H.puts (c :: m) = (H.put c).puts m := rfl
theorem qgP {α : Type} (L : List α) (f : Nat) (c : α) (m : List α) (h : f + 1 + m.length ≤ L.length) : splice (splice L f [c]) (f + 1) m = splice L f (c :: m) := by
 unfold splice
 have h1 : (L.take f).length = f := by simp; omega
 have e1 : (L.take f ++ ([c] ++ L.drop (f + [c].length))).take (f + 1) = L.take f ++ [c] := by
  rw [← z9, List.take_append_of_le_length (by simp; omega)]
  exact zP (by simp; omega)
 have e2 : (L.take f ++ ([c] ++ L.drop (f + [c].length))).drop (f + 1 + m.length) = L.drop (f + 1 + m.length) := by
  rw [← z9, List.drop_append, List.drop_eq_nil_of_le (by simp; omega), List.nil_append, List.drop_drop]
  congr 1; simp only [Ze, h1, List.length_singleton]; omega
 rw [e1, e2]
 simp only [z9, List.cons_append, List.nil_append, List.length_cons]
 rw [show f + 1 + m.length = f + (m.length + 1) by omega]
theorem HS.chunk_cons (H : HS) (c : UInt8) (m : List UInt8) (hm : m ≠ []) (hl : H.blk.length = 128) (h : H.filled + (m.length + 1) ≤ 128) : H.chunk (c :: m) = (H.put c).chunk m := by
 have hm0 : 0 < m.length := List.length_pos_iff.2 hm
 have hf := H.filled_lt
 have e : H.put c = { H with blk := splice H.blk H.filled [c], n := H.n + 1 } := by
  unfold HS.put HS.chunk HS.done
  rw [if_neg]; rfl
  show ¬ (H.n + [c].length) % 128 = 0
  have : H.n % 128 = H.filled := rfl
  simp; omega
 have e2 : ({ H with blk := splice H.blk H.filled [c], n := H.n + 1 } : HS).filled = H.filled + 1 := by
  show (H.n + 1) % 128 = H.n % 128 + 1
  have : H.n % 128 = H.filled := rfl
  omega
 rw [e]
 unfold HS.chunk
 rw [e2]
 congr 2
 · exact (qgP H.blk H.filled c m (by omega)).symm
 · simp; omega
theorem HS.chunk_puts (l : List UInt8) : ∀ (H : HS), l ≠ [] → H.blk.length = 128 → H.filled + l.length ≤ 128 → H.chunk l = H.puts l := by
 induction l with
 | nil => intro H h; exact absurd rfl h
 | cons c m ih =>
  intro H _ hl h
  by_cases hm : m = []
  · subst hm; rfl
  ·
   rw [H.chunk_cons c m hm hl (by simpa using h), H.puts_cons]
   have e : H.put c = { H with blk := splice H.blk H.filled [c], n := H.n + 1 } := by
    have hm0 : 0 < m.length := List.length_pos_iff.2 hm
    unfold HS.put HS.chunk HS.done
    rw [if_neg]; rfl
    show ¬ (H.n + [c].length) % 128 = 0
    have : H.n % 128 = H.filled := rfl
    simp at h ⊢; omega
   refine ih _ hm ?_ ?_
   · rw [e]; exact (length_splice _ _ _ (by have := H.filled_lt; simp; omega)).trans hl
   ·
    rw [e]; show (H.n + 1) % 128 + _ ≤ _
    have hm0 : 0 < m.length := List.length_pos_iff.2 hm
    have : H.n % 128 = H.filled := rfl
    simp at h; omega
theorem HS.row_splice (H : HS) (off : Nat) (l : List UInt8) (h : off + l.length ≤ H.blk.length) :
  H.row.take (8 + off) ++ l.map cv ++ H.row.drop (8 + off + l.length) = ({ H with blk := splice H.blk off l } : HS).row := by
 have h8 : (H.st.words.map uv).length = 8 := rfl
 have e1 : H.row.take (8 + off) = H.st.words.map uv ++ (H.blk.take off).map cv := by
  unfold HS.row
  rw [List.take_append, zP (by rw [h8]; omega), h8, Nat.add_sub_cancel_left, List.take_append_of_le_length (by simp; omega), List.map_take]
 have e2 : H.row.drop (8 + off + l.length) = (H.blk.drop (off + l.length)).map cv ++ [uv H.hi, uv H.lo] := by
  unfold HS.row
  rw [List.drop_append, List.drop_eq_nil_of_le (by rw [h8]; omega), h8, List.nil_append, List.drop_append, List.map_drop]
  have : 8 + off + l.length - 8 = off + l.length := by omega
  rw [this]
  have h0 : off + l.length - (List.map cv H.blk).length = 0 := by simp; omega
  rw [h0]; rfl
 rw [e1, e2]
 show _ = H.st.words.map uv ++ ((splice H.blk off l).map cv ++ [uv H.hi, uv H.lo])
 simp [splice]
theorem qfL {P : Program} (w : World) (dT sT ty elem : TypeId) (g o dLen dCap : Nat) (s : ByteArray) (cur : List Value) (t : TypeId) (n : Nat)
  (hu : P.underlying dT = some (.slice elem)) (hs : (P.info? elem).map (·.size) = some 1) (hg : w.heap[g]? = some (.cells cur.toArray t (0, 0))) (hn : Nat.min s.size dLen = n) (hfit : o + n ≤ cur.length) :
  (Builtin.copy_ #[dT, sT] ty #[.slice (some ⟨g, o, none⟩) dLen dCap, .string s]).run P w =
   .ok (goInt n) (w.setRow g (cur.take o ++ (s.data.toList.take n).map cv ++ cur.drop (o + n)).toArray) := by
 have hsz : s.size = s.data.toList.length := rfl
 have hln : n ≤ s.data.toList.length := by rw [← hsz, ← hn]; exact Nat.min_le_left _ _
 have hlen : ((s.data.toList.take n).map cv).length = n := by rw [zv, Zh]; exact Nat.min_eq_left hln
 have hst := run_storeCells_at P g o t ((s.data.toList.take n).map cv) 0 cur.toArray w hg (by rw [hlen]; simpa using hfit) (by
  intro v hv; obtain ⟨x, _, rfl⟩ := List.mem_map.1 hv; rfl)
 rw [hlen] at hst
 simp only [Nat.add_zero] at hst
 have htk : (Array.map (fun b : UInt8 => Value.int IntKind.u8 (b.toNat : Int)) (s.extract 0 n).data).toList = (s.data.toList.take n).map cv := by
  simp only [Array.toList_map, ByteArray.data_extract, Array.toList_extract, List.extract_eq_take_drop, List.drop_zero, Nat.sub_zero]; rfl
 cases hq : P.info? elem with
 | none => simp [hq] at hs
 | some i =>
  simp only [Builtin.copy_, Sem.run_bind, run_underlying hu, Result.andThen_ok, Builtin.lenOf, Builtin.firstCells, Sem.run_pure, hn, zV, List.getElem?_cons_zero, List.getElem?_cons_succ]
  rw [htk]
  simp [sizeOf, typeInfo, hq, hst, -List.map_take]
open Go.RowKit
def qki : Value → Nat
 | .string s => s.size
 | _ => 0
def jt (s : ByteArray) : List UInt8 := s.data.toList
theorem yI (s : ByteArray) : (jt s).length = s.size := rfl
theorem qdH (s : ByteArray) (n : Nat) : jt (s.extract n s.size) = (jt s).drop n := by
 unfold jt
 simp only [ByteArray.data_extract, Array.toList_extract, List.extract_eq_take_drop]
 exact zP (by rw [Zi]; exact zm _)
theorem qaL (s : ByteArray) (n : Nat) : (s.extract n s.size).size = s.size - n := by simp
theorem YW : Tryz.prog.underlying 89 = some (.slice 5) := by kernel_rfl
section
attribute [local go_sem] y7 Ji JU Ye yh Yr
attribute [local go_sem ↓] Go.wp_at_zero Go.wp_at_succ
theorem qfv (b : Nat) (T : TypeId) (H : HS) (s : ByteArray) (w : World) (h : jw w b T H) (hK : j9 w) (hb0 : 9 ≠ b) (hs : s.size ≤ maxLen) :
  Calls Tryz.prog 82 #[zp b 0, .string s] w fun e w' => e = .returned (.tuple #[]) ∧ jw w' b T (H.puts (jt s)) ∧ jl b w w' := by
 unfold maxLen at hs
 have HH : Hid (jw w b T H) := h
 have HK : Hid (j9 w) := hK
 clear h hK
 go_enter Tryz.func82, Tryz.ntmps82
 go_wp2_with fail
 go_loopw [1] (fun v wr => ∃ (t : ByteArray) (J : HS), v = .string t ∧ t.size ≤ 9223372036854775807 ∧ Hid (J.puts (jt t) = H.puts (jt s)) ∧ Hid (jw wr b T J) ∧ Hid (jl b w wr)) (fun v _ => qki v)
 case atStart => exact ⟨s, H, rfl, hs, rfl, HH, jl.refl _ _⟩
 case round =>
  obtain ⟨t, J, rfl, ht, HJ, hJ, hT⟩ := hrel
  by_cases hpos : 0 < t.size
  ·
   obtain ⟨f, hf⟩ := zy J.filled
   have hf1 : f < 128 := by rw [hf]; exact J.filled_lt
   obtain ⟨n, hn⟩ := zy (Nat.min t.size (128 - f))
   have hn1 : n ≤ t.size := by rw [hn]; exact Nat.min_le_left _ _
   have hn2 : n ≤ 128 - f := by rw [hn]; exact Nat.min_le_right _ _
   have hn0 : 0 < n := by rw [hn]; exact Nat.lt_min.2 ⟨hpos, by omega⟩
   have hsl := YD b 8 (f : Int) f rfl hf1
   obtain ⟨X, hX⟩ := zy (J.row.take (8 + f) ++ ((jt t).take n).map cv ++ J.row.drop (8 + f + n))
   have hcp : (Builtin.copy_ #[89, 9] 3 #[.slice (some ⟨b, 8 + f, none⟩) (128 - f) (128 - f), .string t]).run Tryz.prog wr.drew = .ok (goInt n) (wr.drew.setRow b X.toArray) := by
    rw [hX]
    exact qfL wr.drew _ _ _ 5 b (8 + f) (128 - f) (128 - f) t J.row T n YW kS hJ.o.heap hn.symm (by rw [J.row_length hJ.o.len]; omega)
   have HX : Hid (X = J.row.take (8 + f) ++ ((jt t).take n).map cv ++ J.row.drop (8 + f + n)) := hX
   have HF : Hid (f = J.filled) := hf
   clear hX hf hn
   go_wp2_with fail
   go_region_held3 (fun w' => w'.heap = wr.heap ∨ w'.heap = (wr.setRow b X.toArray).heap) (first | exact Or.inl rfl | exact Or.inr rfl)
    (first | (go_at_call 125; refine (qcC b T J wr.drew ⟨hJ.o.heap, hJ.o.len⟩).mono ?_; rintro e w' ⟨rfl, rfl⟩; rw [← HF.o]))
   obtain ⟨W1, hW1⟩ := zy (wr.drew.setRow b X.toArray)
   rw [← hW1]
   obtain ⟨J1, hJ1⟩ := zy (α := HS) ({ J with blk := splice J.blk f ((jt t).take n) })
   have hl : ((jt t).take n).length = n := by rw [Zh, yI]; omega
   have hA1 : Hid (jw W1 b T J1) := by
    refine ⟨?_, ?_⟩
    ·
     rw [hW1, zd wr.drew b _ X.toArray T (0, 0) hJ.o.heap, HX.o, hJ1]
     have e := J.row_splice f ((jt t).take n) (by rw [hl, hJ.o.len]; omega)
     rw [hl] at e
     rw [e]
    · rw [hJ1]; exact (length_splice _ _ _ (by rw [hl, hJ.o.len]; omega)).trans hJ.o.len
   have hT1 : Hid (jl b w W1) := by
    rw [hW1]
    exact hT.o.trans ⟨rfl, rfl, rfl, by simp, fun k _ hk => zc wr.drew b k _ hk⟩
   have HC : Hid ((J1.count n).done.puts (jt (t.extract n t.size)) = H.puts (jt s)) := by
    show _ = _
    rw [qdH, ← HJ.o]
    have e1 : (J1.count n).done = J.chunk ((jt t).take n) := by
     unfold HS.chunk; rw [hl, ← HF.o, hJ1]; rfl
    rw [e1, HS.chunk_puts _ J (by intro e; rw [e] at hl; simp at hl; omega) hJ.o.len (by rw [hl, ← HF.o]; omega), ← HS.puts_append, List.take_append_drop]
   clear hW1 hJ1 hcp hsl hJ hT HX HJ HF
   go_wp2_with fail
   refine (qke b T J1 _ n (by omega) (by omega) W1 hA1.o).mono ?_
   rintro e W2 ⟨rfl, hA2, hT2⟩
   have hA2' : Hid (jw W2 b T (J1.count n)) := hA2
   have hT2' : Hid (jl b w W2) := hT1.o.trans hT2
   clear hA2 hT2 hA1 hT1
   go_wp2_with fail
   refine (qcC b T (J1.count n) W2 hA2'.o).mono ?_
   rintro e w' ⟨rfl, rfl⟩
   by_cases h0 : (J1.count n).filled = 0
   ·
    have hq : (((J1.count n).filled : Int) == 0) = true := by rw [h0]; rfl
    have HD : Hid ((J1.count n).done = (J1.count n).mix) := by show _ = _; unfold HS.done; rw [if_pos h0]
    clear h0
    go_wp2_with fail
    refine (qan b T (J1.count n) w' hA2'.o (HK.o.turn hT2'.o hb0) hb0).mono ?_
    rintro e W3 ⟨rfl, hA3, hT3⟩
    rw [HD.o] at HC
    have hA3' : Hid (jw W3 b T (J1.count n).mix) := hA3
    have hT3' : Hid (jl b w W3) := hT2'.o.trans hT3
    clear hA3 hT3 hA2' hT2'
    go_wp2_with fail
    go_roundw
    case rel => exact ⟨_, _, rfl, by rw [qaL]; omega, HC, hA3', hT3'⟩
    case measure => simp only [qki, qaL]; omega
   ·
    have hq : (((J1.count n).filled : Int) == 0) = false := by simpa using h0
    have HD : Hid ((J1.count n).done = J1.count n) := by show _ = _; unfold HS.done; rw [if_neg h0]
    clear h0
    rw [HD.o] at HC
    go_wp2_with fail
    go_roundw
    case rel => exact ⟨_, _, rfl, by rw [qaL]; omega, HC, hA2', hT2'⟩
    case measure => simp only [qki, qaL]; omega
  ·
   have h0 : t.size = 0 := by omega
   have hb : jt t = [] := List.eq_nil_of_length_eq_zero h0
   have HE : Hid (J = H.puts (jt s)) := by have := HJ.o; rw [hb] at this; exact this
   have hp : ¬ (0 : Int) < (t.size : Int) := by omega
   clear hpos h0 hb HJ
   go_wp2_with fail
   go_end0
   exact ⟨rfl, by rw [← HE.o]; exact hJ.o, hT.o⟩
end
theorem qt7 (w : World) : (zeroValue 5).run Tryz.prog w = .ok (.int .u8 0) w := by kernel_rfl
theorem qgh (n : Nat) : (Builtin.zeroCells (Value.int .u8 0).cells n).toList = (List.replicate n (0 : UInt8)).map cv := by
 have e : (Value.int .u8 0).cells = #[Value.int .u8 0] := rfl
 rw [e]
 unfold Builtin.zeroCells
 apply List.ext_getElem?
 intro i
 by_cases hi : i < n
 ·
  have h1 : i % 1 = 0 := Nat.mod_one i
  simp [hi]
  rw [h1]; rfl
 · simp [hi]
theorem qa3 (w : World) (ty : TypeId) (g o n cap : Nat) (cur : List Value) (t : TypeId) (hn : 0 < n) (hg : w.heap[g]? = some (.cells cur.toArray t (0, 0))) (hfit : o + n ≤ cur.length) :
  (Builtin.clear_ #[89] ty #[.slice (some ⟨g, o, none⟩) n cap]).run Tryz.prog w =
   .ok (.tuple #[]) (w.setRow g (cur.take o ++ (List.replicate n (0 : UInt8)).map cv ++ cur.drop (o + n)).toArray) := by
 obtain ⟨m, rfl⟩ : ∃ m, n = m + 1 := ⟨n - 1, by omega⟩
 have hlen : ((List.replicate (m + 1) (0 : UInt8)).map cv).length = m + 1 := by simp
 have hst := run_storeCells_at Tryz.prog g o t ((List.replicate (m + 1) (0 : UInt8)).map cv) 0 cur.toArray w hg (by rw [hlen]; simpa using hfit) (by
  intro v hv; obtain ⟨x, _, rfl⟩ := List.mem_map.1 hv; rfl)
 rw [hlen] at hst
 simp only [Nat.add_zero] at hst
 simp only [Builtin.clear_, Sem.run_bind, run_underlying YW, Result.andThen_ok, Sem.run_pure, zV, List.getElem?_cons_zero]
 simp only [qt7, Result.andThen_ok, qgh]
 rw [hst]
 rfl
theorem qd8 (w : World) (ty : TypeId) (a : Option Addr) (cap : Nat) : (Builtin.clear_ #[89] ty #[.slice a 0 cap]).run Tryz.prog w = .ok (.tuple #[]) w := by
 cases a <;> simp [Builtin.clear_, run_underlying YW]
theorem qfZ (b o : Nat) (w : World) :
  (Instr.sliceAt 164 (.pointer (some ⟨b, o, none⟩)) (some (.int .i64 128)) none none).run Tryz.prog w = .ok (.slice (some ⟨b, o, none⟩) 0 0) w := by
 cases hq : Tryz.prog.info? 5 with
 | none => have := kS; rw [hq] at this; cases this
 | some i =>
  have hi : i.size = 1 := by have := kS; rw [hq] at this; simpa using this
  simp [Instr.sliceAt, Instr.sureAddr, run_underlying qeF, Instr.sliceBounds, run_sliceBound, sizeOf, typeInfo, hq, hi]
theorem qcI (b o : Nat) (w : World) :
  (Instr.sliceAt 164 (.pointer (some ⟨b, o, none⟩)) none none none).run Tryz.prog w = .ok (.slice (some ⟨b, o, none⟩) 128 128) w := by
 cases hq : Tryz.prog.info? 5 with
 | none => have := kS; rw [hq] at this; cases this
 | some i =>
  simp [Instr.sliceAt, Instr.sureAddr, run_underlying qeF, Instr.sliceBounds, sizeOf, typeInfo, hq, Addr.add]
def QQ (l : List UInt8) (off : Nat) (x : BitVec 64) : Nat → List UInt8
 | 0 => l
 | k + 1 => (QQ l off x k).set (off + k) (ZD x k)
theorem qbK (l : List UInt8) (off : Nat) (x : BitVec 64) (k : Nat) : (QQ l off x k).length = l.length := by
 induction k with
 | zero => rfl
 | succ k ih => simp [QQ, ih]
theorem qqJ (H : HS) (off : Nat) (x : BitVec 64) (k : Nat) (h : off + k ≤ H.blk.length) : yg H.row (8 + off) x k = ({ H with blk := QQ H.blk off x k } : HS).row := by
 induction k with
 | zero => cases H; rfl
 | succ k ih =>
  have e := HS.set_blk { H with blk := QQ H.blk off x k } (off + k) (by show _ < (QQ H.blk off x k).length; rw [qbK]; omega) (ZD x k)
  show (yg H.row (8 + off) x k).set (8 + off + k) (cv (ZD x k)) = _
  rw [ih (by omega), Nat.add_assoc, e]
  rfl
def jL (x : BitVec 64) : List UInt8 := [ZD x 0, ZD x 1, ZD x 2, ZD x 3, ZD x 4, ZD x 5, ZD x 6, ZD x 7]
theorem qfi (l : List UInt8) (off : Nat) (x : BitVec 64) (h : off + 8 ≤ l.length) : QQ l off x 8 = l.take off ++ (jL x ++ l.drop (off + 8)) := by
 apply List.ext_getElem?
 intro i
 have ht : (l.take off).length = off := by simp; omega
 by_cases h1 : i < off
 ·
  rw [z5 (by omega), Zq, if_pos h1]
  simp only [QQ]
  rw [List.getElem?_set_ne (by omega), List.getElem?_set_ne (by omega), List.getElem?_set_ne (by omega), List.getElem?_set_ne (by omega), List.getElem?_set_ne (by omega), List.getElem?_set_ne (by omega), List.getElem?_set_ne (by omega), List.getElem?_set_ne (by omega)]
 ·
  obtain ⟨j, rfl⟩ : ∃ j, i = off + j := ⟨i - off, by omega⟩
  rw [zY (by omega), ht, Nat.add_sub_cancel_left]
  by_cases h2 : j < 8
  ·
   rw [z5 (by exact h2)]
   have hj : j = 0 ∨ j = 1 ∨ j = 2 ∨ j = 3 ∨ j = 4 ∨ j = 5 ∨ j = 6 ∨ j = 7 := by omega
   have hl : ∀ k, k < 8 → off + k < l.length := fun k hk => by omega
   have hl0 : off < l.length := by omega
   rcases hj with rfl | rfl | rfl | rfl | rfl | rfl | rfl | rfl <;> simp [QQ, jL, hl, hl0]
  ·
   rw [zY (by show 8 ≤ j; omega), Zr]
   simp only [QQ]
   have e : off + 8 + (j - (jL x).length) = off + j := by show off + 8 + (j - 8) = _; omega
   rw [e, List.getElem?_set_ne (by omega), List.getElem?_set_ne (by omega), List.getElem?_set_ne (by omega), List.getElem?_set_ne (by omega), List.getElem?_set_ne (by omega), List.getElem?_set_ne (by omega), List.getElem?_set_ne (by omega), List.getElem?_set_ne (by omega)]
def HS.marked (H : HS) : HS := { H with blk := H.blk.take H.filled ++ (128 :: List.replicate (127 - H.filled) 0) }
noncomputable def HS.roomed (H : HS) : HS := if 112 ≤ H.filled then { H.marked.mix with blk := List.replicate 128 0 } else H.marked
def HS.hi3 (H : HS) : BitVec 64 := H.hi <<< 3 ||| H.lo >>> 61
def HS.lo3 (H : HS) : BitVec 64 := H.lo <<< 3
noncomputable def HS.ended (H : HS) : HS := HS.mix { H.roomed with blk := QQ (QQ H.roomed.blk 112 H.hi3 8) 120 H.lo3 8 }
theorem HS.marked_length (H : HS) (h : H.blk.length = 128) : H.marked.blk.length = 128 := by
 have := H.filled_lt
 simp [HS.marked, h]; omega
theorem HS.roomed_n (H : HS) : H.roomed.n = H.n := by
 unfold HS.roomed; split <;> cases H <;> rfl
open Go.RowKit
theorem qey (a : BitVec 64) : IntKind.u64.wrap (U a * (8 : Int)) = U (a <<< 3) := qmU a 3
theorem qgL (a : BitVec 64) : U a / (2305843009213693952 : Int) = U (a >>> 61) := qj4 a 61
theorem qeO (l : List UInt8) (f : Nat) (c : UInt8) (h : f < l.length) : (l.set f c).take (f + 1) = l.take f ++ [c] := by
 rw [List.take_succ_eq_append_getElem (by simpa using h), List.take_set_of_le (zm _)]
 simp
theorem HS.marked_row (H : HS) (h : H.blk.length = 128) :
  (H.row.set (8 + H.filled) (cv 128)).take (8 + H.filled + 1) ++ (List.replicate (127 - H.filled) (0 : UInt8)).map cv ++ (H.row.set (8 + H.filled) (cv 128)).drop (8 + H.filled + 1 + (127 - H.filled)) = H.marked.row := by
 have hf := H.filled_lt
 rw [H.set_blk H.filled (by omega) 128]
 have e := HS.row_splice { H with blk := H.blk.set H.filled 128 } (H.filled + 1) (List.replicate (127 - H.filled) 0) (by simp [h]; omega)
 rw [List.length_replicate] at e
 rw [Nat.add_assoc 8 H.filled 1, e]
 unfold HS.marked
 congr 2
 unfold splice
 rw [List.drop_eq_nil_of_le (by simp [h]; omega), List.append_nil, qeO _ _ _ (by omega)]
 simp
theorem qfX {b : Nat} {T : TypeId} {J : HS} {w W : World} (h : jw W b T J) (ht : jl b w W) :
  ∃ W4, (Builtin.clear_ #[89] 0 #[.slice (some ⟨b, 8, none⟩) 128 128]).run Tryz.prog W = .ok (.tuple #[]) W4 ∧ Hid (jw W4 b T { J with blk := List.replicate 128 0 }) ∧ Hid (jl b w W4) := by
 refine ⟨_, qa3 _ 0 b 8 128 128 _ T (by omega) h.heap (by rw [J.row_length h.len]; omega), ⟨?_, by simp⟩, ht.trans ⟨rfl, rfl, rfl, by simp, fun k _ hk => zc _ b k _ hk⟩⟩
 have e := J.row_splice 0 (List.replicate 128 0) (by simp [h.len])
 rw [List.length_replicate] at e
 have e2 : splice J.blk 0 (List.replicate 128 0) = List.replicate 128 0 := by
  unfold splice; rw [List.drop_eq_nil_of_le (by rw [h.len]; simp)]; simp
 rw [e2] at e
 rw [zd _ b _ _ T (0, 0) h.heap, ← e]
theorem qcx {b off : Nat} {T : TypeId} {J : HS} {V1 : World} {x : BitVec 64} (hJ : J.blk.length = 128) (ho : off + 8 ≤ 128) (h : V1.heap[b]? = some (.cells (yg J.row (8 + off) x 8).toArray T (0, 0))) :
  jw V1 b T { J with blk := QQ J.blk off x 8 } := by
 rw [qqJ J off x 8 (by omega)] at h
 exact ⟨h, by show (QQ J.blk off x 8).length = 128; rw [qbK]; exact hJ⟩
theorem qlp {b off : Nat} {T : TypeId} {J : HS} {V1 : World} {x z : BitVec 64} (h : jw V1 b T { J with blk := QQ J.blk off x 8 }) (hz : J.hi = z) : V1.cell? ⟨b, 136, none⟩ = some (.int .u64 (U z)) := by
 rw [h.cell 136, HS.row_hi _ h.len, ← hz]; rfl
theorem qeu {b off : Nat} {T : TypeId} {J : HS} {V1 : World} {x z : BitVec 64} (h : jw V1 b T { J with blk := QQ J.blk off x 8 }) (hz : J.lo = z) : V1.cell? ⟨b, 137, none⟩ = some (.int .u64 (U z)) := by
 rw [h.cell 137, HS.row_lo _ h.len, ← hz]; rfl
theorem jl.drewed {b : Nat} {V V1 : World} (h : jl b V.drew V1) : jl b V V1 := ⟨h.os, h.tape, h.output, h.size, h.block⟩
section
attribute [local go_sem] y7 Ji JU Ye yh Yr
attribute [local go_sem ↓] Go.wp_at_zero Go.wp_at_succ
theorem qjl (b : Nat) (T : TypeId) (H : HS) (w : World) (h : jw w b T H) (hK : j9 w) (hb0 : 9 ≠ b) :
  Calls Tryz.prog 128 #[zp b 0] w fun e w' => e = .returned (.tuple #[]) ∧ jw w' b T H.ended ∧ jl b w w' := by
 have HH : Hid (jw w b T H) := h
 have HK : Hid (j9 w) := hK
 clear h hK
 obtain ⟨f, hf⟩ := zy H.filled
 have hf1 : f < 128 := by rw [hf]; exact H.filled_lt
 have HF : Hid (f = H.filled) := hf
 have bf : (f : Int) < 128 := by omega
 clear hf
 obtain ⟨v0, hv0⟩ : ∃ v0, w.cell? ⟨b, 8 + f, none⟩ = some v0 := ⟨_, (HH.o.cell (8 + f)).trans (H.row_blk f (by rw [HH.o.len]; exact hf1))⟩
 have hfz := HH.o.frozen (8 + f)
 -- the world behind the mark and the first clear
 obtain ⟨W2, hcl, hcl2, hA2, hT2⟩ : ∃ W2, (f < 127 → (Builtin.clear_ #[89] 0 #[.slice (some ⟨b, 8 + (f + 1), none⟩) (127 - f) (127 - f)]).run Tryz.prog (w.setCell ⟨b, 8 + f, none⟩ (.int .u8 128)) = .ok (.tuple #[]) W2) ∧
   (f = 127 → w.setCell ⟨b, 8 + f, none⟩ (.int .u8 128) = W2) ∧ (Hid (jw W2 b T H.marked)) ∧ Hid (jl b w W2) := by
  have hr1 : (w.setCell ⟨b, 8 + f, none⟩ (.int .u8 128)).heap[b]? = some (.cells (H.row.set (8 + f) (cv 128)).toArray T (0, 0)) := Qg HH.o.heap _ _
  have ht1 : jl b w (w.setCell ⟨b, 8 + f, none⟩ (.int .u8 128)) := (jl.refl b w).setCell (p := ⟨b, 8 + f, none⟩) rfl _
  have hlen : (H.row.set (8 + f) (cv 128)).length = 138 := by rw [List.length_set]; exact H.row_length HH.o.len
  have hm := H.marked_row HH.o.len
  rw [← HF.o] at hm
  by_cases h127 : f < 127
  ·
   refine ⟨_, fun _ => qa3 _ 0 b (8 + (f + 1)) (127 - f) (127 - f) _ T (by omega) hr1 (by rw [hlen]; omega), fun h => absurd h127 (by omega), ⟨?_, H.marked_length HH.o.len⟩, ?_⟩
   · rw [zd _ b _ _ T (0, 0) hr1, ← hm]; rfl
   · exact ht1.trans ⟨rfl, rfl, rfl, by simp, fun k _ hk => zc _ b k _ hk⟩
  ·
   refine ⟨_, fun h => absurd h h127, fun _ => rfl, ⟨?_, H.marked_length HH.o.len⟩, ht1⟩
   have h0 : 127 - f = 0 := by omega
   rw [h0] at hm
   simp only [List.replicate_zero, List.map_nil, List.append_nil, Nat.add_zero, List.take_append_drop] at hm
   rw [hr1, ← hm]
 go_enter Tryz.func128, Tryz.ntmps128
 go_wp2_with fail
 refine (qcC b T H w HH.o).mono ?_
 rintro e w' ⟨rfl, rfl⟩
 rw [← HF.o]
 rcases (show f < 112 ∨ (112 ≤ f ∧ f < 127) ∨ f = 127 by omega) with h112 | ⟨h112, h127⟩ | h127
 ·
  have hsl := YD b 8 ((f : Int) + 1) (f + 1) (by omega) (by omega)
  have hcl' := hcl (by omega)
  have HR : Hid (H.roomed = H.marked) := by show _ = _; unfold HS.roomed; rw [if_neg (by rw [← HF.o]; omega)]
  have i1 : (f : Int) < 112 := by omega
  clear hcl hcl2 h112
  go_wp2_with fail
  obtain ⟨V, hV⟩ := zy W2
  rw [← hV]
  have hA : Hid (jw V b T H.roomed) := by rw [hV, HR.o]; exact hA2.o
  have hT : Hid (jl b w' V) := by rw [hV]; exact hT2.o
  clear hV
  have hc6 := hA.o.cell 136
  rw [HS.row_hi _ hA.o.len] at hc6
  have hc7 := hA.o.cell 137
  rw [HS.row_lo _ hA.o.len] at hc7
  have hq6 : H.roomed.hi = H.hi := by unfold HS.hi; rw [H.roomed_n]
  have hq7 : H.roomed.lo = H.lo := by unfold HS.lo; rw [H.roomed_n]
  rw [hq6] at hc6
  rw [hq7] at hc7
  have HQ6 : Hid (H.roomed.hi = H.hi) := hq6
  have HQ7 : Hid (H.roomed.lo = H.lo) := hq7
  clear hq6 hq7
  have s1 := YD b 8 112 112 rfl (by omega)
  have s2 := YD b 8 120 120 rfl (by omega)
  have x1 := qey H.hi
  have x2 := qgL H.lo
  have x3 := qey H.lo
  clear HR
  obtain ⟨x, hx⟩ := zy (H.hi <<< 3 ||| H.lo >>> 61)
  have x4 := Ji (H.hi <<< 3) (H.lo >>> 61)
  rw [← hx] at x4
  have HX : Hid (x = H.hi3) := hx
  obtain ⟨y, hy⟩ := zy (H.lo <<< 3)
  rw [← hy] at x3
  have HY : Hid (y = H.lo3) := hy
  clear hx hy
  go_region_held3 (fun w' => w'.cell? ⟨b, 136, none⟩ = some (.int .u64 (U H.hi)) ∧ w'.cell? ⟨b, 137, none⟩ = some (.int .u64 (U H.lo))) (first | exact ⟨k6, k7⟩ | go_keep)
   (first | (go_at_call 129; refine (qai b 120 16 16 T H.roomed.row x V.drew (by omega) (by omega) hA.o.heap (by rw [HS.row_length _ hA.o.len]; omega)).mono ?_; rintro e V1 ⟨rfl, hrow1, hturn1⟩; have hA1 := qa (qcx (off := 112) hA.o.len (by omega) hrow1); have hT1 : Hid (jl b w' V1) := hT.o.trans hturn1.drewed; have k6 : V1.cell? ⟨b, 136, none⟩ = some (.int .u64 (U H.hi)) := qlp hA1.o HQ6.o; have k7 : V1.cell? ⟨b, 137, none⟩ = some (.int .u64 (U H.lo)) := qeu hA1.o HQ7.o; clear hrow1 hturn1))
  clear hA hT hc6 hc7
  go_wp2_with fail
  go_region_held3 (fun w' => w'.cell? ⟨b, 137, none⟩ = some (.int .u64 (U H.lo))) (first | exact m7 | go_keep)
   (first | (go_at_call 129; refine (qai b 128 8 8 T _ y V1.drew (by omega) (by omega) hA1.o.heap (by rw [HS.row_length _ hA1.o.len]; omega)).mono ?_; rintro e V2 ⟨rfl, hrow2, hturn2⟩; have hA2' := qa (qcx (off := 120) hA1.o.len (by omega) hrow2); have hT2' : Hid (jl b w' V2) := hT1.o.trans hturn2.drewed; have m7 : V2.cell? ⟨b, 137, none⟩ = some (.int .u64 (U H.lo)) := qeu hA2'.o HQ7.o; clear hrow2 hturn2))
  clear hA1 hT1 k6 k7
  go_wp2_with fail
  refine (qan b T _ V2 hA2'.o (HK.o.turn hT2'.o hb0) hb0).mono ?_
  rintro e V3 ⟨rfl, hA3, hT3⟩
  have HE := qa hA3
  have HT3 := qa (hT2'.o.trans hT3)
  clear hA3 hT3
  go_wp2_with fail
  go_end0
  refine ⟨rfl, ?_, HT3.o⟩
  have e := HE.o
  rw [HX.o, HY.o] at e
  exact e
 ·
  have hsl := YD b 8 ((f : Int) + 1) (f + 1) (by omega) (by omega)
  have hcl' := hcl (by omega)
  have HR : Hid (H.roomed = { H.marked.mix with blk := List.replicate 128 0 }) := by show _ = _; unfold HS.roomed; rw [if_pos (by rw [← HF.o]; omega)]
  have i1 : (112 : Int) ≤ (f : Int) := by omega
  have hsl2 := qcI b 8
  clear hcl hcl2 h112
  go_wp2_with fail
  refine (qan b T H.marked W2 hA2.o (HK.o.turn hT2.o hb0) hb0).mono ?_
  rintro e W3 ⟨rfl, hA3, hT3⟩
  obtain ⟨W4, hcl4, hA4, hT4⟩ := qfX hA3 (hT2.o.trans hT3)
  clear hA3 hT3 hcl' hsl
  go_wp2_with fail
  obtain ⟨V, hV⟩ := zy W4
  rw [← hV]
  have hA : Hid (jw V b T H.roomed) := by rw [hV, HR.o]; exact hA4.o
  have hT : Hid (jl b w' V) := by rw [hV]; exact hT4.o
  clear hV
  have hc6 := hA.o.cell 136
  rw [HS.row_hi _ hA.o.len] at hc6
  have hc7 := hA.o.cell 137
  rw [HS.row_lo _ hA.o.len] at hc7
  have hq6 : H.roomed.hi = H.hi := by unfold HS.hi; rw [H.roomed_n]
  have hq7 : H.roomed.lo = H.lo := by unfold HS.lo; rw [H.roomed_n]
  rw [hq6] at hc6
  rw [hq7] at hc7
  have HQ6 : Hid (H.roomed.hi = H.hi) := hq6
  have HQ7 : Hid (H.roomed.lo = H.lo) := hq7
  clear hq6 hq7
  have s1 := YD b 8 112 112 rfl (by omega)
  have s2 := YD b 8 120 120 rfl (by omega)
  have x1 := qey H.hi
  have x2 := qgL H.lo
  have x3 := qey H.lo
  clear HR
  obtain ⟨x, hx⟩ := zy (H.hi <<< 3 ||| H.lo >>> 61)
  have x4 := Ji (H.hi <<< 3) (H.lo >>> 61)
  rw [← hx] at x4
  have HX : Hid (x = H.hi3) := hx
  obtain ⟨y, hy⟩ := zy (H.lo <<< 3)
  rw [← hy] at x3
  have HY : Hid (y = H.lo3) := hy
  clear hx hy
  go_region_held3 (fun w' => w'.cell? ⟨b, 136, none⟩ = some (.int .u64 (U H.hi)) ∧ w'.cell? ⟨b, 137, none⟩ = some (.int .u64 (U H.lo))) (first | exact ⟨k6, k7⟩ | go_keep)
   (first | (go_at_call 129; refine (qai b 120 16 16 T H.roomed.row x V.drew (by omega) (by omega) hA.o.heap (by rw [HS.row_length _ hA.o.len]; omega)).mono ?_; rintro e V1 ⟨rfl, hrow1, hturn1⟩; have hA1 := qa (qcx (off := 112) hA.o.len (by omega) hrow1); have hT1 : Hid (jl b w' V1) := hT.o.trans hturn1.drewed; have k6 : V1.cell? ⟨b, 136, none⟩ = some (.int .u64 (U H.hi)) := qlp hA1.o HQ6.o; have k7 : V1.cell? ⟨b, 137, none⟩ = some (.int .u64 (U H.lo)) := qeu hA1.o HQ7.o; clear hrow1 hturn1))
  clear hA hT hc6 hc7
  go_wp2_with fail
  go_region_held3 (fun w' => w'.cell? ⟨b, 137, none⟩ = some (.int .u64 (U H.lo))) (first | exact m7 | go_keep)
   (first | (go_at_call 129; refine (qai b 128 8 8 T _ y V1.drew (by omega) (by omega) hA1.o.heap (by rw [HS.row_length _ hA1.o.len]; omega)).mono ?_; rintro e V2 ⟨rfl, hrow2, hturn2⟩; have hA2' := qa (qcx (off := 120) hA1.o.len (by omega) hrow2); have hT2' : Hid (jl b w' V2) := hT1.o.trans hturn2.drewed; have m7 : V2.cell? ⟨b, 137, none⟩ = some (.int .u64 (U H.lo)) := qeu hA2'.o HQ7.o; clear hrow2 hturn2))
  clear hA1 hT1 k6 k7
  go_wp2_with fail
  refine (qan b T _ V2 hA2'.o (HK.o.turn hT2'.o hb0) hb0).mono ?_
  rintro e V3 ⟨rfl, hA3, hT3⟩
  have HE := qa hA3
  have HT3 := qa (hT2'.o.trans hT3)
  clear hA3 hT3
  go_wp2_with fail
  go_end0
  refine ⟨rfl, ?_, HT3.o⟩
  have e := HE.o
  rw [HX.o, HY.o] at e
  exact e
 ·
  have hsl : ∀ w, (Instr.sliceAt 164 (zp b 8) (some (.int .i64 ((f : Int) + 1))) none none).run Tryz.prog w = .ok (.slice (some ⟨b, 8, none⟩) 0 0) w := by subst h127; exact qfZ b 8
  have hcl' := fun w => qd8 w 0 (some ⟨b, 8, none⟩) 0
  have HR : Hid (H.roomed = { H.marked.mix with blk := List.replicate 128 0 }) := by show _ = _; unfold HS.roomed; rw [if_pos (by rw [← HF.o]; omega)]
  have i1 : (112 : Int) ≤ (f : Int) := by omega
  have hsl2 := qcI b 8
  have HW : Hid (w'.setCell ⟨b, 8 + f, none⟩ (.int .u8 128) = W2) := hcl2 h127
  clear hcl hcl2 h127
  go_wp2_with fail
  rw [HW.o]
  refine (qan b T H.marked W2 hA2.o (HK.o.turn hT2.o hb0) hb0).mono ?_
  rintro e W3 ⟨rfl, hA3, hT3⟩
  obtain ⟨W4, hcl4, hA4, hT4⟩ := qfX hA3 (hT2.o.trans hT3)
  clear hA3 hT3 hcl' hsl
  go_wp2_with fail
  obtain ⟨V, hV⟩ := zy W4
  rw [← hV]
  have hA : Hid (jw V b T H.roomed) := by rw [hV, HR.o]; exact hA4.o
  have hT : Hid (jl b w' V) := by rw [hV]; exact hT4.o
  clear hV
  have hc6 := hA.o.cell 136
  rw [HS.row_hi _ hA.o.len] at hc6
  have hc7 := hA.o.cell 137
  rw [HS.row_lo _ hA.o.len] at hc7
  have hq6 : H.roomed.hi = H.hi := by unfold HS.hi; rw [H.roomed_n]
  have hq7 : H.roomed.lo = H.lo := by unfold HS.lo; rw [H.roomed_n]
  rw [hq6] at hc6
  rw [hq7] at hc7
  have HQ6 : Hid (H.roomed.hi = H.hi) := hq6
  have HQ7 : Hid (H.roomed.lo = H.lo) := hq7
  clear hq6 hq7
  have s1 := YD b 8 112 112 rfl (by omega)
  have s2 := YD b 8 120 120 rfl (by omega)
  have x1 := qey H.hi
  have x2 := qgL H.lo
  have x3 := qey H.lo
  clear HR
  obtain ⟨x, hx⟩ := zy (H.hi <<< 3 ||| H.lo >>> 61)
  have x4 := Ji (H.hi <<< 3) (H.lo >>> 61)
  rw [← hx] at x4
  have HX : Hid (x = H.hi3) := hx
  obtain ⟨y, hy⟩ := zy (H.lo <<< 3)
  rw [← hy] at x3
  have HY : Hid (y = H.lo3) := hy
  clear hx hy
  go_region_held3 (fun w' => w'.cell? ⟨b, 136, none⟩ = some (.int .u64 (U H.hi)) ∧ w'.cell? ⟨b, 137, none⟩ = some (.int .u64 (U H.lo))) (first | exact ⟨k6, k7⟩ | go_keep)
   (first | (go_at_call 129; refine (qai b 120 16 16 T H.roomed.row x V.drew (by omega) (by omega) hA.o.heap (by rw [HS.row_length _ hA.o.len]; omega)).mono ?_; rintro e V1 ⟨rfl, hrow1, hturn1⟩; have hA1 := qa (qcx (off := 112) hA.o.len (by omega) hrow1); have hT1 : Hid (jl b w' V1) := hT.o.trans hturn1.drewed; have k6 : V1.cell? ⟨b, 136, none⟩ = some (.int .u64 (U H.hi)) := qlp hA1.o HQ6.o; have k7 : V1.cell? ⟨b, 137, none⟩ = some (.int .u64 (U H.lo)) := qeu hA1.o HQ7.o; clear hrow1 hturn1))
  clear hA hT hc6 hc7
  go_wp2_with fail
  go_region_held3 (fun w' => w'.cell? ⟨b, 137, none⟩ = some (.int .u64 (U H.lo))) (first | exact m7 | go_keep)
   (first | (go_at_call 129; refine (qai b 128 8 8 T _ y V1.drew (by omega) (by omega) hA1.o.heap (by rw [HS.row_length _ hA1.o.len]; omega)).mono ?_; rintro e V2 ⟨rfl, hrow2, hturn2⟩; have hA2' := qa (qcx (off := 120) hA1.o.len (by omega) hrow2); have hT2' : Hid (jl b w' V2) := hT1.o.trans hturn2.drewed; have m7 : V2.cell? ⟨b, 137, none⟩ = some (.int .u64 (U H.lo)) := qeu hA2'.o HQ7.o; clear hrow2 hturn2))
  clear hA1 hT1 k6 k7
  go_wp2_with fail
  refine (qan b T _ V2 hA2'.o (HK.o.turn hT2'.o hb0) hb0).mono ?_
  rintro e V3 ⟨rfl, hA3, hT3⟩
  have HE := qa hA3
  have HT3 := qa (hT2'.o.trans hT3)
  clear hA3 hT3
  go_wp2_with fail
  go_end0
  refine ⟨rfl, ?_, HT3.o⟩
  have e := HE.o
  rw [HX.o, HY.o] at e
  exact e
end
theorem qdE (n : Nat) : (Tryz.prog.info? 60).map (·.size) = some (qb n).size := Ju
theorem qld (w : World) : (zeroValue 60).run Tryz.prog w = .ok (.agg (qb 0)) w := by kernel_rfl
theorem n4W (m n : Nat) : (qb m).size = (qb n).size := rfl
theorem qis (l : List Int) (f : Nat → Int) (k : Nat) (h : k < l.length) : ((List.range l.length).map fun i => if i < k then f i else l.getD i 0).getD k 0 = l.getD k 0 := by
 simp [List.getD, h]
theorem qf1 (l : List Int) (f : Nat → Int) : ((List.range l.length).map fun i => if i < 0 then f i else l.getD i 0) = l := by
 apply List.ext_getElem?
 intro i
 by_cases h : i < l.length
 · simp [h, List.getD]
 · simp [h]
theorem qft (l : List Int) (f : Nat → Int) (k : Nat) (h : k < l.length) :
  ((List.range l.length).map fun i => if i < k then f i else l.getD i 0).set k (f k) = (List.range l.length).map fun i => if i < k + 1 then f i else l.getD i 0 := by
 apply List.ext_getElem?
 intro i
 rw [List.getElem?_set]
 by_cases hk : k = i
 · subst hk; simp [h]
 ·
  rw [if_neg hk]
  by_cases h : i < l.length
  ·
   have e1 : (i < k + 1) = (i < k) := by apply propext; omega
   simp [h, e1]
  · simp [h]
theorem qiq (l : List Int) (f : Nat → Int) : ((List.range l.length).map fun i => if i < l.length then f i else l.getD i 0) = (List.range l.length).map f := by
 apply List.map_congr_left
 intro i hi
 rw [if_pos (List.mem_range.1 hi)]
theorem qmb (l : List Int) (g : Int → Int) : (List.range l.length).map (fun i => g (l.getD i 0)) = l.map g := by
 apply List.ext_getElem?
 intro i
 by_cases h : i < l.length
 · simp [h, List.getD]
 · simp [h]
theorem qnh (B c : Int) (l : List Int) : vB B (l.map (c * ·)) = c * vB B l := by
 induction l with
 | nil => simp [vB]
 | cons a l ih =>
  simp only [List.map_cons, vB, ih, Int.mul_add]
  rw [Int.mul_left_comm]
theorem qs4 (B : Int) (l m : List Int) (h : l.length = m.length) : vB B ((List.range l.length).map fun i => l.getD i 0 - m.getD i 0) = vB B l - vB B m := by
 induction l generalizing m with
 | nil => cases m with
  | nil => rfl
  | cons => simp at h
 | cons a l ih => cases m with
  | nil => simp at h
  | cons b m =>
   have e := ih m (by simpa using h)
   rw [List.length_cons, List.range_succ_eq_map, List.map_cons, List.map_map]
   simp only [vB]
   have e2 : (List.range l.length).map ((fun i => (a :: l).getD i 0 - (b :: m).getD i 0) ∘ Nat.succ) = (List.range l.length).map fun i => l.getD i 0 - m.getD i 0 := by
    apply List.map_congr_left; intro i _; simp
   rw [e2, e, Int.mul_sub]
   simp; omega
theorem qkV (l : List UInt8) (i : Nat) : (qC l / 16 ^ i % 16) = if i % 2 = 0 then (l.getD (i / 2) 0).toNat % 16 else (l.getD (i / 2) 0).toNat / 16 := by
 have h := qar l (i / 2)
 rw [← h]
 have e : (256 : Nat) ^ (i / 2) = 16 ^ (2 * (i / 2)) := by rw [Nat.pow_mul]
 rw [e]
 split
 ·
  rename_i h0
  rw [show 2 * (i / 2) = i by omega]
  generalize qC l / 16 ^ i = x
  omega
 ·
  rename_i h0
  have e2 : qC l / 16 ^ i = qC l / 16 ^ (2 * (i / 2)) / 16 := by
   rw [Nat.div_div_eq_div_mul, ← Zk, show (2 * (i / 2)).succ = i by omega]
  rw [e2]
  generalize qC l / 16 ^ (2 * (i / 2)) = x
  omega
theorem qol (v i : Nat) : v / 16 ^ i = 16 * (v / 16 ^ (i + 1)) + v / 16 ^ i % 16 := by
 rw [Zk, ← Nat.div_div_eq_div_mul]
 generalize v / 16 ^ i = x
 omega
theorem qpX (v i L : Nat) : (16 * (v / 16 ^ (i + 1) % L) + v / 16 ^ i % 16) % L = v / 16 ^ i % L := by
 conv => rhs; rw [qol v i]
 rw [Nat.add_mod, Nat.mul_mod, Nat.mod_mod, ← Nat.mul_mod, ← Nat.add_mod]
theorem qq3 (B : Int) (l : List Int) (h : 0 < l.length) (f : Int) : vB B (l.set 0 (l.getD 0 0 + f)) = vB B l + f := by
 cases l with
 | nil => simp at h
 | cons a l => simp [vB]; omega
def qea (w : World) (b : Nat) : Nat := match w.heap[b]? with
 | some (.cells cs _ _) => (vB 65536 (cs.toList.map intOf)).toNat
 | _ => 0
theorem qgq {w : World} {b : Nat} {t : TypeId} {fr : Nat × Nat} {n : Nat} (h : w.heap[b]? = some (.cells ((dB 65536 17 (n : Int)).map iv).toArray t fr)) (hn : n < 65536 ^ 17) : qea w b = n := by
 unfold qea
 rw [h]
 have e : (((dB 65536 17 (n : Int)).map iv).toArray.toList.map intOf) = dB 65536 17 (n : Int) := by
  simp only [List.map_map]
  exact (List.map_congr_left (fun x _ => rfl)).trans (List.map_id _)
 simp only [e, Yd 65536 (by decide) 17 (n : Int)]
 rw [Int.emod_eq_of_lt (by omega) (by have : ((65536 : Int) ^ 17) = ((65536 ^ 17 : Nat) : Int) := (by decide); rw [this]; omega)]
 simp
theorem qnf (v i L m f t0 t : Nat) (hm : m = v / 16 ^ (i + 1) % L) (hf : f = v / 16 ^ i % 16) (ht0 : t0 = 16 * m + f) (hmod : t % L = t0 % L) (hlt : t < L) : v / 16 ^ i % L = t := by
 rw [z6 hlt] at hmod
 rw [hmod, ht0, hm, hf, qpX]
open Go.RowKit
def yz (s : ByteArray) (j : Nat) : List Int := dB 65536 17 ((qC (bytesOf s) / 16 ^ j % 7237005577332262213973186563042994240857116359379907606001950938285454250989 : Nat) : Int)
theorem kb {w w' : World} {g : Nat} {o : Obj} (h : w.heap[g]? = some o) (hb : zB w w') : w'.heap[g]? = some o := (hb.block g (qh h)).trans h
theorem qie (a : Act) (v : Value) : a.put none v = a := rfl
theorem qiR : vB 65536 ZP = LI := by
 unfold ZP; rw [Yd 65536 (by decide)]; decide +kernel
theorem qf2 (N : List Int) (hl : N.length = 17) (hb : ∀ x ∈ N, 0 ≤ x ∧ x < 65536) (R : Array Value) (hR : R = (ZP.map iv).toArray) (w : World) :
  zC 76 #[.agg (N.map iv).toArray, .agg R] w (.bool (decide (vB 65536 N < LI))) := by
 have := qlI N ZP hl qah hb (yX _ (by decide) _ _) w
 rw [qiR, ← hR] at this
 exact this
theorem ql9 (s : ByteArray) : ((yz s (2 * s.size)).map iv).toArray = zS := by
 have h := qb9 (bytesOf s)
 rw [jY] at h
 unfold yz
 rw [Nat.pow_mul, show (16 : Nat) ^ 2 = 256 by decide, Nat.div_eq_of_lt h]
 rfl
section
theorem qgU (s : ByteArray) (hs : s.size ≤ 140737488351232) (w : World) :
  zC 73 #[.string s] w (.agg ((yz s 0).map iv).toArray) := by
 have hz := qlX
 go_enter Tryz.func73, Tryz.ntmps73
 go_wp2_with fail
 refine (qgd _).mono ?_
 rintro e W1 ⟨rfl, hB1⟩
 have hsz := hB1.size
 simp only [World.size_alloc] at hB1 hsz
 have HB1 : Hid (zB w W1) := ((zJ _ w).alloc (zm _) _).trans (hB1.mono (by omega))
 have HR1 : Hid (qi W1 w.heap.size zS 91) := (hB1.block _ (by omega)).trans (za _ _)
 have HLz := qa (qaX qah)
 have HLo := qa (qlP qah)
 have HLa := qa (qfp ZP)
 clear hB1
 obtain ⟨R, HR⟩ := zx ((ZP.map iv).toArray)
 rw [← HR.o] at HLz HLo HLa ⊢
 go_wp2_with (first | (refine qB 91 (.tmp 3) (.tmp 10) W1.heap.size R (za _ _) HLz.o HLo.o HLa.o ?_))
 obtain ⟨q, hq⟩ := zy W1.heap.size
 obtain ⟨V0, hV0⟩ := zy ((((W1.alloc (.cells zS 91)).setRow W1.heap.size R).alloc (.cells zS 91)))
 rw [← hV0, ← hq]
 have K0 : Hid (qi V0 w.heap.size zS 91) := by
  rw [hV0]
  exact (zb _ _ (by simp; omega)).trans ((zc _ _ _ _ (by omega)).trans ((zb _ _ (by omega)).trans HR1.o))
 have K1 : Hid (qi V0 q R 91) := by
  rw [hV0, hq]
  exact (zb _ _ (by simp)).trans (zd _ _ _ _ _ _ (za _ _))
 have K2 : Hid (qi V0 (q + 1) zS 91) := by
  have e := za ((W1.alloc (.cells zS 91)).setRow W1.heap.size R) (.cells zS 91)
  rw [hV0, hq]; show _ = _; simpa using e
 have K3 : Hid (zB w V0) := by
  rw [hV0]
  exact (ze (HB1.o.alloc HB1.o.size _) (by omega) _).alloc (by simp; omega) _
 have hwq : w.heap.size < q := by omega
 clear hV0 hq HR1 HB1 hsz HLo HLa
 go_loopw [5] (fun i wr => ∃ (j : Nat) (z : Int), j ≤ 2 * s.size ∧ i = .int .i64 z ∧ Hid (z = (j : Int) - 1) ∧ Hid (qi wr w.heap.size zS 91) ∧ Hid (qi wr q R 91) ∧
   Hid (qi wr (q + 1) (((yz s j).map iv).toArray) 91) ∧ Hid (zB w wr)) (fun i _ => (intOf i + 1).toNat)
 case atStart =>
  refine ⟨2 * s.size, _, zm _, rfl, by show _ = _; omega, K0, K1, ?_, K3⟩
  rw [ql9]; exact K2
 case round =>
  clear K0 K1 K2 K3 hz
  obtain ⟨j, z, hj, rfl, HZ, H0, H1, H2, HB⟩ := hrel
  by_cases hlt : 0 < j
  ·
   obtain ⟨i, rfl⟩ : ∃ i, j = i + 1 := ⟨j - 1, by omega⟩
   obtain rfl : z = (i : Int) := by have := HZ.o; omega
   obtain ⟨h, hh⟩ := zy (i / 2)
   have e2 : (i : Int) / 2 = (h : Int) := by omega
   have bh : (h : Int) < s.size := by omega
   have bi : (i : Int) < 281474976702464 := by omega
   have hidx := Jw s h (by omega)
   obtain ⟨x, HX⟩ := zx (C8 ((bytesOf s).getD h 0))
   rw [← HX.o] at hidx
   have x0 : 0 ≤ x := by rw [HX.o]; exact J5 _
   have x1 : x < 256 := by rw [HX.o]; exact yt _
   have HH := qa hh
   clear hh hlt
   obtain ⟨f, HF⟩ := zx (α := Nat) (qC (bytesOf s) / 16 ^ i % 16)
   have HFX : Hid ((f : Int) = if i % 2 = 0 then x % 16 else x / 16) := by
    show _ = _
    rw [HF.o, qkV, HX.o, ← HH.o]
    unfold C8
    split <;> omega
   have bf : f < 16 := by rw [HF.o]; exact Nat.mod_lt _ (by decide)
   have hcase : (((i : Int) % 2 == 0) = true ∧ x % 16 = (f : Int)) ∨ (((i : Int) % 2 == 0) = false ∧ x / 16 = (f : Int)) := by
    have := HFX.o
    by_cases hp : i % 2 = 0
    ·
     rw [if_pos hp] at this
     exact .inl ⟨by rw [beq_iff_eq]; omega, this.symm⟩
    ·
     rw [if_neg hp] at this
     exact .inr ⟨by rw [beq_eq_false_iff_ne]; omega, this.symm⟩
   clear HFX
   rcases hcase with ⟨hp', hfx⟩ | ⟨hp', hfx⟩
   all_goals (
    obtain ⟨m, HMm⟩ := zx (α := Nat) (qC (bytesOf s) / 16 ^ (i + 1) % 7237005577332262213973186563042994240857116359379907606001950938285454250989)
    obtain ⟨D, HD⟩ := zx (yz s (i + 1))
    have HDl : Hid (D.length = 17) := by rw [HD.o]; exact ZG _ _ _
    have HDb : Hid (∀ x ∈ D, 0 ≤ x ∧ x < 65536) := by rw [HD.o]; exact yX _ (by decide) _ _
    rw [← HD.o] at H2
    go_wp2_with fail
    rw [hfx]
    clear hidx x0 x1 bh e2 hp' hfx
    go_loopw [7] (fun k wr => ∃ c : Nat, c ≤ 17 ∧ k = .int .i64 c ∧ Hid (qi wr w.heap.size zS 91) ∧ Hid (qi wr q R 91) ∧
     Hid (qi wr (q + 1) ((((List.range D.length).map fun i => if i < c then 16 * D.getD i 0 else D.getD i 0).map iv).toArray) 91) ∧ Hid (zB w wr)) (fun k _ => 17 - (intOf k).toNat)
    case atStart => exact ⟨0, Zc _, rfl, H0, H1, by rw [qf1]; exact H2, HB⟩
    case round =>
     clear H0 H1 H2 HB
     obtain ⟨c, hc, rfl, H0, H1, H2, HB⟩ := hrel
     by_cases hc17 : c < 17
     ·
      have bc : (c : Int) < 17 := by omega
      have c0 := Qc H2.o c (by simp [HDl.o]; exact hc17)
      rw [qis D _ c (by rw [HDl.o]; exact hc17)] at c0
      have f0 := frozen_of_row wr (q + 1) c _ _ H2.o
      obtain ⟨y, HY⟩ := zx (D.getD c 0)
      have hy := HDb.o _ (jB (l := D) (i := c) (by rw [HDl.o]; exact hc17))
      rw [← HY.o] at c0 hy
      obtain ⟨y0, y1⟩ := hy
      go_wp2_with fail
      refine ⟨⟨c + 1, by omega, by go_num, QR _ _ H0.o (by omega), QR _ _ H1.o (by omega), ?_, HB.o.setCell (by show _ ≤ _; simp; omega) _⟩, by simp [intOf]; omega⟩
      rw [← qft D _ c (by rw [HDl.o]; exact hc17), List.map_set, ← HY.o]
      exact Qg H2.o c _
     ·
      obtain rfl : c = 17 := by omega
      have bc : (17 : Int) ≤ ((17 : Nat) : Int) := by omega
      obtain ⟨E, HE⟩ := zx (D.map (fun x => 16 * x))
      have H2' : Hid (qi wr (q + 1) ((E.map iv).toArray) 91) := by
       have e := H2.o
       rw [show 17 = D.length from HDl.o.symm, qiq D, qmb D (fun x => 16 * x), ← HE.o] at e
       exact e
      have HEl : Hid (E.length = 17) := by show _ = _; rw [HE.o, zv, HDl.o]
      have c0 := Qc H2'.o 0 (by rw [HEl.o]; decide)
      have f0 := frozen_of_row wr (q + 1) 0 _ _ H2'.o
      obtain ⟨y, HY⟩ := zx (E.getD 0 0)
      have HEb : Hid (∀ x ∈ E, 0 ≤ x ∧ x < 1048576) := by
       intro x hx
       rw [HE.o] at hx
       obtain ⟨d, hd, rfl⟩ := List.mem_map.1 hx
       have := HDb.o d hd
       show 0 ≤ 16 * d ∧ 16 * d < 1048576
       omega
      have hy := HEb.o _ (jB (l := E) (i := 0) (by rw [HEl.o]; decide))
      rw [← HY.o] at c0 hy
      obtain ⟨y0, y1⟩ := hy
      clear H2
      have hml : m < 7237005577332262213973186563042994240857116359379907606001950938285454250989 := by rw [HMm.o]; exact Nat.mod_lt _ (by decide)
      have hv : Hid (vB 65536 (E.set 0 (y + (f : Int))) = ((16 * m + f : Nat) : Int)) := by
       show _ = _
       rw [HY.o, qq3 _ _ (by rw [HEl.o]; decide), HE.o, qnh, HD.o]
       unfold yz
       rw [Yd 65536 (by decide), ← HMm.o, show ((65536 : Int) ^ 17) = 7588550360256754183279148073529370729071901715047420004889892225542594864082845696 by decide]
       omega
      have HML := qa hml
      have H3 : Hid ((wr.setCell ⟨q + 1, 0, none⟩ (iv (y + f))).heap[q + 1]? = some (.cells ((E.set 0 (y + f)).map iv).toArray 91)) := by
       rw [List.map_set]; exact Qg H2'.o 0 _
      have HFl : Hid ((E.set 0 (y + (f : Int))).length = 17) := by show _ = _; rw [List.length_set, HEl.o]
      have HFb : Hid (∀ x ∈ E.set 0 (y + (f : Int)), -1099511627776 ≤ x ∧ x ≤ 1099511627776) := by
       intro x hx
       rcases List.mem_or_eq_of_mem_set hx with h | h
       · have := HEb.o x h; omega
       · subst h; omega
      have H4 : Hid ((wr.setCell ⟨q + 1, 0, none⟩ (iv (y + f))).heap[w.heap.size]? = some (.cells zS 91)) := QR _ _ H0.o (by omega)
      have H5 : Hid ((wr.setCell ⟨q + 1, 0, none⟩ (iv (y + f))).heap[q]? = some (.cells R 91)) := QR _ _ H1.o (by omega)
      have H6 : Hid (zB w (wr.setCell ⟨q + 1, 0, none⟩ (iv (y + f)))) := HB.o.setCell (by show _ ≤ _; simp; omega) _
      obtain ⟨G, HG⟩ := zx (E.set 0 (y + (f : Int)))
      rw [← HG.o] at H3 HFl HFb hv
      clear H0 H1 H2' HB hml HEb HEl HE
      have HGz := qa (qaX HFl.o)
      go_upto_region 14 with fail
      clear c0 f0 y0 y1 hc17 bc hc
      obtain ⟨W2, hW2⟩ := zy (wr.setCell ⟨q + 1, 0, none⟩ (iv (y + f)))
      rw [← hW2] at H3 H4 H5 H6 ⊢
      clear hW2
      go_wp2_with (first | (refine zL 91 (.tmp 4) (q + 1) (G.map iv).toArray H3.o y9 HGz.o ?_))
      refine (qdl G HFl.o HFb.o _).mono ?_
      rintro e W3 ⟨rfl, hB3⟩
      rw [hv.o]
      have H3b := kb H3.o hB3
      have H4b : Hid (qi W3 w.heap.size zS 91) := kb H4.o hB3
      have H5b : Hid (qi W3 q R 91) := kb H5.o hB3
      have H6b : Hid (zB w W3) := H6.o.trans (hB3.mono (by have := qh H4.o; omega))
      obtain ⟨t0, HT0⟩ := zx (α := Nat) (16 * m + f)
      rw [← HT0.o]
      have HTb : Hid (t0 < 16 * 7237005577332262213973186563042994240857116359379907606001950938285454250989) := by show _ < _; rw [HT0.o]; have := HML.o; omega
      have HNz := qa (qaX (ZG 65536 17 (t0 : Int)))
      have HNo := qa (qh4 HFl.o (ZG 65536 17 (t0 : Int)))
      have HNa := qa (qfp (dB 65536 17 (t0 : Int)))
      have H3c := qa H3b
      clear H3 H4 H5 H6 hB3 hv H3b HGz HFb
      go_wp2_with (first | (refine qB 91 (.tmp 4) (.tmp 50) (q + 1) ((dB 65536 17 (t0 : Int)).map iv).toArray H3c.o HNz.o HNo.o HNa.o ?_))
      obtain ⟨W4, hW4⟩ := zy (W3.setRow (q + 1) ((dB 65536 17 (t0 : Int)).map iv).toArray)
      rw [← hW4]
      have J0 : Hid (qi W4 w.heap.size zS 91) := by rw [hW4]; exact (zc _ _ _ _ (by omega)).trans H4b.o
      have J1 : Hid (qi W4 q R 91) := by rw [hW4]; exact (zc _ _ _ _ (by omega)).trans H5b.o
      have J2 : Hid (qi W4 (q + 1) (((dB 65536 17 (t0 : Int)).map iv).toArray) 91) := by rw [hW4]; exact zd _ _ _ _ _ _ H3c.o
      have J3 : Hid (zB w W4) := by rw [hW4]; exact ze H6b.o (by omega) _
      clear hW4 H3c H4b H5b H6b HNz HNo HNa HFl HG
      rw [qie]
      go_loopw [] (fun wr => ∃ t : Nat, Hid (t < 16 * 7237005577332262213973186563042994240857116359379907606001950938285454250989) ∧ Hid (t % 7237005577332262213973186563042994240857116359379907606001950938285454250989 = t0 % 7237005577332262213973186563042994240857116359379907606001950938285454250989) ∧
       Hid (qi wr w.heap.size zS 91) ∧ Hid (qi wr q R 91) ∧
       Hid (qi wr (q + 1) (((dB 65536 17 (t : Int)).map iv).toArray) 91) ∧ Hid (zB w wr)) (fun wr => qea wr (q + 1))
      case atStart => exact ⟨t0, HTb, rfl, J0, J1, J2, J3⟩
      case round =>
       clear J0 J1 J2 J3 HTb
       obtain ⟨t, HTb, HTm, J0, J1, J2, J3⟩ := hrel
       have HNz := qa (qaX (ZG 65536 17 (t : Int)))
       obtain ⟨N, HN⟩ := zx (dB 65536 17 (t : Int))
       rw [← HN.o] at J2 HNz
       have HNl : Hid (N.length = 17) := by rw [HN.o]; exact ZG _ _ _
       have HNb : Hid (∀ x ∈ N, 0 ≤ x ∧ x < 65536) := by rw [HN.o]; exact yX _ (by decide) _ _
       have HNv : Hid (vB 65536 N = (t : Int)) := by
        show _ = _
        rw [HN.o, Yd 65536 (by decide), show ((65536 : Int) ^ 17) = 7588550360256754183279148073529370729071901715047420004889892225542594864082845696 by decide]
        have := HTb.o; omega
       go_wp2_with (first
        | (refine zL 91 (.tmp 4) (q + 1) (N.map iv).toArray J2.o y9 HNz.o ?_)
        | (refine zL 91 (.tmp 3) q R J1.o y9 HLz.o ?_))
       refine (qf2 N HNl.o HNb.o R HR.o _).mono ?_
       rintro e W5 ⟨rfl, hB5⟩
       rw [HNv.o]
       have Q0 : Hid (qi W5 w.heap.size zS 91) := kb J0.o hB5
       have Q1 : Hid (qi W5 q R 91) := kb J1.o hB5
       have Q2 : Hid (qi W5 (q + 1) ((N.map iv).toArray) 91) := kb J2.o hB5
       have Q3 : Hid (zB w W5) := J3.o.trans (hB5.mono (by have := qh J0.o; omega))
       have HRV : Hid (qea wr (q + 1) = t) := qgq (by rw [← HN.o]; exact J2.o) (by have := HTb.o; rw [show 65536 ^ 17 = 7588550360256754183279148073529370729071901715047420004889892225542594864082845696 by decide]; omega)
       clear J0 J1 J2 J3 hB5
       by_cases htl : (t : Int) < LI
       ·
        rw [zN htl]
        go_wp2_with fail
        refine ⟨⟨i, (i : Int) - 1, by omega, by go_num, rfl, Q0, Q1, ?_, Q3⟩, by simp [intOf]⟩
        have e : yz s i = N := by
         rw [HN.o]
         exact congrArg (fun k : Nat => dB 65536 17 (k : Int)) (qnf _ i _ m f t0 t HMm.o HF.o HT0.o HTm.o (Int.ofNat_lt.1 htl))
        rw [e]; exact Q2
       ·
        rw [zD htl]
        go_wp2_with fail
        have htl' := qa htl
        clear htl
        go_loopw [9] (fun k wr => ∃ c : Nat, c ≤ 17 ∧ k = .int .i64 c ∧ Hid (qi wr w.heap.size zS 91) ∧ Hid (qi wr q R 91) ∧
         Hid (qi wr (q + 1) ((((List.range N.length).map fun i => if i < c then N.getD i 0 - ZP.getD i 0 else N.getD i 0).map iv).toArray) 91) ∧ Hid (zB w wr)) (fun k _ => 17 - (intOf k).toNat)
        case atStart => exact ⟨0, Zc _, rfl, Q0, Q1, by rw [qf1]; exact Q2, Q3⟩
        case round =>
         clear Q0 Q1 Q2 Q3
         obtain ⟨c, hc, rfl, Q0, Q1, Q2, Q3⟩ := hrel
         by_cases hc17 : c < 17
         ·
          have bc : (c : Int) < 17 := by omega
          have c0 := Qc Q2.o c (by simp [HNl.o]; exact hc17)
          rw [qis N _ c (by rw [HNl.o]; exact hc17)] at c0
          have f0 := frozen_of_row wr (q + 1) c _ _ Q2.o
          have c1 := Qc (by rw [← HR.o]; exact Q1.o) c (by rw [qah]; exact hc17)
          obtain ⟨y, HY⟩ := zx (N.getD c 0)
          obtain ⟨z, HZ⟩ := zx (ZP.getD c 0)
          have hy := HNb.o _ (jB (l := N) (i := c) (by rw [HNl.o]; exact hc17))
          have hz := yX 65536 (by decide) 17 LI _ (jB (l := ZP) (i := c) (by rw [qah]; exact hc17))
          rw [← HY.o] at c0 hy
          rw [← HZ.o] at c1 hz
          obtain ⟨y0, y1⟩ := hy
          obtain ⟨z0, z1⟩ := hz
          go_wp2_with fail
          go_region
          go_wp2_with fail
          refine ⟨⟨c + 1, by omega, by go_num, QR _ _ Q0.o (by omega), QR _ _ Q1.o (by omega), ?_, (Q3.o.setCell (by show _ ≤ _; simp; omega) _).drew⟩, by simp [intOf]; omega⟩
          rw [← qft N _ c (by rw [HNl.o]; exact hc17), List.map_set, ← HY.o, ← HZ.o]
          exact Qg Q2.o c _
         ·
          obtain rfl : c = 17 := by omega
          have bc : (17 : Int) ≤ ((17 : Nat) : Int) := by omega
          obtain ⟨E, HE⟩ := zx ((List.range N.length).map fun i => N.getD i 0 - ZP.getD i 0)
          have Q2' : Hid (qi wr (q + 1) ((E.map iv).toArray) 91) := by
           have e := Q2.o
           rw [show 17 = N.length from HNl.o.symm, qiq N, ← HE.o] at e
           exact e
          have HEl : Hid (E.length = 17) := by show _ = _; rw [HE.o, zv, List.length_range, HNl.o]
          have HEb : Hid (∀ x ∈ E, -1099511627776 ≤ x ∧ x ≤ 1099511627776) := by
           intro x hx
           rw [HE.o] at hx
           obtain ⟨d, hd, rfl⟩ := List.mem_map.1 hx
           have hd' := List.mem_range.1 hd
           have a1 := HNb.o _ (jB (l := N) (i := d) hd')
           have a2 := yX 65536 (by decide) 17 LI _ (jB (l := ZP) (i := d) (by rw [qah]; rw [HNl.o] at hd'; exact hd'))
           show -1099511627776 ≤ N.getD d 0 - ZP.getD d 0 ∧ N.getD d 0 - ZP.getD d 0 ≤ 1099511627776
           generalize N.getD d 0 = a at *
           generalize ZP.getD d 0 = b at *
           omega
          have HEv : Hid (vB 65536 E = ((t - 7237005577332262213973186563042994240857116359379907606001950938285454250989 : Nat) : Int)) := by
           show _ = _
           rw [HE.o, qs4 _ _ _ (by rw [HNl.o, qah]), HNv.o, qiR]
           have hl : (7237005577332262213973186563042994240857116359379907606001950938285454250989 : Int) ≤ (t : Int) := htl'.o
           show (t : Int) - 7237005577332262213973186563042994240857116359379907606001950938285454250989 = _
           omega
          have HEz := qa (qaX HEl.o)
          clear Q2 hc17 hc
          go_wp2_with (first
           | (refine zL 91 (.tmp 4) (q + 1) (E.map iv).toArray Q2'.o y9 HEz.o ?_))
          refine (qdl E HEl.o HEb.o _).mono ?_
          rintro e W6 ⟨rfl, hB6⟩
          rw [HEv.o]
          obtain ⟨t1, HT1⟩ := zx (t - 7237005577332262213973186563042994240857116359379907606001950938285454250989)
          rw [← HT1.o]
          have P0 : Hid (qi W6 w.heap.size zS 91) := kb Q0.o hB6
          have P1 : Hid (qi W6 q R 91) := kb Q1.o hB6
          have P2 : Hid (qi W6 (q + 1) ((E.map iv).toArray) 91) := kb Q2'.o hB6
          have P3 : Hid (zB w W6) := Q3.o.trans (hB6.mono (by have := qh Q0.o; omega))
          have HMz := qa (qaX (ZG 65536 17 (t1 : Int)))
          have HMo := qa (qh4 HEl.o (ZG 65536 17 (t1 : Int)))
          have HMa := qa (qfp (dB 65536 17 (t1 : Int)))
          clear Q0 Q1 Q2' Q3 hB6 HEz HEb HEv
          go_wp2_with (first | (refine qB 91 (.tmp 4) (.tmp 69) (q + 1) ((dB 65536 17 (t1 : Int)).map iv).toArray P2.o HMz.o HMo.o HMa.o ?_))
          have S2 := zd W6 (q + 1) _ ((dB 65536 17 (t1 : Int)).map iv).toArray _ _ P2.o
          have hge : 7237005577332262213973186563042994240857116359379907606001950938285454250989 ≤ t := by
           have hl : (7237005577332262213973186563042994240857116359379907606001950938285454250989 : Int) ≤ (t : Int) := htl'.o
           omega
          have ht1 := HT1.o
          have htb := HTb.o
          rw [qie]
          go_roundw
          case rel =>
           refine ⟨t1, by show _ < _; omega, ?_, (zc _ _ _ _ (by omega)).trans P0.o, (zc _ _ _ _ (by omega)).trans P1.o, S2, ze P3.o (by omega) _⟩
           show _ = _
           rw [← HTm.o, show t = t1 + 7237005577332262213973186563042994240857116359379907606001950938285454250989 by omega, Nat.add_mod_right]
          case measure =>
           show qea _ _ < qea _ _
           rw [HRV.o, qgq S2 (by rw [show 65536 ^ 17 = 7588550360256754183279148073529370729071901715047420004889892225542594864082845696 by decide]; omega)]
           omega)
  ·
   obtain rfl : j = 0 := by omega
   have hz0 : z = -1 := by have := HZ.o; omega
   subst hz0
   have HSz := qa (qaX (show (yz s 0).length = 17 from ZG _ _ _))
   have HSo := qa (qlP (show (yz s 0).length = 17 from ZG _ _ _))
   have HSa := qa (qfp (yz s 0))
   clear HZ hj hlt
   obtain ⟨C, HC⟩ := zx (((yz s 0).map iv).toArray)
   rw [← HC.o] at H2 HSz HSo HSa
   go_wp2_with (first
    | (refine zL 91 (.tmp 4) (q + 1) C H2.o y9 HSz.o ?_)
    | (refine qB 91 (.tmp 2) (.tmp 70) w.heap.size C H0.o HSz.o HSo.o HSa.o ?_))
   refine zh (v := .agg C) (results_cell_row Tryz.results73 _ _ w.heap.size 91 C (0, 0) _ (by rfl) (zd _ _ _ _ _ _ H0.o) y9 rfl HSz.o) rfl ⟨by rw [HC.o], ze HB.o (zm _) _⟩
end
section
variable {P : Program} (w : World)
end
theorem qse {w : World} {B : Nat} {e : TypeId} {v : Value} {xs : List Value} (h : q9 w B e v xs) {q : Nat} (hq : v.ownBlock = some q) : B ≤ q := by
 rcases h with ⟨rfl, _⟩ | ⟨g, cap, cur, fr, rfl, h1, _⟩
 · cases hq
 · simp [Value.ownBlock] at hq; omega
theorem qk8 (B : Int) (hB : 0 < B) (K k : Nat) (n : Int) (h : k < K) : (dB B K n).getD k 0 = n / B ^ k % B := by
 induction k generalizing K n with
 | zero => cases K with
  | zero => omega
  | succ K => simp [dB]
 | succ k ih => cases K with
  | zero => omega
  | succ K =>
   have := ih K (n / B) (by omega)
   simp only [dB, List.getD_cons_succ, this]
   rw [Int.pow_succ, Int.mul_comm, Int.ediv_ediv_of_nonneg (by omega)]
end Go.Proofs.YtccgfabojbjmjaaGreatDoor
