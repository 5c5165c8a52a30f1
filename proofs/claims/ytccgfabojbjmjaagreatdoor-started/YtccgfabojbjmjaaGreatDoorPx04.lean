import Derived.Test.YtccgfabojbjmjaaGreatDoorPx02
import Derived.Test.YtccgfabojbjmjaaGreatDoorPx03
namespace Go.Proofs.YtccgfabojbjmjaaGreatDoor
open Go.RowKit
def byteLE (n i : Nat) : UInt8 := UInt8.ofNat (n / 256 ^ i)
def leB (n k : Nat) : List UInt8 := (List.range k).map (byteLE n)
theorem leB_length (n k : Nat) : (leB n k).length = k := by simp [leB]
def rowB (n m k : Nat) : List UInt8 := (List.range m).map fun i => if i < k then byteLE n i else 0
theorem rowB_length (n m k : Nat) : (rowB n m k).length = m := by simp [rowB]
theorem rowB_step (n m k : Nat) : (rowB n m k).set k (byteLE n k) = rowB n m (k + 1) := by
 apply List.ext_getElem?
 intro i
 rw [List.getElem?_set]
 simp only [rowB, List.getElem?_map, List.length_map, List.length_range]
 by_cases h : k = i
 ·
  subst h
  by_cases hm : k < m
  · simp [hm]
  · simp [hm]
 ·
  rw [if_neg h]
  by_cases hm : i < m
  ·
   have e1 : (i < k + 1) = (i < k) := by apply propext; omega
   simp [hm, e1]
  · simp [hm]
theorem rowB_all (n m : Nat) : rowB n m m = leB n m := by
 unfold rowB leB
 apply List.map_congr_left
 intro i hi
 rw [if_pos (List.mem_range.1 hi)]
theorem rowB_none (n m : Nat) : rowB n m 0 = List.replicate m 0 := by
 unfold rowB
 apply List.ext_getElem?
 intro i
 by_cases hm : i < m
 · simp [hm]
 · simp [hm]
def wd (n q : Nat) : Nat := n / 18446744073709551616 ^ q % 18446744073709551616
theorem wd_byte (n q r : Nat) (hr : r < 8) : wd n q / 2 ^ (8 * r) % 256 = n / 256 ^ (8 * q + r) % 256 := by
 unfold wd
 rw [Nat.pow_add, ← Nat.div_div_eq_div_mul, Nat.pow_mul, Nat.pow_mul]
 have e : (256 : Nat) ^ 8 = 18446744073709551616 := by decide
 have e2 : (2 : Nat) ^ 8 = 256 := by decide
 rw [e, e2]
 generalize n / 18446744073709551616 ^ q = x
 have : r = 0 ∨ r = 1 ∨ r = 2 ∨ r = 3 ∨ r = 4 ∨ r = 5 ∨ r = 6 ∨ r = 7 := by omega
 rcases this with rfl | rfl | rfl | rfl | rfl | rfl | rfl | rfl <;> simp only [Nat.reducePow] <;> omega
theorem byte_V (n q r i : Nat) (hr : r < 8) (hi : i = 8 * q + r) : V (wd n q) / 2 ^ (8 * r) % 256 = C8 (byteLE n i) := by
 have := wd_byte n q r hr
 unfold V C8 byteLE
 rw [UInt8.toNat_ofNat', hi]
 have e : ((wd n q : Nat) : Int) / 2 ^ (8 * r) % 256 = ((wd n q / 2 ^ (8 * r) % 256 : Nat) : Int) := by rw [Int.natCast_emod, Int.natCast_ediv, Int.natCast_pow]; rfl
 rw [e, this]
theorem num4_wd (n : Nat) : num4 n = .agg #[nv (wd n 0), nv (wd n 1), nv (wd n 2), nv (wd n 3)] := by
 unfold num4 wd w4; simp only [Nat.reducePow, Nat.pow_zero, Nat.div_one]
theorem wd_get (n q : Nat) (hq : q < 4) : (#[nv (wd n 0), nv (wd n 1), nv (wd n 2), nv (wd n 3)] : Array Value)[q]? = some (nv (wd n q)) := by
 have : q = 0 ∨ q = 1 ∨ q = 2 ∨ q = 3 := by omega
 rcases this with rfl | rfl | rfl | rfl <;> rfl
theorem cvs_get {w : World} {b : Nat} {l : List UInt8} {T : TypeId} {fr : Nat × Nat} (h : w.heap[b]? = some (.cells (l.map cv).toArray T fr)) (i : Nat) (hi : i < l.length) :
  w.cell? ⟨b, i, none⟩ = some (cv (l.getD i 0)) := by
 rw [cell_of_row w b i _ T _ h]; simp [hi, List.getD]
def z32 : Array Value := ((List.replicate 32 (0 : UInt8)).map cv).toArray
theorem zero32 (w : World) : (zeroValue 61).run Tryz.prog w = .ok (.agg z32) w := by kernel_rfl
theorem under32 : Tryz.prog.underlying 61 = some (.array 32 5) := by kernel_rfl
theorem size32 : (Tryz.prog.info? 61).map (·.size) = some 32 := by kernel_rfl
theorem bytes_cell (l : List UInt8) : ∀ v ∈ l.map cv, v.oneCell' = true := by
 intro v hv; obtain ⟨x, _, rfl⟩ := List.mem_map.1 hv; rfl
theorem row_far {w : World} {g g' : Nat} {o : Obj} (i : Nat) (v : Value) (h : w.heap[g]? = some o) (hne : g ≠ g') : (w.setCell ⟨g', i, none⟩ v).heap[g]? = some o :=
 (Below.heap_setCell w _ v g hne).trans h
theorem heap3_0 (w : World) (A B C : Obj) : (((w.alloc A).alloc B).alloc C).heap[w.heap.size]? = some A := by
 rw [heap_alloc_old _ _ (by simp; omega), heap_alloc_old _ _ (by simp)]; exact heap_alloc_new _ _
theorem heap3_1 (w : World) (A B C : Obj) : (((w.alloc A).alloc B).alloc C).heap[w.heap.size + 1]? = some B := by
 rw [heap_alloc_old _ _ (by simp)]; exact heap_alloc2_new _ _ _
theorem heap3_2 (w : World) (A B C : Obj) : (((w.alloc A).alloc B).alloc C).heap[w.heap.size + 2]? = some C := by
 have := heap_alloc2_new (w.alloc A) B C
 rw [World.size_alloc] at this; exact this
section
set_option maxRecDepth 100000 in
set_option maxHeartbeats 4000000 in
theorem bytes_any (n : Nat) (w : World) :
  Calls Tryz.prog 46 #[num4 n] w fun e w' => e = .returned (.agg ((leB n 32).map cv).toArray) ∧ Below w.heap.size w w' := by
 have hz := zero32
 rw [num4_wd]
 go_enter Tryz.func46, Tryz.ntmps46
 go_wp2_with fail
 go_loopw [5] (fun i wr => ∃ k : Nat, k ≤ 32 ∧ i = .int .i64 k ∧ Hid (wr.heap[w.heap.size]? = some (.cells #[nv (wd n 0), nv (wd n 1), nv (wd n 2), nv (wd n 3)] 60 (0, 0))) ∧ Hid (wr.heap[w.heap.size + 1]? = some (.cells z32 61 (0, 0))) ∧
   Hid (wr.heap[w.heap.size + 2]? = some (.cells ((rowB n 32 k).map cv).toArray 61 (0, 0))) ∧ Hid (Below w.heap.size w wr)) (fun i _ => 32 - (intOf i).toNat)
 case atStart => exact ⟨0, Nat.zero_le _, rfl, heap3_0 _ _ _ _, heap3_1 _ _ _ _, by rw [rowB_none]; exact heap3_2 _ _ _ _, by show Below _ _ _; go_grown⟩
 case round =>
  obtain ⟨k, hk, rfl, H0, H1, H2, HB⟩ := hrel
  by_cases hlt : k < 32
  ·
   obtain ⟨q, hq⟩ : ∃ q, q = k / 8 := ⟨_, rfl⟩
   obtain ⟨r, hr⟩ : ∃ r, r = k % 8 := ⟨_, rfl⟩
   have e8 : (k : Int) / 8 = (q : Int) := by omega
   have er : (k : Int) % 8 = (r : Int) := by omega
   have bq : (q : Int) < 4 := by omega
   have br : (r : Int) < 8 := by omega
   have bk : (k : Int) < 32 := by omega
   have c0 := (cell_of_row wr w.heap.size q _ _ _ H0.out).trans (wd_get n q (by omega))
   have c2 := cvs_get H2.out k (by rw [rowB_length]; exact hlt)
   have f2 := frozen_of_row wr (w.heap.size + 2) k _ _ H2.out
   have HN : Hid (V (wd n q) / 2 ^ (r * 8) % 256 = C8 (byteLE n k)) := by rw [Nat.mul_comm]; exact byte_V n q r k (by omega) (by omega)
   generalize wd n q = x at c0 HN
   clear hq hr hz
   go_wp2_with fail
   refine ⟨⟨k + 1, by omega, by go_num, row_far _ _ H0.out (by omega), row_far _ _ H1.out (by omega), ?_, ?_⟩, by simp [intOf]; omega⟩
   ·
    rw [HN.out, ← rowB_step, List.map_set]
    exact row_store H2.out k _
   · exact HB.out.setCell (by show _ ≤ _; simp; omega) _
  ·
   have hk32 : k = 32 := by omega
   have bk : (32 : Int) ≤ (k : Int) := by omega
   obtain ⟨M, HM⟩ : ∃ M, Hid (M = (leB n 32).map cv) := ⟨_, rfl⟩
   have H2' : Hid (wr.heap[w.heap.size + 2]? = some (.cells M.toArray 61 (0, 0))) := by
    have := H2.out; rw [hk32, rowB_all, ← HM.out] at this; exact this
   have hMl : M.length = 32 := by rw [HM.out, List.length_map, leB_length]
   have HSz : Hid ((Tryz.prog.info? 61).map (·.size) = some M.toArray.size) := by show _ = _; rw [size32]; simp [hMl]
   have HO : Hid (z32.size = M.toArray.size) := by show _ = _; simp [hMl]; rfl
   have HA : Hid (M.toArray.all (·.oneCell') = true) := by rw [HM.out]; exact all_oneCell_toArray (bytes_cell _)
   clear H2 hk32 hlt hk hMl
   go_wp2_with (first | (refine wpList_load_row (by rfl) 61 (.tmp 3) (by rfl) (w.heap.size + 2) (by rfl) 61 M.toArray (0, 0) _ H2'.out under32 rfl HSz.out ?_) | (refine wpList_store_row (by rfl) 61 (.tmp 2) (.tmp 20) (by rfl) (w.heap.size + 1) M.toArray (by rfl) (by rfl) 61 _ H1.out HSz.out HO.out HA.out ?_))
   refine bodyPost_ret (v := .agg M.toArray) (results_cell_row Tryz.results46 _ _ (w.heap.size + 1) 61 M.toArray (0, 0) _ (by rfl) (setRow_heap _ _ _ _ _ _ H1.out) under32 rfl HSz.out) rfl ⟨by rw [HM.out], below_setRow HB.out (by omega) _⟩
end
def kws : List (BitVec 64) := [
 4794697086780616226#64, 8158064640168781261#64, 13096744586834688815#64, 16840607885511220156#64,
 4131703408338449720#64, 6480981068601479193#64, 10538285296894168987#64, 12329834152419229976#64,
 15566598209576043074#64, 1334009975649890238#64, 2608012711638119052#64, 6128411473006802146#64,
 8268148722764581231#64, 9286055187155687089#64, 11230858885718282805#64, 13951009754708518548#64,
 16472876342353939154#64, 17275323862435702243#64, 1135362057144423861#64, 2597628984639134821#64,
 3308224258029322869#64, 5365058923640841347#64, 6679025012923562964#64, 8573033837759648693#64,
 10970295158949994411#64, 12119686244451234320#64, 12683024718118986047#64, 13788192230050041572#64,
 14330467153632333762#64, 15395433587784984357#64, 489312712824947311#64, 1452737877330783856#64,
 2861767655752347644#64, 3322285676063803686#64, 5560940570517711597#64, 5996557281743188959#64,
 7280758554555802590#64, 8532644243296465576#64, 9350256976987008742#64, 10552545826968843579#64,
 11727347734174303076#64, 12113106623233404929#64, 14000437183269869457#64, 14369950271660146224#64,
 15101387698204529176#64, 15463397548674623760#64, 17586052441742319658#64, 1182934255886127544#64,
 1847814050463011016#64, 2177327727835720531#64, 2830643537854262169#64, 3796741975233480872#64,
 4115178125766777443#64, 5681478168544905931#64, 6601373596472566643#64, 7507060721942968483#64,
 8399075790359081724#64, 8693463985226723168#64, 9568029438360202098#64, 10144078919501101548#64,
 10430055236837252648#64, 11840083180663258601#64, 13761210420658862357#64, 14299343276471374635#64,
 14566680578165727644#64, 15097957966210449927#64, 16922976911328602910#64, 17689382322260857208#64,
 500013540394364858#64, 748580250866718886#64, 1242879168328830382#64, 1977374033974150939#64,
 2944078676154940804#64, 3659926193048069267#64, 4368137639120453308#64, 4836135668995329356#64,
 5532061633213252278#64, 6448918945643986474#64, 6902733635092675308#64, 7801388544844847127#64]
def kw (i : Nat) : BitVec 64 := kws.getD i 0
def stepW (kk ww : BitVec 64) (s : S8) : S8 :=
 ⟨(s.h + bigSigma1W s.e + chooseW s.e s.f s.g + kk + ww) + (bigSigma0W s.a + majorityW s.a s.b s.c), s.a, s.b, s.c,
  s.d + (s.h + bigSigma1W s.e + chooseW s.e s.f s.g + kk + ww), s.e, s.f, s.g⟩
def rnds (l : List (BitVec 64)) (s : S8) : Nat → S8
 | 0 => s
 | n + 1 => stepW (kw n) (l.getD n 0) (rnds l s n)
theorem sch64_ex : ∃ f : List UInt8 → List (BitVec 64), ∀ blk, f blk = sch blk 64 := ⟨_, fun _ => rfl⟩
noncomputable def sch64 : List UInt8 → List (BitVec 64) := Classical.choose sch64_ex
theorem sch64_eq (blk : List UInt8) : sch64 blk = sch blk 64 := Classical.choose_spec sch64_ex blk
theorem rnd80_ex : ∃ f : List (BitVec 64) → S8 → S8, ∀ l s, f l s = rnds l s 80 := ⟨_, fun _ _ => rfl⟩
noncomputable def rnd80 : List (BitVec 64) → S8 → S8 := Classical.choose rnd80_ex
theorem rnd80_eq (l : List (BitVec 64)) (s : S8) : rnd80 l s = rnds l s 80 := Classical.choose_spec rnd80_ex l s
noncomputable def mixS (s : S8) (blk : List UInt8) : S8 := s.add (rnd80 (sch64 blk) s)
noncomputable def HS.mix (H : HS) : HS := { H with st := mixS H.st H.blk }
def Tab (w : World) : Prop := ∀ i, i < 80 → w.cell? ⟨9, i, none⟩ = some (.int .u64 (U (kw i)))
theorem Tab.lt {w : World} (h : Tab w) : 9 < w.heap.size := World.block_lt_of_cell? w _ (h 0 (by omega))
theorem Tab.turn {b : Nat} {w w' : World} (h : Tab w) (ht : Turn b w w') (hb : 9 ≠ b) : Tab w' := fun i hi =>
 (World.cell?_of_block (w := w) (ht.block 9 h.lt hb)).trans (h i hi)
theorem Tab.below {B : Nat} {w w' : World} (h : Tab w) (ht : Below B w w') (hb : 9 < B) : Tab w' := fun i hi =>
 (ht.cell (by exact hb)).trans (h i hi)
def rowLH (l : List (BitVec 64)) (H : HS) : List Value := l.map uv ++ (H.blk.map cv ++ [uv H.hi, uv H.lo])
theorem rowL_set (l : List (BitVec 64)) (H : HS) (i : Nat) (h : i < l.length) (x : BitVec 64) : (rowLH l H).set i (uv x) = rowLH (l.set i x) H := by
 unfold rowLH; rw [List.set_append_left _ _ (by simpa using h), ← List.map_set]
def addTo (s t : S8) : Nat → List (BitVec 64)
 | 0 => s.words
 | k + 1 => (addTo s t k).set k (s.words.getD k 0 + t.words.getD k 0)
theorem addTo_length (s t : S8) (k : Nat) : (addTo s t k).length = 8 := by
 induction k with
 | zero => rfl
 | succ k ih => simp [addTo, ih]
theorem addTo_all (s t : S8) : addTo s t 8 = (s.add t).words := rfl
theorem rowL_get (l : List (BitVec 64)) (H : HS) (i : Nat) (h : i < l.length) : (rowLH l H)[i]? = some (uv (l.getD i 0)) := by
 unfold rowLH; rw [List.getElem?_append_left (by simpa using h)]; simp [h]
theorem words_cell (s : S8) : ∀ v ∈ s.words.map uv, v.oneCell' = true := by
 intro v hv; obtain ⟨x, _, rfl⟩ := List.mem_map.1 hv; rfl
theorem under8 : Tryz.prog.underlying 163 = some (.array 8 59) := by kernel_rfl
theorem size8 : (Tryz.prog.info? 163).map (·.size) = some 8 := by kernel_rfl
theorem zero8 (w : World) : (zeroValue 163).run Tryz.prog w = .ok (.agg ((List.replicate 8 (0#64)).map uv).toArray) w := by kernel_rfl
end Go.Proofs.YtccgfabojbjmjaaGreatDoor
namespace Go.Proofs.YtccgfabojbjmjaaGreatDoor
open Go.RowKit
theorem pr11 : Pr 11 := trial_prime 11 2 (by decide) (by decide +kernel) (by decide)
theorem pr23 : Pr 23 := trial_prime 23 3 (by decide) (by decide +kernel) (by decide)
theorem pr41 : Pr 41 := trial_prime 41 5 (by decide) (by decide +kernel) (by decide)
theorem pr43 : Pr 43 := trial_prime 43 5 (by decide) (by decide +kernel) (by decide)
theorem pr73 : Pr 73 := trial_prime 73 7 (by decide) (by decide +kernel) (by decide)
theorem pr269 : Pr 269 := trial_prime 269 15 (by decide) (by decide +kernel) (by decide)
theorem pr307 : Pr 307 := trial_prime 307 16 (by decide) (by decide +kernel) (by decide)
theorem pr1361 : Pr 1361 := trial_prime 1361 35 (by decide) (by decide +kernel) (by decide)
theorem pr2851 : Pr 2851 := trial_prime 2851 52 (by decide) (by decide +kernel) (by decide)
theorem pr5879 : Pr 5879 := trial_prime 5879 75 (by decide) (by decide +kernel) (by decide)
theorem pr30703 : Pr 30703 := trial_prime 30703 174 (by decide) (by decide +kernel) (by decide)
theorem pr82163 : Pr 82163 := trial_prime 82163 285 (by decide) (by decide +kernel) (by decide)
theorem pr132667 : Pr 132667 := trial_prime 132667 363 (by decide) (by decide +kernel) (by decide)
theorem pr137849 : Pr 137849 := trial_prime 137849 370 (by decide) (by decide +kernel) (by decide)
theorem pr409477 : Pr 409477 := trial_prime 409477 638 (by decide) (by decide +kernel) (by decide)
theorem pr531581 : Pr 531581 := trial_prime 531581 728 (by decide) (by decide +kernel) (by decide)
theorem pr1224481 : Pr 1224481 := trial_prime 1224481 1105 (by decide) (by decide +kernel) (by decide)
theorem prX0 : Pr 14741173 := (pratt 14741173 2 24 [2, 2, 3, 3, 409477] (by decide +kernel) (by intro r hr; simp at hr; rcases hr with rfl | rfl | rfl <;> first | exact pr2 | exact pr3 | exact pr409477) (by decide +kernel) (by decide +kernel) (by decide +kernel) (by decide +kernel)).1
theorem prX1 : Pr 58964693 := (pratt 58964693 2 26 [2, 2, 14741173] (by decide +kernel) (by intro r hr; simp at hr; rcases hr with rfl | rfl <;> first | exact pr2 | exact prX0) (by decide +kernel) (by decide +kernel) (by decide +kernel) (by decide +kernel)).1
theorem prX2 : Pr 292386187 := (pratt 292386187 2 29 [2, 3, 3, 3, 3, 307, 5879] (by decide +kernel) (by intro r hr; simp at hr; rcases hr with rfl | rfl | rfl | rfl <;> first | exact pr2 | exact pr3 | exact pr307 | exact pr5879) (by decide +kernel) (by decide +kernel) (by decide +kernel) (by decide +kernel)).1
theorem prX3 : Pr 213441916511 := (pratt 213441916511 13 38 [2, 5, 73, 292386187] (by decide +kernel) (by intro r hr; simp at hr; rcases hr with rfl | rfl | rfl | rfl <;> first | exact pr2 | exact pr5 | exact pr73 | exact prX2) (by decide +kernel) (by decide +kernel) (by decide +kernel) (by decide +kernel)).1
theorem prX4 : Pr 1257559732178653 := (pratt 1257559732178653 2 51 [2, 2, 3, 7, 23, 531581, 1224481] (by decide +kernel) (by intro r hr; simp at hr; rcases hr with rfl | rfl | rfl | rfl | rfl | rfl <;> first | exact pr2 | exact pr3 | exact pr7 | exact pr23 | exact pr531581 | exact pr1224481) (by decide +kernel) (by decide +kernel) (by decide +kernel) (by decide +kernel)).1
theorem prX5 : Pr 4434155615661930479 := (pratt 4434155615661930479 17 62 [2, 41, 43, 1257559732178653] (by decide +kernel) (by intro r hr; simp at hr; rcases hr with rfl | rfl | rfl | rfl <;> first | exact pr2 | exact pr41 | exact pr43 | exact prX4) (by decide +kernel) (by decide +kernel) (by decide +kernel) (by decide +kernel)).1
theorem prX6 : Pr 3044861653679985063343 := (pratt 3044861653679985063343 5 72 [2, 3, 11, 30703, 82163, 132667, 137849] (by decide +kernel) (by intro r hr; simp at hr; rcases hr with rfl | rfl | rfl | rfl | rfl | rfl | rfl <;> first | exact pr2 | exact pr3 | exact pr11 | exact pr30703 | exact pr82163 | exact pr132667 | exact pr137849) (by decide +kernel) (by decide +kernel) (by decide +kernel) (by decide +kernel)).1
theorem prX7 : Pr 172054593956031949258510691 := (pratt 172054593956031949258510691 2 88 [2, 5, 1361, 2851, 4434155615661930479] (by decide +kernel) (by intro r hr; simp at hr; rcases hr with rfl | rfl | rfl | rfl | rfl <;> first | exact pr2 | exact pr5 | exact pr1361 | exact pr2851 | exact prX5) (by decide +kernel) (by decide +kernel) (by decide +kernel) (by decide +kernel)).1
theorem prX8 : Pr 198211423230930754013084525763697 := (pratt 198211423230930754013084525763697 5 108 [2, 2, 2, 2, 3, 23, 58964693, 3044861653679985063343] (by decide +kernel) (by intro r hr; simp at hr; rcases hr with rfl | rfl | rfl | rfl | rfl <;> first | exact pr2 | exact pr3 | exact pr23 | exact prX1 | exact prX6) (by decide +kernel) (by decide +kernel) (by decide +kernel) (by decide +kernel)).1
theorem prX9 : Pr 19757330305831588566944191468367130476339 := (pratt 19757330305831588566944191468367130476339 2 134 [2, 269, 213441916511, 172054593956031949258510691] (by decide +kernel) (by intro r hr; simp at hr; rcases hr with rfl | rfl | rfl | rfl <;> first | exact pr2 | exact pr269 | exact prX3 | exact prX7) (by decide +kernel) (by decide +kernel) (by decide +kernel) (by decide +kernel)).1
theorem prX10 : Pr 276602624281642239937218680557139826668747 := (pratt 276602624281642239937218680557139826668747 2 138 [2, 7, 19757330305831588566944191468367130476339] (by decide +kernel) (by intro r hr; simp at hr; rcases hr with rfl | rfl | rfl <;> first | exact pr2 | exact pr7 | exact prX9) (by decide +kernel) (by decide +kernel) (by decide +kernel) (by decide +kernel)).1
theorem prL : Pr Lord := (pratt Lord 2 253 [2, 2, 3, 11, 198211423230930754013084525763697, 276602624281642239937218680557139826668747] (by decide +kernel) (by intro r hr; simp at hr; rcases hr with rfl | rfl | rfl | rfl | rfl <;> first | exact pr2 | exact pr3 | exact pr11 | exact prX8 | exact prX10) (by decide +kernel) (by decide +kernel) (by decide +kernel) (by decide +kernel)).1
end Go.Proofs.YtccgfabojbjmjaaGreatDoor
