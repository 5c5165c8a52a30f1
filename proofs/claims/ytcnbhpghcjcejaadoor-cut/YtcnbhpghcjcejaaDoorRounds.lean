import Derived.Test.YtcnbhpghcjcejaaDoorSpread
/- The round's words; a round; the mix of a block. Plain mathematics. -/
namespace Go.Proofs.YtcnbhpghcjcejaaDoor
open Go.RowKit

/-- The numbers of the 80 rounds. -/
def kws : List (BitVec 64) := [
  4794697086780616226#64, 8158064640168781261#64, 13096744586834688815#64, 16840607885511220156#64,
  4131703408338449720#64, 6480981068601479193#64, 10538285296894168987#64, 12329834152419229976#64,
  15566598209576043074#64, 1334009975649890238#64, 2608012711638119052#64, 6128411473006802146#64,
  8268148722764581231#64, 9286055187155687089#64, 11230858885718282805#64, 13951009754708518548#64,
  16472876342353939154#64, 17275323862435702243#64, 1135362057144423861#64, 2597628984639134821#64,
  3308224258029322869#64, 5365058923640841347#64, 6679025012923562964#64, 8573033837759648693#64,
  10970295158949994411#64, 12119686244451234320#64, 12683024718118986047#64, 13788192230050041572#64,
  14330467153632333762#64, 15395433587784984357#64, 489312712824947311#64, 1452737877330783856#64,
  2861767655752347644#64, 3322285676063803686#64, 5560940570517711597#64, 5996557281743188959#64,
  7280758554555802590#64, 8532644243296465576#64, 9350256976987008742#64, 10552545826968843579#64,
  11727347734174303076#64, 12113106623233404929#64, 14000437183269869457#64, 14369950271660146224#64,
  15101387698204529176#64, 15463397548674623760#64, 17586052441742319658#64, 1182934255886127544#64,
  1847814050463011016#64, 2177327727835720531#64, 2830643537854262169#64, 3796741975233480872#64,
  4115178125766777443#64, 5681478168544905931#64, 6601373596472566643#64, 7507060721942968483#64,
  8399075790359081724#64, 8693463985226723168#64, 9568029438360202098#64, 10144078919501101548#64,
  10430055236837252648#64, 11840083180663258601#64, 13761210420658862357#64, 14299343276471374635#64,
  14566680578165727644#64, 15097957966210449927#64, 16922976911328602910#64, 17689382322260857208#64,
  500013540394364858#64, 748580250866718886#64, 1242879168328830382#64, 1977374033974150939#64,
  2944078676154940804#64, 3659926193048069267#64, 4368137639120453308#64, 4836135668995329356#64,
  5532061633213252278#64, 6448918945643986474#64, 6902733635092675308#64, 7801388544844847127#64]
def kw (i : Nat) : BitVec 64 := kws.getD i 0

def stepW (kk ww : BitVec 64) (s : S8) : S8 :=
  ⟨(s.h + bigSigma1W s.e + chooseW s.e s.f s.g + kk + ww) + (bigSigma0W s.a + majorityW s.a s.b s.c), s.a, s.b, s.c,
   s.d + (s.h + bigSigma1W s.e + chooseW s.e s.f s.g + kk + ww), s.e, s.f, s.g⟩
def rnds (l : List (BitVec 64)) (s : S8) : Nat → S8
  | 0 => s
  | n + 1 => stepW (kw n) (l.getD n 0) (rnds l s n)
/-! The whole schedule and all rounds, so that nothing that compares terms can go into them. -/
theorem sch64_ex : ∃ f : List UInt8 → List (BitVec 64), ∀ blk, f blk = sch blk 64 := ⟨_, fun _ => rfl⟩
noncomputable def sch64 : List UInt8 → List (BitVec 64) := Classical.choose sch64_ex
theorem sch64_eq (blk : List UInt8) : sch64 blk = sch blk 64 := Classical.choose_spec sch64_ex blk
theorem rnd80_ex : ∃ f : List (BitVec 64) → S8 → S8, ∀ l s, f l s = rnds l s 80 := ⟨_, fun _ _ => rfl⟩
noncomputable def rnd80 : List (BitVec 64) → S8 → S8 := Classical.choose rnd80_ex
theorem rnd80_eq (l : List (BitVec 64)) (s : S8) : rnd80 l s = rnds l s 80 := Classical.choose_spec rnd80_ex l s
/-- A block taken into a state. -/
noncomputable def mixS (s : S8) (blk : List UInt8) : S8 := s.add (rnd80 (sch64 blk) s)
noncomputable def HS.mix (H : HS) : HS := { H with st := mixS H.st H.blk }

/-- The package's table lies in block 0. -/
def Tab (w : World) : Prop := ∀ i, i < 80 → w.cell? ⟨0, i, none⟩ = some (.int .u64 (U (kw i)))
theorem Tab.lt {w : World} (h : Tab w) : 0 < w.heap.size := World.block_lt_of_cell? w _ (h 0 (by omega))
theorem Tab.turn {b : Nat} {w w' : World} (h : Tab w) (ht : Turn b w w') (hb : 0 ≠ b) : Tab w' := fun i hi =>
  (World.cell?_of_block (w := w) (ht.block 0 h.lt hb)).trans (h i hi)
theorem Tab.below {B : Nat} {w w' : World} (h : Tab w) (ht : Below B w w') (hb : 0 < B) : Tab w' := fun i hi =>
  (ht.cell (by exact hb)).trans (h i hi)

/-- The row of a hasher whose words are l. -/
def rowL (l : List (BitVec 64)) (H : HS) : List Value := l.map uv ++ (H.blk.map cv ++ [uv H.hi, uv H.lo])
theorem rowL_set (l : List (BitVec 64)) (H : HS) (i : Nat) (h : i < l.length) (x : BitVec 64) : (rowL l H).set i (uv x) = rowL (l.set i x) H := by
  unfold rowL; rw [List.set_append_left _ _ (by simpa using h), ← List.map_set]
def addTo (s t : S8) : Nat → List (BitVec 64)
  | 0 => s.words
  | k + 1 => (addTo s t k).set k (s.words.getD k 0 + t.words.getD k 0)
theorem addTo_length (s t : S8) (k : Nat) : (addTo s t k).length = 8 := by
  induction k with
  | zero => rfl
  | succ k ih => simp [addTo, ih]
theorem addTo_all (s t : S8) : addTo s t 8 = (s.add t).words := rfl
theorem rowL_get (l : List (BitVec 64)) (H : HS) (i : Nat) (h : i < l.length) : (rowL l H)[i]? = some (uv (l.getD i 0)) := by
  unfold rowL; rw [List.getElem?_append_left (by simpa using h)]; simp [h]
theorem addTo_get (s t : S8) (k i : Nat) (h : k ≤ i) : (addTo s t k).getD i 0 = s.words.getD i 0 := by
  induction k with
  | zero => rfl
  | succ k ih =>
    have := ih (by omega)
    simp only [addTo, List.getD_eq_getElem?_getD, List.getElem?_set] at this ⊢
    rw [if_neg (by omega)]; exact this
theorem words_cell (s : S8) : ∀ v ∈ s.words.map uv, v.oneCell' = true := by
  intro v hv; obtain ⟨x, _, rfl⟩ := List.mem_map.1 hv; rfl
theorem under8 : Tryd.prog.underlying 47 = some (.array 8 40) := by kernel_rfl
theorem size8 : (Tryd.prog.info? 47).map (·.size) = some 8 := by kernel_rfl
theorem sizeU64 : (Tryd.prog.info? 40).map (·.size) = some 1 := by kernel_rfl
theorem zero8 (w : World) : (zeroValue 47).run Tryd.prog w = .ok (.agg ((List.replicate 8 (0#64)).map uv).toArray) w := by kernel_rfl
end Go.Proofs.YtcnbhpghcjcejaaDoor
