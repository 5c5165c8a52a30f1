import Derived.Test.YtemdlpcljjdfjaaDoorPtMul
import Derived.Test.YtemdlpcljjdfjaaDoorDec
import Derived.Test.YtemdlpcljjdfjaaDoorLatTm
import Derived.Test.YtemdlpcljjdfjaaDoorAddsW
import Derived.Test.YtemdlpcljjdfjaaDoorKeep
/- A point's code leads back to it: the root that is looked for is there. Plain mathematics. -/
namespace Go.Proofs.YtemdlpcljjdfjaaDoor
theorem E8_two : (E8 + 1) + (E8 + 1) = 1 + Qt := by decide +kernel
theorem Qt_two : Qt + Qt = Hf := by decide +kernel
theorem pm_one {t : Nat} (ht : t < P) (h : mP t t = 1) : t = 1 ∨ t = P - 1 := by
  have e : tau t * tau t = 1 := by rw [← tau_mP, h, tau_one]
  have e2 : (tau t - 1) * (tau t + 1) = 0 := by generalize tau t = x at *; grind
  by_cases h1 : tau t - 1 = 0
  · left
    apply tau_inj ht (by decide)
    rw [tau_one]
    generalize tau t = x at *; grind
  · right
    have h2 : tau t + 1 = 0 := by
      by_cases h2 : tau t + 1 = 0
      · exact h2
      · exact absurd e2 (ne_mul h1 h2)
    apply tau_inj ht (by decide)
    have e3 : tau (P - 1) + 1 = 0 := by
      rw [← tau_one, ← tau_aP]; apply Fin.ext; decide +kernel
    generalize tau (P - 1) = m at *
    generalize tau t = x at *; grind
theorem mP_neg {w : Nat} (hw : w < P) : mP w (P - 1) = sP 0 w := by
  apply tau_inj (mP_lt _ _) (sP_lt _ _)
  have e3 : tau (P - 1) + 1 = 0 := by
    rw [← tau_one, ← tau_aP]; apply Fin.ext; decide +kernel
  have e4 := opp_e hw
  rw [tau_mP]
  generalize tau (P - 1) = m at *
  generalize tau (sP 0 w) = s at *
  generalize tau w = x at *; grind
/-- What is a square has a root. -/
theorem root_there {u v x : Nat} (hu : u < P) (hv : v < P) (h0 : v % P ≠ 0) (hx : x < P) (h : mP (mP x x) v = u) : rootB u v = true := by
  have hw : mP u (invN v) = mP x x := by rw [← h, mP_assoc, mP_inv h0, mP_one (mP_lt _ _)]
  unfold rootB
  apply decide_eq_true
  rw [test_one hu h0, test_two hu h0, root_same hu hv h0, ← pwP_add, E8_two, pwP_add, pwP_one (mP_lt _ _), hw, pwP_mP, ← pwP_add, Qt_two]
  by_cases hz : x = 0
  · left
    subst hz
    have e0 : mP 0 0 = 0 := by decide +kernel
    have e1 : ∀ t, mP 0 t = 0 := fun t => by unfold mP; rw [Nat.zero_mul, Nat.zero_mod]
    rw [e0, e1]
  · have hm : x % P ≠ 0 := by rw [Nat.mod_eq_of_lt hx]; exact hz
    have ht : mP (pwP x Hf) (pwP x Hf) = 1 := by rw [← pwP_add, Hf_two, show pwP x (P - 1) = 1 from fermat hm]
    rcases pm_one (pwP_lt _ _) ht with e | e
    · left; rw [e, mP_one (mP_lt _ _)]
    · right; rw [e, mP_neg (mP_lt _ _)]
theorem root_sq' {u v : Nat} (hu : u < P) (hb : rootB u v = true) : tau (rootV u v) * tau (rootV u v) * tau v = tau u := by
  unfold rootB at hb
  have hb := of_decide_eq_true hb
  unfold rootV
  by_cases h1 : sqrN u v = u
  · rw [if_pos h1]
    have e : tau (sqrN u v) = tau u := by rw [h1]
    unfold sqrN at e
    rw [tau_mP, tau_mP] at e
    exact e
  · rw [if_neg h1]
    have h2 := hb.resolve_left h1
    rw [if_pos h2]
    have e : tau (sqrN u v) = tau (sP 0 u) := by rw [h2]
    unfold sqrN at e
    rw [tau_mP, tau_mP] at e
    rw [tau_mP]
    have e1 := rm_e
    have e2 := opp_e hu
    generalize tau (rtN u v) = t at *
    generalize tau rmN = r at *
    generalize tau (sP 0 u) = m at *
    generalize tau u = uu at *
    generalize tau v = vv at *
    grind
theorem root_two (r x v u : Fin P) (hv : v ≠ 0) (h1 : r * r * v = u) (h2 : x * x * v = u) : r = x ∨ r + x = 0 := by
  have e : (r - x) * (r + x) * v = 0 := by grind
  by_cases h : r - x = 0
  · left; grind
  · right
    by_cases h3 : r + x = 0
    · exact h3
    · exact absurd e (ne_mul (ne_mul h h3) hv)
/-- The root that has x's parity is x. -/
theorem xs_of {x y : Nat} (hx : x < P) (h : mP (mP x x) (vN y) = uN y) : rootB (uN y) (vN y) = true ∧ xsN y (decide (x % 2 = 1)) = x := by
  have hu : uN y < P := sP_lt _ _
  have hv : vN y < P := aP_lt _ _
  have h0 := vN_ne y
  have hb := root_there hu hv h0 hx h
  refine ⟨hb, ?_⟩
  have hr := root_sq' hu hb
  have hl := rootV_lt (uN y) (vN y)
  have hx2 : tau x * tau x * tau (vN y) = tau (uN y) := by rw [← h, tau_mP, tau_mP]
  have hv0 : tau (vN y) ≠ 0 := by
    intro e
    have := (tau_zero_iff hv).1 e
    rw [this] at h0
    exact h0 rfl
  unfold xsN
  generalize rootV (uN y) (vN y) = r at *
  rcases root_two _ _ _ _ hv0 hr hx2 with e | e
  · have e2 : r = x := tau_inj hl hx e
    subst e2
    rw [if_neg (by simp)]
  · have e3 : r = sP 0 x := by
      apply tau_inj hl (sP_lt _ _)
      have e4 := opp_e hx
      generalize tau (sP 0 x) = m at *
      generalize tau r = rr at *
      generalize tau x = xx at *
      grind
    by_cases hz : x = 0
    · subst hz
      rw [opp_zero] at e3
      subst e3
      decide
    · have hp := opp_odd hx hz
      have hne : (decide (r % 2 = 1) != decide (x % 2 = 1)) = true := by
        rw [e3]
        by_cases h1 : x % 2 = 1
        · rw [decide_eq_true h1, decide_eq_false (by rw [hp]; omega)]; rfl
        · rw [decide_eq_false h1, decide_eq_true (by rw [hp]; omega)]; rfl
      rw [if_pos hne, e3]
      apply tau_inj (sP_lt _ _) hx
      have e5 := opp_e (sP_lt 0 x)
      have e6 := opp_e hx
      generalize tau (sP 0 (sP 0 x)) = m at *
      generalize tau (sP 0 x) = n at *
      generalize tau x = xx at *
      grind
end Go.Proofs.YtemdlpcljjdfjaaDoor
/- A point's code is decoded to that point. Plain mathematics. -/
namespace Go.Proofs.YtemdlpcljjdfjaaDoor
/-- The number of a point's code. -/
def cdG (a : G) : Nat := codeN a.y.val (decide (a.x.val % 2 = 1))
theorem codeN_lt {y : Nat} (hy : y < P) (odd : Bool) : codeN y odd < 115792089237316195423570985008687907853269984665640564039457584007913129639936 := by
  unfold codeN; rw [P_val] at hy; cases odd <;> simp <;> omega
theorem codeN_y {y : Nat} (hy : y < P) (odd : Bool) : dcY (codeN y odd) = y := by
  unfold dcY codeN; rw [P_val] at hy; cases odd <;> simp <;> omega
theorem codeN_o {y : Nat} (hy : y < P) (odd : Bool) : dcO (codeN y odd) = odd := by
  unfold dcO codeN; rw [P_val] at hy; cases odd <;> simp <;> omega
theorem on_of' (d x y : Fin P) (h : y * y = 1 + x * x + d * (x * x) * (y * y)) : x * x * (y * y * d + 1) = y * y - 1 := by grind
theorem G_root (a : G) : mP (mP a.x.val a.x.val) (vN a.y.val) = uN a.y.val := by
  have hu : uN a.y.val < P := sP_lt _ _
  apply tau_inj (mP_lt _ _) hu
  have h := on_of' dK a.x a.y a.on
  rw [tau_mP, tau_mP, tau_val]
  have e1 : tau (vN a.y.val) = a.y * a.y * dK + 1 := by
    unfold vN dK; rw [tau_aP, tau_mP, tau_mP, tau_one, tau_val]
  have e2 : tau (uN a.y.val) = a.y * a.y - 1 := by
    unfold uN; rw [tau_sP _ _ one_lt, tau_mP, tau_one, tau_val]
  rw [e1, e2]; exact h
/-- THE CODE LEADS BACK. -/
theorem dec_code (a : G) : dcB (cdG a) = true ∧ dcP (cdG a) = ptOf a.x.val a.y.val := by
  obtain ⟨hb, hx⟩ := xs_of a.x.isLt (G_root a)
  have hy := a.y.isLt
  have o1 : ofbB a.y.val = true := by unfold ofbB; exact decide_eq_true hy
  have o2 : ofbV a.y.val = a.y.val := by unfold ofbV; rw [if_pos hy]
  have h1 : dcB (cdG a) = true := by
    unfold dcB cdG
    rw [codeN_y hy, codeN_o hy, o1, o2, Bool.true_and]
    unfold xofB
    rw [if_pos hb, hx]
    simp
  refine ⟨h1, ?_⟩
  unfold dcP
  rw [if_pos h1]
  unfold cdG
  rw [codeN_y hy, codeN_o hy, o2]
  unfold xofV
  rw [if_pos hb, hx]
theorem cdG_lt (a : G) : cdG a < 115792089237316195423570985008687907853269984665640564039457584007913129639936 := codeN_lt a.y.isLt _
end Go.Proofs.YtemdlpcljjdfjaaDoor
/- Texts of points: what Add and Times make of them. Plain mathematics. -/
namespace Go.Proofs.YtemdlpcljjdfjaaDoor
/-- A point's text. -/
def cdT (a : G) : ByteArray := strOf (leB (cdG a) 32)
theorem strOf_size32 (n : Nat) : (strOf (leB n 32)).size = 32 := leB_length n 32
theorem cdT_size (a : G) : (cdT a).size = 32 := strOf_size32 _
theorem bytesOf_strOf' (l : List UInt8) : bytesOf (strOf l) = l := by unfold bytesOf strOf; simp
theorem ksN_cd (n : Nat) (h : n < 115792089237316195423570985008687907853269984665640564039457584007913129639936) : ksN (strOf (leB n 32)) = n := by
  rw [ks_32 (strOf_size32 n), bytesOf_strOf', valLE_leB n h]
theorem cdT_po (a : G) : poB (cdT a) = true ∧ RP (poP (cdT a)) a := by
  obtain ⟨h1, h2⟩ := dec_code a
  have hk : ksN (cdT a) = cdG a := ksN_cd _ (cdG_lt a)
  have ho : ksO (cdT a) = true := decide_eq_true (cdT_size a)
  have hb : poB (cdT a) = true := by unfold poB; rw [ho, hk, h1]; rfl
  refine ⟨hb, ?_⟩
  unfold poP
  rw [if_pos hb, hk, h2]
  have hon : OnC (tau a.x.val) (tau a.y.val) := by rw [tau_val, tau_val]; exact a.on
  have := RP_of a.x.isLt a.y.isLt hon
  rwa [show (⟨tau a.x.val, tau a.y.val, hon⟩ : G) = a from G.ext' (tau_val _) (tau_val _)] at this
theorem po_G {s : ByteArray} (h : poB s = true) : ∃ a : G, RP (poP s) a := by
  have hd : dcB (ksN s) = true := by
    unfold poB at h
    rw [Bool.and_eq_true] at h
    exact h.2
  obtain ⟨x, y, hx, hy, ho, e⟩ := dcP_on hd
  exact ⟨_, by unfold poP; rw [if_pos h, e]; exact RP_of hx hy ho⟩
/-- THE SUM's TEXT. -/
theorem lAdd_G {s t : ByteArray} {a b : G} (hs : poB s = true) (ht : poB t = true) (ha : RP (poP s) a) (hb : RP (poP t) b) : lAddS s t = cdT (gAdd a b) ∧ lAddE s t = 0 := by
  obtain ⟨e1, e2⟩ := lAdd_yes (s := s) (t := t) (by rw [hs, ht]; rfl)
  refine ⟨?_, e2⟩
  rw [e1, code_RP (RP_add ha hb)]; rfl
theorem add_cd (a b : G) : lAddS (cdT a) (cdT b) = cdT (gAdd a b) ∧ lAddE (cdT a) (cdT b) = 0 := lAdd_G (cdT_po a).1 (cdT_po b).1 (cdT_po a).2 (cdT_po b).2
/-- THE MULTIPLE's TEXT. -/
theorem lTm_G {s p : ByteArray} {a : G} (hs : s.size = 32) (hp : poB p = true) (ha : RP (poP p) a) : lTmS s p = cdT (gMul (valLE (bytesOf s)) a) ∧ lTmE s p = 0 := by
  have hd : ksO p = true ∧ dcB (ksN p) = true := by
    unfold poB at hp
    rw [Bool.and_eq_true] at hp
    exact hp
  have hB : lTmB s p = true := by unfold lTmB; rw [hd.1, hd.2, show ksO s = true from decide_eq_true hs]; rfl
  have hr : RP (mlP (pwN (poP p)) (valLE (bytesOf s)) 64) (gMul (valLE (bytesOf s)) a) := by
    refine RP_times ha ?_
    rw [← ks_32 hs]; exact ksN_lt s
  refine ⟨?_, ?_⟩
  · unfold lTmS
    rw [if_pos hB, ks_32 hs, pofF_yes hd.2, show dcP (ksN p) = poP p by unfold poP; rw [if_pos hp], code_RP hr]; rfl
  · unfold lTmE
    rw [show ksO s = true from decide_eq_true hs, if_neg (by decide), if_pos hB]
theorem tm_cd {s : ByteArray} (hs : s.size = 32) (a : G) : lTmS s (cdT a) = cdT (gMul (valLE (bytesOf s)) a) ∧ lTmE s (cdT a) = 0 := lTm_G hs (cdT_po a).1 (cdT_po a).2
/-! ### The texts that are written out -/
theorem cdG_zero : cdG g0 = 1 := by
  unfold cdG g0 codeN
  show (if decide ((0 : Fin P).val % 2 = 1) = true then _ else _) = 1
  rw [show decide ((0 : Fin P).val % 2 = 1) = false from by decide +kernel, if_neg (by decide)]
  decide +kernel
theorem zT_def : zT = strOf (padB ⟨#[1]⟩ 32) := rfl
theorem zT_cd : zT = cdT g0 := by
  unfold cdT
  rw [cdG_zero]
  have e : ∀ a b : ByteArray, a.data = b.data → a = b := by intro a b h; cases a; cases b; simpa using h
  apply e
  decide +kernel
theorem bT_bs : strOf bT = bs 31 := rfl
theorem pad_size (s : ByteArray) (n : Nat) : (strOf (padB s n)).size = n := padB_len s n
theorem pad_bytes (s : ByteArray) (n : Nat) : bytesOf (strOf (padB s n)) = padB s n := bytesOf_strOf' _
def e32 : ByteArray := strOf (padB ⟨#[]⟩ 32)
def e31 : ByteArray := strOf (padB ⟨#[]⟩ 31) ++ ⟨#[128]⟩
theorem e32_val : valLE (bytesOf e32) = 0 := by decide +kernel
theorem zT_val : valLE (bytesOf zT) = 1 := by decide +kernel
theorem e32_po : poB e32 = true := by decide +kernel
theorem e31_po : poB e31 = true := by decide +kernel
theorem moT_po : poB moT = true := by decide +kernel
theorem zT_po : poB zT = true := by rw [zT_cd]; exact (cdT_po g0).1
end Go.Proofs.YtemdlpcljjdfjaaDoor
/- latchkeep: awake, point. -/
namespace Go.Proofs.YtemdlpcljjdfjaaDoor
open Go.RowKit
theorem bT_po : poB (strOf bT) = true := by rw [bT_bs]; exact dbl_B
theorem sizeStrK : (Tryd.prog.info? 9).map (·.size) = some 1 := by kernel_rfl
theorem underStrs : Tryd.prog.underlying 87 = some (.slice 9) := by kernel_rfl
theorem idxStr (g i : Nat) (hi : i < 4) (w : World) : (Instr.indexAt 87 (.slice (some ⟨g, 0, none⟩) 4 4) (.int .i64 i)).run Tryd.prog w = .ok (.pointer (some ⟨g, i, none⟩)) w := by
  cases hq : Tryd.prog.info? 9 with
  | none => have := sizeStrK; rw [hq] at this; cases this
  | some inf =>
    have hs : inf.size = 1 := by have := sizeStrK; rw [hq] at this; simpa using this
    simp [Instr.indexAt, asIntOf, run_underlying underStrs, sizeOf, typeInfo, hq, hs, Addr.add_mid]
    intro h; omega
section
attribute [local irreducible] lAddS lAddE lTmS lTmE cdT bT zT moT padB
set_option maxRecDepth 100000 in
set_option maxHeartbeats 1000000 in
theorem awakeK (w : World) (hG : GlB w) : Calls Tryd.prog 14 #[] w fun e w' => e = .returned (.bool true) ∧ Below w.heap.size w w' := by
  have HG := hide hG
  clear hG
  go_enter Tryd.func14, Tryd.ntmps14
  go_wp2_with fail
  refine (baseK _).mono ?_
  rintro e W1 ⟨rfl, hB1⟩
  have HB := hide hB1
  clear hB1
  obtain ⟨B, EB⟩ : ∃ B, Hid (B = strOf bT) := ⟨_, hide rfl⟩
  rw [← EB.out]
  go_wp2_with fail
  refine (baseK _).mono ?_
  rintro e W2 ⟨rfl, hB2⟩
  have HB : Hid (Below w.heap.size w W2) := HB.out.trans (hB2.mono HB.out.size)
  clear hB2
  rw [← EB.out]
  go_wp2_with fail
  refine (latchAddA B B _ (HG.out.keep HB.out).gl).mono ?_
  rintro e W3 ⟨rfl, hB3⟩
  have HB : Hid (Below w.heap.size w W3) := HB.out.trans (hB3.mono HB.out.size)
  clear hB3
  obtain ⟨e1, e2⟩ := dbl_S
  rw [show B = bs 31 from EB.out.trans bT_bs, e1, e2]
  unfold dblT
  go_wp2
  go_returns
  exact ⟨rfl, HB.out⟩
set_option maxRecDepth 100000 in
set_option maxHeartbeats 2000000 in
theorem pointK (c : Int) (s : ByteArray) (c0 : -9223372036854775808 ≤ c) (c1 : c ≤ 9223372036854775807) (w : World) (hG : GlB w) :
    Calls Tryd.prog 15 #[.int .i64 c, .string s] w fun e w' => (∃ a : G, e = .returned (.string (cdT a))) ∧ Below w.heap.size w w' := by
  have HG := hide hG
  clear hG
  go_enter Tryd.func15, Tryd.ntmps15
  go_wp2_with fail
  refine (bytesA' s 32 (by decide) _).mono ?_
  rintro e W1 ⟨rfl, hB1⟩
  have HB := hide hB1
  clear hB1
  obtain ⟨N, EN⟩ : ∃ B, Hid (B = strOf (padB s 32)) := ⟨_, hide rfl⟩
  rw [← EN.out]
  go_wp2_with fail
  refine (baseK _).mono ?_
  rintro e W2 ⟨rfl, hB2⟩
  have HB : Hid (Below w.heap.size w W2) := HB.out.trans (hB2.mono HB.out.size)
  clear hB2
  obtain ⟨B, EB⟩ : ∃ B, Hid (B = strOf bT) := ⟨_, hide rfl⟩
  rw [← EB.out]
  go_wp2_with fail
  refine (latchTimesA N B _ (HG.out.keep HB.out)).mono ?_
  rintro e W3 ⟨rfl, hB3⟩
  have HB : Hid (Below w.heap.size w W3) := HB.out.trans (hB3.mono HB.out.size)
  clear hB3
  obtain ⟨b, hb⟩ := po_G (s := B) (by rw [EB.out]; exact bT_po)
  obtain ⟨e1, e2⟩ := lTm_G (s := N) (p := B) (a := b) (by rw [EN.out]; exact pad_size s 32) (by rw [EB.out]; exact bT_po) hb
  rw [e1, e2]
  generalize gMul (valLE (bytesOf N)) b = a
  obtain ⟨p, Ep⟩ : ∃ p, Hid (p = cdT a) := ⟨_, hide rfl⟩
  rw [← Ep.out]
  clear e1 e2 hb
  go_wp2_with fail
  refine (pickA c 3 _ c0 c1 (by decide) (by decide)).mono ?_
  rintro e w' ⟨m, rfl, hm, rfl⟩
  by_cases h0 : m = 0
  · have b0 : ((m : Int) == 0) = true := by rw [h0]; rfl
    go_wp2_with fail
    refine (zeroK _).mono ?_
    rintro e W4 ⟨rfl, hB⟩
    have HB : Hid (Below w.heap.size w W4) := HB.out.trans (hB.mono HB.out.size)
    clear hB
    go_wp2_with fail
    refine (bytesA' ⟨#[]⟩ 32 (by decide) _).mono ?_
    rintro e W5 ⟨rfl, hB⟩
    have HB : Hid (Below w.heap.size w W5) := HB.out.trans (hB.mono HB.out.size)
    clear hB
    obtain ⟨f1, E1⟩ : ∃ p, Hid (p = e32) := ⟨_, hide rfl⟩
    rw [show strOf (padB ⟨#[]⟩ 32) = f1 from E1.out.symm]
    go_wp2_with fail
    refine (bytesA' ⟨#[]⟩ 31 (by decide) _).mono ?_
    rintro e W6 ⟨rfl, hB⟩
    have HB : Hid (Below w.heap.size w W6) := HB.out.trans (hB.mono HB.out.size)
    clear hB
    obtain ⟨t31, E31⟩ : ∃ p, Hid (p = strOf (padB ⟨#[]⟩ 31)) := ⟨_, hide rfl⟩
    rw [← E31.out]
    have hs31 : t31.size = 31 := by rw [E31.out]; exact pad_size _ _
    obtain ⟨f2, E2⟩ : ∃ p, Hid (p = e31) := ⟨_, hide rfl⟩
    have hcat : t31 ++ ⟨#[128]⟩ = f2 := by rw [E31.out, E2.out]; rfl
    go_wp2_with fail
    refine (minusOneK _).mono ?_
    rintro e w'' ⟨rfl, rfl⟩
    obtain ⟨z, Ez⟩ : ∃ p, Hid (p = zT) := ⟨_, hide rfl⟩
    obtain ⟨f3, E3⟩ : ∃ p, Hid (p = moT) := ⟨_, hide rfl⟩
    rw [← Ez.out, ← E3.out]
    go_upto_region 4 with fail
    have cq : -9223372036854775808 ≤ c.tdiv 3 ∧ c.tdiv 3 ≤ 9223372036854775807 := by
      rcases Int.le_total 0 c with h | h
      · rw [Int.tdiv_eq_ediv_of_nonneg h]; omega
      · have e : c.tdiv 3 = -((-c) / 3) := by rw [← Int.tdiv_eq_ediv_of_nonneg (by omega), Int.neg_tdiv, Int.neg_neg]
        rw [e]; omega
    obtain ⟨g, hg⟩ : ∃ g, g = w''.heap.size := ⟨_, rfl⟩
    generalize hW7 : World.alloc _ _ = W7
    have RF : Hid (W7.heap[g]? = some (.cells #[.string z, .string f1, .string f2, .string f3] 9 (0, 0))) := by rw [← hW7, hg]; exact heap_alloc_new _ _
    have HB : Hid (Below w.heap.size w W7) := by rw [← hW7]; exact HB.out.alloc HB.out.size _
    rw [← hg]
    clear hW7 hg
    go_wp2_with fail
    refine (pickA (c.tdiv 3) 4 _ cq.1 cq.2 (by decide) (by decide)).mono ?_
    rintro e w3 ⟨j, rfl, hj, rfl⟩
    have hj4 : j < 4 := by omega
    have hix := idxStr g j hj4
    obtain ⟨F, hF, hFp⟩ : ∃ F, w3.cell? ⟨g, j, none⟩ = some (.string F) ∧ Hid (poB F = true) := by
      have h4 : j = 0 ∨ j = 1 ∨ j = 2 ∨ j = 3 := by omega
      rcases h4 with rfl | rfl | rfl | rfl
      · exact ⟨z, by rw [cell_of_row w3 g 0 _ _ _ RF.out]; rfl, hide (by rw [Ez.out]; exact zT_po)⟩
      · exact ⟨f1, by rw [cell_of_row w3 g 1 _ _ _ RF.out]; rfl, hide (by rw [E1.out]; exact e32_po)⟩
      · exact ⟨f2, by rw [cell_of_row w3 g 2 _ _ _ RF.out]; rfl, hide (by rw [E2.out]; exact e31_po)⟩
      · exact ⟨f3, by rw [cell_of_row w3 g 3 _ _ _ RF.out]; rfl, hide (by rw [E3.out]; exact moT_po)⟩
    go_wp2_with fail
    refine (latchAddA p F _ (HG.out.keep HB.out).gl).mono ?_
    rintro e W8 ⟨rfl, hB⟩
    have HB : Hid (Below w.heap.size w W8) := HB.out.trans (hB.mono HB.out.size)
    clear hB
    obtain ⟨f, hf⟩ := po_G hFp.out
    obtain ⟨e1, e2⟩ := lAdd_G (s := p) (t := F) (a := a) (b := f) (by rw [Ep.out]; exact (cdT_po a).1) hFp.out (by rw [Ep.out]; exact (cdT_po a).2) hf
    rw [e1, e2]
    clear e1 e2 hf
    generalize gAdd a f = r
    obtain ⟨T, ET⟩ : ∃ T, Hid (T = cdT r) := ⟨_, hide rfl⟩
    rw [← ET.out]
    go_wp2_with fail
    go_returns
    exact ⟨⟨r, by rw [ET.out]; rfl⟩, HB.out⟩
  · have b0 : ((m : Int) == 0) = false := by rw [beq_eq_false_iff_ne]; omega
    go_wp2_with fail
    go_returns
    exact ⟨⟨a, by rw [Ep.out]; rfl⟩, HB.out⟩
end
end Go.Proofs.YtemdlpcljjdfjaaDoor
/- latchkeep.Group: the walk. -/
namespace Go.Proofs.YtemdlpcljjdfjaaDoor
open Go.RowKit
theorem addK (a b : G) (w : World) (hG : GlB w) : Calls Tryd.prog 9 #[.string (cdT a), .string (cdT b)] w fun e w' => e = .returned (.tuple #[.string (cdT (gAdd a b)), .int .i64 0]) ∧ Below w.heap.size w w' := by
  obtain ⟨e1, e2⟩ := add_cd a b
  have := latchAddA (cdT a) (cdT b) w hG.gl
  rw [e1, e2] at this
  exact this
theorem tmK {s : ByteArray} (hs : s.size = 32) {n : Nat} (hn : valLE (bytesOf s) = n) (a : G) (w : World) (hG : GlB w) : Calls Tryd.prog 11 #[.string s, .string (cdT a)] w fun e w' => e = .returned (.tuple #[.string (cdT (gMul n a)), .int .i64 0]) ∧ Below w.heap.size w w' := by
  obtain ⟨e1, e2⟩ := tm_cd hs a
  have := latchTimesA s (cdT a) w hG
  rw [e1, e2, hn] at this
  exact this
theorem zeroK' (w : World) : Calls Tryd.prog 16 #[] w fun e w' => e = .returned (.string (cdT g0)) ∧ Below w.heap.size w w' := by
  have := zeroK w
  rw [zT_cd] at this
  exact this
section
attribute [local irreducible] cdT zT padB
set_option maxRecDepth 100000 in
set_option maxHeartbeats 4000000 in
theorem group_any (c d e : Int) (s t u : ByteArray) (c0 : -9223372036854775808 ≤ c) (c1 : c ≤ 9223372036854775807) (d0 : -9223372036854775808 ≤ d) (d1 : d ≤ 9223372036854775807) (e0 : -9223372036854775808 ≤ e) (e1 : e ≤ 9223372036854775807) (w : World) (hG : GlB w) :
    Calls Tryd.prog 6 #[.int .i64 c, .string s, .int .i64 d, .string t, .int .i64 e, .string u] w fun e w' => e = .returned (.bool true) ∧ Below w.heap.size w w' := by
  have HG := hide hG
  clear hG
  go_enter Tryd.func6, Tryd.ntmps6
  go_wp2_with fail
  refine (awakeK _ HG.out).mono ?_
  rintro x W1 ⟨rfl, hB⟩
  have HB := hide hB
  clear hB
  go_wp2_with fail
  refine (pointK c s c0 c1 _ (HG.out.keep HB.out)).mono ?_
  rintro x W2 ⟨⟨p, rfl⟩, hB⟩
  have HB : Hid (Below w.heap.size w W2) := HB.out.trans (hB.mono HB.out.size)
  clear hB
  go_wp2_with fail
  refine (pointK d t d0 d1 _ (HG.out.keep HB.out)).mono ?_
  rintro x W3 ⟨⟨q, rfl⟩, hB⟩
  have HB : Hid (Below w.heap.size w W3) := HB.out.trans (hB.mono HB.out.size)
  clear hB
  go_wp2_with fail
  refine (pointK e u e0 e1 _ (HG.out.keep HB.out)).mono ?_
  rintro x W4 ⟨⟨r, rfl⟩, hB⟩
  have HB : Hid (Below w.heap.size w W4) := HB.out.trans (hB.mono HB.out.size)
  clear hB
  go_wp2_with fail
  refine (addK p q _ (HG.out.keep HB.out)).mono ?_
  rintro x W5 ⟨rfl, hB⟩
  have HB : Hid (Below w.heap.size w W5) := HB.out.trans (hB.mono HB.out.size)
  clear hB
  go_wp2_with fail
  refine (addK q p _ (HG.out.keep HB.out)).mono ?_
  rintro x W6 ⟨rfl, hB⟩
  have HB : Hid (Below w.heap.size w W6) := HB.out.trans (hB.mono HB.out.size)
  clear hB
  rw [gAdd_comm q p]
  go_wp2_with fail
  refine (addK (gAdd p q) r _ (HG.out.keep HB.out)).mono ?_
  rintro x W7 ⟨rfl, hB⟩
  have HB : Hid (Below w.heap.size w W7) := HB.out.trans (hB.mono HB.out.size)
  clear hB
  rw [gAdd_assoc p q r]
  go_wp2_with fail
  refine (addK q r _ (HG.out.keep HB.out)).mono ?_
  rintro x W8 ⟨rfl, hB⟩
  have HB : Hid (Below w.heap.size w W8) := HB.out.trans (hB.mono HB.out.size)
  clear hB
  go_wp2_with fail
  refine (addK p (gAdd q r) _ (HG.out.keep HB.out)).mono ?_
  rintro x W9 ⟨rfl, hB⟩
  have HB : Hid (Below w.heap.size w W9) := HB.out.trans (hB.mono HB.out.size)
  clear hB
  go_wp2_with fail
  refine (zeroK' _).mono ?_
  rintro x W10 ⟨rfl, hB⟩
  have HB : Hid (Below w.heap.size w W10) := HB.out.trans (hB.mono HB.out.size)
  clear hB
  go_wp2_with fail
  refine (addK p g0 _ (HG.out.keep HB.out)).mono ?_
  rintro x W11 ⟨rfl, hB⟩
  have HB : Hid (Below w.heap.size w W11) := HB.out.trans (hB.mono HB.out.size)
  clear hB
  rw [gAdd_zero p]
  go_wp2_with fail
  refine (bytesA' ⟨#[]⟩ 32 (by decide) _).mono ?_
  rintro x W12 ⟨rfl, hB⟩
  have HB : Hid (Below w.heap.size w W12) := HB.out.trans (hB.mono HB.out.size)
  clear hB
  obtain ⟨f1, E1⟩ : ∃ p, Hid (p = e32) := ⟨_, hide rfl⟩
  rw [show strOf (padB ⟨#[]⟩ 32) = f1 from E1.out.symm]
  go_wp2_with fail
  refine (tmK (s := f1) (by rw [E1.out]; exact pad_size _ _) (n := 0) (by rw [E1.out]; exact e32_val) p _ (HG.out.keep HB.out)).mono ?_
  rintro x W13 ⟨rfl, hB⟩
  have HB : Hid (Below w.heap.size w W13) := HB.out.trans (hB.mono HB.out.size)
  clear hB
  rw [gMul_zero p]
  go_wp2_with fail
  refine (bytesA' ⟨#[1]⟩ 32 (by decide) _).mono ?_
  rintro x W14 ⟨rfl, hB⟩
  have HB : Hid (Below w.heap.size w W14) := HB.out.trans (hB.mono HB.out.size)
  clear hB
  obtain ⟨f2, E2⟩ : ∃ p, Hid (p = zT) := ⟨_, hide rfl⟩
  rw [show strOf (padB ⟨#[1]⟩ 32) = f2 from (zT_def).symm.trans E2.out.symm]
  go_wp2_with fail
  refine (tmK (s := f2) (by rw [E2.out, zT_def]; exact pad_size _ _) (n := 1) (by rw [E2.out]; exact zT_val) p _ (HG.out.keep HB.out)).mono ?_
  rintro x W15 ⟨rfl, hB⟩
  have HB : Hid (Below w.heap.size w W15) := HB.out.trans (hB.mono HB.out.size)
  clear hB
  rw [gMul_one p]
  have hlen : (cdT (gAdd p q)).size = 32 := cdT_size _
  go_wp2_with fail
  refine (zeroK' _).mono ?_
  rintro x W16 ⟨rfl, hB⟩
  have HB : Hid (Below w.heap.size w W16) := HB.out.trans (hB.mono HB.out.size)
  clear hB
  go_wp2_with fail
  go_returns
  exact ⟨rfl, HB.out⟩
end
end Go.Proofs.YtemdlpcljjdfjaaDoor
/- latchkeep.Group: the row, and the card. -/
namespace Go.Proofs.YtemdlpcljjdfjaaDoor
open Go.ChangeShapes Go.WideShapes Go.ChangeAt Go.RowKit
open Go.ChangeMaps (open_string shut_string)

theorem int_in {n : Int} (h : (Lit.int .i64 n).wf = true) : -9223372036854775808 ≤ n ∧ n ≤ 9223372036854775807 := by
  simp [Lit.wf, IntKind.min, IntKind.max, IntKind.signed, IntKind.bits] at h
  omega
set_option maxRecDepth 100000 in
theorem group_contract (H : Type) (enc : TypeId × Value → H) (W : World) (base : Nat) (args : Array Value) (ds gs : List (DataW H)) (before : List MemPlace)
    (hval : ∀ (j : Nat) t v, Tryd.f6.params[j]? = some t → args[j]? = some v → Value.okWide Tryd.prog W .any base t v)
    (hW : DataW.Whole enc Tryd.prog Tryd.f6.params.toList Rows.groupSpec.vars false W args.toList ds gs before)
    (_hsz : (DataW.weightsEach Tryd.prog (Tryd.f6.params.toList ++ (OpenSpec.ofChange Rows.groupSpec).bare.plain.varTypes Tryd.prog) (ds ++ gs)).all (· ≤ reachBytes) = true)
    (hL : laidMetH Tryd.prog Rows.groupRow.laid W) :
    Calls Tryd.prog 6 args W fun e W' => ∃ v, e = .returned v ∧ Rows.groupSpec.post enc Tryd.prog Tryd.f6 false true false false W args v W' := by

  have hW' := hW
  obtain ⟨p, q, hA0, hV, rfl, hfz, hnd⟩ := hW
  have hA : DataW.TrodAll enc Tryd.prog W 0 (fun _ => true) true Tryd.f6.params.toList args.toList ds p := hA0
  rw [Tryd.params6] at hA hval
  obtain ⟨v0, vs0, d0, ds0, p0, q0, hargs, rfl, rfl, h0, r0⟩ := trodAll_cons hA
  obtain ⟨v1, vs1, d1, ds1, p1, q1, hargs1, rfl, rfl, h1, r1⟩ := trodAll_cons r0
  obtain ⟨v2, vs2, d2, ds2, p2, q2, hargs2, rfl, rfl, h2, r2⟩ := trodAll_cons r1
  obtain ⟨v3, vs3, d3, ds3, p3, q3, hargs3, rfl, rfl, h3, r3⟩ := trodAll_cons r2
  obtain ⟨v4, vs4, d4, ds4, p4, q4, hargs4, rfl, rfl, h4, r4⟩ := trodAll_cons r3
  obtain ⟨v5, vs5, d5, ds5, p5, q5, hargs5, rfl, rfl, h5, r5⟩ := trodAll_cons r4
  obtain ⟨rfl, rfl, rfl⟩ := trodAll_nil r5
  obtain rfl : args = #[v0, v1, v2, v3, v4, v5] := by cases args; simp_all
  obtain ⟨rfl, rfl⟩ := trodVars_none hV
  obtain ⟨a0, rfl, rfl, rfl, w0⟩ := open_int Tryd.underlying3 (hval 0 3 v0 rfl rfl) h0
  obtain ⟨a1, rfl, rfl, rfl, w1⟩ := open_string Tryd.underlying9 (hval 1 9 v1 rfl rfl) h1
  obtain ⟨a2, rfl, rfl, rfl, w2⟩ := open_int Tryd.underlying3 (hval 2 3 v2 rfl rfl) h2
  obtain ⟨a3, rfl, rfl, rfl, w3⟩ := open_string Tryd.underlying9 (hval 3 9 v3 rfl rfl) h3
  obtain ⟨a4, rfl, rfl, rfl, w4⟩ := open_int Tryd.underlying3 (hval 4 3 v4 rfl rfl) h4
  obtain ⟨a5, rfl, rfl, rfl, w5⟩ := open_string Tryd.underlying9 (hval 5 9 v5 rfl rfl) h5
  clear hA0
  have b0 := int_in w0
  have b2 := int_in w2
  have b4 := int_in w4
  refine (group_any a0 a2 a4 a1 a3 a5 b0.1 b0.2 b2.1 b2.2 b4.1 b4.2 W (glB_of hL (by kernel_rfl) (by kernel_rfl) (by kernel_rfl) (by kernel_rfl) (by kernel_rfl) (by kernel_rfl))).mono fun e W' ⟨he, bel⟩ => ?_
  subst he
  exact ⟨_, rfl, _, _, _, [], _, [], hW', trodAll_mk1 (shut_bool Tryd.underlying4 _), (trodAll_cons_mk (shut_int Tryd.underlying3 w0) (trodAll_cons_mk (shut_string Tryd.underlying9 w1) (trodAll_cons_mk (shut_int Tryd.underlying3 w2) (trodAll_cons_mk (shut_string Tryd.underlying9 w3) (trodAll_cons_mk (shut_int Tryd.underlying3 w4) (trodAll_cons_mk (shut_string Tryd.underlying9 w5) trodAll_mk0)))))), rfl, bel.frame _, fun h => by cases h⟩

theorem group_laid_met (os : Os) : laidMet Tryd.prog Rows.groupRow.laid ((laidWorldB os).forCall (fun _ _ => 0) ⟨#[], #[.int .i64 0, .string ByteArray.empty, .int .i64 0, .string ByteArray.empty, .int .i64 0, .string ByteArray.empty], []⟩).memory :=
  laidMet_of_run' 200 (by kernel_rfl) (by kernel_rfl)

set_option maxRecDepth 100000 in
theorem group_lifted (os : Os) (started : os.Started) (H : Type) (enc : TypeId × Value → H) (F : Stop.Interp) :
    ReturnsInHanded {} Tryd.checked os 6 .any ((OpenSpec.ofChange Rows.groupSpec).preRow enc Tryd.prog Tryd.f6 Rows.groupRow.domain false Rows.groupRow.laid) (((OpenSpec.ofChange Rows.groupSpec).at F).post enc Tryd.prog Tryd.f6 false true false false) := by
  refine returnsInHanded_of_row (C := Tryd.checked) (s := OpenSpec.ofChange Rows.groupSpec) own started (by kernel_rfl) Tryd.func6
    (witness_row_at (enc := enc) (C := Tryd.checked) false (laidWorldB os) #[.int .i64 0, .string ByteArray.empty, .int .i64 0, .string ByteArray.empty, .int .i64 0, .string ByteArray.empty] rfl (by kernel_rfl) (by kernel_rfl) (by kernel_rfl)
      (OpenSpec.preRow_of_cond (x := ([.lit (.int .i64 0), .lit (.string []), .lit (.int .i64 0), .lit (.string []), .lit (.int .i64 0), .lit (.string [])], [], [])) 8 (by kernel_rfl) (by kernel_rfl) (fun k hk => by cases hk) (by kernel_rfl) (group_laid_met os))) ?_
  intro W base args ds gs before hval hW _ _ hsz hL _ _
  exact group_contract H enc W base args ds gs before hval hW hsz hL

theorem group_said : Rows.GroupSaid :=
  OpenClaim.holds_of_cond 6 Tryd.f6 rfl rfl rfl rfl rfl rfl rfl ⟨rfl, rfl, rfl, rfl, rfl⟩ rfl rfl rfl rfl rfl (by kernel_rfl) Tryd.func6 (by kernel_rfl)
    (of_decide_eq_true (by kernel_rfl)) (by unfold Func.isWrapper; first | (rw [if_pos (by decide +kernel)]; kernel_rfl) | (rw [if_neg (by decide +kernel)]; exact ⟨rfl, rfl⟩))
    (fun os started H enc _ F => by rw [OpenClaim.pre_eq_preRow]; exact group_lifted os started H enc F)

theorem group_plain (f : FuncId) (fn : Func) (hf : Tryd.pinned.checked.prog.funcNamed "latch/latchkeep.Group" = some f) (hfn : Tryd.pinned.checked.prog.funcs[f]? = some fn) :
    false = Tryd.pinned.checked.prog.looks [] ∧ ∀ (j : Nat) t, fn.params[j]? = some t → Tryd.pinned.checked.prog.wantsStandIn t = false := by
  obtain rfl : f = 6 := Option.some.inj ((show Tryd.prog.funcNamed "latch/latchkeep.Group" = some 6 by kernel_rfl).symm.trans hf) |>.symm
  obtain rfl : fn = Tryd.f6 := (Option.some.inj (Tryd.func6.symm.trans hfn)).symm
  refine ⟨by kernel_rfl, fun j t ht => ?_⟩
  rw [Tryd.params6] at ht
  have key : (#[3, 9, 3, 9, 3, 9] : Array TypeId).all (fun t => !(Tryd.prog.wantsStandIn t)) = true := by kernel_rfl
  have := (Array.all_eq_true_iff_forall_mem.1 key) t (Array.mem_of_getElem? ht)
  have h2 : Tryd.prog.wantsStandIn t = false := by simpa using this
  exact h2

/-- THE CARD. -/
theorem group_card : Rows.GroupCardSaid :=
  Claim7.holds_tied_plain_at .later [] _ _ _ _ group_said (fun _ h => by cases h) (by kernel_rfl) (fun _ h => by cases h) group_row_tie rfl ⟨rfl, rfl⟩ (by kernel_rfl) rfl group_plain (by kernel_rfl)
#print axioms group_card
end Go.Proofs.YtemdlpcljjdfjaaDoor
