import Derived.WalkKit
import Derived.KernelRfl
namespace Go.Proofs.YtccgfabojbjmjaaGreatDoor
open Go.RowKit
def Pr (n : Nat) : Prop := 2 ≤ n ∧ ∀ d, d ∣ n → d = 1 ∨ d = n
theorem qsu (P : Nat → Prop) (k : Nat) (hk : P k) : ∃ m, P m ∧ ∀ j, j < m → ¬ P j := by
 induction k using Nat.strongRecOn with
 | _ k ih =>
  by_cases h : ∃ j, j < k ∧ P j
  ·
   obtain ⟨j, hj, hp⟩ := h
   exact ih j hj hp
  · exact ⟨k, hk, fun j hj hp => h ⟨j, hj, hp⟩⟩
theorem qfV (m : Nat) (hm : 2 ≤ m) : ∃ r, Pr r ∧ r ∣ m := by
 obtain ⟨r, ⟨h2, hd⟩, hl⟩ := qsu (fun r => 2 ≤ r ∧ r ∣ m) m ⟨hm, Nat.dvd_refl m⟩
 refine ⟨r, ⟨h2, fun d hdr => ?_⟩, hd⟩
 have hle : d ≤ r := Nat.le_of_dvd (by omega) hdr
 have h0 : d ≠ 0 := by intro h; subst h; have := Nat.eq_zero_of_zero_dvd hdr; omega
 by_cases h1 : d = 1
 · exact .inl h1
 ·
  right
  rcases Nat.lt_or_ge d r with g | g
  · exact absurd ⟨by omega, Nat.dvd_trans hdr hd⟩ (hl d g)
  · omega
theorem Pr.dvd_mul {r a b : Nat} (hr : Pr r) (h : r ∣ a * b) : r ∣ a ∨ r ∣ b := by
 rcases hr.2 (Nat.gcd r a) (Nat.gcd_dvd_left r a) with g | g
 · exact .inr (Nat.Coprime.dvd_of_dvd_mul_left g h)
 · exact .inl (g ▸ Nat.gcd_dvd_right r a)
def qsG : List Nat → Nat
 | [] => 1
 | x :: l => x * qsG l
theorem Pr.dvd_prod {r : Nat} (hr : Pr r) : ∀ (l : List Nat), r ∣ qsG l → ∃ x ∈ l, r ∣ x
 | [], h => by
  have h' : r ∣ 1 := h
  have := Nat.le_of_dvd (by decide) h'; have := hr.1; omega
 | x :: l, h => by
  rcases hr.dvd_mul h with g | g
  · exact ⟨x, List.mem_cons_self, g⟩
  ·
   obtain ⟨y, hy, hd⟩ := Pr.dvd_prod hr l g
   exact ⟨y, List.mem_cons_of_mem _ hy, hd⟩
theorem qo8 : ∀ (m : Nat) (f : Nat → Nat), (∀ i, i < m → f i < m) → (∀ i j, i < m → j < m → f i = f j → i = j) → ∀ b, b < m → ∃ i, i < m ∧ f i = b
 | 0, _, _, _, b, hb => by omega
 | m + 1, f, hf, hi, b, hb => by
  have hc := hf m (by omega)
  by_cases hbc : b = f m
  · exact ⟨m, by omega, hbc.symm⟩
  ·
   have hg : ∀ i, i < m → (if f i = m then f m else f i) < m := by
    intro i h
    have h1 := hf i (by omega)
    have h2 : f i ≠ f m := fun e => by have := hi i m (by omega) (by omega) e; omega
    split <;> omega
   have hgi : ∀ i j, i < m → j < m → (if f i = m then f m else f i) = (if f j = m then f m else f j) → i = j := by
    intro i j h1 h2 e
    have h3 : f i ≠ f m := fun e => by have := hi i m (by omega) (by omega) e; omega
    have h4 : f j ≠ f m := fun e => by have := hi j m (by omega) (by omega) e; omega
    apply hi i j (by omega) (by omega)
    split at e <;> split at e <;> omega
   have ih := qo8 m (fun i => if f i = m then f m else f i) hg hgi
   by_cases hbm : b = m
   ·
    have hcm : f m < m := by omega
    obtain ⟨i, h1, h2⟩ := ih (f m) hcm
    refine ⟨i, by omega, ?_⟩
    by_cases h3 : f i = m
    · omega
    ·
     have e : f i = f m := by simpa [h3] using h2
     have := hi i m (by omega) (by omega) e; omega
   ·
    obtain ⟨i, h1, h2⟩ := ih b (by omega)
    refine ⟨i, by omega, ?_⟩
    by_cases h3 : f i = m
    ·
     have e : f m = b := by simpa [h3] using h2
     omega
    · simpa [h3] using h2
theorem qdW {a n m : Nat} (h : a ^ m % n = 1 % n) (q : Nat) : a ^ (m * q) % n = 1 % n := by
 rw [Nat.pow_mul, Nat.pow_mod, h, ← Nat.pow_mod, Nat.one_pow]
theorem quD (n a : Nat) (hn : 2 ≤ n) (fs : List Nat) (hp : ∀ r ∈ fs, Pr r) (hprod : qsG fs = n - 1) (h1 : a ^ (n - 1) % n = 1) (h2 : ∀ r ∈ fs, a ^ ((n - 1) / r) % n ≠ 1) :
  ∀ b, b % n ≠ 0 → ∃ k, b % n = a ^ k % n := by
 have e1 : 1 % n = 1 := Nat.mod_eq_of_lt (by omega)
 obtain ⟨o, ⟨o0, o1⟩, ol⟩ := qsu (fun k => 0 < k ∧ a ^ k % n = 1) (n - 1) ⟨by omega, h1⟩
 have odvd : ∀ m, a ^ m % n = 1 → o ∣ m := by
  intro m hm
  have hq : a ^ (o * (m / o)) % n = 1 % n := qdW (by rw [o1, e1]) _
  have hr : a ^ (m % o) % n = 1 := by
   have e := Nat.div_add_mod m o
   rw [← e, Nat.pow_add, Nat.mul_mod, hq, e1, Nat.one_mul, Nat.mod_mod] at hm
   exact hm
  rcases Nat.eq_zero_or_pos (m % o) with g | g
  · exact Nat.dvd_of_mod_eq_zero g
  · exact absurd ⟨g, hr⟩ (ol _ (Nat.mod_lt _ o0))
 have full : o = n - 1 := by
  obtain ⟨m, hm⟩ := odvd _ h1
  rcases Nat.lt_or_ge m 2 with g | g
  ·
   have : m = 1 := by
    rcases Nat.lt_or_ge m 1 with g' | g'
    ·
     have : m = 0 := by omega
     rw [this] at hm; omega
    · omega
   rw [this] at hm; omega
  ·
   obtain ⟨r, hr, hrm⟩ := qfV m g
   have hrn : r ∣ qsG fs := by rw [hprod, hm]; exact Nat.dvd_mul_left_of_dvd hrm o
   obtain ⟨f, hf, hrf⟩ := hr.dvd_prod fs hrn
   have ef : r = f := by
    rcases (hp f hf).2 r hrf with g' | g'
    · have := hr.1; omega
    · exact g'
   obtain ⟨s, hs⟩ := hrm
   have hdiv : (n - 1) / f = o * s := by
    rw [hm, hs, ← ef, ← Nat.mul_assoc, Nat.mul_right_comm, Nat.mul_div_cancel _ (by have := hr.1; omega)]
   have := h2 f hf
   rw [hdiv] at this
   exact absurd ((qdW (by rw [o1, e1]) s).trans e1) this
 have unit : ∀ i, i ≤ n - 1 → a ^ i * a ^ (n - 1 - i) % n = 1 := by
  intro i hi
  rw [← Nat.pow_add, show i + (n - 1 - i) = n - 1 by omega]; exact h1
 have nz : ∀ i, i < n - 1 → a ^ i % n ≠ 0 := by
  intro i hi h
  have := unit i (by omega)
  rw [Nat.mul_mod, h, Nat.zero_mul] at this
  simp at this
 have inj : ∀ i j, i < n - 1 → j < n - 1 → a ^ i % n = a ^ j % n → i = j := by
  have half : ∀ i j, i ≤ j → j < n - 1 → a ^ i % n = a ^ j % n → i = j := by
   intro i j hij hj h
   have e : a ^ (j - i) % n = 1 := by
    have e2 : a ^ j * a ^ (n - 1 - i) % n = 1 := by
     rw [Nat.mul_mod, ← h, ← Nat.mul_mod]; exact unit i (by omega)
    rw [← Nat.pow_add, show j + (n - 1 - i) = (j - i) + (n - 1) by omega, Nat.pow_add, Nat.mul_mod, h1, Nat.mul_one, Nat.mod_mod] at e2
    exact e2
   have hd := odvd _ e
   rw [full] at hd
   rcases Nat.eq_zero_or_pos (j - i) with g | g
   · omega
   · have := Nat.le_of_dvd g hd; omega
  intro i j hi hj h
  rcases Nat.le_total i j with g | g
  · exact half i j g hj h
  · exact (half j i g hi h.symm).symm
 intro b hb
 have hbn : b % n < n := Nat.mod_lt _ (by omega)
 obtain ⟨i, _, hi⟩ := qo8 (n - 1) (fun i => a ^ i % n - 1)
  (fun i hi => by have := nz i hi; have := Nat.mod_lt (a ^ i) (show 0 < n by omega); show a ^ i % n - 1 < n - 1; omega)
  (fun i j hi hj h => by have := nz i hi; have := nz j hj; exact inj i j hi hj (by have h' : a ^ i % n - 1 = a ^ j % n - 1 := h; omega))
  (b % n - 1) (by omega)
 exact ⟨i, by have := nz i ‹_›; have h' : a ^ i % n - 1 = b % n - 1 := hi; omega⟩
theorem qfz (n a : Nat) (hn : 2 ≤ n) (h1 : a ^ (n - 1) % n = 1) (hc : ∀ b, b % n ≠ 0 → ∃ k, b % n = a ^ k % n) (b : Nat) (hb : b % n ≠ 0) : b ^ (n - 1) % n = 1 := by
 obtain ⟨k, hk⟩ := hc b hb
 rw [Nat.pow_mod, hk, ← Nat.pow_mod, ← Nat.pow_mul, Nat.mul_comm, Nat.pow_mul, Nat.pow_mod, h1, Nat.one_pow]
 exact Nat.mod_eq_of_lt (by omega)
theorem qgX (n : Nat) (hn : 2 ≤ n) (hf : ∀ b, b % n ≠ 0 → b ^ (n - 1) % n = 1) : Pr n := by
 refine ⟨hn, fun d hd => ?_⟩
 have hle := Nat.le_of_dvd (by omega) hd
 rcases Nat.lt_or_ge d n with g | g
 ·
  left
  have h0 : d ≠ 0 := by intro h; subst h; have := Nat.eq_zero_of_zero_dvd hd; omega
  have h := hf d (by rw [Nat.mod_eq_of_lt g]; exact h0)
  have d1 : d ∣ d ^ (n - 1) := by
   conv => lhs; rw [← Nat.pow_one d]
   exact Nat.pow_dvd_pow d (by omega)
  have d2 : d ∣ 1 := by
   have e := Nat.div_add_mod (d ^ (n - 1)) n
   rw [h] at e
   have : d ∣ n * (d ^ (n - 1) / n) := Nat.dvd_mul_right_of_dvd hd _
   exact (Nat.dvd_add_right this).1 (by rw [e]; exact d1)
  exact Nat.dvd_one.1 d2
 · right; omega
def pm (n : Nat) : Nat → Nat → Nat → Nat
 | 0, _, _ => 1 % n
 | f + 1, b, e => if e = 0 then 1 % n else if e % 2 = 1 then b * pm n f (b * b % n) (e / 2) % n else pm n f (b * b % n) (e / 2)
theorem qnx (n : Nat) : ∀ (f b e : Nat), e < 2 ^ f → pm n f b e = b ^ e % n
 | 0, b, e, h => by
  have : e = 0 := by simp at h; exact h
  subst this; simp [pm]
 | f + 1, b, e, h => by
  have ih := qnx n f (b * b % n) (e / 2) (by rw [Nat.pow_succ] at h; omega)
  have e0 : (b * b % n) ^ (e / 2) % n = b ^ (2 * (e / 2)) % n := by
   rw [← Nat.pow_mod, Nat.pow_mul, Nat.pow_two]
  unfold pm
  split
  · rename_i h0; subst h0; simp
  ·
   split
   ·
    rename_i h1
    rw [ih, e0, Nat.mul_mod, Nat.mod_mod, ← Nat.mul_mod, ← Nat.pow_succ', show (2 * (e / 2)).succ = e by omega]
   ·
    rename_i h1
    rw [ih, e0, show 2 * (e / 2) = e by omega]
def qnd (n : Nat) : Nat → Nat → Bool
 | 0, _ => true
 | f + 1, d => n % d != 0 && qnd n f (d + 1)
theorem qhV (n : Nat) : ∀ (f d : Nat), qnd n f d = true → ∀ x, d ≤ x → x < d + f → ¬ x ∣ n
 | 0, _, _, _, h1, h2, _ => by omega
 | f + 1, d, h, x, h1, h2, hx => by
  simp only [qnd, Bool.and_eq_true, bne_iff_ne] at h
  rcases Nat.lt_or_ge d x with g | g
  · exact qhV n f (d + 1) h.2 x (by omega) (by omega) hx
  ·
   have : x = d := by omega
   subst this
   exact h.1 (Nat.mod_eq_zero_of_dvd hx)
theorem Zv (n f : Nat) (hn : 2 ≤ n) (h : qnd n f 2 = true) (hf : n < (f + 2) * (f + 2)) : Pr n := by
 refine ⟨hn, fun d hd => ?_⟩
 obtain ⟨c, hc⟩ := hd
 have small : ∀ x, 2 ≤ x → x < f + 2 → ¬ x ∣ n := fun x h1 h2 => qhV n f 2 h x h1 (by omega)
 have hd0 : d ≠ 0 := by intro h; subst h; simp at hc; omega
 have hc0 : c ≠ 0 := by intro h; subst h; simp at hc; omega
 by_cases h1 : d = 1
 · exact .inl h1
 ·
  right
  by_cases h2 : c = 1
  · rw [hc, h2, Nat.mul_one]
  ·
   exfalso
   rcases Nat.lt_or_ge d (f + 2) with g | g
   · exact small d (by omega) g ⟨c, hc⟩
   ·
    rcases Nat.lt_or_ge c (f + 2) with g' | g'
    · exact small c (by omega) g' ⟨d, by rw [hc, Nat.mul_comm]⟩
    ·
     have := Nat.mul_le_mul g g'
     omega
theorem qho (n a f : Nat) (fs : List Nat) (hn : 2 ≤ n) (hp : ∀ r ∈ fs, Pr r) (hprod : qsG fs = n - 1) (hf : n - 1 < 2 ^ f) (h1 : pm n f a (n - 1) = 1) (h2 : (fs.all fun r => pm n f a ((n - 1) / r) != 1) = true) :
  Pr n ∧ ∀ b, b % n ≠ 0 → b ^ (n - 1) % n = 1 := by
 have h1' : a ^ (n - 1) % n = 1 := by rw [← qnx n f a _ hf]; exact h1
 have hc := quD n a hn fs hp hprod h1' (fun r hr => by
  have := List.all_eq_true.1 h2 r hr
  rw [bne_iff_ne, qnx n f a _ (Nat.lt_of_le_of_lt (Nat.div_le_self _ _) hf)] at this
  exact this)
 have hfm := fun b hb => qfz n a hn h1' hc b hb
 exact ⟨qgX n hn hfm, hfm⟩
def P : Nat := 57896044618658097711785492504343953926634992332820282019728792003956564819949
theorem pr2 : Pr 2 := Zv 2 0 (by decide) (by decide +kernel) (by decide)
theorem pr3 : Pr 3 := Zv 3 0 (by decide) (by decide +kernel) (by decide)
theorem pr5 : Pr 5 := Zv 5 1 (by decide) (by decide +kernel) (by decide)
theorem pr7 : Pr 7 := Zv 7 1 (by decide) (by decide +kernel) (by decide)
theorem qv6 : Pr 13 := Zv 13 2 (by decide) (by decide +kernel) (by decide)
theorem qvZ : Pr 19 := Zv 19 3 (by decide) (by decide +kernel) (by decide)
theorem qvR : Pr 31 := Zv 31 4 (by decide) (by decide +kernel) (by decide)
theorem qv2 : Pr 47 := Zv 47 5 (by decide) (by decide +kernel) (by decide)
theorem qva : Pr 107 := Zv 107 9 (by decide) (by decide +kernel) (by decide)
theorem qux : Pr 127 := Zv 127 10 (by decide) (by decide +kernel) (by decide)
theorem quX : Pr 223 := Zv 223 13 (by decide) (by decide +kernel) (by decide)
theorem quJ : Pr 353 := Zv 353 17 (by decide) (by decide +kernel) (by decide)
theorem qs9 : Pr 2437 := Zv 2437 48 (by decide) (by decide +kernel) (by decide)
theorem qs7 : Pr 4153 := Zv 4153 63 (by decide) (by decide +kernel) (by decide)
theorem qrv : Pr 57467 := Zv 57467 238 (by decide) (by decide +kernel) (by decide)
theorem qpE : Pr 65147 := Zv 65147 254 (by decide) (by decide +kernel) (by decide)
theorem qql : Pr 75707 := Zv 75707 274 (by decide) (by decide +kernel) (by decide)
theorem qnC : Pr 132049 := Zv 132049 362 (by decide) (by decide +kernel) (by decide)
theorem qob : Pr 430751 := Zv 430751 655 (by decide) (by decide +kernel) (by decide)
theorem qox : Pr 569003 := Zv 569003 753 (by decide) (by decide +kernel) (by decide)
theorem qlt : Pr 1923133 := Zv 1923133 1385 (by decide) (by decide +kernel) (by decide)
theorem qmy : Pr 8574133 := Zv 8574133 2927 (by decide) (by decide +kernel) (by decide)
theorem prA : Pr 2773320623 := (qho 2773320623 5 32 [2, 2437, 569003] (by decide) (by intro r hr; simp at hr; rcases hr with rfl | rfl | rfl <;> first | exact pr2 | exact qs9 | exact qox) (by decide +kernel) (by decide +kernel) (by decide +kernel) (by decide +kernel)).1
theorem prB : Pr 72106336199 := (qho 72106336199 7 37 [2, 13, 2773320623] (by decide) (by intro r hr; simp at hr; rcases hr with rfl | rfl | rfl <;> first | exact pr2 | exact qv6 | exact prA) (by decide +kernel) (by decide +kernel) (by decide +kernel) (by decide +kernel)).1
theorem prC : Pr 1919519569386763 := (qho 1919519569386763 2 51 [2, 3, 7, 19, 47, 47, 127, 8574133] (by decide) (by intro r hr; simp at hr; rcases hr with rfl | rfl | rfl | rfl | rfl | rfl | rfl <;> first | exact pr2 | exact pr3 | exact pr7 | exact qvZ | exact qv2 | exact qux | exact qmy) (by decide +kernel) (by decide +kernel) (by decide +kernel) (by decide +kernel)).1
theorem prD : Pr 31757755568855353 := (qho 31757755568855353 10 55 [2, 2, 2, 3, 31, 107, 223, 4153, 430751] (by decide) (by intro r hr; simp at hr; rcases hr with rfl | rfl | rfl | rfl | rfl | rfl | rfl <;> first | exact pr2 | exact pr3 | exact qvR | exact qva | exact quX | exact qs7 | exact qob) (by decide +kernel) (by decide +kernel) (by decide +kernel) (by decide +kernel)).1
theorem prE : Pr 75445702479781427272750846543864801 := (qho 75445702479781427272750846543864801 7 117 [2, 2, 2, 2, 2, 3, 3, 5, 5, 75707, 72106336199, 1919519569386763] (by decide) (by intro r hr; simp at hr; rcases hr with rfl | rfl | rfl | rfl | rfl | rfl <;> first | exact pr2 | exact pr3 | exact pr5 | exact qql | exact prB | exact prC) (by decide +kernel) (by decide +kernel) (by decide +kernel) (by decide +kernel)).1
theorem prF : Pr 74058212732561358302231226437062788676166966415465897661863160754340907 := (qho 74058212732561358302231226437062788676166966415465897661863160754340907 2 236 [2, 3, 353, 57467, 132049, 1923133, 31757755568855353, 75445702479781427272750846543864801] (by decide) (by intro r hr; simp at hr; rcases hr with rfl | rfl | rfl | rfl | rfl | rfl | rfl | rfl <;> first | exact pr2 | exact pr3 | exact quJ | exact qrv | exact qnC | exact qlt | exact prD | exact prE) (by decide +kernel) (by decide +kernel) (by decide +kernel) (by decide +kernel)).1
theorem prP : Pr P ∧ ∀ b, b % P ≠ 0 → b ^ (P - 1) % P = 1 := qho P 2 255 [2, 2, 3, 65147, 74058212732561358302231226437062788676166966415465897661863160754340907] (by decide +kernel) (by intro r hr; simp at hr; rcases hr with rfl | rfl | rfl | rfl <;> first | exact pr2 | exact pr3 | exact qpE | exact prF) (by decide +kernel) (by decide +kernel) (by decide +kernel) (by decide +kernel)
end Go.Proofs.YtccgfabojbjmjaaGreatDoor
