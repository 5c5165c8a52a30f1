import Derived.Test.YtccgfabojbjmjaaGreatDoorSd41
import Derived.LaidLaws
import Derived.LaidHandle
import Derived.Test.YtccgfabojbjmjaaGreatDoorSd49
namespace Go.Proofs.YtccgfabojbjmjaaGreatDoor
open Go.ChangeShapes Go.WideShapes Go.ChangeAt Go.RowKit
theorem gTabS : Tryz.prog.globalNamed "latch/digest.roundWords" = some 9 := by kernel_rfl
theorem gTabTypeS : (Tryz.prog.globals[9]?).map (·.type) = some 257 := by kernel_rfl
theorem cells80S : Tryz.prog.cellsOf 257 = 80 := by kernel_rfl
def kintsS : List Int := kws.map U
theorem laid_tabS : (Rows.laid_latch_digest_roundWords : DataW Unit) = Lib.tabData .u64 kintsS := by kernel_rfl
theorem kintsS_get (i : Nat) (h : i < 80) : kintsS.getD i 0 = U (kw i) := by
 have hl : i < kws.length := h
 simp [kintsS, kw, List.getD, List.getElem?_eq_getElem hl]
set_option maxRecDepth 100000 in
theorem tab_met {L : List (String × DataW Unit)} {W : World} (hL : laidMetH Tryz.prog L W) (hf : L.filter (fun x => x.1 == "latch/digest.roundWords") = [("latch/digest.roundWords", Rows.laid_latch_digest_roundWords)]) : Tab W := by
 have h1 : laidMetH Tryz.prog (L.filter (fun x => x.1 == "latch/digest.roundWords")) W := laidMetH.filter (fun x => x.1 == "latch/digest.roundWords") hL
 rw [hf, laid_tabS] at h1
 have t : Lib.TabIs Tryz.prog W "latch/digest.roundWords" .u64 kintsS := Lib.tabIs_of_head (rest := []) gTabS gTabTypeS under80 underU64 cells64 cells80S h1
 intro i hi
 have e := t.cell gTabS i (by show i < kintsS.length; exact hi)
 rw [kintsS_get i hi] at e
 exact e
theorem ord_met {L : List (String × DataW Unit)} {W : World} (hL : laidMetH Tryz.prog L W) (hf : L.filter (fun x => x.1 == "latch/scalar.order") = [("latch/scalar.order", Rows.laid_latch_scalar_order)]) : OrdAt W := by
 have h1 : laidMetH Tryz.prog (L.filter (fun x => x.1 == "latch/scalar.order")) W := laidMetH.filter (fun x => x.1 == "latch/scalar.order") hL
 rw [hf] at h1
 exact order_met h1
theorem gErr : Tryz.prog.globalNamed "errors.errorType" = some 3 := by kernel_rfl
theorem rtS : (Tryz.prog.cutTypes.find? (·.1 == "internal/reflectlite.rtype")).map (·.2) = some 239 := by kernel_rfl
theorem oneRowS : ((List.range 312).filter fun t => Tryz.prog.rowNamed t [101, 114, 114, 111, 114]) = [66] := by kernel_rfl
theorem sizeTS : Tryz.prog.types.size = 312 := by kernel_rfl
set_option maxRecDepth 100000 in
theorem err_met {L : List (String × DataW Unit)} {W : World} (hL : laidMetH Tryz.prog L W) (hf : L.filter (fun x => x.1 == "errors.errorType") = [("errors.errorType", Rows.laid_errors_errorType)]) : W.cell? ⟨3, 0, none⟩ = some (rtV 66) := by
 have h1 : laidMetH Tryz.prog (L.filter (fun x => x.1 == "errors.errorType")) W := laidMetH.filter (fun x => x.1 == "errors.errorType") hL
 rw [hf] at h1
 have h' : laidMet Tryz.prog [] W ∧ handlesMet Tryz.prog [("errors.errorType", Rows.laid_errors_errorType)] W := h1
 obtain ⟨name, u, ty, e1, e2, e3, e4, e5⟩ := h'.2 _ (List.mem_singleton.2 rfl)
 have en : name = [101, 114, 114, 111, 114] := (Option.some.inj e1).symm
 subst en
 obtain rfl := Option.some.inj (rtS.symm.trans e2)
 have hm : ty ∈ (List.range 312).filter fun t => Tryz.prog.rowNamed t [101, 114, 114, 111, 114] := List.mem_filter.2 ⟨List.mem_range.2 (by rw [← sizeTS]; exact e3), e4⟩
 rw [oneRowS] at hm
 obtain rfl := List.mem_singleton.1 hm
 have hh : typeHandle Tryz.prog 66 = .pointer (some ⟨13, 66, none⟩) := by kernel_rfl
 rw [hh] at e5
 simpa using World.var?_cell gErr e5 0
theorem starE : "*" ++ "errors.errorString" = "*errors.errorString" := by decide
theorem rowE (u : TypeId) (h : Tryz.prog.typeName? 3 u = some "*errors.errorString") : u = 282 :=
 typeName_ptr_named (nm := "errors.errorString") (by rw [starE]; kernel_rfl) (by kernel_rfl) (by decide) u (by rw [starE]; exact h)
theorem cellsES : Tryz.prog.cellsOf 301 = 1 := by kernel_rfl
theorem cellsStr : Tryz.prog.cellsOf 9 = 1 := by kernel_rfl
set_option maxRecDepth 100000 in
theorem sent_met {L : List (String × DataW Unit)} {W : World} {nm : String} {g : Nat} {text : List UInt8} (hL : laidMetH Tryz.prog L W) (hf : L.filter (fun x => x.1 == nm) = [(nm, .iface "*errors.errorString" (.ptr (.agg [.lit (.string text)])))]) (hg : Tryz.prog.globalNamed nm = some g) (ht : (Tryz.prog.globals[g]?).map (·.type) = some 66) :
  ∃ (a : Addr) (s : ByteArray), SentP W g a ∧ W.cell? a = some (.string s) ∧ s.data.toList = text := by
 have h1 : laidMetH Tryz.prog (L.filter (fun x => x.1 == nm)) W := laidMetH.filter (fun x => x.1 == nm) hL
 rw [hf] at h1
 have h2 : laidMet Tryz.prog [(nm, .iface "*errors.errorString" (.ptr (.agg [.lit (.string text)])))] W := h1
 obtain ⟨ps, ⟨g0, t0, cs0, f0, p0, q0, hg0, ht0, hv0, hd0, hq0, e0⟩, hnd, hrows⟩ := h2
 obtain rfl := Option.some.inj (hg.symm.trans hg0)
 obtain rfl := Option.some.inj (ht.symm.trans ht0)
 have hq0' : q0 = [] := hq0
 subst hq0'
 subst e0
 obtain ⟨l0⟩ := cs0
 have ok0 : ∀ u v, l0 = [.iface u v] → Value.okWide Tryz.prog W .any 0 u v := fun u v e => by
  subst e
  exact (hrows g 0 (by simp [MemPlace.row])).2 u v (by simpa using World.var?_cell hg0 hv0 0)
 obtain ⟨a0, s0, rfl, hc0, hs0, hz0, rfl⟩ := errorString_of_trod Tryz.underlying66 rowE Tryz.underlying282 Tryz.underlying301 rfl rfl Tryz.underlying9 cellsES cellsStr hd0 ok0
 obtain ⟨c0, t0, hb0⟩ := (hrows a0.block a0.off (by simp [MemPlace.row])).1
 exact ⟨a0, s0, ⟨by simpa [esI] using World.var?_cell hg0 hv0 0, c0, t0, hb0⟩, hc0, hs0⟩
theorem sent_ne {W : World} {a b : Addr} {s t : ByteArray} (ha : W.cell? a = some (.string s)) (hb : W.cell? b = some (.string t)) {x y : List UInt8} (hs : s.data.toList = x) (ht : t.data.toList = y) (h : x ≠ y) : a ≠ b := by
 rintro rfl
 rw [ha] at hb
 have e : s = t := by injection hb with hb; injection hb
 subst e
 exact h (hs.symm.trans ht)
set_option maxRecDepth 100000 in
theorem sents_met {L : List (String × DataW Unit)} {W : World} (hL : laidMetH Tryz.prog L W)
  (fE : L.filter (fun x => x.1 == "errors.errorType") = [("errors.errorType", Rows.laid_errors_errorType)])
  (fK : L.filter (fun x => x.1 == "latch/fault.ErrKeys") = [("latch/fault.ErrKeys", Rows.laid_latch_fault_ErrKeys)])
  (fP : L.filter (fun x => x.1 == "latch/fault.ErrPoint") = [("latch/fault.ErrPoint", Rows.laid_latch_fault_ErrPoint)])
  (fS : L.filter (fun x => x.1 == "latch/fault.ErrScalar") = [("latch/fault.ErrScalar", Rows.laid_latch_fault_ErrScalar)])
  (fG : L.filter (fun x => x.1 == "latch/fault.ErrSign") = [("latch/fault.ErrSign", Rows.laid_latch_fault_ErrSign)]) : ∃ k p s g, Sents W k p s g := by
 obtain ⟨k, sk, hk, ck, ek⟩ := sent_met hL fK (g := 0) (by kernel_rfl) (by kernel_rfl)
 obtain ⟨p, sp, hp, cp, ep⟩ := sent_met hL fP (g := 1) (by kernel_rfl) (by kernel_rfl)
 obtain ⟨s, ss, hs, cs, es⟩ := sent_met hL fS (g := 2) (by kernel_rfl) (by kernel_rfl)
 obtain ⟨g, sg, hg, cg, eg⟩ := sent_met hL fG (g := 4) (by kernel_rfl) (by kernel_rfl)
 exact ⟨k, p, s, g, err_met hL fE, hk, hp, hs, hg, sent_ne cp ck ep ek (by decide), sent_ne cs ck es ek (by decide), sent_ne cs cp es ep (by decide), sent_ne cg ck eg ek (by decide), sent_ne cg cp eg ep (by decide), sent_ne cg cs eg es (by decide)⟩
noncomputable def lowS : Nat := (World.holding Tryz.prog default ⟨#[], #[], []⟩).heap.size
def txK : ByteArray := ⟨#[116, 104, 101, 121, 32, 97, 114, 101, 32, 116, 111, 111, 32, 109, 97, 110, 121, 44, 32, 111, 114, 32, 111, 110, 101, 32, 105, 115, 32, 111, 102, 32, 97, 110, 111, 116, 104, 101, 114, 32, 115, 105, 122, 101]⟩
def txP : ByteArray := ⟨#[105, 116, 32, 105, 115, 32, 110, 111, 32, 112, 111, 105, 110, 116, 39, 115, 32, 99, 111, 100, 101]⟩
def txS : ByteArray := ⟨#[105, 116, 32, 105, 115, 32, 110, 111, 116, 32, 98, 101, 108, 111, 119, 32, 76]⟩
def txG : ByteArray := ⟨#[105, 116, 32, 105, 115, 32, 110, 111, 116, 32, 114, 105, 103, 104, 116]⟩
noncomputable def laidWorldS (os : Os) : World :=
 { laidWorldB os with heap := putR 0 #[esI ⟨lowS, 0, none⟩] (putR 1 #[esI ⟨lowS + 1, 0, none⟩] (putR 2 #[esI ⟨lowS + 2, 0, none⟩] (putR 4 #[esI ⟨lowS + 3, 0, none⟩] (putR 3 #[rtV 66] (putR 6 #[nv 6346243789798364141, nv 1503914060200516822, nv 0, nv 1152921504606846976] (putR 9 (kws.map uv).toArray (laidWorldB os).heap)))))) ++ #[.cells #[.string txK] 301, .cells #[.string txP] 301, .cells #[.string txS] 301, .cells #[.string txG] 301] }
theorem lkS_len {s : ByteArray} (h : s.size = 32) : (lkS s).size = 32 := by unfold lkS; rw [if_pos h, strOf_size, leB_length]
theorem lsS_len {s : ByteArray} (h : s.size = 32) (m : ByteArray) : (lsS s m).size = 64 := by unfold lsS; rw [if_pos h, strOf_size, List.length_append, leB_length, leB_length]
def upL (n k : Nat) : Nat := (n % 256 ^ k + Lord % 256 ^ k) / 256 ^ k
theorem pow256_pos (k : Nat) : 0 < 256 ^ k := Nat.pow_pos (by decide)
theorem upL_lt (n k : Nat) : upL n k < 2 := by
 unfold upL
 rw [Nat.div_lt_iff_lt_mul (pow256_pos k)]
 have h1 := Nat.mod_lt n (pow256_pos k)
 have h2 := Nat.mod_lt Lord (pow256_pos k)
 omega
theorem add_div3 (a b M : Nat) (h : 0 < M) : (a + b) / M = a / M + b / M + (a % M + b % M) / M := by
 have e : a + b = M * (a / M + b / M) + (a % M + b % M) := by
  have h1 := Nat.div_add_mod a M
  have h2 := Nat.div_add_mod b M
  rw [Nat.mul_add]; omega
 rw [e, Nat.mul_add_div h]
theorem up_byte (n k : Nat) : (n + Lord) / 256 ^ k % 256 = (n / 256 ^ k % 256 + Lord / 256 ^ k % 256 + upL n k) % 256 := by
 rw [add_div3 n Lord _ (pow256_pos k)]
 unfold upL
 omega
theorem up_next (n k : Nat) : upL n (k + 1) = (n / 256 ^ k % 256 + Lord / 256 ^ k % 256 + upL n k) / 256 := by
 have hm : ∀ a, a % 256 ^ (k + 1) = a % 256 ^ k + 256 ^ k * (a / 256 ^ k % 256) := fun a => by rw [Nat.pow_succ, Nat.mod_mul]
 unfold upL
 rw [hm, hm, show n % 256 ^ k + 256 ^ k * (n / 256 ^ k % 256) + (Lord % 256 ^ k + 256 ^ k * (Lord / 256 ^ k % 256)) = 256 ^ k * (n / 256 ^ k % 256 + Lord / 256 ^ k % 256) + (n % 256 ^ k + Lord % 256 ^ k) by rw [Nat.mul_add]; omega, Nat.pow_succ, ← Nat.div_div_eq_div_mul, Nat.mul_add_div (pow256_pos k)]
def rsT (n k : Nat) : List UInt8 := (leB (n + Lord) 32).take k ++ (leB n 32).drop k
theorem rsT_len (n k : Nat) (h : k ≤ 32) : (rsT n k).length = 32 := by unfold rsT; rw [List.length_append, List.length_take, List.length_drop, leB_length, leB_length]; omega
theorem rsT_get (n k : Nat) (h : k < 32) : (rsT n k)[k]? = some (byteLE n k) := by
 unfold rsT
 rw [List.getElem?_append_right (by rw [List.length_take, leB_length]; omega), List.length_take, leB_length, Nat.min_eq_left (by omega), Nat.sub_self, List.getElem?_drop, Nat.add_zero, List.getElem?_eq_getElem (by rw [leB_length]; exact h)]
 have := leB_getD n 32 k h
 rw [List.getD_eq_getElem?_getD, List.getElem?_eq_getElem (by rw [leB_length]; exact h)] at this
 rw [← this]; rfl
theorem rsT_set (n k : Nat) (h : k < 32) : (rsT n k).set k (byteLE (n + Lord) k) = rsT n (k + 1) := by
 unfold rsT
 have l1 : ((leB (n + Lord) 32).take k).length = k := by rw [List.length_take, leB_length]; omega
 rw [List.set_append_right _ _ (by rw [l1]; exact Nat.le_refl _), l1, Nat.sub_self, List.take_succ_eq_append_getElem (by rw [leB_length]; exact h), List.append_assoc]
 congr 1
 rw [List.drop_eq_getElem_cons (by rw [leB_length]; exact h), List.set_cons_zero]
 have := leB_getD (n + Lord) 32 k h
 rw [List.getD_eq_getElem?_getD, List.getElem?_eq_getElem (by rw [leB_length]; exact h)] at this
 rw [← this]; rfl
section
attribute [local irreducible] lkS lkE lsS
set_option maxRecDepth 100000 in
set_option maxHeartbeats 1000000 in
theorem signedK (s m : ByteArray) (hs : s.size = 32) (hm : m.size ≤ maxLen) (w : World) (hG : GlB w) (hK : Tab w) (hO : OrdAt w) (hE : w.cell? ⟨3, 0, none⟩ = some (rtV 66)) :
  Calls Tryz.prog 17 #[.string s, .string m] w fun e w' => e = .returned (.tuple #[.string (lkS s), .string (lsS s m), .bool true]) ∧ Below w.heap.size w w' := by
 have HG := hide hG
 have HK := hide hK
 have HO := hide hO
 have HE := hide hE
 have Hm := hide hm
 have E0 : lkE s = 0 := by unfold lkE; rw [if_pos hs]
 have L1 := lkS_len hs
 have L2 := lsS_len hs m
 have tE : ∀ {W}, Below w.heap.size w W → W.cell? ⟨3, 0, none⟩ = some (rtV 66) := fun h => (h.cell (World.block_lt_of_cell? w _ HE.out)).trans HE.out
 clear hG hK hO hE hm hs
 go_enter Tryz.func17, Tryz.ntmps17
 go_wp2_with fail
 refine (latchKeyA s w HG.out HK.out HE.out).mono ?_
 rintro e W1 ⟨rfl, hB⟩
 have B1 := hide hB
 clear hB
 obtain ⟨T, HT⟩ : ∃ T, Hid (T = lkS s) := ⟨_, hide rfl⟩
 rw [← HT.out] at L1 ⊢
 rw [E0]
 go_wp2_with fail
 refine (latchSignA s m Hm.out W1 (HG.out.keep B1.out) (HK.out.below B1.out HK.out.lt) (HO.out.below B1.out HO.out.lt) (tE B1.out)).mono ?_
 rintro e W2 ⟨rfl, hB⟩
 have B2 := hide (B1.out.trans (hB.mono B1.out.size))
 clear hB B1 tE
 obtain ⟨U, HU⟩ : ∃ T, Hid (T = lsS s m) := ⟨_, hide rfl⟩
 rw [← HU.out] at L2 ⊢
 rw [E0]
 clear E0
 have l1 : (T.size : Int) = 32 := by rw [L1]; rfl
 have l2 : (U.size : Int) = 64 := by rw [L2]; rfl
 go_wp2_with fail
 try go_region
 try go_wp2_with fail
 go_returns
 exact ⟨by rw [← HT.out, ← HU.out]; rfl, B2.out⟩
set_option maxRecDepth 100000 in
set_option maxHeartbeats 2000000 in
theorem raisedK (n : Nat) (s : ByteArray) (hs : s = strOf (leB n 32)) (w : World) :
  Calls Tryz.prog 18 #[.string s] w fun e w' => e = .returned (.string (strOf (leB (n + Lord) 32))) ∧ Below w.heap.size w w' := by
 obtain ⟨cap, W1, hcv, hrd, hth, hB⟩ := conv_bytes2 s w
 have hs32 : s.size = 32 := by rw [hs, strOf_size, leB_length]
 rw [hs32] at hcv hth
 rw [show bytesOf s = rsT n 0 by rw [hs, bytesOf_strOf]; rfl] at hrd
 have HR := hide hrd
 have HT := hide hth
 have HB := hide hB
 obtain ⟨g, hg⟩ : ∃ g, g = w.heap.size := ⟨_, rfl⟩
 rw [← hg] at HR HT hcv
 have lg : w.heap.size ≤ g := by omega
 have lg1 : g < W1.heap.size := by
  have := (HT.out 0 (by decide)).1
  rcases Nat.lt_or_ge g W1.heap.size with c | c
  · exact c
  ·
   exfalso
   unfold World.cell? at this
   simp [Array.getElem?_eq_none c] at this
 clear hrd hth hB hg hs hs32
 go_enter Tryz.func18, Tryz.ntmps18
 go_wp2_with fail
 refine (orderK _).mono ?_
 rintro e W2 ⟨rfl, hB⟩
 have HR := hide (range_below HR.out hB lg1)
 have HT : Hid (W2.there g 0 32) := there_block HT.out (hB.block g lg1)
 have HB := kTr HB hB
 clear hB
 obtain ⟨o, Eo⟩ : ∃ o, Hid (o = oT) := ⟨_, hide rfl⟩
 have Ho : Hid (o.size = 32) := by rw [Eo.out]; exact oT_size
 rw [← Eo.out]
 go_wp2_with fail
 go_loopw [5, 6] (fun u v wr => ∃ i : Nat, i ≤ 32 ∧ v = .int .i64 i ∧ u = .int .i64 (upL n i : Nat) ∧ Hid (wr.rangeAt g 0 ((rsT n i).map cv)) ∧ Hid (wr.there g 0 32) ∧ Hid (Below w.heap.size w wr)) (fun _ v _ => 32 - (intOf v).toNat)
 case atStart => exact ⟨0, by omega, rfl, by rw [show upL n 0 = 0 by unfold upL; simp [Nat.mod_one]]; rfl, HR, HT, HB⟩
 case round =>
  clear HR HT HB
  obtain ⟨i, hi, rfl, rfl, HR, HT, HB⟩ := hrel
  by_cases hlt : i < 32
  ·
   have bi : (i : Int) < 32 := by omega
   have hix := idxSlC g i cap hlt
   have hst := strAt o i (by rw [Ho.out]; exact hlt)
   obtain ⟨y, Ey⟩ : ∃ c, Hid (c = C8 ((bytesOf o).getD i 0)) := ⟨_, hide rfl⟩
   rw [← Ey.out] at hst
   obtain ⟨x, Ex⟩ : ∃ c, Hid (c = C8 (byteLE n i)) := ⟨_, hide rfl⟩
   have c1 : wr.cell? ⟨g, i, none⟩ = some (.int .u8 x) := by
    have := HR.out i (cv (byteLE n i)) (by rw [List.getElem?_map, rsT_get n i hlt]; rfl)
    rw [Nat.zero_add] at this
    rw [Ex.out]; exact this
   have f1 : wr.frozen? ⟨g, i, none⟩ = false := by
    have := (HT.out i hlt).2
    rw [Nat.zero_add] at this
    exact this
   have x0 : 0 ≤ x := by rw [Ex.out]; exact C8_nonneg _
   have x1 : x < 256 := by rw [Ex.out]; exact C8_lt _
   have y0 : 0 ≤ y := by rw [Ey.out]; exact C8_nonneg _
   have y1 : y < 256 := by rw [Ey.out]; exact C8_lt _
   obtain ⟨u, Eu⟩ : ∃ c : Int, Hid (c = (upL n i : Nat)) := ⟨_, hide rfl⟩
   have u0 : 0 ≤ u := by rw [Eu.out]; omega
   have u1 : u < 2 := by rw [Eu.out]; have := upL_lt n i; omega
   have HX : Hid (x = ((n / 256 ^ i % 256 : Nat) : Int)) := by show _ = _; rw [Ex.out]; unfold C8; rw [byteLE_nat]
   have HY : Hid (y = ((Lord / 256 ^ i % 256 : Nat) : Int)) := by
    show _ = _
    rw [Ey.out]; unfold C8
    have := valLE_byte (bytesOf o) i
    rw [← this, Eo.out, oT_val]
   obtain ⟨z, Ez⟩ : ∃ z, Hid (z = x + y + u) := ⟨_, hide rfl⟩
   have hw1 : IntKind.i64.wrap (x + y) = x + y := by rw [IntKind.wrap_i64]; omega
   have hw2 : IntKind.i64.wrap (x + y + u) = z := by rw [Ez.out, IntKind.wrap_i64]; omega
   have z0 : 0 ≤ z := by rw [Ez.out]; omega
   have z1 : z < 1024 := by rw [Ez.out]; omega
   have e1 : z.tmod 256 = z % 256 := Int.tmod_eq_emod_of_nonneg z0
   have e2 : IntKind.i64.wrap (z.tdiv 256) = z / 256 := by rw [Int.tdiv_eq_ediv_of_nonneg z0, IntKind.wrap_i64]; omega
   have HZ1 : Hid (Value.int .u8 (z % 256) = cv (byteLE (n + Lord) i)) := by
    show Value.int .u8 _ = Value.int .u8 (C8 _)
    congr 1
    unfold C8
    rw [byteLE_nat, up_byte, Ez.out, HX.out, HY.out, Eu.out]
    omega
   have HZ2 : Hid (((upL n (i + 1) : Nat) : Int) = z / 256) := by
    show _ = _
    rw [up_next, Ez.out, HX.out, HY.out, Eu.out]
    omega
   rw [← Eu.out]
   go_wp2_with fail
   go_region
   go_wp2_with fail
   refine ⟨⟨i + 1, by omega, by go_num, by rw [HZ2.out], ?_, ?_, ?_⟩, by simp [intOf]; omega⟩
   ·
    rw [← rsT_set n i hlt]
    exact range_set1 (by exact HR.out) HZ1.out (by rw [rsT_len n i hi]; exact hlt)
   · exact World.there_setCells (by exact HT.out) g i [_]
   · exact (Below.setCell (p := ⟨g, i, none⟩) (by exact HB.out) lg _).drew
  ·
   obtain rfl : i = 32 := by omega
   have hc := convC cap wr g (rsT n 32) (rsT_len n 32 (Nat.le_refl _)) HR.out
   rw [show rsT n 32 = leB (n + Lord) 32 by unfold rsT; rw [List.take_of_length_le (by rw [leB_length]; exact Nat.le_refl _), List.drop_of_length_le (by rw [leB_length]; exact Nat.le_refl _), List.append_nil]] at hc
   obtain ⟨T, HT2⟩ : ∃ T, Hid (T = strOf (leB (n + Lord) 32)) := ⟨_, hide rfl⟩
   rw [← HT2.out] at hc
   go_wp2_with fail
   go_returns
   exact ⟨by rw [HT2.out]; rfl, HB.out⟩
end
end Go.Proofs.YtccgfabojbjmjaaGreatDoor
