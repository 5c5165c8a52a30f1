import Derived.Test.YtcnbhpghcjcejaaDoorRefPad
/- The document's rounds are the program's rounds. Plain mathematics. -/
namespace Go.Proofs.YtcnbhpghcjcejaaDoor
open Go.RowKit

theorem choose_or (x y z : BitVec 64) : x &&& y ||| ~~~x &&& z = chooseW x y z := by
  unfold chooseW
  apply BitVec.eq_of_getLsbD_eq
  intro i hi
  simp only [BitVec.getLsbD_or, BitVec.getLsbD_and, BitVec.getLsbD_not, BitVec.getLsbD_xor, hi, decide_true, Bool.true_and]
  cases x.getLsbD i <;> cases y.getLsbD i <;> cases z.getLsbD i <;> rfl
theorem majority_or (x y z : BitVec 64) : x &&& y ||| x &&& z ||| y &&& z = majorityW x y z := by
  unfold majorityW
  apply BitVec.eq_of_getLsbD_eq
  intro i hi
  simp only [BitVec.getLsbD_or, BitVec.getLsbD_and, BitVec.getLsbD_xor]
  cases x.getLsbD i <;> cases y.getLsbD i <;> cases z.getLsbD i <;> rfl
theorem next_ref (l : List (BitVec 64)) (n : Nat) :
    smallSigma0W (l.getD (n + 1) 0) + smallSigma1W (l.getD (n + 14) 0) + l.getD n 0 + l.getD (n + 9) 0 = nextW l n := by
  unfold nextW; ac_rfl
/-- A round as the document has it. -/
theorem step_ref (kk ww : BitVec 64) (s : S8) :
    (⟨(s.h + chooseW s.e s.f s.g + kk + ww + bigSigma1W s.e) + (majorityW s.a s.b s.c + bigSigma0W s.a), s.a, s.b, s.c,
      s.d + (s.h + chooseW s.e s.f s.g + kk + ww + bigSigma1W s.e), s.e, s.f, s.g⟩ : S8) = stepW kk ww s := by
  unfold stepW
  have e : s.h + chooseW s.e s.f s.g + kk + ww + bigSigma1W s.e = s.h + bigSigma1W s.e + chooseW s.e s.f s.g + kk + ww := by ac_rfl
  rw [e, BitVec.add_comm (majorityW s.a s.b s.c)]

def chunk (p : List UInt8) (k : Nat) : List UInt8 := (p.drop (128 * k)).take 128
noncomputable def mixTo (p : List UInt8) (s : S8) : Nat → S8
  | 0 => s
  | k + 1 => mixS (mixTo p s k) (chunk p k)
theorem mixTo_succ (p : List UInt8) (s : S8) (k : Nat) : mixTo p s (k + 1) = (mixTo p s k).add (rnds (sch (chunk p k) 64) (mixTo p s k) 80) := by
  rw [← sch64_eq, ← rnd80_eq]; rfl
theorem padB_length (l : List UInt8) : ∃ m, (padB l).length = 128 * (m + 1) ∧ (padB l).length ≤ l.length + 145 := by
  have e : (padB l).length = l.length + 1 + zcnt l.length + 16 := by unfold padB; rw [List.length_append, padZ_length, cntRow_length]
  have h1 := zcnt_end l.length
  have h2 := zcnt_lt l.length
  rw [e]
  exact ⟨(l.length + 1 + zcnt l.length + 16) / 128 - 1, by omega, by omega⟩
theorem chunk_get (p : List UInt8) (k i : Nat) (h : i < 128) : (chunk p k).getD i 0 = p.getD (128 * k + i) 0 := by
  unfold chunk
  simp only [List.getD_eq_getElem?_getD, List.getElem?_take, h, if_pos, List.getElem?_drop]
theorem w16_chunk (p : List UInt8) (k t : Nat) (ht : t < 16) : w16 (chunk p k) t = be (fun i => p.getD (128 * k + 8 * t + i) 0) 8 := by
  unfold w16
  simp only [be]
  rw [chunk_get _ _ _ (by omega), chunk_get _ _ _ (by omega), chunk_get _ _ _ (by omega), chunk_get _ _ _ (by omega), chunk_get _ _ _ (by omega), chunk_get _ _ _ (by omega), chunk_get _ _ _ (by omega), chunk_get _ _ _ (by omega)]
  simp only [Nat.add_assoc]

theorem uvs_at {w : World} {g : Nat} {t : TypeId} {l : List (BitVec 64)} {fr : Nat × Nat} (h : w.heap[g]? = some (.cells (l.map uv).toArray t fr)) (i : Nat) (hi : i < l.length) : w.cell? ⟨g, i, none⟩ = some (.int .u64 (U (l.getD i 0))) := by
  rw [cell_of_row w g i _ t fr h]; simp [hi]

section
variable {P : Program} (w : World)
/-- 'append' at a step of a region that draws its order. -/
theorem step_append_Own {ops : Array Oper} {o : Oper} {a : Act} {K : Act → World → Prop} {Q : Exit → Act → World → Prop} {E : Prop} (hgd : o.guard = none) (s x : Operand) (t : TypeId)
    (ho : o.op = .call { callee := .builtin .append, args := #[s, x], argTypes := #[t, t] })
    (B : Nat) (e : TypeId) (i : TypeInfo) (z : Value) (bytes : Nat) (ht : P.underlying t = some (.slice e)) (hi : P.info? e = some i) (hz : i.zero = some z)
    (hsize : i.size = 1) (hby : i.bytes = bytes) (hzs : z.cells.size = 1)
    (v : Value) (xs : List Value) (hs : a.eval s = v) (hown : Own w B e v xs)
    (ad : Addr) (m c : Nat) (news : List Value) (hx : a.eval x = .slice (some ad) m c) (hl : news.length = m) (hnews : ∀ j u, news[j]? = some u → w.cell? (ad.add j) = some u) (h1 : ∀ u ∈ news, u.oneCell' = true)
    (h63 : xs.length + m ≤ maxLen) (hbytes : (xs.length + m) * bytes ≤ 140737488355328) (hbase : B ≤ w.heap.size)
    (h : ∀ v' w', Hid (Own w' B e v' (xs ++ news)) → Hid (w.grownBy w' v.ownBlock) → Hid (∀ g j, v.ownBlock = some g → j < xs.length → w'.cell? ⟨g, j, none⟩ = w.cell? ⟨g, j, none⟩) → K (a.put o.dst v') w') :
    if Region.wanted o (yielded ops a.tmps) = true then Oper.wp P o a w K Q else E := by
  have hw : Region.wanted o (yielded ops a.tmps) = true := by simp [Region.wanted, hgd]
  rw [if_pos hw]
  obtain ⟨v', w', hr, h2, h3, h4⟩ := run_append_Own (P := P) w B t o.type e i z bytes ht hi hz hsize hby hzs v xs hown ad m c news hl hnews h1 h63 hbytes hbase
  unfold Oper.wp execOp
  simp only [ho, resolve, invoke, builtin, Sem.run_bind, Sem.run_pure, Result.andThen_ok, List.map_toArray, List.map_cons, List.map_nil, hs, hx, hr]
  exact h v' w' h2 h3 h4
end
theorem refRight_int (x : BitVec 64) (k : Int) (h0 : 0 < k) (h1 : k < 64) (w : World) :
    Calls Tryd.prog 16 #[.int .u64 (U x), .int .i64 k] w fun e w' => e = .returned (.int .u64 (U (x.rotateRight k.toNat))) ∧ ∃ q, w' = w.drewN q :=
  refRight_any x k k.toNat (by omega) (by omega) (by omega) w
theorem infoU64 : (Tryd.prog.info? 40).map (fun i => (i.zero, i.size, i.bytes)) = some (some (.int .u64 0), 1, 8) := by kernel_rfl
theorem underSl64 : Tryd.prog.underlying 41 = some (.slice 40) := by kernel_rfl
end Go.Proofs.YtcnbhpghcjcejaaDoor
