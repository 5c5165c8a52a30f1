import Derived.Test.YtccgfabojbjmjaaGreatDoorSg41
namespace Go.Proofs.YtccgfabojbjmjaaGreatDoor
open Go.RowKit
def allB (L : List ByteArray) : List UInt8 := L.flatMap qax
theorem allB_take (L : List ByteArray) (k : Nat) (h : k < L.length) : allB (L.take (k + 1)) = allB (L.take k) ++ qax L[k] := by
 unfold allB
 rw [List.take_succ_eq_append_getElem h, List.flatMap_append]; simp
section
attribute [local irreducible] qac
set_option maxRecDepth 100000 in
set_option maxHeartbeats 2000000 in
theorem hashedA (L : List ByteArray) (q : Nat) (w : World) (hK : Tab w) (hO : qcC w) (hL : ∀ k (h : k < L.length), w.cell? ⟨q, k, none⟩ = some (.string L[k])) (hq : q < w.heap.size) (hm : ∀ k (h : k < L.length), L[k].size ≤ maxLen) (hn : L.length ≤ 100) :
  Calls Tryz.prog 70 #[.slice (some ⟨q, 0, none⟩) L.length L.length] w fun e w' => e = .returned (.agg (qac (qaC (qa5 (allB L)) % qcB))) ∧ Below w.heap.size w w' := by
 have hz := zero4W
 have hzH := zeroH
 have HK := qaf hK
 have HO := qaf hO
 have HL := qaf hL
 have HM := qaf hm
 clear hK hO hL hm
 go_enter Tryz.func70, Tryz.ntmps70
 go_upto_region 1 with fail
 obtain ⟨W0, hW0⟩ : ∃ W, W = w.alloc (.cells (qac 0) 60) := ⟨_, rfl⟩
 have RZ : Hid (W0.heap[w.heap.size]? = some (.cells (qac 0) 60 (0, 0))) := by rw [hW0]; exact heap_alloc_new _ _
 have BL : Hid (Below w.heap.size w W0) := by rw [hW0]; exact (Below.refl _ _).alloc (Nat.le_refl _) _
 rw [← hW0]
 clear hW0
 go_wp2_with fail
 refine (new_any _).mono ?_
 rintro e W1 ⟨rfl, hB⟩
 have RZ := qaf (qaa RZ.out hB)
 have BL := kTr BL hB
 clear hB
 go_upto_region 2 with (first
  | (refine wpList_store_row (by rfl) 166 (.tmp 3) (.tmp 6) (by rfl) W1.heap.size r0 (by rfl) (by rfl) 166 _ (heap_alloc_new _ _) r0_size r0_zH r0_cell ?_))
 try rw [qal]
 obtain ⟨b, hb⟩ : ∃ s, s = W1.heap.size := ⟨_, rfl⟩
 generalize hW2 : World.setRow _ _ _ = W2
 have hb1 : w.heap.size < b := by rw [hb]; exact qae RZ.out
 have HA : Hid (Has W2 b 166 H0) := ⟨by rw [← hW2, hb]; exact setRow_heap _ _ _ _ _ _ (heap_alloc_new _ _), H0_len⟩
 have RZ : Hid (W2.heap[w.heap.size]? = some (.cells (qac 0) 60 (0, 0))) := by rw [← hW2]; exact (setRow_other _ _ _ _ (by omega)).trans ((heap_alloc_old _ _ (qae RZ.out)).trans RZ.out)
 have BL : Hid (Below w.heap.size w W2) := by rw [← hW2]; exact below_setRow (BL.out.alloc BL.out.size _) BL.out.size _
 rw [← hb]
 clear hW2 hb
 go_wp2_with fail
 go_loopw [9] (fun i wr => ∃ k : Nat, k ≤ L.length ∧ i = .int .i64 k ∧ Hid (Has wr b 166 (H0.puts (allB (L.take k)))) ∧ Hid (wr.heap[w.heap.size]? = some (.cells (qac 0) 60 (0, 0))) ∧ Hid (Below w.heap.size w wr)) (fun i _ => L.length - (intOf i).toNat)
 case atStart => exact ⟨0, Nat.zero_le _, rfl, HA, RZ, BL⟩
 case round =>
  clear HA RZ BL
  obtain ⟨k, hk, rfl, HA, RZ, BL⟩ := hrel
  by_cases hlt : k < L.length
  ·
   have bk : (k : Int) < (L.length : Int) := by omega
   have ck := (BL.out.cell (show (⟨q, k, none⟩ : Addr).block < w.heap.size from hq)).trans (HL.out k hlt)
   obtain ⟨s, Es⟩ : ∃ s, Hid (s = L[k]) := ⟨_, qaf rfl⟩
   rw [← Es.out] at ck
   have hs : s.size ≤ maxLen := by rw [Es.out]; exact HM.out k hlt
   go_wp2_with fail
   refine (write_any b 166 _ s _ HA.out (HK.out.below BL.out HK.out.lt) (by have := HK.out.lt; omega) hs).mono ?_
   rintro e W3 ⟨rfl, hA3, hT3⟩
   have HA3 : Hid (Has W3 b 166 (H0.puts (allB (L.take (k + 1))))) := by
    show Has _ _ _ _
    rw [allB_take L k hlt, HS.puts_append, ← Es.out]; exact hA3
   have RZ3 : Hid (W3.heap[w.heap.size]? = some (.cells (qac 0) 60 (0, 0))) := (hT3.block _ (qae RZ.out) (by omega)).trans RZ.out
   have BL3 : Hid (Below w.heap.size w W3) := BL.out.trans (hT3.below (by omega) BL.out.size)
   clear hA3 hT3 HA RZ BL ck
   go_wp2_with fail
   exact ⟨⟨k + 1, by omega, by go_num, HA3, RZ3, BL3⟩, by simp [intOf]; omega⟩
  ·
   obtain rfl : k = L.length := by omega
   have HA2 : Hid (Has wr b 166 (H0.puts (allB L))) := by have e := HA.out; rw [List.take_length] at e; exact e
   clear HA
   go_wp2_with fail
   refine (sum_any b 166 _ _ HA2.out (HK.out.below BL.out HK.out.lt)).mono ?_
   rintro e W3 ⟨rfl, hB⟩
   have RZ := qaf (qaa RZ.out hB)
   have BL3 := kTr BL hB
   clear hB BL
   obtain ⟨M, EM⟩ : ∃ M, Hid (M = (qa5 (allB L)).map cv) := ⟨_, qaf rfl⟩
   rw [show (H0.puts (allB L)).sum.map cv = M from EM.out.symm]
   go_wp2_with fail
   refine (reduce_list (qa5 (allB L)) (qbj _) M EM.out _ (HO.out.below BL3.out HO.out.lt)).mono ?_
   rintro e W4 ⟨rfl, hB⟩
   have RZ := qaf (qaa RZ.out hB)
   have BL4 := kTr BL3 hB
   clear hB BL3
   obtain ⟨N, HN⟩ : ∃ n, Hid (n = qaC (qa5 (allB L)) % qcB) := ⟨_, qaf rfl⟩
   rw [← HN.out]
   go_wp2_with (first | (refine wpList_store_row (by rfl) 60 (.tmp 2) (.tmp 17) (by rfl) w.heap.size (qac N) (by rfl) (by rfl) 60 _ RZ.out (qbu _) (n4W _ _) (qaq _) ?_))
   refine bodyPost_ret (v := .agg (qac N)) (results_cell_row Tryz.results70 _ _ w.heap.size 60 _ (0, 0) _ (by rfl) (setRow_heap _ _ _ _ _ _ RZ.out) qbh rfl (qbu _)) rfl ⟨by rw [HN.out], below_setRow BL4.out (by omega) _⟩
end
theorem convR (w : World) (q o : Nat) (l : List UInt8) (hl : l.length = 32) (h : w.rangeAt q o (l.map cv)) :
  (convert 89 9 (.slice (some ⟨q, o, none⟩) 32 32)).run Tryz.prog w = .ok (.string (qaL l)) w := by
 have e := run_convert_bytes_back (P := Tryz.prog) w 89 9 5 ⟨q, o, none⟩ 32 l underSl8 underU8 underStr (fun i hi => by
  rw [Addr.add_mid]
  exact h i _ (by simp [hi, C8]))
 rw [hl] at e
 exact e
theorem hrunConv {a : Act} {o : Oper} (x : Operand) (ho : o.op = .convert 89 9 x) (q i n : Nat) (hx : a.eval x = .slice (some ⟨q, i, none⟩) 32 32) (w : World) (h : w.rangeAt q i (bL n)) :
  (execOp a.eval o).run Tryz.prog w = .ok (.value (.string (qaL (leB n 32)))) w := by
 have e := convR w q i (leB n 32) (qav _ _) h
 unfold execOp
 simp only [ho, hx]
 go_simp
theorem build3 (s t u : ByteArray) (w : World) : (Instr.buildSlice 38 3 #[(0, .string s), (1, .string t), (2, .string u)]).run Tryz.prog w = .ok (.slice (some ⟨w.heap.size, 0, none⟩) 3 3) (w.alloc (.cells #[.string s, .string t, .string u] 9)) := by kernel_rfl
theorem build2 (s t : ByteArray) (w : World) : (Instr.buildSlice 38 2 #[(0, .string s), (1, .string t)]).run Tryz.prog w = .ok (.slice (some ⟨w.heap.size, 0, none⟩) 2 2) (w.alloc (.cells #[.string s, .string t] 9)) := by kernel_rfl
theorem hrunBuild3 {a : Act} {o : Oper} (x y z : Operand) (ho : o.op = .buildSlice 38 3 #[(0, x), (1, y), (2, z)]) (s t u : ByteArray) (hx : a.eval x = .string s) (hy : a.eval y = .string t) (hz : a.eval z = .string u) (w : World) :
  (execOp a.eval o).run Tryz.prog w = .ok (.value (.slice (some ⟨w.heap.size, 0, none⟩) 3 3)) (w.alloc (.cells #[.string s, .string t, .string u] 9)) := by
 have e := build3 s t u
 unfold execOp
 simp only [ho, hx, hy, hz, List.map_toArray, List.map_cons, List.map_nil]
 go_simp
theorem hrunHashed {a : Act} {o : Oper} (x : Operand) (ho : o.op = .call { callee := .value (.func 70), args := #[x], argTypes := #[38] }) (v1 : Value) (hx : a.eval x = v1) (w : World) :
  (execOp a.eval o).run Tryz.prog w = .ok (.enter 70 #[v1]) w := by
 unfold execOp
 simp only [ho]
 subst hx
 go_simp
theorem hashed3 (s t u : ByteArray) (q N : Nat) (hN : N = qaC (qa5 (qax s ++ (qax t ++ qax u))) % qcB) (w : World) (hK : Tab w) (hO : qcC w) (hq : w.heap[q]? = some (.cells #[.string s, .string t, .string u] 9 (0, 0))) (hs : s.size ≤ maxLen) (ht : t.size ≤ maxLen) (hu : u.size ≤ maxLen) :
  Calls Tryz.prog 70 #[.slice (some ⟨q, 0, none⟩) 3 3] w fun e w' => e = .returned (.agg (qac N)) ∧ Below w.heap.size w w' := by
 have h := hashedA [s, t, u] q w hK hO (fun k hk => by
  rw [cell_of_row w q k _ _ _ hq]
  have h3 : k = 0 ∨ k = 1 ∨ k = 2 := by simp at hk; omega
  rcases h3 with rfl | rfl | rfl <;> rfl) (qae hq) (fun k hk => by
  have h3 : k = 0 ∨ k = 1 ∨ k = 2 := by simp at hk; omega
  rcases h3 with rfl | rfl | rfl
  · exact hs
  · exact ht
  · exact hu) (by simp)
 have e : allB [s, t, u] = qax s ++ (qax t ++ qax u) := by simp [allB]
 rw [e, ← hN] at h
 exact h
theorem hashed2 (s t : ByteArray) (q N : Nat) (hN : N = qaC (qa5 (qax s ++ qax t)) % qcB) (w : World) (hK : Tab w) (hO : qcC w) (hq : w.heap[q]? = some (.cells #[.string s, .string t] 9 (0, 0))) (hs : s.size ≤ maxLen) (ht : t.size ≤ maxLen) :
  Calls Tryz.prog 70 #[.slice (some ⟨q, 0, none⟩) 2 2] w fun e w' => e = .returned (.agg (qac N)) ∧ Below w.heap.size w w' := by
 have h := hashedA [s, t] q w hK hO (fun k hk => by
  rw [cell_of_row w q k _ _ _ hq]
  have h3 : k = 0 ∨ k = 1 := by simp at hk; omega
  rcases h3 with rfl | rfl <;> rfl) (qae hq) (fun k hk => by
  have h3 : k = 0 ∨ k = 1 := by simp at hk; omega
  rcases h3 with rfl | rfl
  · exact hs
  · exact ht) (by simp)
 have e : allB [s, t] = qax s ++ qax t := by simp [allB]
 rw [e, ← hN] at h
 exact h
theorem strOf_size (l : List UInt8) : (qaL l).size = l.length := by unfold qaL; rfl
section
attribute [local irreducible] qac nL bA bL
set_option maxRecDepth 100000 in
set_option maxHeartbeats 4000000 in
theorem challengeA (r k : Nat) (m : ByteArray) (hm : m.size ≤ maxLen) (w : World) (hK : Tab w) (hO : qcC w) :
  Calls Tryz.prog 71 #[.agg (bA r), .agg (bA k), .string m] w fun e w' => e = .returned (.agg (qac (qaC (qa5 (leB r 32 ++ (leB k 32 ++ qax m))) % qcB))) ∧ Below w.heap.size w w' := by
 have hz := zero4W
 have hsl := qdo
 have HK := qaf hK
 have HO := qaf hO
 have Hm := qaf hm
 have S32a : Hid ((qaL (leB r 32)).size ≤ maxLen) := by show _ ≤ _; rw [strOf_size, qav]; decide
 have S32b : Hid ((qaL (leB k 32)).size ≤ maxLen) := by show _ ≤ _; rw [strOf_size, qav]; decide
 obtain ⟨N, HN⟩ : ∃ N, Hid (N = qaC (qa5 (qax (qaL (leB r 32)) ++ (qax (qaL (leB k 32)) ++ qax m))) % qcB) := ⟨_, qaf rfl⟩
 have HN' : N = qaC (qa5 (leB r 32 ++ (leB k 32 ++ qax m))) % qcB := by rw [HN.out, qa6, qa6]
 rw [← HN']
 clear hK hO hm HN'
 go_enter Tryz.func71, Tryz.ntmps71
 go_upto_region 1 with fail
 generalize hW0 : World.alloc _ _ = W0
 have R3 : Hid (W0.heap[w.heap.size]? = some (.cells (bA r) 62 (0, 0))) := by rw [← hW0]; exact qbE _ _ _ _
 have R4 : Hid (W0.heap[w.heap.size + 1]? = some (.cells (bA k) 62 (0, 0))) := by rw [← hW0]; exact qbp _ _ _ _
 have Z6 : Hid (W0.heap[w.heap.size + 2]? = some (.cells (qac 0) 60 (0, 0))) := by rw [← hW0]; exact qbm _ _ _ _
 have B0 : Hid (Below w.heap.size w W0) := by rw [← hW0]; show Below _ _ _; go_grown
 have HK := qaf (HK.out.below B0.out HK.out.lt)
 have HO := qaf (HO.out.below B0.out HO.out.lt)
 clear hW0
 refine wp_region_held_drew (S := fun w' => w'.rangeAt w.heap.size 0 (bL r) ∧ w'.rangeAt (w.heap.size + 1) 0 (bL k)) (by kernel_rfl) ⟨rangeB R3.out, rangeB R4.out⟩ (fun hHeld => ?_)
 have KV1 : Hid (Below W0.heap.size W0 W0.drew) := (Below.refl _ _).drew
 obtain ⟨V1, hV1⟩ : ∃ V, V = W0.drew := ⟨_, rfl⟩
 rw [← hV1] at hHeld KV1 ⊢
 clear hV1
 refine wpAnyH_take (i := 0) (oi := ⟨some 7, .slice 62 (.tmp 3) none none none, 89, "secret.go:64", #[], none⟩) (v := .slice (some ⟨w.heap.size, 0, none⟩) 32 32) rfl (by kernel_rfl) (by kernel_rfl) (by kernel_rfl) (fun _ _ _ h => h) (Or.inl ⟨by rfl, fun w _ => by go_simp⟩) hHeld ?_
 simp only [zaP, zsT, zsZ, zsS]
 refine wpAnyH_take (i := 1) (oi := ⟨some 8, .convert 89 9 (.tmp 7), 9, "secret.go:64", #[zeD 0], none⟩) (v := .string (qaL (leB r 32))) rfl (by kernel_rfl) (by kernel_rfl) (by kernel_rfl) (fun _ _ _ h => h) (Or.inl ⟨by rfl, fun v h => hrunConv _ rfl (w.heap.size) 0 r rfl v h.1⟩) hHeld ?_
 simp only [zaP, zsT, zsZ, zsS]
 refine wpAnyH_take (i := 2) (oi := ⟨some 9, .slice 62 (.tmp 4) none none none, 89, "secret.go:64", #[], none⟩) (v := .slice (some ⟨w.heap.size + 1, 0, none⟩) 32 32) rfl (by kernel_rfl) (by kernel_rfl) (by kernel_rfl) (fun _ _ _ h => h) (Or.inl ⟨by rfl, fun w _ => by go_simp⟩) hHeld ?_
 simp only [zaP, zsT, zsZ, zsS]
 refine wpAnyH_take (i := 3) (oi := ⟨some 10, .convert 89 9 (.tmp 9), 9, "secret.go:64", #[zeD 2], none⟩) (v := .string (qaL (leB k 32))) rfl (by kernel_rfl) (by kernel_rfl) (by kernel_rfl) (fun _ _ _ h => h) (Or.inl ⟨by rfl, fun v h => hrunConv _ rfl (w.heap.size + 1) 0 k rfl v h.2⟩) hHeld ?_
 simp only [zaP, zsT, zsZ, zsS]
 refine wpAnyH_take (i := 4) (oi := ⟨some 11, .move (.tmp 2), 9, "secret.go:64", #[], none⟩) (v := .string m) rfl (by kernel_rfl) (by kernel_rfl) (by kernel_rfl) (fun _ _ _ h => h) (Or.inl ⟨by rfl, fun w _ => by go_simp⟩) hHeld ?_
 simp only [zaP, zsT, zsZ, zsS]
 refine wpAnyH_ready (rs := [5]) (by kernel_rfl) (by simp) ?_
 refine AllReadyH.cons (o := ⟨some 12, .buildSlice 38 3 #[(0, .tmp 8), (1, .tmp 10), (2, .tmp 11)], 38, "secret.go:64", #[zeD 1, zeD 3, zeD 4], none⟩) rfl (fun K hK => ?_) ?_
 ·
  refine qam (w' := V1.alloc (.cells (#[.string (qaL (leB r 32)), .string (qaL (leB k 32)), .string m]) 9)) (by rfl) (.slice (some ⟨V1.heap.size, 0, none⟩) 3 3) (hrunBuild3 _ _ _ rfl (qaL (leB r 32)) (qaL (leB k 32)) m rfl rfl rfl V1) ?_
  obtain ⟨b12, hb12⟩ : ∃ g, g = V1.heap.size := ⟨_, rfl⟩
  have Z12 : Hid ((V1.alloc (.cells (#[.string (qaL (leB r 32)), .string (qaL (leB k 32)), .string m]) 9)).heap[b12]? = some (.cells (#[.string (qaL (leB r 32)), .string (qaL (leB k 32)), .string m]) 9 (0, 0))) := by rw [hb12]; exact heap_alloc_new _ _
  have KV2 : Hid (Below W0.heap.size W0 (V1.alloc (.cells (#[.string (qaL (leB r 32)), .string (qaL (leB k 32)), .string m]) 9))) := KV1.out.alloc KV1.out.size _
  have GG12 : Hid (W0.heap.size ≤ b12) := by rw [hb12]; exact KV1.out.size
  rw [← hb12]
  obtain ⟨V2, hV2⟩ : ∃ V, V = V1.alloc (.cells (#[.string (qaL (leB r 32)), .string (qaL (leB k 32)), .string m]) 9) := ⟨_, rfl⟩
  rw [← hV2] at Z12 KV2 ⊢
  clear hV2 hb12
  refine hK.out _ _ ?_ (fun hHeld => ?_)
  · exact ⟨qad (rangeB R3.out) KV2.out (qae R3.out), qad (rangeB R4.out) KV2.out (qae R4.out)⟩
  clear hK K
  try simp only [zaP, zsT, zsZ, zsS]
  refine wpAnyH_ready (rs := [6]) (by kernel_rfl) (by simp) ?_
  refine AllReadyH.cons (o := ⟨some 13, .call ⟨.value (.func 70), #[.tmp 12], #[38]⟩, 60, "secret.go:64", #[zeD 5], none⟩) rfl (fun K hK => ?_) ?_
  ·
   refine qag (by rfl) _ _ (hrunHashed _ rfl (.slice (some ⟨b12, 0, none⟩) 3 3) rfl V2) _ _ (hashed3 (qaL (leB r 32)) (qaL (leB k 32)) m b12 N HN.out V2 (HK.out.below KV2.out HK.out.lt) (HO.out.below KV2.out HO.out.lt) Z12.out S32a.out S32b.out Hm.out) (fun V3 HBx => ?_)
   have KV3 := kTr KV2 HBx
   have Z12 := qaf (qaa Z12.out HBx)
   clear HBx
   refine hK.out _ _ ?_ (fun hHeld => ?_)
   · exact ⟨qad (rangeB R3.out) KV3.out (qae R3.out), qad (rangeB R4.out) KV3.out (qae R4.out)⟩
   clear hK K
   try simp only [zaP, zsT, zsZ, zsS]
   refine wpAnyH_ready (rs := [7]) (by kernel_rfl) (by simp) ?_
   refine AllReadyH.cons (o := ⟨none, .store 60 (.tmp 6) (.tmp 13), 0, "secret.go:64", #[zeD 6, zeC 6, zeP 0, zeP 1, zeP 2, zeP 3, zeP 4, zeP 5, zeP 6], none⟩) rfl (fun K hK => ?_) ?_
   ·
    have Z6 := qaf (qah Z6.out KV3.out (qae Z6.out))
    refine qaj _ (by rfl) 60 (.tmp 6) (.tmp 13) (by rfl) ((w.heap.size + 2)) (qac N) (by rfl) (by rfl) 60 _ Z6.out (qbu _) (n4W _ _) (qaq _) ?_
    rw [qal]
    obtain ⟨V4, hV4⟩ : ∃ V, V = World.setRow V3 (w.heap.size + 2) (qac N) := ⟨_, rfl⟩
    have Z6 : Hid (V4.heap[(w.heap.size + 2)]? = some (.cells (qac N) 60 (0, 0))) := by rw [hV4]; exact setRow_heap _ _ _ _ _ _ Z6.out
    have KV4 : Hid (Below w.heap.size w V4) := by rw [hV4]; exact below_setRow (B0.out.trans (KV3.out.mono B0.out.size)) (by omega) _
    have SS : Hid _ := qaf ((⟨qak (qad (rangeB R3.out) KV3.out (qae R3.out)) (by omega), qak (qad (rangeB R4.out) KV3.out (qae R4.out)) (by omega)⟩ : (World.setRow _ (w.heap.size + 2) (qac N)).rangeAt w.heap.size 0 (bL r) ∧ (World.setRow _ (w.heap.size + 2) (qac N)).rangeAt (w.heap.size + 1) 0 (bL k)))
    rw [← hV4] at SS
    rw [← hV4]
    clear hV4
    refine hK.out _ _ ?_ (fun hHeld => ?_)
    · exact SS.out
    clear hK K
    try simp only [zaP, zsT, zsZ, zsS]
    refine wpAnyH_done (by kernel_rfl) ?_ _
    go_wp2_with fail
    refine bodyPost_ret (v := .agg (qac N)) (results_cell_row Tryz.results71 _ _ (w.heap.size + 2) 60 _ (0, 0) _ (by rfl) Z6.out qbh rfl (qbu _)) rfl ⟨by rw [HN.out], KV4.out⟩
   exact AllReadyH.nil
  exact AllReadyH.nil
 exact AllReadyH.nil
end
end Go.Proofs.YtccgfabojbjmjaaGreatDoor
namespace Go.Proofs.YtccgfabojbjmjaaGreatDoor
theorem hash1 (l b : List UInt8) (S : S8) (h1 : qb9 l = b) (hb : b.length = 128) (hS : ivH.add (rnds (sch b 64) ivH 80) = S) (hl : l.length < 2305843009213693952) : qa5 l = S.words.flatMap be8 := by
 have hc : chunk b 0 = b := by unfold chunk; rw [Nat.mul_zero, List.drop_zero, List.take_of_length_le (by omega)]
 rw [← same_hash l 1 (by rw [h1, hb]) hl, mixTo_succ, h1, hc]
 show (ivH.add (rnds (sch b 64) ivH 80)).words.flatMap be8 = _
 rw [hS]
def cSdL : List UInt8 := [157, 97, 177, 157, 239, 253, 90, 96, 186, 132, 74, 244, 146, 236, 44, 196, 68, 73, 197, 105, 123, 50, 105, 25, 112, 59, 172, 3, 28, 174, 127, 96]
def cSdH : List UInt8 := [53, 124, 131, 134, 79, 40, 51, 203, 66, 122, 46, 241, 192, 10, 1, 60, 253, 255, 39, 104, 217, 128, 192, 163, 165, 32, 240, 6, 144, 77, 233, 15, 155, 79, 10, 254, 40, 11, 116, 106, 119, 134, 132, 231, 84, 66, 80, 32, 87, 183, 71, 58, 3, 240, 143, 150, 245, 163, 142, 146, 135, 224, 31, 143]
def cSdB0 : List UInt8 := [157, 97, 177, 157, 239, 253, 90, 96, 186, 132, 74, 244, 146, 236, 44, 196, 68, 73, 197, 105, 123, 50, 105, 25, 112, 59, 172, 3, 28, 174, 127, 96, 128, 0, 0, 0, 0, 0, 0, 0, 0, 0, 0, 0, 0, 0, 0, 0, 0, 0, 0, 0, 0, 0, 0, 0, 0, 0, 0, 0, 0, 0, 0, 0, 0, 0, 0, 0, 0, 0, 0, 0, 0, 0, 0, 0, 0, 0, 0, 0, 0, 0, 0, 0, 0, 0, 0, 0, 0, 0, 0, 0, 0, 0, 0, 0, 0, 0, 0, 0, 0, 0, 0, 0, 0, 0, 0, 0, 0, 0, 0, 0, 0, 0, 0, 0, 0, 0, 0, 0, 0, 0, 0, 0, 0, 0, 1, 0]
def cSdS0 : S8 := ⟨3854099993999193035#64, 4790192769505820988#64, 18302390741936160931#64, 11898774126494345487#64, 11191175685748782186#64, 8612717466478596128#64, 6320598916537552790#64, 17700147720492162959#64⟩
theorem cSdK0 : ivH.add (rnds (sch cSdB0 64) ivH 80) = cSdS0 := by kernel_rfl
theorem cSd_hash : qa5 cSdL = cSdH := (hash1 cSdL cSdB0 cSdS0 (by decide +kernel) rfl cSdK0 (by decide)).trans (by kernel_rfl)
end Go.Proofs.YtccgfabojbjmjaaGreatDoor
