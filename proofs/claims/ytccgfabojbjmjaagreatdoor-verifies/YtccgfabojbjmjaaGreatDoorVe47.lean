import Derived.Test.YtccgfabojbjmjaaGreatDoorVe46
namespace Go.Proofs.YtccgfabojbjmjaaGreatDoor
open Go.RowKit
theorem convR (w : World) (q o : Nat) (l : List UInt8) (hl : l.length = 32) (h : w.rangeAt q o (l.map cv)) :
  (convert 89 9 (.slice (some ⟨q, o, none⟩) 32 32)).run Tryz.prog w = .ok (.string (strOf l)) w := by
 have e := run_convert_bytes_back (P := Tryz.prog) w 89 9 5 ⟨q, o, none⟩ 32 l underSl8 underU8 underStr (fun i hi => by
  rw [Addr.add_mid]
  exact h i _ (by simp [hi, C8]))
 rw [hl] at e
 exact e
theorem hrunConv {a : Act} {o : Oper} (x : Operand) (ho : o.op = .convert 89 9 x) (q i n : Nat) (hx : a.eval x = .slice (some ⟨q, i, none⟩) 32 32) (w : World) (h : w.rangeAt q i (bL n)) :
  (execOp a.eval o).run Tryz.prog w = .ok (.value (.string (strOf (leB n 32)))) w := by
 have e := convR w q i (leB n 32) (leB_length _ _) h
 unfold execOp
 simp only [ho, hx]
 go_simp
theorem build3 (s t u : ByteArray) (w : World) : (Instr.buildSlice 38 3 #[(0, .string s), (1, .string t), (2, .string u)]).run Tryz.prog w = .ok (.slice (some ⟨w.heap.size, 0, none⟩) 3 3) (w.alloc (.cells #[.string s, .string t, .string u] 9)) := by kernel_rfl
theorem hrunBuild3 {a : Act} {o : Oper} (x y z : Operand) (ho : o.op = .buildSlice 38 3 #[(0, x), (1, y), (2, z)]) (s t u : ByteArray) (hx : a.eval x = .string s) (hy : a.eval y = .string t) (hz : a.eval z = .string u) (w : World) :
  (execOp a.eval o).run Tryz.prog w = .ok (.value (.slice (some ⟨w.heap.size, 0, none⟩) 3 3)) (w.alloc (.cells #[.string s, .string t, .string u] 9)) := by
 have e := build3 s t u
 unfold execOp
 simp only [ho, hx, hy, hz, List.map_toArray, List.map_cons, List.map_nil]
 go_simp
theorem hrunHashed {a : Act} {o : Oper} (x : Operand) (ho : o.op = .call { callee := .value (.func 70), args := #[x], argTypes := #[38] }) (v1 : Value) (hx : a.eval x = v1) (w : World) :
  (execOp a.eval o).run Tryz.prog w = .ok (.enter 70 #[v1]) w := by
 unfold execOp
 simp only [ho]
 subst hx
 go_simp
theorem hashed3 (s t u : ByteArray) (q N : Nat) (hN : N = valLE (hashOf (bytesOf s ++ (bytesOf t ++ bytesOf u))) % Lord) (w : World) (hK : Tab w) (hO : OrdAt w) (hq : w.heap[q]? = some (.cells #[.string s, .string t, .string u] 9 (0, 0))) (hs : s.size ≤ maxLen) (ht : t.size ≤ maxLen) (hu : u.size ≤ maxLen) :
  Calls Tryz.prog 70 #[.slice (some ⟨q, 0, none⟩) 3 3] w fun e w' => e = .returned (.agg (num4A N)) ∧ Below w.heap.size w w' := by
 have h := hashedA [s, t, u] q w hK hO (fun k hk => by
  rw [cell_of_row w q k _ _ _ hq]
  have h3 : k = 0 ∨ k = 1 ∨ k = 2 := by simp at hk; omega
  rcases h3 with rfl | rfl | rfl <;> rfl) (lt_row hq) (fun k hk => by
  have h3 : k = 0 ∨ k = 1 ∨ k = 2 := by simp at hk; omega
  rcases h3 with rfl | rfl | rfl
  · exact hs
  · exact ht
  · exact hu) (by simp)
 have e : allB [s, t, u] = bytesOf s ++ (bytesOf t ++ bytesOf u) := by simp [allB]
 rw [e, ← hN] at h
 exact h
theorem strOf_size (l : List UInt8) : (strOf l).size = l.length := by unfold strOf; rfl
section
attribute [local irreducible] num4A nL bA bL
set_option maxRecDepth 100000 in
set_option maxHeartbeats 4000000 in
theorem challengeA (r k : Nat) (m : ByteArray) (hm : m.size ≤ maxLen) (w : World) (hK : Tab w) (hO : OrdAt w) :
  Calls Tryz.prog 71 #[.agg (bA r), .agg (bA k), .string m] w fun e w' => e = .returned (.agg (num4A (valLE (hashOf (leB r 32 ++ (leB k 32 ++ bytesOf m))) % Lord))) ∧ Below w.heap.size w w' := by
 have hz := zero4W
 have hsl := sliceCode_all
 have HK := hide hK
 have HO := hide hO
 have Hm := hide hm
 have S32a : Hid ((strOf (leB r 32)).size ≤ maxLen) := by show _ ≤ _; rw [strOf_size, leB_length]; decide
 have S32b : Hid ((strOf (leB k 32)).size ≤ maxLen) := by show _ ≤ _; rw [strOf_size, leB_length]; decide
 obtain ⟨N, HN⟩ : ∃ N, Hid (N = valLE (hashOf (bytesOf (strOf (leB r 32)) ++ (bytesOf (strOf (leB k 32)) ++ bytesOf m))) % Lord) := ⟨_, hide rfl⟩
 have HN' : N = valLE (hashOf (leB r 32 ++ (leB k 32 ++ bytesOf m))) % Lord := by rw [HN.out, bytesOf_strOf, bytesOf_strOf]
 rw [← HN']
 clear hK hO hm HN'
 go_enter Tryz.func71, Tryz.ntmps71
 go_upto_region 1 with fail
 generalize hW0 : World.alloc _ _ = W0
 have R3 : Hid (W0.heap[w.heap.size]? = some (.cells (bA r) 62 (0, 0))) := by rw [← hW0]; exact heap3_0 _ _ _ _
 have R4 : Hid (W0.heap[w.heap.size + 1]? = some (.cells (bA k) 62 (0, 0))) := by rw [← hW0]; exact heap3_1 _ _ _ _
 have Z6 : Hid (W0.heap[w.heap.size + 2]? = some (.cells (num4A 0) 60 (0, 0))) := by rw [← hW0]; exact heap3_2 _ _ _ _
 have B0 : Hid (Below w.heap.size w W0) := by rw [← hW0]; show Below _ _ _; go_grown
 have HK := hide (HK.out.below B0.out HK.out.lt)
 have HO := hide (HO.out.below B0.out HO.out.lt)
 clear hW0
 refine wp_region_held_drew (S := fun w' => w'.rangeAt w.heap.size 0 (bL r) ∧ w'.rangeAt (w.heap.size + 1) 0 (bL k)) (by kernel_rfl) ⟨rangeB R3.out, rangeB R4.out⟩ (fun hHeld => ?_)
 have KV1 : Hid (Below W0.heap.size W0 W0.drew) := (Below.refl _ _).drew
 obtain ⟨V1, hV1⟩ : ∃ V, V = W0.drew := ⟨_, rfl⟩
 rw [← hV1] at hHeld KV1 ⊢
 clear hV1
 refine wpAnyH_take (i := 0) (oi := ⟨some 7, .slice 62 (.tmp 3) none none none, 89, "secret.go:64", #[], none⟩) (v := .slice (some ⟨w.heap.size, 0, none⟩) 32 32) rfl (by kernel_rfl) (by kernel_rfl) (by kernel_rfl) (fun _ _ _ h => h) (Or.inl ⟨by rfl, fun w _ => by go_simp⟩) hHeld ?_
 simp only [zaP, zsT, zsZ, zsS]
 refine wpAnyH_take (i := 1) (oi := ⟨some 8, .convert 89 9 (.tmp 7), 9, "secret.go:64", #[zeD 0], none⟩) (v := .string (strOf (leB r 32))) rfl (by kernel_rfl) (by kernel_rfl) (by kernel_rfl) (fun _ _ _ h => h) (Or.inl ⟨by rfl, fun v h => hrunConv _ rfl (w.heap.size) 0 r rfl v h.1⟩) hHeld ?_
 simp only [zaP, zsT, zsZ, zsS]
 refine wpAnyH_take (i := 2) (oi := ⟨some 9, .slice 62 (.tmp 4) none none none, 89, "secret.go:64", #[], none⟩) (v := .slice (some ⟨w.heap.size + 1, 0, none⟩) 32 32) rfl (by kernel_rfl) (by kernel_rfl) (by kernel_rfl) (fun _ _ _ h => h) (Or.inl ⟨by rfl, fun w _ => by go_simp⟩) hHeld ?_
 simp only [zaP, zsT, zsZ, zsS]
 refine wpAnyH_take (i := 3) (oi := ⟨some 10, .convert 89 9 (.tmp 9), 9, "secret.go:64", #[zeD 2], none⟩) (v := .string (strOf (leB k 32))) rfl (by kernel_rfl) (by kernel_rfl) (by kernel_rfl) (fun _ _ _ h => h) (Or.inl ⟨by rfl, fun v h => hrunConv _ rfl (w.heap.size + 1) 0 k rfl v h.2⟩) hHeld ?_
 simp only [zaP, zsT, zsZ, zsS]
 refine wpAnyH_take (i := 4) (oi := ⟨some 11, .move (.tmp 2), 9, "secret.go:64", #[], none⟩) (v := .string m) rfl (by kernel_rfl) (by kernel_rfl) (by kernel_rfl) (fun _ _ _ h => h) (Or.inl ⟨by rfl, fun w _ => by go_simp⟩) hHeld ?_
 simp only [zaP, zsT, zsZ, zsS]
 refine wpAnyH_ready (rs := [5]) (by kernel_rfl) (by simp) ?_
 refine AllReadyH.cons (o := ⟨some 12, .buildSlice 38 3 #[(0, .tmp 8), (1, .tmp 10), (2, .tmp 11)], 38, "secret.go:64", #[zeD 1, zeD 3, zeD 4], none⟩) rfl (fun K hK => ?_) ?_
 ·
  refine step_runTo (w' := V1.alloc (.cells (#[.string (strOf (leB r 32)), .string (strOf (leB k 32)), .string m]) 9)) (by rfl) (.slice (some ⟨V1.heap.size, 0, none⟩) 3 3) (hrunBuild3 _ _ _ rfl (strOf (leB r 32)) (strOf (leB k 32)) m rfl rfl rfl V1) ?_
  obtain ⟨b12, hb12⟩ : ∃ g, g = V1.heap.size := ⟨_, rfl⟩
  have Z12 : Hid ((V1.alloc (.cells (#[.string (strOf (leB r 32)), .string (strOf (leB k 32)), .string m]) 9)).heap[b12]? = some (.cells (#[.string (strOf (leB r 32)), .string (strOf (leB k 32)), .string m]) 9 (0, 0))) := by rw [hb12]; exact heap_alloc_new _ _
  have KV2 : Hid (Below W0.heap.size W0 (V1.alloc (.cells (#[.string (strOf (leB r 32)), .string (strOf (leB k 32)), .string m]) 9))) := KV1.out.alloc KV1.out.size _
  have GG12 : Hid (W0.heap.size ≤ b12) := by rw [hb12]; exact KV1.out.size
  rw [← hb12]
  obtain ⟨V2, hV2⟩ : ∃ V, V = V1.alloc (.cells (#[.string (strOf (leB r 32)), .string (strOf (leB k 32)), .string m]) 9) := ⟨_, rfl⟩
  rw [← hV2] at Z12 KV2 ⊢
  clear hV2 hb12
  refine hK.out _ _ ?_ (fun hHeld => ?_)
  · exact ⟨range_below (rangeB R3.out) KV2.out (lt_row R3.out), range_below (rangeB R4.out) KV2.out (lt_row R4.out)⟩
  clear hK K
  try simp only [zaP, zsT, zsZ, zsS]
  refine wpAnyH_ready (rs := [6]) (by kernel_rfl) (by simp) ?_
  refine AllReadyH.cons (o := ⟨some 13, .call ⟨.value (.func 70), #[.tmp 12], #[38]⟩, 60, "secret.go:64", #[zeD 5], none⟩) rfl (fun K hK => ?_) ?_
  ·
   refine step_callTo (by rfl) _ _ (hrunHashed _ rfl (.slice (some ⟨b12, 0, none⟩) 3 3) rfl V2) _ _ (hashed3 (strOf (leB r 32)) (strOf (leB k 32)) m b12 N HN.out V2 (HK.out.below KV2.out HK.out.lt) (HO.out.below KV2.out HO.out.lt) Z12.out S32a.out S32b.out Hm.out) (fun V3 HBx => ?_)
   have KV3 := kTr KV2 HBx
   have Z12 := hide (row_keep' Z12.out HBx)
   clear HBx
   refine hK.out _ _ ?_ (fun hHeld => ?_)
   · exact ⟨range_below (rangeB R3.out) KV3.out (lt_row R3.out), range_below (rangeB R4.out) KV3.out (lt_row R4.out)⟩
   clear hK K
   try simp only [zaP, zsT, zsZ, zsS]
   refine wpAnyH_ready (rs := [7]) (by kernel_rfl) (by simp) ?_
   refine AllReadyH.cons (o := ⟨none, .store 60 (.tmp 6) (.tmp 13), 0, "secret.go:64", #[zeD 6, zeC 6, zeP 0, zeP 1, zeP 2, zeP 3, zeP 4, zeP 5, zeP 6], none⟩) rfl (fun K hK => ?_) ?_
   ·
    have Z6 := hide (row_below Z6.out KV3.out (lt_row Z6.out))
    refine step_store_row _ (by rfl) 60 (.tmp 6) (.tmp 13) (by rfl) ((w.heap.size + 2)) (num4A N) (by rfl) (by rfl) 60 _ Z6.out (size4W _) (n4W _ _) (num4A_all _) ?_
    rw [put_none']
    obtain ⟨V4, hV4⟩ : ∃ V, V = World.setRow V3 (w.heap.size + 2) (num4A N) := ⟨_, rfl⟩
    have Z6 : Hid (V4.heap[(w.heap.size + 2)]? = some (.cells (num4A N) 60 (0, 0))) := by rw [hV4]; exact setRow_heap _ _ _ _ _ _ Z6.out
    have KV4 : Hid (Below w.heap.size w V4) := by rw [hV4]; exact below_setRow (B0.out.trans (KV3.out.mono B0.out.size)) (by omega) _
    have SS : Hid _ := hide ((⟨range_set (range_below (rangeB R3.out) KV3.out (lt_row R3.out)) (by omega), range_set (range_below (rangeB R4.out) KV3.out (lt_row R4.out)) (by omega)⟩ : (World.setRow _ (w.heap.size + 2) (num4A N)).rangeAt w.heap.size 0 (bL r) ∧ (World.setRow _ (w.heap.size + 2) (num4A N)).rangeAt (w.heap.size + 1) 0 (bL k)))
    rw [← hV4] at SS
    rw [← hV4]
    clear hV4
    refine hK.out _ _ ?_ (fun hHeld => ?_)
    · exact SS.out
    clear hK K
    try simp only [zaP, zsT, zsZ, zsS]
    refine wpAnyH_done (by kernel_rfl) ?_ _
    go_wp2_with fail
    refine bodyPost_ret (v := .agg (num4A N)) (results_cell_row Tryz.results71 _ _ (w.heap.size + 2) 60 _ (0, 0) _ (by rfl) Z6.out under4 rfl (size4W _)) rfl ⟨by rw [HN.out], KV4.out⟩
   exact AllReadyH.nil
  exact AllReadyH.nil
 exact AllReadyH.nil
end
def sLs (l : List UInt8) : List Value := (sRow l 16).map iv
theorem rangeS {w : World} {b : Nat} {l : List UInt8} {T : TypeId} {fr : Nat × Nat} (h : w.heap[b]? = some (.cells (sA l) T fr)) : w.rangeAt b 0 (sLs l) := by
 intro j v hv
 rw [Nat.zero_add, cell_of_row w b j _ T _ h, show sA l = (sLs l).toArray from rfl, List.getElem?_toArray]
 exact hv
theorem yldS {ops : Array Oper} {S : World → Prop} {op : Oper} {a : Act} (hw : Region.wanted op (yielded ops a.tmps) = true) (x : Operand) (ho : op.op = .load 91 x)
  (b o : Nat) (l : List UInt8) (hx : a.eval x = .pointer (some ⟨b, o, none⟩)) (hS : ∀ w, S w → w.rangeAt b o (sLs l)) : YieldsIf Tryz.prog ops S op (.agg (sA l)) a :=
 yld_load hw _ x ho b o hx (sLs l) (sA l) rfl _ hS underS' rfl (by rw [show (sLs l).length = 17 by rw [sLs, List.length_map, sRow_len]]; exact sizeS)
theorem str_ext {a b : ByteArray} (h : a.data = b.data) : a = b := by cases a; cases b; simpa using h
theorem strOf_drop (H : List UInt8) (n : Nat) : (strOf H).extract n (strOf H).size = strOf (H.drop n) := by
 apply str_ext
 rw [ByteArray.data_extract]
 show H.toArray.extract n H.toArray.size = (H.drop n).toArray
 apply Array.ext'
 simp [List.extract_eq_take_drop]
 try exact List.take_of_length_le (by simp)
theorem strOf_take (H : List UInt8) (n : Nat) : (strOf H).extract 0 n = strOf (H.take n) := by
 apply str_ext
 rw [ByteArray.data_extract]
 show H.toArray.extract 0 n = (H.take n).toArray
 simp
end Go.Proofs.YtccgfabojbjmjaaGreatDoor
