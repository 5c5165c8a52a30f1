import Derived.Test.YtccgfabojbjmjaaGreatDoorLo30
import Derived.Test.YtccgfabojbjmjaaGreatDoorLo29
import Derived.Test.YtccgfabojbjmjaaGreatDoorLo32
set_option maxRecDepth 100000
set_option maxHeartbeats 8000000
namespace Go.Proofs.YtccgfabojbjmjaaGreatDoor
open Go.RowKit
open Go.RowKit
def yJ (L : List ByteArray) : List UInt8 := L.flatMap bytesOf
theorem qmd (L : List ByteArray) (k : Nat) (h : k < L.length) : yJ (L.take (k + 1)) = yJ (L.take k) ++ bytesOf L[k] := by
 unfold yJ
 rw [List.take_succ_eq_append_getElem h, List.flatMap_append]; simp
section
attribute [local irreducible] qb
theorem qri (L : List ByteArray) (q : Nat) (w : World) (hK : j9 w) (hO : QT w) (hL : ∀ k (h : k < L.length), w.cell? ⟨q, k, none⟩ = some (.string L[k])) (hq : q < w.heap.size) (hm : ∀ k (h : k < L.length), L[k].size ≤ maxLen) (hn : L.length ≤ 100) :
  zC 70 #[.slice (some ⟨q, 0, none⟩) L.length L.length] w (.agg (qb (qC (jD (yJ L)) % jf))) := by
 have hz := qld
 have hzH := qnj
 have HK := qa hK
 have HO := qa hO
 have HL := qa hL
 have HM := qa hm
 clear hK hO hL hm
 go_enter Tryz.func70, Tryz.ntmps70
 go_upto_region 1 with fail
 obtain ⟨W0, hW0⟩ := zy (w.alloc (.cells (qb 0) 60))
 have RZ : Hid (qi W0 w.heap.size (qb 0) 60) := by rw [hW0]; exact za _ _
 have BL : Hid (zB w W0) := by rw [hW0]; exact (zJ _ _).alloc (zm _) _
 rw [← hW0]
 clear hW0
 go_wp2_with fail
 refine (qkl _).mono ?_
 rintro e W1 ⟨rfl, hB⟩
 have RZ := qa (qk RZ.o hB)
 have BL := qq BL hB
 clear hB
 go_upto_region 2 with (first
  | (refine qB 166 (.tmp 3) (.tmp 6) W1.heap.size r0 (za _ _) qfn qpP qhd ?_))
 try rw [qH]
 obtain ⟨b, hb⟩ := zy W1.heap.size
 generalize hW2 : World.setRow _ _ _ = W2
 have hb1 : w.heap.size < b := by rw [hb]; exact qh RZ.o
 have HA : Hid (jw W2 b 166 H0) := ⟨by rw [← hW2, hb]; exact zd _ _ _ _ _ _ (za _ _), qfB⟩
 have RZ : Hid (qi W2 w.heap.size (qb 0) 60) := by rw [← hW2]; exact (zc _ _ _ _ (by omega)).trans ((zb _ _ (qh RZ.o)).trans RZ.o)
 have BL : Hid (zB w W2) := by rw [← hW2]; exact ze (BL.o.alloc BL.o.size _) BL.o.size _
 rw [← hb]
 clear hW2 hb
 go_wp2_with fail
 go_loopw [9] (fun i wr => ∃ k : Nat, k ≤ L.length ∧ i = .int .i64 k ∧ Hid (jw wr b 166 (H0.puts (yJ (L.take k)))) ∧ Hid (qi wr w.heap.size (qb 0) 60) ∧ Hid (zB w wr)) (fun i _ => L.length - (intOf i).toNat)
 case atStart => exact ⟨0, Zc _, rfl, HA, RZ, BL⟩
 case round =>
  clear HA RZ BL
  obtain ⟨k, hk, rfl, HA, RZ, BL⟩ := hrel
  by_cases hlt : k < L.length
  ·
   have bk : (k : Int) < (L.length : Int) := by omega
   have ck := (BL.o.cell (show (⟨q, k, none⟩ : Addr).block < w.heap.size from hq)).trans (HL.o k hlt)
   obtain ⟨s, Es⟩ := zx (L[k])
   rw [← Es.o] at ck
   have hs : s.size ≤ maxLen := by rw [Es.o]; exact HM.o k hlt
   go_wp2_with fail
   refine (qfv b 166 _ s _ HA.o (HK.o.below BL.o HK.o.lt) (by have := HK.o.lt; omega) hs).mono ?_
   rintro e W3 ⟨rfl, hA3, hT3⟩
   have HA3 : Hid (jw W3 b 166 (H0.puts (yJ (L.take (k + 1))))) := by
    show jw _ _ _ _
    rw [qmd L k hlt, HS.puts_append, ← Es.o]; exact hA3
   have RZ3 : Hid (qi W3 w.heap.size (qb 0) 60) := (hT3.block _ (qh RZ.o) (by omega)).trans RZ.o
   have BL3 : Hid (zB w W3) := BL.o.trans (hT3.below (by omega) BL.o.size)
   clear hA3 hT3 HA RZ BL ck
   go_wp2_with fail
   exact ⟨⟨k + 1, by omega, by go_num, HA3, RZ3, BL3⟩, by simp [intOf]; omega⟩
  ·
   obtain rfl : k = L.length := by omega
   have HA2 : Hid (jw wr b 166 (H0.puts (yJ L))) := by have e := HA.o; rw [List.take_length] at e; exact e
   clear HA
   go_wp2_with fail
   refine (qmx b 166 _ _ HA2.o (HK.o.below BL.o HK.o.lt)).mono ?_
   rintro e W3 ⟨rfl, hB⟩
   have RZ := qa (qk RZ.o hB)
   have BL3 := qq BL hB
   clear hB BL
   obtain ⟨M, EM⟩ := zx ((jD (yJ L)).map cv)
   rw [show (H0.puts (yJ L)).sum.map cv = M from EM.o.symm]
   go_wp2_with fail
   refine (qgu (jD (yJ L)) (qao _) M EM.o _ (HO.o.below BL3.o HO.o.lt)).mono ?_
   rintro e W4 ⟨rfl, hB⟩
   have RZ := qa (qk RZ.o hB)
   have BL4 := qq BL3 hB
   clear hB BL3
   obtain ⟨N, HN⟩ := zx (qC (jD (yJ L)) % jf)
   rw [← HN.o]
   go_wp2_with (first | (refine qB 60 (.tmp 2) (.tmp 17) w.heap.size (qb N) RZ.o (qdE _) (n4W _ _) (qY _) ?_))
   refine zh (v := .agg (qb N)) (results_cell_row Tryz.results70 _ _ w.heap.size 60 _ (0, 0) _ (by rfl) (zd _ _ _ _ _ _ RZ.o) Jr rfl (qdE _)) rfl ⟨by rw [HN.o], ze BL4.o (by omega) _⟩
end
open Go.RowKit
theorem quH (w : World) (q o : Nat) (l : List UInt8) (hl : l.length = 32) (h : w.rangeAt q o (l.map cv)) :
  (convert 89 9 (.slice (some ⟨q, o, none⟩) 32 32)).run Tryz.prog w = .ok (.string (jk l)) w := by
 have e := run_convert_bytes_back (P := Tryz.prog) w 89 9 5 ⟨q, o, none⟩ 32 l Jt Jv JA (fun i hi => by
  rw [Addr.add_mid]
  exact h i _ (by simp [hi, C8]))
 rw [hl] at e
 exact e
theorem qio {a : Act} {o : Oper} (x : Operand) (ho : o.op = .convert 89 9 x) (q i n : Nat) (hx : a.eval x = .slice (some ⟨q, i, none⟩) 32 32) (w : World) (h : w.rangeAt q i (bL n)) :
  (execOp a.eval o).run Tryz.prog w = .ok (.value (.string (jk (qI n 32)))) w := by
 have e := quH w q i (qI n 32) (jM _ _) h
 unfold execOp
 simp only [ho, hx]
 go_simp
theorem qr0 (s t u : ByteArray) (w : World) : (Instr.buildSlice 38 3 #[(0, .string s), (1, .string t), (2, .string u)]).run Tryz.prog w = .ok (.slice (some ⟨w.heap.size, 0, none⟩) 3 3) (w.alloc (.cells #[.string s, .string t, .string u] 9)) := by kernel_rfl
theorem qjw {a : Act} {o : Oper} (x y z : Operand) (ho : o.op = .buildSlice 38 3 #[(0, x), (1, y), (2, z)]) (s t u : ByteArray) (hx : a.eval x = .string s) (hy : a.eval y = .string t) (hz : a.eval z = .string u) (w : World) :
  (execOp a.eval o).run Tryz.prog w = .ok (.value (.slice (some ⟨w.heap.size, 0, none⟩) 3 3)) (w.alloc (.cells #[.string s, .string t, .string u] 9)) := by
 have e := qr0 s t u
 unfold execOp
 simp only [ho, hx, hy, hz, List.map_toArray, List.map_cons, List.map_nil]
 go_simp
theorem qjO {a : Act} {o : Oper} (x : Operand) (ho : o.op = .call { callee := .value (.func 70), args := #[x], argTypes := #[38] }) (v1 : Value) (hx : a.eval x = v1) (w : World) :
  (execOp a.eval o).run Tryz.prog w = .ok (.enter 70 #[v1]) w := by
 unfold execOp
 simp only [ho]
 subst hx
 go_simp
theorem qqR (s t u : ByteArray) (q N : Nat) (hN : N = qC (jD (bytesOf s ++ (bytesOf t ++ bytesOf u))) % jf) (w : World) (hK : j9 w) (hO : QT w) (hq : w.heap[q]? = some (.cells #[.string s, .string t, .string u] 9)) (hs : s.size ≤ maxLen) (ht : t.size ≤ maxLen) (hu : u.size ≤ maxLen) :
  zC 70 #[.slice (some ⟨q, 0, none⟩) 3 3] w (.agg (qb N)) := by
 have h := qri [s, t, u] q w hK hO (fun k hk => by
  rw [zj w q k _ _ _ hq]
  have h3 : k = 0 ∨ k = 1 ∨ k = 2 := by simp at hk; omega
  rcases h3 with rfl | rfl | rfl <;> rfl) (qh hq) (fun k hk => by
  have h3 : k = 0 ∨ k = 1 ∨ k = 2 := by simp at hk; omega
  rcases h3 with rfl | rfl | rfl
  · exact hs
  · exact ht
  · exact hu) (by simp)
 have e : yJ [s, t, u] = bytesOf s ++ (bytesOf t ++ bytesOf u) := by simp [yJ]
 rw [e, ← hN] at h
 exact h
theorem qec (l : List UInt8) : (jk l).size = l.length := by unfold jk; rfl
section
attribute [local irreducible] qb nL bA bL
theorem qi6 (r k : Nat) (m : ByteArray) (hm : m.size ≤ maxLen) (w : World) (hK : j9 w) (hO : QT w) :
  zC 71 #[.agg (bA r), .agg (bA k), .string m] w (.agg (qb (qC (jD (qI r 32 ++ (qI k 32 ++ bytesOf m))) % jf))) := by
 have hz := qld
 have hsl := qfl
 have HK := qa hK
 have HO := qa hO
 have Hm := qa hm
 have S32a : Hid ((jk (qI r 32)).size ≤ maxLen) := by show _ ≤ _; rw [qec, jM]; decide
 have S32b : Hid ((jk (qI k 32)).size ≤ maxLen) := by show _ ≤ _; rw [qec, jM]; decide
 obtain ⟨N, HN⟩ := zx (qC (jD (bytesOf (jk (qI r 32)) ++ (bytesOf (jk (qI k 32)) ++ bytesOf m))) % jf)
 have HN' : N = qC (jD (qI r 32 ++ (qI k 32 ++ bytesOf m))) % jf := by rw [HN.o, qad, qad]
 rw [← HN']
 clear hK hO hm HN'
 go_enter Tryz.func71, Tryz.ntmps71
 go_upto_region 1 with fail
 generalize hW0 : World.alloc _ _ = W0
 have R3 : Hid (qi W0 w.heap.size (bA r) 62) := by rw [← hW0]; exact JO _ _ _ _
 have R4 : Hid (qi W0 (w.heap.size + 1) (bA k) 62) := by rw [← hW0]; exact Jm _ _ _ _
 have Z6 : Hid (qi W0 (w.heap.size + 2) (qb 0) 60) := by rw [← hW0]; exact Jb _ _ _ _
 have B0 : Hid (zB w W0) := by rw [← hW0]; show Below _ _ _; go_grown
 have HK := qa (HK.o.below B0.o HK.o.lt)
 have HO := qa (HO.o.below B0.o HO.o.lt)
 clear hW0
 refine zM (S := fun w' => w'.rangeAt w.heap.size 0 (bL r) ∧ w'.rangeAt (w.heap.size + 1) 0 (bL k)) (by kernel_rfl) ⟨yv R3.o, yv R4.o⟩ (fun hHeld => ?_)
 have KV1 : Hid (zB W0 W0.drew) := (zJ _ _).drew
 obtain ⟨V1, hV1⟩ := zy W0.drew
 rw [← hV1] at hHeld KV1 ⊢
 clear hV1
 refine zU 0 ⟨some 7, .slice 62 (.tmp 3) none none none, 89, "secret.go:64", #[], none⟩ (.slice (some ⟨w.heap.size, 0, none⟩) 32 32) ?_
 simp only [qd]
 refine zT 1 ⟨some 8, .convert 89 9 (.tmp 7), 9, "secret.go:64", #[ql 0], none⟩ (.string (jk (qI r 32))) (Or.inl ⟨by rfl, fun v h => qio _ rfl (w.heap.size) 0 r rfl v h.1⟩) ?_
 simp only [qd]
 refine zU 2 ⟨some 9, .slice 62 (.tmp 4) none none none, 89, "secret.go:64", #[], none⟩ (.slice (some ⟨w.heap.size + 1, 0, none⟩) 32 32) ?_
 simp only [qd]
 refine zT 3 ⟨some 10, .convert 89 9 (.tmp 9), 9, "secret.go:64", #[ql 2], none⟩ (.string (jk (qI k 32))) (Or.inl ⟨by rfl, fun v h => qio _ rfl (w.heap.size + 1) 0 k rfl v h.2⟩) ?_
 simp only [qd]
 refine zU 4 ⟨some 11, .move (.tmp 2), 9, "secret.go:64", #[], none⟩ (.string m) ?_
 simp only [qd]
 refine zW [5] ?_
 refine zK ⟨some 12, .buildSlice 38 3 #[(0, .tmp 8), (1, .tmp 10), (2, .tmp 11)], 38, "secret.go:64", #[ql 1, ql 3, ql 4], none⟩ (fun K hK => ?_) ?_
 ·
  refine yl (w' := V1.alloc (.cells (#[.string (jk (qI r 32)), .string (jk (qI k 32)), .string m]) 9)) (by rfl) (.slice (some ⟨V1.heap.size, 0, none⟩) 3 3) (qjw _ _ _ rfl (jk (qI r 32)) (jk (qI k 32)) m rfl rfl rfl V1) ?_
  obtain ⟨b12, hb12⟩ := zy V1.heap.size
  have Z12 : Hid ((V1.alloc (.cells (#[.string (jk (qI r 32)), .string (jk (qI k 32)), .string m]) 9)).heap[b12]? = some (.cells (#[.string (jk (qI r 32)), .string (jk (qI k 32)), .string m]) 9)) := by rw [hb12]; exact za _ _
  have KV2 : Hid (zB W0 (V1.alloc (.cells (#[.string (jk (qI r 32)), .string (jk (qI k 32)), .string m]) 9))) := KV1.o.alloc KV1.o.size _
  have GG12 : Hid (W0.heap.size ≤ b12) := by rw [hb12]; exact KV1.o.size
  rw [← hb12]
  obtain ⟨V2, hV2⟩ := zy (V1.alloc (.cells (#[.string (jk (qI r 32)), .string (jk (qI k 32)), .string m]) 9))
  rw [← hV2] at Z12 KV2 ⊢
  clear hV2 hb12
  refine hK.o _ _ (⟨q8 (yv R3.o) KV2.o (qh R3.o), q8 (yv R4.o) KV2.o (qh R4.o)⟩) fun hHeld => ?_
  try simp only [qd]
  refine zW [6] ?_
  refine zK ⟨some 13, .call ⟨.value (.func 70), #[.tmp 12], #[38]⟩, 60, "secret.go:64", #[ql 5], none⟩ (fun K hK => ?_) ?_
  ·
   refine zE (qjO _ rfl (.slice (some ⟨b12, 0, none⟩) 3 3) rfl V2) (qqR (jk (qI r 32)) (jk (qI k 32)) m b12 N HN.o V2 (HK.o.below KV2.o HK.o.lt) (HO.o.below KV2.o HO.o.lt) Z12.o S32a.o S32b.o Hm.o) fun V3 HBx => ?_
   have KV3 := qq KV2 HBx
   have Z12 := qa (qk Z12.o HBx)
   clear HBx
   refine hK.o _ _ (⟨q8 (yv R3.o) KV3.o (qh R3.o), q8 (yv R4.o) KV3.o (qh R4.o)⟩) fun hHeld => ?_
   try simp only [qd]
   refine zW [7] ?_
   refine zK ⟨none, .store 60 (.tmp 6) (.tmp 13), 0, "secret.go:64", #[ql 6, qT 6, qj 0, qj 1, qj 2, qj 3, qj 4, qj 5, qj 6], none⟩ (fun K hK => ?_) ?_
   ·
    have Z6 := qa (qs Z6.o KV3.o (qh Z6.o))
    refine zQ 60 (.tmp 6) (.tmp 13) ((w.heap.size + 2)) (qb N) Z6.o (qdE _) (n4W _ _) (qY _) ?_
    rw [qH]
    obtain ⟨V4, hV4⟩ := zy (World.setRow V3 (w.heap.size + 2) (qb N))
    have Z6 : Hid (qi V4 (w.heap.size + 2) (qb N) 60) := by rw [hV4]; exact zd _ _ _ _ _ _ Z6.o
    have KV4 : Hid (zB w V4) := by rw [hV4]; exact ze (B0.o.trans (KV3.o.mono B0.o.size)) (by omega) _
    have SS : Hid _ := qa ((⟨qF (q8 (yv R3.o) KV3.o (qh R3.o)) (by omega), qF (q8 (yv R4.o) KV3.o (qh R4.o)) (by omega)⟩ : (World.setRow _ (w.heap.size + 2) (qb N)).rangeAt w.heap.size 0 (bL r) ∧ (World.setRow _ (w.heap.size + 2) (qb N)).rangeAt (w.heap.size + 1) 0 (bL k)))
    rw [← hV4] at SS
    rw [← hV4]
    clear hV4
    refine hK.o _ _ (SS.o) fun hHeld => ?_
    try simp only [qd]
    refine zi (by kernel_rfl) ?_ _
    go_wp2_with fail
    refine zh (v := .agg (qb N)) (results_cell_row Tryz.results71 _ _ (w.heap.size + 2) 60 _ (0, 0) _ (by rfl) Z6.o Jr rfl (qdE _)) rfl ⟨by rw [HN.o], KV4.o⟩
   exact zu
  exact zu
 exact zu
end
end Go.Proofs.YtccgfabojbjmjaaGreatDoor
