import Derived.Test.YtccgfabojbjmjaaGreatDoorVe31
import Derived.Deep.RegionHeld3
import Derived.Deep.DrawnRows
import Derived.BigRegion
namespace Go.Proofs.YtccgfabojbjmjaaGreatDoor
open Go.RowKit
section
attribute [local go_sem] U_and U_or U_xor U_not U_add U_add_one U_shr7 U_shr6
attribute [local go_sem ↓] Go.wp_at_zero Go.wp_at_succ
set_option maxRecDepth 1000000 in
set_option maxHeartbeats 8000000 in
theorem refLoop3 (Wk W0 : World) (i0 : TypeInfo) (C : List UInt8) (v7 : Value) (c0 c1 c2 c3 c4 c5 c6 c8 c9 c11 c12 c13 c14 c15 c16 c17 c18 c19 c20 c21 c22 c23 c24 c25 c26 c27 c28 c29 c30 c31 c32 c33 c34 c35 c36 c37 c38 c39 c40 c41 c42 c43 c44 c45 c46 c47 c48 c49 c50 c51 c52 c53 c54 c55 c56 c57 c58 c59 c60 c61 c62 c63 c64 c65 c66 c67 c68 c69 c70 c71 c72 c73 c74 c75 c76 c77 c78 c79 c80 c81 c82 c83 c84 c85 c86 c87 c88 c89 c90 c91 c92 c93 c94 c95 c96 c97 c98 c99 c100 c101 c102 c103 c104 c105 c106 c107 c108 c109 c110 c111 c112 c113 c114 c115 c116 c117 c118 c119 c120 c121 c122 c123 c124 c125 c126 c127 c128 c129 c130 c131 c132 c133 c134 c135 c136 c137 c138 c139 c140 c141 c142 c143 c144 c145 c146 c147 c148 c149 c150 c151 c152 c153 c154 c155 c156 c157 c158 c159 c160 c161 c162 c163 c164 c165 c166 c167 c168 c169 c170 c171 c172 c173 c174 c175 c176 c177 c178 c179 c180 c181 c182 c183 c184 c185 c186 c187 c188 c189 c190 c191 c192 c193 c194 c195 c196 c197 c198 c199 c200 c201 c202 c203 c204 c205 c206 c207 c208 c209 c210 c211 c212 c213 c214 c215 c216 c217 c218 c219 c220 c221 c222 c223 c224 c225 c226 c227 c228 c229 c230 c231 c232 c233 c234 c235 c236 c237 c238 c239 c240 c241 c242 c243 c244 c245 c246 c247 c248 c249 c250 c251 c252 c253 c254 c255 c256 c257 c258 c259 c260 c261 c262 c263 c264 c265 c266 c267 c268 : Value) (Q : Exit → Act → World → Prop)
  (HI : Hid (Tryz.prog.info? 59 = some i0)) (HZ0 : Hid (i0.zero = some (.int .u64 0))) (HZ1 : Hid (i0.size = 1)) (HZ2 : Hid (i0.bytes = 8))
  (HO' : Hid (Own W0 Wk.heap.size 59 v7 ((sch C 0).map uv))) (HBr : Hid (Below Wk.heap.size Wk W0))
  (HEX : Hid (∀ (n m : Nat) (u7 : Value) (u11 u12 u52 u53 u54 u55 u56 u57 u58 u59 u60 u61 u62 u63 u64 u65 u66 u67 u68 u69 u70 u71 u72 u73 u74 u75 u76 u77 u78 u79 u80 u81 u82 u83 u84 u85 u86 u87 u88 u89 u90 u91 u92 u93 u94 u95 u96 u97 u98 u99 u100 u101 u102 u103 u104 u105 u106 u107 u108 u109 u110 u111 u112 u113 : Value) (w' : World), n = 64 → m = 80 → Hid (Own w' Wk.heap.size 59 u7 ((sch C n).map uv)) → Hid (Below Wk.heap.size Wk w') →
   Q (.exit 4) ⟨List.toArray (c0 :: c1 :: c2 :: c3 :: c4 :: c5 :: c6 :: u7 :: c8 :: c9 :: (.int .i64 m) :: u11 :: u12 :: c13 :: c14 :: c15 :: c16 :: c17 :: c18 :: c19 :: c20 :: c21 :: c22 :: c23 :: c24 :: c25 :: c26 :: c27 :: c28 :: c29 :: c30 :: c31 :: c32 :: c33 :: c34 :: c35 :: c36 :: c37 :: c38 :: c39 :: c40 :: c41 :: c42 :: c43 :: c44 :: c45 :: c46 :: c47 :: c48 :: c49 :: c50 :: c51 :: u52 :: u53 :: u54 :: u55 :: u56 :: u57 :: u58 :: u59 :: u60 :: u61 :: u62 :: u63 :: u64 :: u65 :: u66 :: u67 :: u68 :: u69 :: u70 :: u71 :: u72 :: u73 :: u74 :: u75 :: u76 :: u77 :: u78 :: u79 :: u80 :: u81 :: u82 :: u83 :: u84 :: u85 :: u86 :: u87 :: u88 :: u89 :: u90 :: u91 :: u92 :: u93 :: u94 :: u95 :: u96 :: u97 :: u98 :: u99 :: u100 :: u101 :: u102 :: u103 :: u104 :: u105 :: u106 :: u107 :: u108 :: u109 :: u110 :: u111 :: u112 :: u113 :: c114 :: c115 :: c116 :: c117 :: c118 :: c119 :: c120 :: c121 :: c122 :: c123 :: c124 :: c125 :: c126 :: c127 :: c128 :: c129 :: c130 :: c131 :: c132 :: c133 :: c134 :: c135 :: c136 :: c137 :: c138 :: c139 :: c140 :: c141 :: c142 :: c143 :: c144 :: c145 :: c146 :: c147 :: c148 :: c149 :: c150 :: c151 :: c152 :: c153 :: c154 :: c155 :: c156 :: c157 :: c158 :: c159 :: c160 :: c161 :: c162 :: c163 :: c164 :: c165 :: c166 :: c167 :: c168 :: c169 :: c170 :: c171 :: c172 :: c173 :: c174 :: c175 :: c176 :: c177 :: c178 :: c179 :: c180 :: c181 :: c182 :: c183 :: c184 :: c185 :: c186 :: c187 :: c188 :: c189 :: c190 :: c191 :: c192 :: c193 :: c194 :: c195 :: c196 :: c197 :: c198 :: c199 :: c200 :: c201 :: c202 :: c203 :: c204 :: c205 :: c206 :: c207 :: c208 :: c209 :: c210 :: c211 :: c212 :: c213 :: c214 :: c215 :: c216 :: c217 :: c218 :: c219 :: c220 :: c221 :: c222 :: c223 :: c224 :: c225 :: c226 :: c227 :: c228 :: c229 :: c230 :: c231 :: c232 :: c233 :: c234 :: c235 :: c236 :: c237 :: c238 :: c239 :: c240 :: c241 :: c242 :: c243 :: c244 :: c245 :: c246 :: c247 :: c248 :: c249 :: c250 :: c251 :: c252 :: c253 :: c254 :: c255 :: c256 :: c257 :: c258 :: c259 :: c260 :: c261 :: c262 :: c263 :: c264 :: c265 :: c266 :: c267 :: c268 :: []), []⟩ w')) :
  Code.wp Tryz.prog (Code.loop (refBody 2)) Q ⟨List.toArray (c0 :: c1 :: c2 :: c3 :: c4 :: c5 :: c6 :: v7 :: c8 :: c9 :: (.int .i64 16) :: c11 :: c12 :: c13 :: c14 :: c15 :: c16 :: c17 :: c18 :: c19 :: c20 :: c21 :: c22 :: c23 :: c24 :: c25 :: c26 :: c27 :: c28 :: c29 :: c30 :: c31 :: c32 :: c33 :: c34 :: c35 :: c36 :: c37 :: c38 :: c39 :: c40 :: c41 :: c42 :: c43 :: c44 :: c45 :: c46 :: c47 :: c48 :: c49 :: c50 :: c51 :: c52 :: c53 :: c54 :: c55 :: c56 :: c57 :: c58 :: c59 :: c60 :: c61 :: c62 :: c63 :: c64 :: c65 :: c66 :: c67 :: c68 :: c69 :: c70 :: c71 :: c72 :: c73 :: c74 :: c75 :: c76 :: c77 :: c78 :: c79 :: c80 :: c81 :: c82 :: c83 :: c84 :: c85 :: c86 :: c87 :: c88 :: c89 :: c90 :: c91 :: c92 :: c93 :: c94 :: c95 :: c96 :: c97 :: c98 :: c99 :: c100 :: c101 :: c102 :: c103 :: c104 :: c105 :: c106 :: c107 :: c108 :: c109 :: c110 :: c111 :: c112 :: c113 :: c114 :: c115 :: c116 :: c117 :: c118 :: c119 :: c120 :: c121 :: c122 :: c123 :: c124 :: c125 :: c126 :: c127 :: c128 :: c129 :: c130 :: c131 :: c132 :: c133 :: c134 :: c135 :: c136 :: c137 :: c138 :: c139 :: c140 :: c141 :: c142 :: c143 :: c144 :: c145 :: c146 :: c147 :: c148 :: c149 :: c150 :: c151 :: c152 :: c153 :: c154 :: c155 :: c156 :: c157 :: c158 :: c159 :: c160 :: c161 :: c162 :: c163 :: c164 :: c165 :: c166 :: c167 :: c168 :: c169 :: c170 :: c171 :: c172 :: c173 :: c174 :: c175 :: c176 :: c177 :: c178 :: c179 :: c180 :: c181 :: c182 :: c183 :: c184 :: c185 :: c186 :: c187 :: c188 :: c189 :: c190 :: c191 :: c192 :: c193 :: c194 :: c195 :: c196 :: c197 :: c198 :: c199 :: c200 :: c201 :: c202 :: c203 :: c204 :: c205 :: c206 :: c207 :: c208 :: c209 :: c210 :: c211 :: c212 :: c213 :: c214 :: c215 :: c216 :: c217 :: c218 :: c219 :: c220 :: c221 :: c222 :: c223 :: c224 :: c225 :: c226 :: c227 :: c228 :: c229 :: c230 :: c231 :: c232 :: c233 :: c234 :: c235 :: c236 :: c237 :: c238 :: c239 :: c240 :: c241 :: c242 :: c243 :: c244 :: c245 :: c246 :: c247 :: c248 :: c249 :: c250 :: c251 :: c252 :: c253 :: c254 :: c255 :: c256 :: c257 :: c258 :: c259 :: c260 :: c261 :: c262 :: c263 :: c264 :: c265 :: c266 :: c267 :: c268 :: []), []⟩ W0 := by
 conv => arg 2; arg 1; whnf
 go_loopw [7, 10] (fun v i w3 => ∃ n m : Nat, n ≤ 64 ∧ Hid (m = 16 + n) ∧ i = .int .i64 m ∧ Hid (Own w3 Wk.heap.size 59 v ((sch C n).map uv)) ∧ Hid (Below Wk.heap.size Wk w3)) (fun _ i _ => 80 - (intOf i).toNat)
 case atStart => exact ⟨0, 16, Nat.zero_le _, rfl, rfl, HO', HBr⟩
 case round =>
  clear HO' HBr
  obtain ⟨n, m, hn, Hm, rfl, HO, HBr⟩ := hrel
  by_cases hn64 : n < 64
  ·
   have hl := sch_length C n
   obtain ⟨gw, capw, hv, hgw, hgwl, hcw, hcwm, hcells⟩ := HO.out.form (by rw [List.length_map, hl]; omega)
   have hlm : ((sch C n).map uv).length = m := by rw [List.length_map, hl, Hm.out]
   rw [hlm] at hv hcw
   subst hv
   have HGW : Hid (Wk.heap.size ≤ gw) := hgw
   have hm' := Hm.out
   obtain ⟨m2, hm2⟩ : ∃ m2, m2 = n + 14 := ⟨_, rfl⟩
   obtain ⟨m7, hm7⟩ : ∃ m7, m7 = n + 9 := ⟨_, rfl⟩
   obtain ⟨m15, hm15⟩ : ∃ m15, m15 = n + 1 := ⟨_, rfl⟩
   have c2 := sch_cell hcells m2 (by omega)
   have c7 := sch_cell hcells m7 (by omega)
   have c15 := sch_cell hcells m15 (by omega)
   have c16 := sch_cell hcells n (by omega)
   have e2 : IntKind.i64.wrap ((m : Int) - 2) = (m2 : Int) := by rw [IntKind.wrap_i64]; omega
   have e7 : IntKind.i64.wrap ((m : Int) - 7) = (m7 : Int) := by rw [IntKind.wrap_i64]; omega
   have e15 : IntKind.i64.wrap ((m : Int) - 15) = (m15 : Int) := by rw [IntKind.wrap_i64]; omega
   have e16 : IntKind.i64.wrap ((m : Int) - 16) = (n : Int) := by rw [IntKind.wrap_i64]; omega
   have b2 : (m2 : Int) < (m : Int) := by omega
   have b7 : (m7 : Int) < (m : Int) := by omega
   have b15 : (m15 : Int) < (m : Int) := by omega
   have b16 : (n : Int) < (m : Int) := by omega
   have bm : (m : Int) < 80 := by omega
   have HJ7 : Hid (m7 < m ∧ n < m) := ⟨by omega, by omega⟩
   generalize hx2 : (sch C n).getD m2 0 = x2 at c2
   generalize hx7 : (sch C n).getD m7 0 = x7 at c7
   generalize hx15 : (sch C n).getD m15 0 = x15 at c15
   generalize hx16 : (sch C n).getD n 0 = x16 at c16
   have HX : Hid (smallSigma0W x15 + smallSigma1W x2 + x16 + x7 = nextW (sch C n) n) := by
    show _ = _
    rw [← next_ref, ← hx2, ← hx7, ← hx15, ← hx16, hm2, hm7, hm15]
   have HLM := hide hlm
   have HGL : Hid (gw < wr.heap.size) := hgwl
   clear hx2 hx7 hx15 hx16 hl hm2 hm7 hm15 hm' hcells hlm hgw hcw hcwm hgwl
   go_wp2_with fail
   go_quiet ((go_at_call 105; exact Calls.quiet_of (refRight_int _ _ (by decide) (by decide) _)))
   obtain ⟨V, hV⟩ : ∃ V, V = wr.drewN nq := ⟨_, rfl⟩
   rw [← hV]
   have d2 : V.cell? ⟨gw, m2, none⟩ = some (.int .u64 (U x2)) := by rw [hV]; exact c2
   have d7 : V.cell? ⟨gw, m7, none⟩ = some (.int .u64 (U x7)) := by rw [hV]; exact c7
   have d16 : V.cell? ⟨gw, n, none⟩ = some (.int .u64 (U x16)) := by rw [hV]; exact c16
   have HO1 : Hid (Own V Wk.heap.size 59 (.slice (some ⟨gw, 0, none⟩) m capw) ((sch C n).map uv)) := by rw [hV]; exact HO
   have HBr1 : Hid (Below Wk.heap.size Wk V) := by rw [hV]; exact HBr.out.drewN nq
   have HGL1 : Hid (gw < V.heap.size) := by rw [hV]; exact HGL
   clear hV c2 c7 c15 c16 HO HBr HGL e15 b15
   go_wp2_with fail
   go_quiet ((go_at_call 105; exact Calls.quiet_of (refRight_int _ _ (by decide) (by decide) _)))
   obtain ⟨V2, hV2⟩ : ∃ V2, V2 = V.drewN nq := ⟨_, rfl⟩
   rw [← hV2]
   have f7 : V2.cell? ⟨gw, m7, none⟩ = some (.int .u64 (U x7)) := by rw [hV2]; exact d7
   have f16 : V2.cell? ⟨gw, n, none⟩ = some (.int .u64 (U x16)) := by rw [hV2]; exact d16
   have HO2 : Hid (Own V2 Wk.heap.size 59 (.slice (some ⟨gw, 0, none⟩) m capw) ((sch C n).map uv)) := by rw [hV2]; exact HO1
   have HBr2 : Hid (Below Wk.heap.size Wk V2) := by rw [hV2]; exact HBr1.out.drewN nq
   have HGL2 : Hid (gw < V2.heap.size) := by rw [hV2]; exact HGL1
   clear hV2 d2 d7 d16 HO1 HBr1 HGL1 e2 b2
   go_wp2_with fail
   go_region_held3 (fun w' => w'.cell? ⟨gw, n, none⟩ = some (.int .u64 (U x16)) ∧ w'.cell? ⟨gw, m7, none⟩ = some (.int .u64 (U x7)))
    (first | exact ⟨(HK3.out gw n rfl (by rw [HLM.out]; exact HJ7.out.2)).trans ((World.cell?_alloc_lt _ _ _ (by exact HGL2.out)).trans f16), (HK3.out gw m7 rfl (by rw [HLM.out]; exact HJ7.out.1)).trans ((World.cell?_alloc_lt _ _ _ (by exact HGL2.out)).trans f7)⟩ | exact ⟨(World.cell?_alloc_lt _ _ _ (by exact HGL2.out)).trans f16, (World.cell?_alloc_lt _ _ _ (by exact HGL2.out)).trans f7⟩ | go_keep)
    (first | (refine step_append_OwnH _ (by rfl) (.tmp 96) (.tmp 112) 196 (by rfl) Wk.heap.size 59 i0 (.int .u64 0) 8 underSl64 HI.out HZ0.out HZ1.out HZ2.out rfl (.slice (some ⟨gw, 0, none⟩) m capw) ((sch C n).map uv) (by rfl) (Own.alloc (by exact HO2.out) _) ⟨V2.heap.size, 0, none⟩ 1 1 [_] (by rfl) rfl (by exact cell_one_new _ _ _) (by intro u hu; simp at hu; subst hu; rfl) (by rw [HLM.out]; unfold maxLen; omega) (by rw [HLM.out]; omega) (by have := HBr2.out.size; simp; omega) ?_; intro v1 W3 hO2 hG2 HK3))
   have HB3 : Hid (Below Wk.heap.size Wk W3) := (HBr2.out.drew.alloc HBr2.out.size _).grown hG2.out (by have := HBr2.out.size; simp; omega) (fun q hq => by simp [Value.ownBlock] at hq; have := HGW.out; omega)
   have HO3 : Hid (Own W3 Wk.heap.size 59 v1 ((sch C (n + 1)).map uv)) := by
    have e := hO2.out
    have e2 : (sch C n).map uv ++ [Value.int .u64 (U (smallSigma0W x15 + smallSigma1W x2 + x16 + x7))] = (sch C (n + 1)).map uv := by rw [HX.out]; simp [sch]
    rw [← e2]; exact e
   clear HO2 HBr2 hO2 hG2 HK3 f7 f16 HGL2 e7 b7 e16 b16
   go_wp2
   go_roundw
   case rel => exact ⟨n + 1, m + 1, by omega, by show m + 1 = 16 + (n + 1); have := Hm.out; omega, by go_num, HO3, HB3⟩
   case measure => have := Hm.out; simp [intOf]; omega
  ·
   have hn' : n = 64 := by omega
   have hm80 : m = 80 := by rw [Hm.out, hn']
   have bm80 : (80 : Int) ≤ (m : Int) := by omega
   have HN : Hid (n = 64 ∧ m = 80) := ⟨hn', hm80⟩
   clear Hm hn' hm80 hn hn64
   go_wp2_with fail
   exact HEX.out n m u7 _ _ _ _ _ _ _ _ _ _ _ _ _ _ _ _ _ _ _ _ _ _ _ _ _ _ _ _ _ _ _ _ _ _ _ _ _ _ _ _ _ _ _ _ _ _ _ _ _ _ _ _ _ _ _ _ _ _ _ _ _ _ _ _ _ HN.out.1 HN.out.2 HO HBr
end
section
attribute [local go_sem] U_and U_or U_xor U_not U_add U_add_one U_shr7 U_shr6
attribute [local go_sem ↓] Go.wp_at_zero Go.wp_at_succ
set_option maxRecDepth 1000000 in
set_option maxHeartbeats 8000000 in
theorem refLoop4 (Ws W3 : World) (gc gw gv0 capv0 m capw : Nat) (L : List (BitVec 64)) (S : S8) (c0 c1 c2 c3 c5 c6 c8 c9 c10 c11 c12 c15 c16 c17 c18 c19 c20 c21 c22 c23 c24 c25 c26 c27 c28 c29 c30 c31 c32 c33 c34 c35 c36 c37 c38 c39 c40 c41 c42 c43 c44 c45 c46 c47 c48 c49 c50 c51 c52 c53 c54 c55 c56 c57 c58 c59 c60 c61 c62 c63 c64 c65 c66 c67 c68 c69 c70 c71 c72 c73 c74 c75 c76 c77 c78 c79 c80 c81 c82 c83 c84 c85 c86 c87 c88 c89 c90 c91 c92 c93 c94 c95 c96 c97 c98 c99 c100 c101 c102 c103 c104 c105 c106 c107 c108 c109 c110 c111 c112 c113 c114 c115 c116 c117 c118 c119 c120 c121 c122 c123 c124 c125 c126 c127 c128 c129 c130 c131 c132 c133 c134 c135 c136 c137 c138 c139 c140 c141 c142 c143 c144 c145 c146 c147 c148 c149 c150 c151 c152 c153 c154 c155 c156 c157 c158 c159 c160 c161 c162 c163 c164 c165 c166 c167 c168 c169 c170 c171 c172 c173 c174 c175 c176 c177 c178 c179 c180 c181 c182 c183 c184 c185 c186 c187 c188 c189 c190 c191 c192 c193 c194 c195 c196 c197 c198 c199 c200 c201 c202 c203 c204 c205 c206 c207 c208 c209 c210 c211 c212 c213 c214 c215 c216 c217 c218 c219 c220 c221 c222 c223 c224 c225 c226 c227 c228 c229 c230 c231 c232 c233 c234 c235 c236 c237 c238 c239 c240 c241 c242 c243 c244 c245 c246 c247 c248 c249 c250 c251 c252 c253 c254 c255 c256 c257 c258 c259 c260 c261 c262 c263 c264 c265 c266 c267 c268 : Value) (Q : Exit → Act → World → Prop)
  (HM80 : Hid (m = 80)) (HRcs : Hid (Ws.heap[gc]? = some (.cells (kws.map uv).toArray 59 (0, 0)))) (HGCs : Hid (gc < Ws.heap.size)) (HCW : Hid (∀ i, i < 80 → Ws.cell? ⟨gw, i, none⟩ = some (.int .u64 (U (L.getD i 0))))) (HGL : Hid (gw < Ws.heap.size))
  (HCV0 : Hid (∀ i, i < 8 → W3.cell? ⟨gv0, i, none⟩ = some (.int .u64 (U (S.words.getD i 0))))) (HGV0 : Hid (Ws.heap.size ≤ gv0 ∧ gv0 < W3.heap.size)) (HB4 : Hid (Below Ws.heap.size Ws W3))
  (HEX : Hid (∀ (n : Nat) (T : S8) (gv capv : Nat) (u15 u16 u17 u18 u117 u118 u119 u120 u121 u122 u123 u124 u125 u126 u127 u128 u129 u130 u131 u132 u133 u134 u135 u136 u137 u138 u139 u140 u141 u142 u143 u144 u145 u146 u147 u148 u149 u150 u151 u152 u153 u154 u155 u156 u157 u158 u159 u160 u161 u162 u163 u164 u165 u166 u167 u168 u169 u170 u171 u172 u173 u174 u175 u176 u177 u178 u179 u180 u181 u182 u183 u184 u185 u186 u187 u188 u189 u190 u191 u192 u193 u194 u195 u196 u197 u198 u199 u200 u201 u202 u203 u204 u205 u206 u207 u208 u209 u210 u211 u212 u213 u214 u215 u216 u217 u218 u219 u220 u221 u222 u223 u224 u225 u226 u227 u228 u229 u230 u231 u232 : Value) (w' : World), n = 80 → Hid (T = rnds L S 80) → Hid (∀ i, i < 8 → w'.cell? ⟨gv, i, none⟩ = some (.int .u64 (U (T.words.getD i 0)))) → Hid (Ws.heap.size ≤ gv ∧ gv < w'.heap.size) → Hid (Below Ws.heap.size Ws w') →
   Q (.exit 6) ⟨List.toArray (c0 :: c1 :: c2 :: c3 :: (.slice (some ⟨gc, 0, none⟩) 80 80) :: c5 :: c6 :: (.slice (some ⟨gw, 0, none⟩) m capw) :: c8 :: c9 :: c10 :: c11 :: c12 :: (.slice (some ⟨gv, 0, none⟩) 8 capv) :: (.int .i64 n) :: u15 :: u16 :: u17 :: u18 :: c19 :: c20 :: c21 :: c22 :: c23 :: c24 :: c25 :: c26 :: c27 :: c28 :: c29 :: c30 :: c31 :: c32 :: c33 :: c34 :: c35 :: c36 :: c37 :: c38 :: c39 :: c40 :: c41 :: c42 :: c43 :: c44 :: c45 :: c46 :: c47 :: c48 :: c49 :: c50 :: c51 :: c52 :: c53 :: c54 :: c55 :: c56 :: c57 :: c58 :: c59 :: c60 :: c61 :: c62 :: c63 :: c64 :: c65 :: c66 :: c67 :: c68 :: c69 :: c70 :: c71 :: c72 :: c73 :: c74 :: c75 :: c76 :: c77 :: c78 :: c79 :: c80 :: c81 :: c82 :: c83 :: c84 :: c85 :: c86 :: c87 :: c88 :: c89 :: c90 :: c91 :: c92 :: c93 :: c94 :: c95 :: c96 :: c97 :: c98 :: c99 :: c100 :: c101 :: c102 :: c103 :: c104 :: c105 :: c106 :: c107 :: c108 :: c109 :: c110 :: c111 :: c112 :: c113 :: c114 :: c115 :: c116 :: u117 :: u118 :: u119 :: u120 :: u121 :: u122 :: u123 :: u124 :: u125 :: u126 :: u127 :: u128 :: u129 :: u130 :: u131 :: u132 :: u133 :: u134 :: u135 :: u136 :: u137 :: u138 :: u139 :: u140 :: u141 :: u142 :: u143 :: u144 :: u145 :: u146 :: u147 :: u148 :: u149 :: u150 :: u151 :: u152 :: u153 :: u154 :: u155 :: u156 :: u157 :: u158 :: u159 :: u160 :: u161 :: u162 :: u163 :: u164 :: u165 :: u166 :: u167 :: u168 :: u169 :: u170 :: u171 :: u172 :: u173 :: u174 :: u175 :: u176 :: u177 :: u178 :: u179 :: u180 :: u181 :: u182 :: u183 :: u184 :: u185 :: u186 :: u187 :: u188 :: u189 :: u190 :: u191 :: u192 :: u193 :: u194 :: u195 :: u196 :: u197 :: u198 :: u199 :: u200 :: u201 :: u202 :: u203 :: u204 :: u205 :: u206 :: u207 :: u208 :: u209 :: u210 :: u211 :: u212 :: u213 :: u214 :: u215 :: u216 :: u217 :: u218 :: u219 :: u220 :: u221 :: u222 :: u223 :: u224 :: u225 :: u226 :: u227 :: u228 :: u229 :: u230 :: u231 :: u232 :: c233 :: c234 :: c235 :: c236 :: c237 :: c238 :: c239 :: c240 :: c241 :: c242 :: c243 :: c244 :: c245 :: c246 :: c247 :: c248 :: c249 :: c250 :: c251 :: c252 :: c253 :: c254 :: c255 :: c256 :: c257 :: c258 :: c259 :: c260 :: c261 :: c262 :: c263 :: c264 :: c265 :: c266 :: c267 :: c268 :: []), []⟩ w')) :
  Code.wp Tryz.prog (Code.loop (refBody 3)) Q ⟨List.toArray (c0 :: c1 :: c2 :: c3 :: (.slice (some ⟨gc, 0, none⟩) 80 80) :: c5 :: c6 :: (.slice (some ⟨gw, 0, none⟩) m capw) :: c8 :: c9 :: c10 :: c11 :: c12 :: (.slice (some ⟨gv0, 0, none⟩) 8 capv0) :: (.int .i64 0) :: c15 :: c16 :: c17 :: c18 :: c19 :: c20 :: c21 :: c22 :: c23 :: c24 :: c25 :: c26 :: c27 :: c28 :: c29 :: c30 :: c31 :: c32 :: c33 :: c34 :: c35 :: c36 :: c37 :: c38 :: c39 :: c40 :: c41 :: c42 :: c43 :: c44 :: c45 :: c46 :: c47 :: c48 :: c49 :: c50 :: c51 :: c52 :: c53 :: c54 :: c55 :: c56 :: c57 :: c58 :: c59 :: c60 :: c61 :: c62 :: c63 :: c64 :: c65 :: c66 :: c67 :: c68 :: c69 :: c70 :: c71 :: c72 :: c73 :: c74 :: c75 :: c76 :: c77 :: c78 :: c79 :: c80 :: c81 :: c82 :: c83 :: c84 :: c85 :: c86 :: c87 :: c88 :: c89 :: c90 :: c91 :: c92 :: c93 :: c94 :: c95 :: c96 :: c97 :: c98 :: c99 :: c100 :: c101 :: c102 :: c103 :: c104 :: c105 :: c106 :: c107 :: c108 :: c109 :: c110 :: c111 :: c112 :: c113 :: c114 :: c115 :: c116 :: c117 :: c118 :: c119 :: c120 :: c121 :: c122 :: c123 :: c124 :: c125 :: c126 :: c127 :: c128 :: c129 :: c130 :: c131 :: c132 :: c133 :: c134 :: c135 :: c136 :: c137 :: c138 :: c139 :: c140 :: c141 :: c142 :: c143 :: c144 :: c145 :: c146 :: c147 :: c148 :: c149 :: c150 :: c151 :: c152 :: c153 :: c154 :: c155 :: c156 :: c157 :: c158 :: c159 :: c160 :: c161 :: c162 :: c163 :: c164 :: c165 :: c166 :: c167 :: c168 :: c169 :: c170 :: c171 :: c172 :: c173 :: c174 :: c175 :: c176 :: c177 :: c178 :: c179 :: c180 :: c181 :: c182 :: c183 :: c184 :: c185 :: c186 :: c187 :: c188 :: c189 :: c190 :: c191 :: c192 :: c193 :: c194 :: c195 :: c196 :: c197 :: c198 :: c199 :: c200 :: c201 :: c202 :: c203 :: c204 :: c205 :: c206 :: c207 :: c208 :: c209 :: c210 :: c211 :: c212 :: c213 :: c214 :: c215 :: c216 :: c217 :: c218 :: c219 :: c220 :: c221 :: c222 :: c223 :: c224 :: c225 :: c226 :: c227 :: c228 :: c229 :: c230 :: c231 :: c232 :: c233 :: c234 :: c235 :: c236 :: c237 :: c238 :: c239 :: c240 :: c241 :: c242 :: c243 :: c244 :: c245 :: c246 :: c247 :: c248 :: c249 :: c250 :: c251 :: c252 :: c253 :: c254 :: c255 :: c256 :: c257 :: c258 :: c259 :: c260 :: c261 :: c262 :: c263 :: c264 :: c265 :: c266 :: c267 :: c268 :: []), []⟩ W3 := by
 have bm80 : (80 : Int) ≤ (m : Int) := by have := HM80.out; omega
 conv => arg 2; arg 1; whnf
 go_loopw [13, 14] (fun v i w4 => ∃ (n : Nat) (T : S8) (gv capv : Nat), n ≤ 80 ∧ Hid (T = rnds L S n) ∧ i = .int .i64 n ∧ v = .slice (some ⟨gv, 0, none⟩) 8 capv ∧ Hid (∀ i, i < 8 → w4.cell? ⟨gv, i, none⟩ = some (.int .u64 (U (T.words.getD i 0)))) ∧ Hid (Ws.heap.size ≤ gv ∧ gv < w4.heap.size) ∧ Hid (Below Ws.heap.size Ws w4)) (fun _ i _ => 80 - (intOf i).toNat)
 case atStart => exact ⟨0, S, gv0, capv0, Nat.zero_le _, rfl, rfl, rfl, HCV0, HGV0, HB4⟩
 case round =>
  clear HCV0 HGV0 HB4
  obtain ⟨n, T, gv, capv, hn, HT, rfl, rfl, HCV, HGV, HB4⟩ := hrel
  by_cases hn80 : n < 80
  ·
   have bn : (n : Int) < 80 := by omega
   have bnm : (n : Int) < (m : Int) := by omega
   obtain ⟨ww, HWW⟩ : ∃ ww, Hid (ww = L.getD n 0) := ⟨_, rfl⟩
   have HRD : Hid (Rd wr gv gc gw n T (kw n) ww) := by
    refine ⟨HCV.out 0 (by omega), HCV.out 1 (by omega), HCV.out 2 (by omega), HCV.out 3 (by omega), HCV.out 4 (by omega), HCV.out 5 (by omega), HCV.out 6 (by omega), HCV.out 7 (by omega), ?_, ?_⟩
    ·
     have e : wr.heap[gc]? = some (.cells (kws.map uv).toArray 59 (0, 0)) := (HB4.out.block gc HGCs.out).trans HRcs.out
     exact uvs_at e n (by exact hn80)
    · rw [HWW.out]; exact (HB4.out.cell (by exact HGL.out)).trans (HCW.out n hn80)
   generalize hkk : kw n = kk at HRD
   have HKK := hide hkk
   have HST : Hid (S8.mk ((T.h + (T.e &&& T.f ||| ~~~T.e &&& T.g) + kk + ww + (T.e.rotateRight 14 ^^^ T.e.rotateRight 18 ^^^ T.e.rotateRight 41)) + ((T.a &&& T.b ||| T.a &&& T.c ||| T.b &&& T.c) + (T.a.rotateRight 28 ^^^ T.a.rotateRight 34 ^^^ T.a.rotateRight 39))) T.a T.b T.c (T.d + (T.h + (T.e &&& T.f ||| ~~~T.e &&& T.g) + kk + ww + (T.e.rotateRight 14 ^^^ T.e.rotateRight 18 ^^^ T.e.rotateRight 41))) T.e T.f T.g = rnds L S (n + 1)) := by
    show _ = _
    rw [choose_or, majority_or, rnds_succ, ← HT.out, HKK.out, ← HWW.out]
    exact step_ref kk ww T
   clear hkk HCV
   have ca := HRD.out.a
   have cb := HRD.out.b
   have cc := HRD.out.c
   have ce := HRD.out.e
   have cf := HRD.out.f
   have cg := HRD.out.g
   go_wp2_with fail
   go_quiet (fail)
   go_wp2_with fail
   go_quiet (fail)
   clear ca cb cc ce cf cg
   generalize hV : World.drewN _ _ = V
   have HRV : Hid (Rd V gv gc gw n T kk ww) := by rw [← hV]; first | exact (HRD.out.drewN _).drewN _ | exact HRD.out.drewN _
   have HBV : Hid (Below Ws.heap.size Ws V) := by rw [← hV]; exact ⟨HB4.out.os, HB4.out.tape, HB4.out.output, HB4.out.size, HB4.out.block⟩
   have HGVV : Hid (gv < V.heap.size) := by rw [← hV]; exact HGV.out.2
   clear hV HRD HB4 HGV
   have ce := HRV.out.e
   have ch := HRV.out.h
   have ck := HRV.out.k
   have cw := HRV.out.w
   go_wp2_with fail
   go_quiet ((go_at_call 105; exact Calls.quiet_of (refRight_int _ _ (by decide) (by decide) _)))
   clear ce ch ck cw
   generalize hV2 : World.drewN _ _ = V2
   have HRV2 : Hid (Rd V2 gv gc gw n T kk ww) := by rw [← hV2]; exact HRV.out.drewN _
   have HBV2 : Hid (Below Ws.heap.size Ws V2) := by rw [← hV2]; exact ⟨HBV.out.os, HBV.out.tape, HBV.out.output, HBV.out.size, HBV.out.block⟩
   have HGV2 : Hid (gv < V2.heap.size) := by rw [← hV2]; exact HGVV
   clear hV2 HRV HBV HGVV
   have ca := HRV2.out.a
   go_wp2_with fail
   go_quiet ((go_at_call 105; exact Calls.quiet_of (refRight_int _ _ (by decide) (by decide) _)))
   clear ca
   generalize hV3 : World.drewN _ _ = V3
   have HRV3 : Hid (Rd V3 gv gc gw n T kk ww) := by rw [← hV3]; exact HRV2.out.drewN _
   have HBV3 : Hid (Below Ws.heap.size Ws V3) := by rw [← hV3]; exact ⟨HBV2.out.os, HBV2.out.tape, HBV2.out.output, HBV2.out.size, HBV2.out.block⟩
   have HGV3 : Hid (gv < V3.heap.size) := by rw [← hV3]; exact HGV2
   clear hV3 HRV2 HBV2 HGV2
   have ca := HRV3.out.a
   have cb := HRV3.out.b
   have cc := HRV3.out.c
   have cd := HRV3.out.d
   have ce := HRV3.out.e
   have cf := HRV3.out.f
   have cg := HRV3.out.g
   go_wp2_with fail
   go_region_held3 (fun w' => w'.cell? ⟨gv, 0, none⟩ = some (.int .u64 (U T.a)) ∧ w'.cell? ⟨gv, 1, none⟩ = some (.int .u64 (U T.b)) ∧ w'.cell? ⟨gv, 2, none⟩ = some (.int .u64 (U T.c)) ∧ w'.cell? ⟨gv, 3, none⟩ = some (.int .u64 (U T.d)) ∧ w'.cell? ⟨gv, 4, none⟩ = some (.int .u64 (U T.e)) ∧ w'.cell? ⟨gv, 5, none⟩ = some (.int .u64 (U T.f)) ∧ w'.cell? ⟨gv, 6, none⟩ = some (.int .u64 (U T.g)))
    (first | exact ⟨(World.cell?_alloc_lt _ _ _ (by exact HGV3.out)).trans ca, (World.cell?_alloc_lt _ _ _ (by exact HGV3.out)).trans cb, (World.cell?_alloc_lt _ _ _ (by exact HGV3.out)).trans cc, (World.cell?_alloc_lt _ _ _ (by exact HGV3.out)).trans cd, (World.cell?_alloc_lt _ _ _ (by exact HGV3.out)).trans ce, (World.cell?_alloc_lt _ _ _ (by exact HGV3.out)).trans cf, (World.cell?_alloc_lt _ _ _ (by exact HGV3.out)).trans cg⟩ | go_keep) (fail)
   clear ca cb cc cd ce cf cg
   go_wp2
   go_roundw
   case rel =>
    refine ⟨n + 1, rnds L S (n + 1), V3.heap.size, 8, by omega, rfl, by go_num, rfl, ?_, ?_, ?_⟩
    ·
     intro i hi
     rw [← HST.out]
     refine uvs_at (fr := (0, 0)) (t := 59) (l := S8.words _) ?_ i (by exact hi)
     exact heap_alloc_new V3 _
    · exact ⟨HBV3.out.size, by simp⟩
    · exact (HBV3.out.alloc HBV3.out.size _).drew
   case measure => simp [intOf]; omega
  ·
   have hn' : n = 80 := by omega
   have HT' : Hid (T = rnds L S 80) := by rw [hn'] at HT; exact HT
   have bn80 : (80 : Int) ≤ (n : Int) := by omega
   have HN := hide hn'
   clear HT hn' hn hn80
   go_wp2_with fail
   exact HEX.out n T gv capv _ _ _ _ _ _ _ _ _ _ _ _ _ _ _ _ _ _ _ _ _ _ _ _ _ _ _ _ _ _ _ _ _ _ _ _ _ _ _ _ _ _ _ _ _ _ _ _ _ _ _ _ _ _ _ _ _ _ _ _ _ _ _ _ _ _ _ _ _ _ _ _ _ _ _ _ _ _ _ _ _ _ _ _ _ _ _ _ _ _ _ _ _ _ _ _ _ _ _ _ _ _ _ _ _ _ _ _ _ _ _ _ _ _ _ _ _ _ _ _ _ HN.out HT' HCV HGV HB4
end
end Go.Proofs.YtccgfabojbjmjaaGreatDoor
