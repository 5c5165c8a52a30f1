import Derived.Test.YtccgfabojbjmjaaGreatDoorLo25
import Derived.Deep.RegionHeld3
import Derived.Deep.DrawnRows
import Derived.BigRegion
set_option maxRecDepth 100000
set_option maxHeartbeats 8000000
namespace Go.Proofs.YtccgfabojbjmjaaGreatDoor
open Go.RowKit
open Go.RowKit
section
attribute [local go_sem] y7 Ji JU Ye yh Yr qiN qhJ
attribute [local go_sem ↓] Go.wp_at_zero Go.wp_at_succ
theorem qn4 (Wk W0 : World) (i0 : TypeInfo) (C : List UInt8) (v7 : Value) (c0 c1 c2 c3 c4 c5 c6 c8 c9 c11 c12 c13 c14 c15 c16 c17 c18 c19 c20 c21 c22 c23 c24 c25 c26 c27 c28 c29 c30 c31 c32 c33 c34 c35 c36 c37 c38 c39 c40 c41 c42 c43 c44 c45 c46 c47 c48 c49 c50 c51 c52 c53 c54 c55 c56 c57 c58 c59 c60 c61 c62 c63 c64 c65 c66 c67 c68 c69 c70 c71 c72 c73 c74 c75 c76 c77 c78 c79 c80 c81 c82 c83 c84 c85 c86 c87 c88 c89 c90 c91 c92 c93 c94 c95 c96 c97 c98 c99 c100 c101 c102 c103 c104 c105 c106 c107 c108 c109 c110 c111 c112 c113 c114 c115 c116 c117 c118 c119 c120 c121 c122 c123 c124 c125 c126 c127 c128 c129 c130 c131 c132 c133 c134 c135 c136 c137 c138 c139 c140 c141 c142 c143 c144 c145 c146 c147 c148 c149 c150 c151 c152 c153 c154 c155 c156 c157 c158 c159 c160 c161 c162 c163 c164 c165 c166 c167 c168 c169 c170 c171 c172 c173 c174 c175 c176 c177 c178 c179 c180 c181 c182 c183 c184 c185 c186 c187 c188 c189 c190 c191 c192 c193 c194 c195 c196 c197 c198 c199 c200 c201 c202 c203 c204 c205 c206 c207 c208 c209 c210 c211 c212 c213 c214 c215 c216 c217 c218 c219 c220 c221 c222 c223 c224 c225 c226 c227 c228 c229 c230 c231 c232 c233 c234 c235 c236 c237 c238 c239 c240 c241 c242 c243 c244 c245 c246 c247 c248 c249 c250 c251 c252 c253 c254 c255 c256 c257 c258 c259 c260 c261 c262 c263 c264 c265 c266 c267 c268 : Value) (Q : Exit → Act → World → Prop)
  (HI : Hid (Tryz.prog.info? 59 = some i0)) (HZ0 : Hid (i0.zero = some (.int .u64 0))) (HZ1 : Hid (i0.size = 1)) (HZ2 : Hid (i0.bytes = 8))
  (HO' : Hid (q9 W0 Wk.heap.size 59 v7 ((je C 0).map uv))) (HBr : Hid (zB Wk W0))
  (HEX : Hid (∀ (n m : Nat) (u7 : Value) (u11 u12 u52 u53 u54 u55 u56 u57 u58 u59 u60 u61 u62 u63 u64 u65 u66 u67 u68 u69 u70 u71 u72 u73 u74 u75 u76 u77 u78 u79 u80 u81 u82 u83 u84 u85 u86 u87 u88 u89 u90 u91 u92 u93 u94 u95 u96 u97 u98 u99 u100 u101 u102 u103 u104 u105 u106 u107 u108 u109 u110 u111 u112 u113 : Value) (w' : World), n = 64 → m = 80 → Hid (q9 w' Wk.heap.size 59 u7 ((je C n).map uv)) → Hid (zB Wk w') →
   Q (.exit 4) ⟨List.toArray (c0 :: c1 :: c2 :: c3 :: c4 :: c5 :: c6 :: u7 :: c8 :: c9 :: (.int .i64 m) :: u11 :: u12 :: c13 :: c14 :: c15 :: c16 :: c17 :: c18 :: c19 :: c20 :: c21 :: c22 :: c23 :: c24 :: c25 :: c26 :: c27 :: c28 :: c29 :: c30 :: c31 :: c32 :: c33 :: c34 :: c35 :: c36 :: c37 :: c38 :: c39 :: c40 :: c41 :: c42 :: c43 :: c44 :: c45 :: c46 :: c47 :: c48 :: c49 :: c50 :: c51 :: u52 :: u53 :: u54 :: u55 :: u56 :: u57 :: u58 :: u59 :: u60 :: u61 :: u62 :: u63 :: u64 :: u65 :: u66 :: u67 :: u68 :: u69 :: u70 :: u71 :: u72 :: u73 :: u74 :: u75 :: u76 :: u77 :: u78 :: u79 :: u80 :: u81 :: u82 :: u83 :: u84 :: u85 :: u86 :: u87 :: u88 :: u89 :: u90 :: u91 :: u92 :: u93 :: u94 :: u95 :: u96 :: u97 :: u98 :: u99 :: u100 :: u101 :: u102 :: u103 :: u104 :: u105 :: u106 :: u107 :: u108 :: u109 :: u110 :: u111 :: u112 :: u113 :: c114 :: c115 :: c116 :: c117 :: c118 :: c119 :: c120 :: c121 :: c122 :: c123 :: c124 :: c125 :: c126 :: c127 :: c128 :: c129 :: c130 :: c131 :: c132 :: c133 :: c134 :: c135 :: c136 :: c137 :: c138 :: c139 :: c140 :: c141 :: c142 :: c143 :: c144 :: c145 :: c146 :: c147 :: c148 :: c149 :: c150 :: c151 :: c152 :: c153 :: c154 :: c155 :: c156 :: c157 :: c158 :: c159 :: c160 :: c161 :: c162 :: c163 :: c164 :: c165 :: c166 :: c167 :: c168 :: c169 :: c170 :: c171 :: c172 :: c173 :: c174 :: c175 :: c176 :: c177 :: c178 :: c179 :: c180 :: c181 :: c182 :: c183 :: c184 :: c185 :: c186 :: c187 :: c188 :: c189 :: c190 :: c191 :: c192 :: c193 :: c194 :: c195 :: c196 :: c197 :: c198 :: c199 :: c200 :: c201 :: c202 :: c203 :: c204 :: c205 :: c206 :: c207 :: c208 :: c209 :: c210 :: c211 :: c212 :: c213 :: c214 :: c215 :: c216 :: c217 :: c218 :: c219 :: c220 :: c221 :: c222 :: c223 :: c224 :: c225 :: c226 :: c227 :: c228 :: c229 :: c230 :: c231 :: c232 :: c233 :: c234 :: c235 :: c236 :: c237 :: c238 :: c239 :: c240 :: c241 :: c242 :: c243 :: c244 :: c245 :: c246 :: c247 :: c248 :: c249 :: c250 :: c251 :: c252 :: c253 :: c254 :: c255 :: c256 :: c257 :: c258 :: c259 :: c260 :: c261 :: c262 :: c263 :: c264 :: c265 :: c266 :: c267 :: c268 :: []), []⟩ w')) :
  Code.wp Tryz.prog (Code.loop (qkI 2)) Q ⟨List.toArray (c0 :: c1 :: c2 :: c3 :: c4 :: c5 :: c6 :: v7 :: c8 :: c9 :: (.int .i64 16) :: c11 :: c12 :: c13 :: c14 :: c15 :: c16 :: c17 :: c18 :: c19 :: c20 :: c21 :: c22 :: c23 :: c24 :: c25 :: c26 :: c27 :: c28 :: c29 :: c30 :: c31 :: c32 :: c33 :: c34 :: c35 :: c36 :: c37 :: c38 :: c39 :: c40 :: c41 :: c42 :: c43 :: c44 :: c45 :: c46 :: c47 :: c48 :: c49 :: c50 :: c51 :: c52 :: c53 :: c54 :: c55 :: c56 :: c57 :: c58 :: c59 :: c60 :: c61 :: c62 :: c63 :: c64 :: c65 :: c66 :: c67 :: c68 :: c69 :: c70 :: c71 :: c72 :: c73 :: c74 :: c75 :: c76 :: c77 :: c78 :: c79 :: c80 :: c81 :: c82 :: c83 :: c84 :: c85 :: c86 :: c87 :: c88 :: c89 :: c90 :: c91 :: c92 :: c93 :: c94 :: c95 :: c96 :: c97 :: c98 :: c99 :: c100 :: c101 :: c102 :: c103 :: c104 :: c105 :: c106 :: c107 :: c108 :: c109 :: c110 :: c111 :: c112 :: c113 :: c114 :: c115 :: c116 :: c117 :: c118 :: c119 :: c120 :: c121 :: c122 :: c123 :: c124 :: c125 :: c126 :: c127 :: c128 :: c129 :: c130 :: c131 :: c132 :: c133 :: c134 :: c135 :: c136 :: c137 :: c138 :: c139 :: c140 :: c141 :: c142 :: c143 :: c144 :: c145 :: c146 :: c147 :: c148 :: c149 :: c150 :: c151 :: c152 :: c153 :: c154 :: c155 :: c156 :: c157 :: c158 :: c159 :: c160 :: c161 :: c162 :: c163 :: c164 :: c165 :: c166 :: c167 :: c168 :: c169 :: c170 :: c171 :: c172 :: c173 :: c174 :: c175 :: c176 :: c177 :: c178 :: c179 :: c180 :: c181 :: c182 :: c183 :: c184 :: c185 :: c186 :: c187 :: c188 :: c189 :: c190 :: c191 :: c192 :: c193 :: c194 :: c195 :: c196 :: c197 :: c198 :: c199 :: c200 :: c201 :: c202 :: c203 :: c204 :: c205 :: c206 :: c207 :: c208 :: c209 :: c210 :: c211 :: c212 :: c213 :: c214 :: c215 :: c216 :: c217 :: c218 :: c219 :: c220 :: c221 :: c222 :: c223 :: c224 :: c225 :: c226 :: c227 :: c228 :: c229 :: c230 :: c231 :: c232 :: c233 :: c234 :: c235 :: c236 :: c237 :: c238 :: c239 :: c240 :: c241 :: c242 :: c243 :: c244 :: c245 :: c246 :: c247 :: c248 :: c249 :: c250 :: c251 :: c252 :: c253 :: c254 :: c255 :: c256 :: c257 :: c258 :: c259 :: c260 :: c261 :: c262 :: c263 :: c264 :: c265 :: c266 :: c267 :: c268 :: []), []⟩ W0 := by
 conv => arg 2; arg 1; whnf
 go_loopw [7, 10] (fun v i w3 => ∃ n m : Nat, n ≤ 64 ∧ Hid (m = 16 + n) ∧ i = .int .i64 m ∧ Hid (q9 w3 Wk.heap.size 59 v ((je C n).map uv)) ∧ Hid (zB Wk w3)) (fun _ i _ => 80 - (intOf i).toNat)
 case atStart => exact ⟨0, 16, Zc _, rfl, rfl, HO', HBr⟩
 case round =>
  clear HO' HBr
  obtain ⟨n, m, hn, Hm, rfl, HO, HBr⟩ := hrel
  by_cases hn64 : n < 64
  ·
   have hl := kt C n
   obtain ⟨gw, capw, hv, hgw, hgwl, hcw, hcwm, hcells⟩ := HO.o.form (by rw [zv, hl]; omega)
   have hlm : ((je C n).map uv).length = m := by rw [zv, hl, Hm.o]
   rw [hlm] at hv hcw
   subst hv
   have HGW : Hid (Wk.heap.size ≤ gw) := hgw
   have hm' := Hm.o
   obtain ⟨m2, hm2⟩ := zy (n + 14)
   obtain ⟨m7, hm7⟩ := zy (n + 9)
   obtain ⟨m15, hm15⟩ := zy (n + 1)
   have c2 := qb0 hcells m2 (by omega)
   have c7 := qb0 hcells m7 (by omega)
   have c15 := qb0 hcells m15 (by omega)
   have c16 := qb0 hcells n (by omega)
   have e2 : IntKind.i64.wrap ((m : Int) - 2) = (m2 : Int) := by rw [zq]; omega
   have e7 : IntKind.i64.wrap ((m : Int) - 7) = (m7 : Int) := by rw [zq]; omega
   have e15 : IntKind.i64.wrap ((m : Int) - 15) = (m15 : Int) := by rw [zq]; omega
   have e16 : IntKind.i64.wrap ((m : Int) - 16) = (n : Int) := by rw [zq]; omega
   have b2 : (m2 : Int) < (m : Int) := by omega
   have b7 : (m7 : Int) < (m : Int) := by omega
   have b15 : (m15 : Int) < (m : Int) := by omega
   have b16 : (n : Int) < (m : Int) := by omega
   have bm : (m : Int) < 80 := by omega
   have HJ7 : Hid (m7 < m ∧ n < m) := ⟨by omega, by omega⟩
   generalize hx2 : (je C n).getD m2 0 = x2 at c2
   generalize hx7 : (je C n).getD m7 0 = x7 at c7
   generalize hx15 : (je C n).getD m15 0 = x15 at c15
   generalize hx16 : (je C n).getD n 0 = x16 at c16
   have HX : Hid (qam x15 + qal x2 + x16 + x7 = YQ (je C n) n) := by
    show _ = _
    rw [← qoz, ← hx2, ← hx7, ← hx15, ← hx16, hm2, hm7, hm15]
   have HLM := qa hlm
   have HGL : Hid (gw < wr.heap.size) := hgwl
   clear hx2 hx7 hx15 hx16 hl hm2 hm7 hm15 hm' hcells hlm hgw hcw hcwm hgwl
   go_wp2_with fail
   go_quiet ((go_at_call 105; exact Calls.quiet_of (qaK _ _ (by decide) (by decide) _)))
   obtain ⟨V, hV⟩ := zy (wr.drewN nq)
   rw [← hV]
   have d2 : V.cell? ⟨gw, m2, none⟩ = some (.int .u64 (U x2)) := by rw [hV]; exact c2
   have d7 : V.cell? ⟨gw, m7, none⟩ = some (.int .u64 (U x7)) := by rw [hV]; exact c7
   have d16 : V.cell? ⟨gw, n, none⟩ = some (.int .u64 (U x16)) := by rw [hV]; exact c16
   have HO1 : Hid (q9 V Wk.heap.size 59 (.slice (some ⟨gw, 0, none⟩) m capw) ((je C n).map uv)) := by rw [hV]; exact HO
   have HBr1 : Hid (zB Wk V) := by rw [hV]; exact HBr.o.drewN nq
   have HGL1 : Hid (gw < V.heap.size) := by rw [hV]; exact HGL
   clear hV c2 c7 c15 c16 HO HBr HGL e15 b15
   go_wp2_with fail
   go_quiet ((go_at_call 105; exact Calls.quiet_of (qaK _ _ (by decide) (by decide) _)))
   obtain ⟨V2, hV2⟩ := zy (V.drewN nq)
   rw [← hV2]
   have f7 : V2.cell? ⟨gw, m7, none⟩ = some (.int .u64 (U x7)) := by rw [hV2]; exact d7
   have f16 : V2.cell? ⟨gw, n, none⟩ = some (.int .u64 (U x16)) := by rw [hV2]; exact d16
   have HO2 : Hid (q9 V2 Wk.heap.size 59 (.slice (some ⟨gw, 0, none⟩) m capw) ((je C n).map uv)) := by rw [hV2]; exact HO1
   have HBr2 : Hid (zB Wk V2) := by rw [hV2]; exact HBr1.o.drewN nq
   have HGL2 : Hid (gw < V2.heap.size) := by rw [hV2]; exact HGL1
   clear hV2 d2 d7 d16 HO1 HBr1 HGL1 e2 b2
   go_wp2_with fail
   go_region_held3 (fun w' => w'.cell? ⟨gw, n, none⟩ = some (.int .u64 (U x16)) ∧ w'.cell? ⟨gw, m7, none⟩ = some (.int .u64 (U x7)))
    (first | exact ⟨(HK3.o gw n rfl (by rw [HLM.o]; exact HJ7.o.2)).trans ((World.cell?_alloc_lt _ _ _ (by exact HGL2.o)).trans f16), (HK3.o gw m7 rfl (by rw [HLM.o]; exact HJ7.o.1)).trans ((World.cell?_alloc_lt _ _ _ (by exact HGL2.o)).trans f7)⟩ | exact ⟨(World.cell?_alloc_lt _ _ _ (by exact HGL2.o)).trans f16, (World.cell?_alloc_lt _ _ _ (by exact HGL2.o)).trans f7⟩ | go_keep)
    (first | (refine qcM _ (by rfl) (.tmp 96) (.tmp 112) 196 (by rfl) Wk.heap.size 59 i0 (.int .u64 0) 8 qdn HI.o HZ0.o HZ1.o HZ2.o rfl (.slice (some ⟨gw, 0, none⟩) m capw) ((je C n).map uv) (by rfl) (q9.alloc (by exact HO2.o) _) ⟨V2.heap.size, 0, none⟩ 1 1 [_] (by rfl) rfl (by exact cell_one_new _ _ _) (by intro u hu; simp at hu; subst hu; rfl) (by rw [HLM.o]; unfold maxLen; omega) (by rw [HLM.o]; omega) (by have := HBr2.o.size; simp; omega) ?_; intro v1 W3 hO2 hG2 HK3))
   have HB3 : Hid (zB Wk W3) := (HBr2.o.drew.alloc HBr2.o.size _).grown hG2.o (by have := HBr2.o.size; simp; omega) (fun q hq => by simp [Value.ownBlock] at hq; have := HGW.o; omega)
   have HO3 : Hid (q9 W3 Wk.heap.size 59 v1 ((je C (n + 1)).map uv)) := by
    have e := hO2.o
    have e2 : (je C n).map uv ++ [Value.int .u64 (U (qam x15 + qal x2 + x16 + x7))] = (je C (n + 1)).map uv := by rw [HX.o]; simp [je]
    rw [← e2]; exact e
   clear HO2 HBr2 hO2 hG2 HK3 f7 f16 HGL2 e7 b7 e16 b16
   go_wp2
   go_roundw
   case rel => exact ⟨n + 1, m + 1, by omega, by show m + 1 = 16 + (n + 1); have := Hm.o; omega, by go_num, HO3, HB3⟩
   case measure => have := Hm.o; simp [intOf]; omega
  ·
   have hn' : n = 64 := by omega
   have hm80 : m = 80 := by rw [Hm.o, hn']
   have bm80 : (80 : Int) ≤ (m : Int) := by omega
   have HN : Hid (n = 64 ∧ m = 80) := ⟨hn', hm80⟩
   clear Hm hn' hm80 hn hn64
   go_wp2_with fail
   exact HEX.o n m u7 _ _ _ _ _ _ _ _ _ _ _ _ _ _ _ _ _ _ _ _ _ _ _ _ _ _ _ _ _ _ _ _ _ _ _ _ _ _ _ _ _ _ _ _ _ _ _ _ _ _ _ _ _ _ _ _ _ _ _ _ _ _ _ _ _ HN.o.1 HN.o.2 HO HBr
end
open Go.RowKit
theorem qjW (l : List Int) (f : Nat → Int) : ((List.range l.length).map fun i => if i < 0 then f i else l.getD i 0) = l := by
 apply List.ext_getElem?
 intro i
 by_cases h : i < l.length
 · simp [h, List.getD]
 · simp [h]
theorem qjV (l : List Int) (f : Nat → Int) (k : Nat) (h : k < l.length) :
  ((List.range l.length).map fun i => if i < k then f i else l.getD i 0).set k (f k) = (List.range l.length).map fun i => if i < k + 1 then f i else l.getD i 0 := by
 apply List.ext_getElem?
 intro i
 rw [List.getElem?_set]
 by_cases hk : k = i
 · subst hk; simp [h]
 ·
  rw [if_neg hk]
  by_cases h : i < l.length
  ·
   have e1 : (i < k + 1) = (i < k) := by apply propext; omega
   simp [h, e1]
  · simp [h]
theorem qli {d : List Int} (h : d.length = 17) : (Tryz.prog.info? 91).map (·.size) = some (d.map iv).toArray.size := by rw [qnF]; simp [h]
theorem qnL {d : List Int} (h : d.length = 17) : zS.size = (d.map iv).toArray.size := by simp [h, zS]
theorem qoE (d : List Int) : (d.map iv).toArray.all (·.oneCell') = true := all_oneCell_toArray (qbO _)
def wI (l : List UInt8) (i : Nat) : Int := C8 (l.getD (2 * i) 0) + 256 * C8 (l.getD (2 * i + 1) 0)
def zr : List Int := List.replicate 17 0
def Jk (l : List UInt8) (k : Nat) : List Int := (List.range zr.length).map fun i => if i < k then wI l i else zr.getD i 0
theorem qbj (l : List UInt8) (k : Nat) : (Jk l k).length = 17 := by unfold Jk; rw [zv, List.length_range]; rfl
theorem qlq (l : List UInt8) : Jk l 0 = zr := qjW zr (wI l)
theorem qk6 (l : List UInt8) (k : Nat) (h : k < 17) : (Jk l k).set k (wI l k) = Jk l (k + 1) := qjV zr (wI l) k (by simpa [zr] using h)
theorem qic (l : List UInt8) (k i : Nat) (hi : i < k) (h : i < 17) : (Jk l k).getD i 0 = wI l i := by
 unfold Jk
 rw [Za, Zp, List.getElem?_range (by simpa [zr] using h)]
 simp [hi]
def sA (l : List UInt8) : Array Value := ((Jk l 16).map iv).toArray
theorem qbJ (l : List UInt8) : (Tryz.prog.info? 91).map (·.size) = some (sA l).size := qli (qbj l 16)
theorem qib (l : List UInt8) : zS.size = (sA l).size := qnL (qbj l 16)
theorem qiB (l : List UInt8) : (sA l).all (·.oneCell') = true := qoE _
section
theorem ql1 (s : ByteArray) (hs : 32 ≤ s.size) (w : World) :
  zC 62 #[.string s] w (.agg (sA (bytesOf s))) := by
 have hz := qlX
 have HS := qa hs
 clear hs
 obtain ⟨l, HL⟩ := zx (bytesOf s)
 go_enter Tryz.func62, Tryz.ntmps62
 go_wp2_with fail
 go_loopw [4] (fun i wr => ∃ k : Nat, k ≤ 16 ∧ i = .int .i64 ((2 * k : Nat) : Int) ∧ Hid (qi wr w.heap.size zS 91) ∧ Hid (qi wr (w.heap.size + 1) (((Jk l k).map iv).toArray) 91) ∧ Hid (zB w wr)) (fun i _ => 32 - (intOf i).toNat)
 case atStart => exact ⟨0, Zc _, rfl, (zb _ _ (by simp)).trans (za _ _), by rw [qlq]; exact Zd _ _ _, by show Below _ _ _; go_grown⟩
 case round =>
  obtain ⟨k, hk, rfl, H0, H1, HB⟩ := hrel
  obtain ⟨i, Hi⟩ := zx (2 * k)
  rw [← Hi.o]
  by_cases hlt : k < 16
  ·
   obtain ⟨i1, Hi1⟩ := zx (i + 1)
   have e1 : (i : Int) + 1 = (i1 : Int) := by have := Hi1.o; omega
   have e2 : (i : Int) / 2 = (k : Int) := by have := Hi.o; omega
   have e3 : (i : Int) + 2 = ((2 * (k + 1) : Nat) : Int) := by have := Hi.o; omega
   have bi : (i : Int) < 32 := by have := Hi.o; omega
   have bk : (k : Int) < 17 := by omega
   have bi2 : (i1 : Int) < 32 := by have := Hi.o; omega
   have hx0 := Jw s i (by have := HS.o; omega)
   have hx1 := Jw s i1 (by have := HS.o; omega)
   obtain ⟨x, HX⟩ := zx (C8 ((bytesOf s).getD i 0))
   obtain ⟨y, HY⟩ := zx (C8 ((bytesOf s).getD i1 0))
   rw [← HX.o] at hx0
   rw [← HY.o] at hx1
   have x0 : 0 ≤ x := by rw [HX.o]; exact J5 _
   have x1 : x < 256 := by rw [HX.o]; exact yt _
   have y0 : 0 ≤ y := by rw [HY.o]; exact J5 _
   have y1 : y < 256 := by rw [HY.o]; exact yt _
   have HW : Hid (x + 256 * y = wI l k) := by
    show _ = _
    unfold wI
    rw [HL.o, HX.o, HY.o, Hi1.o, Hi.o]
   have c1 := Qc (l := Jk l k) (T := 91) (fr := (0, 0)) H1.o k (by rw [qbj]; omega)
   have f1 := frozen_of_row wr (w.heap.size + 1) k _ _ H1.o
   go_wp2_with fail
   go_region
   go_wp2_with fail
   refine ⟨⟨k + 1, by omega, rfl, qaZ _ _ H0.o (by omega), ?_, (HB.o.setCell (by show _ ≤ _; simp) _).drew⟩, by simp [intOf]; omega⟩
   have e := Qg H1.o k (iv (x + 256 * y))
   have e4 : (Jk l k).set k (x + 256 * y) = Jk l (k + 1) := by rw [HW.o]; exact qk6 l k (by omega)
   rw [← List.map_set, e4] at e
   exact e
  ·
   obtain rfl : k = 16 := by omega
   obtain rfl : i = 32 := Hi.o
   have bi : (32 : Int) ≤ ((32 : Nat) : Int) := by omega
   have H1' : Hid (qi wr (w.heap.size + 1) (sA l) 91) := H1.o
   clear H1 hlt hk
   go_wp2_with (first
    | (refine zL 91 (.tmp 3) (w.heap.size + 1) (sA l) H1'.o y9 (qbJ _) ?_)
    | (refine qB 91 (.tmp 2) (.tmp 23) w.heap.size (sA l) H0.o (qbJ _) (qib _) (qiB _) ?_))
   refine zh (v := .agg (sA l)) (results_cell_row Tryz.results62 _ _ w.heap.size 91 _ (0, 0) _ (by rfl) (zd _ _ _ _ _ _ H0.o) y9 rfl (qbJ _)) rfl ⟨by rw [HL.o], ze HB.o (zm _) _⟩
theorem qj7 (s : ByteArray) (hs : s.size = 32) (w : World) :
  zC 62 #[.string s] w (.agg (sA (bytesOf s))) := ql1 s (by omega) w
end
theorem qpd (l : List UInt8) : sA l = ((Jk l 16).map iv).toArray := rfl
def btI (l : List UInt8) (i : Nat) : Bool := decide (wI l (i / 16) / 2 ^ (i % 16) % 2 = 1)
def qqf : Q3 := ⟨0, 1, 1⟩
def jd (d : Nat) (l : List UInt8) (p : Q3) : Nat → Q3
 | 0 => qqf
 | k + 1 => if btI l (255 - k) = true then Jd d (Jd d (jd d l p k) (jd d l p k)) p else Jd d (jd d l p k) (jd d l p k)
theorem Yn (d : Nat) (l : List UInt8) (p : Q3) : ∀ k, (jd d l p k).Ok
 | 0 => ⟨j3, qrh, qrh⟩
 | k + 1 => by
  rw [jd]; split
  · exact qcN _ _ _
  · exact qcN _ _ _
theorem qgF (b0 b1 b2 b3 b4 b5 b6 b7 b8 b9 c0 c1 c2 c3 c4 c5 c6 c7 c8 c9 : Int) :
  Tryz.prog.built 98 [(1, .agg #[iv b0, iv b1, iv b2, iv b3, iv b4, iv b5, iv b6, iv b7, iv b8, iv b9]), (2, .agg #[iv c0, iv c1, iv c2, iv c3, iv c4, iv c5, iv c6, iv c7, iv c8, iv c9])]
   = some #[iv 0, iv 0, iv 0, iv 0, iv 0, iv 0, iv 0, iv 0, iv 0, iv 0, iv b0, iv b1, iv b2, iv b3, iv b4, iv b5, iv b6, iv b7, iv b8, iv b9, iv c0, iv c1, iv c2, iv c3, iv c4, iv c5, iv c6, iv c7, iv c8, iv c9] := by kernel_rfl
theorem qrs : Tryz.prog.built 98 [(1, .agg (fA 1)), (2, .agg (fA 1))] = some (qA qqf) := by
 rw [qcw, qgF]
 unfold qA qL qqf
 rw [qmL, qeC]
 rfl
theorem qkq (l : List UInt8) (i : Nat) : 0 ≤ wI l i ∧ wI l i < 65536 := by
 unfold wI
 have a := J5 (l.getD (2 * i) 0)
 have b := yt (l.getD (2 * i) 0)
 have c := J5 (l.getD (2 * i + 1) 0)
 have d := yt (l.getD (2 * i + 1) 0)
 omega
theorem qoc {P : Program} {ops : Array Oper} {rest : List Oper} {o : Oper} {a : Act} {w : World} {Q : Exit → Act → World → Prop} (hg : o.guard = none) (t : TypeId) (parts : Array (Nat × Operand)) (ho : o.op = .build t parts) (cells : Array Value) (ps : List (Nat × Value))
  (hp : (parts.map fun (i, x) => (i, a.eval x)).toList = ps) (hb : P.built t ps = some cells) (h : wpList P ops Q rest (a.put o.dst (.agg cells)) w) : wpList P ops Q (o :: rest) a w :=
 wpList_build hg t parts ho (by rw [hp, hb]; rfl) (by rw [hp, hb]; exact h)
section
attribute [local irreducible] fA fL qA sA
theorem qdP (d : Nat) (hd : d < P) (l : List UInt8) (p : Q3) (hp : p.Ok) (w : World) :
  zC 34 #[.agg (fA d), .agg (sA l), .agg (qA p)] w (.agg (qA (jd d l p 256))) := by
 have hz := JP
 have hzq := qjZ
 have Hd := qa hd
 have Hp := qa hp
 clear hd hp
 go_enter Tryz.func34, Tryz.ntmps34
 go_upto_region 1 with fail
 generalize hW0 : World.alloc _ _ = W0
 have R3 : Hid (qi W0 w.heap.size (fA d) 95) := by rw [← hW0]; exact qsN _ _ _ _ _
 have R4 : Hid (qi W0 (w.heap.size + 1) (sA l) 91) := by rw [← hW0]; exact qsc _ _ _ _ _
 have R5 : Hid (qi W0 (w.heap.size + 1 + 1) (qA p) 98) := by rw [← hW0]; exact qsU _ _ _ _ _
 have R6 : Hid (qi W0 (w.heap.size + 1 + 1 + 1) (qA q0) 98) := by rw [← hW0]; exact qtt _ _ _ _ _
 have BL : Hid (zB w W0) := by rw [← hW0]; show Below _ _ _; go_grown
 clear hW0
 obtain ⟨g4, h4⟩ := zy (w.heap.size + 1)
 obtain ⟨g5, h5⟩ := zy (w.heap.size + 1 + 1)
 obtain ⟨g6, h6⟩ := zy (w.heap.size + 1 + 1 + 1)
 rw [← h6] at R6 ⊢
 rw [← h5] at R5 ⊢
 rw [← h4] at R4 ⊢
 have q34 : w.heap.size < g4 := by omega
 have q45 : g4 < g5 := by omega
 have q56 : g5 < g6 := by omega
 clear h4 h5 h6
 go_wp2_with fail
 refine (kd _).mono ?_
 rintro e W1 ⟨rfl, hB⟩
 have R3 := qa (qk R3.o hB)
 have R4 := qa (qk R4.o hB)
 have R5 := qa (qk R5.o hB)
 have R6 := qa (qk R6.o hB)
 have BL := qq BL hB
 clear hB
 go_wp2_with fail
 refine (kd _).mono ?_
 rintro e W2 ⟨rfl, hB⟩
 have R3 := qa (qk R3.o hB)
 have R4 := qa (qk R4.o hB)
 have R5 := qa (qk R5.o hB)
 have R6 := qa (qk R6.o hB)
 have BL := qq BL hB
 clear hB
 have l3 := qh R3.o
 have l4 := qh R4.o
 have l5 := qh R5.o
 have l6 := qh R6.o
 rename_i hk
 refine hk _ _ ?_
 refine qoc (by rfl) 98 _ (by rfl) (qA qqf) [(1, .agg (fA 1)), (2, .agg (fA 1))] (by kernel_rfl) qrs ?_
 go_upto_region 2 with (first | (refine qB 98 (.tmp 7) (.tmp 11) W2.heap.size (qA qqf) (za _ _) (jE _) (QN _ _) (QO _) ?_))
 try rw [qH]
 obtain ⟨g7, hg7⟩ := zy W2.heap.size
 generalize hW3 : World.setRow _ _ _ = W3
 have K3 : Hid (zB W2 W3) := by rw [← hW3]; exact ze ((zJ _ _).alloc (zm _) _) (zm _) _
 have R7 : Hid (qi W3 g7 (qA qqf) 98) := by rw [← hW3, hg7]; exact zd _ _ _ _ _ _ (za _ _)
 have R3 := qa (qk R3.o K3.o)
 have R4 := qa (qk R4.o K3.o)
 have R5 := qa (qk R5.o K3.o)
 have R6 := qa (qk R6.o K3.o)
 have BL : Hid (zB w W3) := BL.o.trans (K3.o.mono BL.o.size)
 have q67 : g6 < g7 := by omega
 rw [← hg7]
 clear hW3 hg7 K3 l3 l4 l5 l6
 go_wp2_with fail
 go_loopw [8] (fun i wr => ∃ k : Nat, k ≤ 256 ∧ i = .int .i64 (255 - (k : Int)) ∧ Hid (qi wr w.heap.size (fA d) 95) ∧ Hid (qi wr g4 (sA l) 91) ∧ Hid (qi wr g5 (qA p) 98) ∧ Hid (qi wr g6 (qA q0) 98) ∧ Hid (qi wr g7 ((qA (jd d l p k))) 98) ∧ Hid (zB w wr)) (fun i _ => (intOf i + 1).toNat)
 case atStart => exact ⟨0, by omega, rfl, R3, R4, R5, R6, R7, BL⟩
 case round =>
  clear R3 R4 R5 R6 R7 BL
  obtain ⟨k, hk, rfl, R3, R4, R5, R6, R7, BL⟩ := hrel
  by_cases hlt : k < 256
  ·
   obtain ⟨a, Ea⟩ := zx (255 - k)
   have ea : (255 : Int) - (k : Int) = (a : Int) := by have := Ea.o; omega
   have ha : a < 256 := by have := Ea.o; omega
   have ba : (0 : Int) ≤ (a : Int) := by omega
   obtain ⟨o, Eo⟩ := zx (jd d l p k)
   have Ho : Hid o.Ok := by rw [Eo.o]; exact Yn d l p k
   rw [← Eo.o] at R7
   go_wp2_with (first
    | (refine zL 95 (.tmp 3) w.heap.size (fA d) R3.o q7 (qO _) ?_)
    | (refine zL 98 (.tmp 7) g7 (qA o) R7.o Tryz.underlying98 (jE _) ?_))
   refine (qhg d o o Hd.o Ho.o Ho.o _).mono ?_
   rintro e W4 ⟨rfl, hB⟩
   have R3 := qa (qk R3.o hB)
   have R4 := qa (qk R4.o hB)
   have R5 := qa (qk R5.o hB)
   have R6 := qa (qk R6.o hB)
   have R7 := qa (qk R7.o hB)
   have BL := qq BL hB
   clear hB
   obtain ⟨o2, Eo2⟩ := zx (Jd d o o)
   have Ho2 : Hid o2.Ok := by rw [Eo2.o]; exact qcN _ _ _
   rw [← Eo2.o]
   go_upto_region 6 with (first
    | (refine qB 98 (.tmp 7) (.tmp 19) g7 (qA o2) R7.o (jE _) (QN _ _) (QO _) ?_))
   try rw [qH]
   generalize hW5 : World.setRow _ _ _ = W5
   have R3 : Hid (qi W5 w.heap.size (fA d) 95) := by rw [← hW5]; exact (zc _ _ _ _ (by omega)).trans R3.o
   have R4 : Hid (qi W5 g4 (sA l) 91) := by rw [← hW5]; exact (zc _ _ _ _ (by omega)).trans R4.o
   have R5 : Hid (qi W5 g5 (qA p) 98) := by rw [← hW5]; exact (zc _ _ _ _ (by omega)).trans R5.o
   have R6 : Hid (qi W5 g6 (qA q0) 98) := by rw [← hW5]; exact (zc _ _ _ _ (by omega)).trans R6.o
   have R7 : Hid (qi W5 g7 (qA o2) 98) := by rw [← hW5]; exact zd _ _ _ _ _ _ R7.o
   have BL : Hid (zB w W5) := by rw [← hW5]; exact ze BL.o (by omega) _
   clear hW5
   obtain ⟨q, Hq⟩ := zx (a / 16)
   obtain ⟨r, Hr⟩ := zx (a % 16)
   have eq : (a : Int) / 16 = (q : Int) := by have := Hq.o; omega
   have er : (a : Int) % 16 = (r : Int) := by have := Hr.o; omega
   have bq : (q : Int) < 17 := by have := Hq.o; omega
   have br : (r : Int) < 16 := by have := Hr.o; omega
   have hq16 : q < 16 := by have := Hq.o; omega
   have c1 := Qc (l := Jk l 16) (T := 91) (fr := (0, 0)) (by have e := R4.o; rw [qpd] at e; exact e) q (by rw [qbj]; omega)
   rw [qic l 16 q hq16 (by omega)] at c1
   obtain ⟨x, HX⟩ := zx (wI l q)
   rw [← HX.o] at c1
   have x0 : 0 ≤ x := by rw [HX.o]; exact (qkq l q).1
   have hnn : 0 ≤ x / 2 ^ r := Int.ediv_nonneg x0 (Int.le_of_lt (Int.pow_pos (by decide)))
   have hb : ((x / 2 ^ r).tmod 2 == 1) = btI l a := by
    rw [Int.tmod_eq_emod_of_nonneg hnn, HX.o, Hq.o, Hr.o]
    unfold btI
    by_cases h : wI l (a / 16) / 2 ^ (a % 16) % 2 = 1
    · rw [h]; simp
    · rw [zD h, beq_eq_false_iff_ne]; exact h
   have em : (a : Int) - 1 = 255 - ((k + 1 : Nat) : Int) := by have := Ea.o; omega
   clear hnn
   cases hbt : btI l a
   ·
    rw [hbt] at hb
    have HE : Hid (o2 = jd d l p (k + 1)) := by
     show _ = _
     rw [jd, ← Ea.o, if_neg (by rw [hbt]; decide), Eo2.o, Eo.o]
    clear hbt
    go_wp2_with fail
    exact ⟨⟨k + 1, by omega, rfl, R3, R4, R5, R6, by rw [← HE.o]; exact R7, BL⟩, by simp [intOf]; omega⟩
   ·
    rw [hbt] at hb
    have HE : Hid (Jd d o2 p = jd d l p (k + 1)) := by
     show _ = _
     rw [jd, ← Ea.o, if_pos hbt, Eo2.o, Eo.o]
    clear hbt
    go_wp2_with (first
     | (refine zL 95 (.tmp 3) w.heap.size (fA d) R3.o q7 (qO _) ?_)
     | (refine zL 98 (.tmp 7) g7 (qA o2) R7.o Tryz.underlying98 (jE _) ?_)
     | (refine zL 98 (.tmp 5) g5 (qA p) R5.o Tryz.underlying98 (jE _) ?_))
    refine (qhg d o2 p Hd.o Ho2.o Hp.o _).mono ?_
    rintro e W6 ⟨rfl, hB⟩
    have R3 := qa (qk R3.o hB)
    have R4 := qa (qk R4.o hB)
    have R5 := qa (qk R5.o hB)
    have R6 := qa (qk R6.o hB)
    have R7 := qa (qk R7.o hB)
    have BL := qq BL hB
    clear hB c1
    rw [HE.o]
    go_upto_region 4 with (first
     | (refine qB 98 (.tmp 7) (.tmp 32) g7 (qA (jd d l p (k + 1))) R7.o (jE _) (QN _ _) (QO _) ?_))
    try rw [qH]
    generalize hW7 : World.setRow _ _ _ = W7
    have R3 : Hid (qi W7 w.heap.size (fA d) 95) := by rw [← hW7]; exact (zc _ _ _ _ (by omega)).trans R3.o
    have R4 : Hid (qi W7 g4 (sA l) 91) := by rw [← hW7]; exact (zc _ _ _ _ (by omega)).trans R4.o
    have R5 : Hid (qi W7 g5 (qA p) 98) := by rw [← hW7]; exact (zc _ _ _ _ (by omega)).trans R5.o
    have R6 : Hid (qi W7 g6 (qA q0) 98) := by rw [← hW7]; exact (zc _ _ _ _ (by omega)).trans R6.o
    have R7 : Hid (qi W7 g7 ((qA (jd d l p (k + 1)))) 98) := by rw [← hW7]; exact zd _ _ _ _ _ _ R7.o
    have BL : Hid (zB w W7) := by rw [← hW7]; exact ze BL.o (by omega) _
    clear hW7
    go_wp2_with fail
    exact ⟨⟨k + 1, by omega, rfl, R3, R4, R5, R6, R7, BL⟩, by simp [intOf]; omega⟩
  ·
   obtain rfl : k = 256 := by omega
   have bk2 : (255 : Int) - ((256 : Nat) : Int) = -1 := by omega
   clear hlt hk
   go_wp2_with (first
    | (refine zg (by rfl) 98 (.tmp 7) (by rfl) g7 (by rfl) 98 (qA (jd d l p 256)) (0, 0) _ R7.o Tryz.underlying98 rfl (jE _) ?_)
    | (refine qB 98 (.tmp 6) (.tmp 33) g6 (qA (jd d l p 256)) R6.o (jE _) (QN _ _) (QO _) ?_))
   refine zh (v := .agg (qA (jd d l p 256))) (results_cell_row Tryz.results34 _ _ g6 98 _ (0, 0) _ (by rfl) (zd _ _ _ _ _ _ R6.o) Tryz.underlying98 rfl (jE _)) rfl ⟨rfl, ze BL.o (by omega) _⟩
end
end Go.Proofs.YtccgfabojbjmjaaGreatDoor
