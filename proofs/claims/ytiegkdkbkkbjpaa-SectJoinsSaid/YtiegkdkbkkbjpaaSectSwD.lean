/-
  The switch of the law SectJoins: the ways 1.
-/
import Derived.Test.YtiegkdkbkkbjpaaSectSw
namespace Go.Proofs.Ytiegkdkbkkbjpaa
open Go.RowKit

set_option maxRecDepth 100000 in
set_option maxHeartbeats 8000000 in
theorem joins_sw1 (c0 c1 c2 c5 c6 c7 c8 c9 c10 c11 c12 c14 c16 c18 c19 c20 c21 c22 c23 c24 c25 c26 c27 c28 c29 c30 c31 c32 c33 c34 c35 c36 c37 c38 c39 c40 c41 c42 c43 c44 c45 c46 c47 c48 c49 c50 c51 c52 c53 c54 c55 c56 c57 c58 c60 c61 c62 c63 c64 c65 c66 c67 c68 c69 c70 c71 c72 c73 c74 c75 c76 c77 c78 c79 c80 c81 c82 c83 c84 c85 c86 c87 c88 c89 c90 c91 c92 c93 c94 c95 c96 c97 c98 c99 c100 c101 c102 c103 c104 c105 c106 c107 c108 c109 c110 c111 c112 c113 c114 c115 c116 c117 c118 c119 c120 c121 c122 c123 c124 c125 c126 c127 c128 c129 c130 c131 c132 c133 c134 c135 c136 c137 c138 c139 c140 c141 c142 c143 c144 c145 c146 c147 c148 c149 c150 c151 c152 c153 c154 c155 c156 c157 c158 c159 c160 c161 c162 c163 c164 c165 c166 c167 c168 c169 c170 c171 c172 c173 c174 c175 c176 c177 c178 c179 c180 c181 c182 c183 c184 c185 c186 c187 c188 c189 c190 c191 c192 c193 c194 c195 c196 c197 c198 c199 c200 c201 c202 c203 c204 c205 c206 c207 c208 c209 c210 c211 c212 c213 c214 c215 c216 c217 c218 c219 c220 c221 : Value) (at' by' : Int) (g c g' c' k t : Nat) (ps qs : List PartM) (w w1 w2 w3 : World) (ht : t = 1)
    (Hrow3 : Hid (RefRow w3 w1.heap.size (.slice (some ⟨g, 0, none⟩) ps.length c) ps)) (Hrow' : Hid (RefRow w3 w2.heap.size (.slice (some ⟨g', 0, none⟩) qs.length c') qs))
    (HO1 : Hid (Only [] w w1)) (HO13 : Hid (Only [] w1 w3)) (HO3 : Hid (Only [] w w3)) (Hd : Hid (∀ p ∈ ps, p.d.length = 52)) (Hd' : Hid (∀ p ∈ qs, p.d.length = 52))
    (hpl : ps.length ≤ 8) (hp0 : 0 < ps.length) (hpl' : qs.length ≤ 8) (hp0' : 0 < qs.length) (hc : ps.length ≤ c) (hc' : qs.length ≤ c') (hkn : k < ps.length) (hgw1 : w1.heap.size ≤ g) (hgw2 : w2.heap.size ≤ g')
    (J K' : Act → World → Prop) (R : Ending → World → Prop)
    (hJ : ∀ u13 u24 u25 u26 u27 u28 u29 u30 u31 u32 u33 u34 u35 u36 u37 u38 u39 u40 u41 u42 u43 u44 u45 u46 u47 u48 u49 u50 u51 u52 u53 u54 u55 u56 u57 u58 u60 u61 u62 u63 u64 u65 u66 u67 u68 u69 u70 u71 u72 u73 u74 u75 u76 u77 u78 u79 u80 u81 u82 u83 u84 u85 u86 u87 u88 u89 u90 u91 u92 u93 u94 u95 u96 u97 u98 u99 u100 u101 u102 u103 u104 u105 u106 u107 u108 u109 u110 u111 u112 u113 u114 u115 u116 u117 u118 u119 u120 u121 u122 u123 u124 u125 u126 u127 u128 u129 u130 u131 u132 u133 u134 u135 u136 u137 u138 u139 u140 u141 u142 u143 u144 u145 u146 u147 u148 u149 u150 u151 u152 u153 u154 u155 u156 u157 u158 u159 u160 u161 u162 u163 u164 u165 u166 u167 u168 u169 u170 u171 u172 u173 u174 u175 u176 u177 u178 u179 u180 u181 u182 u183 u184 u185 u186 u187 u188 u189 u190 u191 u192 u193 u194 u195 u196 u197 u198 u199 u200 u201 u202 u203 u204 u205 u206 u207 u208 u209 u210 u211 u212 u213 u214 u215 u216 u217 u218 u219 u220 u221 : Value, ∀ wx, Sw w u13 wx → J ⟨#[c0, c1, c2, .int .i64 at', .int .u8 by', c5, c6, c7, c8, c9, c10, c11, c12, u13, c14, .slice (some ⟨g', 0, none⟩) qs.length c', c16, .int .i64 k, c18, c19, c20, c21, c22, c23, u24, u25, u26, u27, u28, u29, u30, u31, u32, u33, u34, u35, u36, u37, u38, u39, u40, u41, u42, u43, u44, u45, u46, u47, u48, u49, u50, u51, u52, u53, u54, u55, u56, u57, u58, .int .i64 (t : Nat), u60, u61, u62, u63, u64, u65, u66, u67, u68, u69, u70, u71, u72, u73, u74, u75, u76, u77, u78, u79, u80, u81, u82, u83, u84, u85, u86, u87, u88, u89, u90, u91, u92, u93, u94, u95, u96, u97, u98, u99, u100, u101, u102, u103, u104, u105, u106, u107, u108, u109, u110, u111, u112, u113, u114, u115, u116, u117, u118, u119, u120, u121, u122, u123, u124, u125, u126, u127, u128, u129, u130, u131, u132, u133, u134, u135, u136, u137, u138, u139, u140, u141, u142, u143, u144, u145, u146, u147, u148, u149, u150, u151, u152, u153, u154, u155, u156, u157, u158, u159, u160, u161, u162, u163, u164, u165, u166, u167, u168, u169, u170, u171, u172, u173, u174, u175, u176, u177, u178, u179, u180, u181, u182, u183, u184, u185, u186, u187, u188, u189, u190, u191, u192, u193, u194, u195, u196, u197, u198, u199, u200, u201, u202, u203, u204, u205, u206, u207, u208, u209, u210, u211, u212, u213, u214, u215, u216, u217, u218, u219, u220, u221], []⟩ wx) (hK : ∀ a' w', Met J a' w' → K' a' w') :
    Code.wp Try.prog swBlock (Exit.then K' (bodyPost Try.prog Try.f7 R)) ⟨#[c0, c1, c2, .int .i64 at', .int .u8 by', c5, c6, c7, c8, c9, c10, c11, c12, .slice (some ⟨g, 0, none⟩) ps.length c, c14, .slice (some ⟨g', 0, none⟩) qs.length c', c16, .int .i64 k, c18, c19, c20, c21, c22, c23, c24, c25, c26, c27, c28, c29, c30, c31, c32, c33, c34, c35, c36, c37, c38, c39, c40, c41, c42, c43, c44, c45, c46, c47, c48, c49, c50, c51, c52, c53, c54, c55, c56, c57, c58, .int .i64 (t : Nat), c60, c61, c62, c63, c64, c65, c66, c67, c68, c69, c70, c71, c72, c73, c74, c75, c76, c77, c78, c79, c80, c81, c82, c83, c84, c85, c86, c87, c88, c89, c90, c91, c92, c93, c94, c95, c96, c97, c98, c99, c100, c101, c102, c103, c104, c105, c106, c107, c108, c109, c110, c111, c112, c113, c114, c115, c116, c117, c118, c119, c120, c121, c122, c123, c124, c125, c126, c127, c128, c129, c130, c131, c132, c133, c134, c135, c136, c137, c138, c139, c140, c141, c142, c143, c144, c145, c146, c147, c148, c149, c150, c151, c152, c153, c154, c155, c156, c157, c158, c159, c160, c161, c162, c163, c164, c165, c166, c167, c168, c169, c170, c171, c172, c173, c174, c175, c176, c177, c178, c179, c180, c181, c182, c183, c184, c185, c186, c187, c188, c189, c190, c191, c192, c193, c194, c195, c196, c197, c198, c199, c200, c201, c202, c203, c204, c205, c206, c207, c208, c209, c210, c211, c212, c213, c214, c215, c216, c217, c218, c219, c220, c221], []⟩ w3 := by
  conv => arg 2; whnf
  subst ht
  have hk : (k : Int) < (ps.length : Int) := by omega
  have HM := Lib.hid (Hrow3.out.mrowAt hp0).1
  have hgw : w.heap.size ≤ g := by have := HO1.out.size; omega
  have hsz1 : w.heap.size ≤ w1.heap.size := HO1.out.size
  have hsz3 : w1.heap.size ≤ w3.heap.size := HO13.out.size
  have Hd52 : Hid (∀ p ∈ ps, p.d.length ≤ 52) := Lib.hid (fun p hp => Nat.le_of_eq (Hd.out p hp))
  have HJ := Lib.hid hJ
  clear hJ
  by_cases hck : c = k + 1
  · subst hck
    obtain ⟨xs, hxs, hpp⟩ := Hrow3.out
    have hxl := hxs.1
    have H1c := Lib.hid (owns_one hxs hpp)
    have Hcells := Lib.hid (World.ownsRow.cells hxs (g := g) rfl)
    obtain ⟨i0, hi, hz0, hz1, hz2⟩ := info_parts infoRef
    have hgl : g < w3.heap.size := by obtain ⟨_, hbg, _⟩ := HM.out.row; exact hbg.lt
    have hkw : IntKind.i64.wrap ((k : Int) + 1) = (k : Int) + 1 := IntWalk.i64_in _ (by omega)
    have hkt : ((k : Int) + 1).toNat = k + 1 := by omega
    have HOe := Lib.hid (((Only.refl [] w3).alloc (.cells #[] 28)).drew)
    have Hemp : Hid ((w3.alloc (.cells #[] 28)).drew.ownsRow w3.heap.size 28 5 (.slice (some ⟨w3.heap.size, 0, none⟩) 0 0) 0 []) := Lib.hid (owns_empty w3 _)
    have Hpp := Lib.hid hpp
    have Hn1 : Hid (∀ j u, (xs.take (k * 5))[j]? = some u → (w3.alloc (.cells #[] 28)).drew.cell? ((⟨g, 0, none⟩ : Addr).add j) = some u) := Lib.hid (cells_take Hcells.out HOe.out hgl)
    have Hn2 : Hid (∀ W, Only [] w3 W → ∀ j u, (xs.drop ((k + 1) * 5))[j]? = some u → W.cell? ((⟨g, (k + 1) * 5, none⟩ : Addr).add j) = some u) := Lib.hid (fun W hW => cells_drop Hcells.out hW hgl)
    have b1 : (0 : Int) ≤ (k : Int) := by omega
    have b2 : (k : Int) ≤ ((k + 1 : Nat) : Int) := by omega
    have b3 : (k : Int) + 1 ≤ (ps.length : Int) := by omega
    have b4 : (0 : Int) ≤ (k : Int) + 1 := by omega
    have b5 : (ps.length : Int) ≤ ((k + 1 : Nat) : Int) := by omega
    have b6 : k ≤ k + 1 := by omega
    have b7 : k + 1 ≤ ps.length := by omega
    have Hxl := Lib.hid hxl
    have d1 : (k : Int) ≤ (k : Int) + 1 := by omega
    have d2 : (ps.length : Int) ≤ (k : Int) + 1 := by omega
    have d3 : k ≤ k + 1 := by omega
    have d4 : ps.length ≤ k + 1 := by omega
    clear hpp hxs hxl
    go_wp2_with fail
    go_region_held3 (fun _ => True) (trivial)
      (first
        | (rw [if_pos (by rfl)]
           refine wp_append_own _ _ _ 49 rfl w3.heap.size 28 i0 _ 5 56 Try.underlying49 hi hz0 hz1 hz2 rfl (by decide) _ (0 + k) _ rfl h4 ⟨g, 0, none⟩ _ _ [] rfl (by simp) (by simp) (by simp) (by unfold maxLen; omega) (by omega) hO4.size ?_
           intro v5 w5 h5 hg5 hn5
           clear hn5)
        | (rw [if_pos (by rfl)]
           refine wp_append_own _ _ _ 49 rfl w3.heap.size 28 i0 _ 5 56 Try.underlying49 hi hz0 hz1 hz2 rfl (by decide) _ 0 [] rfl Hemp.out ⟨g, 0, none⟩ k (k + 1) (xs.take (k * 5)) rfl (by have := Hxl.out; simp; omega) Hn1.out (fun u hu => H1c.out u (List.mem_of_mem_take hu)) (by unfold maxLen; omega) (by omega) HOe.out.size ?_
           intro v4 w4 h4 hg4 hn4
           clear hn4
           have hO4 : Only [] w3 w4 := own_only Hemp.out hg4 HOe.out))
    have hO5 : Only [] w3 w5 := own_only h4 hg5 hO4
    obtain ⟨a5, c5, hv5, hp5⟩ := without_parts Hxl.out Hpp.out hO5 hkn (by rw [List.drop_eq_nil_of_le (by rw [Hxl.out]; omega)]; simpa using h5) (by omega)
    subst hv5
    go_wp2_with fail
    refine Met.intro ?_
    apply HJ.out
    refine ⟨_, _, _, _, rfl, hp5, by omega, fun q hq => ?_, HO3.out.then hO5 [] (by simp) (by simp)⟩
    rcases List.mem_append.1 hq with h | h
    · exact Hd52.out q (List.mem_of_mem_take h)
    · exact Hd52.out q (List.mem_of_mem_drop h)
  obtain ⟨xs, hxs, hpp⟩ := Hrow3.out
  have hxl := hxs.1
  have H1c := Lib.hid (owns_one hxs hpp)
  have Hcells := Lib.hid (World.ownsRow.cells hxs (g := g) rfl)
  obtain ⟨i0, hi, hz0, hz1, hz2⟩ := info_parts infoRef
  have hgl : g < w3.heap.size := by obtain ⟨_, hbg, _⟩ := HM.out.row; exact hbg.lt
  have hkw : IntKind.i64.wrap ((k : Int) + 1) = (k : Int) + 1 := IntWalk.i64_in _ (by omega)
  have hkt : ((k : Int) + 1).toNat = k + 1 := by omega
  have HOe := Lib.hid (((Only.refl [] w3).alloc (.cells #[] 28)).drew)
  have Hemp : Hid ((w3.alloc (.cells #[] 28)).drew.ownsRow w3.heap.size 28 5 (.slice (some ⟨w3.heap.size, 0, none⟩) 0 0) 0 []) := Lib.hid (owns_empty w3 _)
  have Hpp := Lib.hid hpp
  have Hn1 : Hid (∀ j u, (xs.take (k * 5))[j]? = some u → (w3.alloc (.cells #[] 28)).drew.cell? ((⟨g, 0, none⟩ : Addr).add j) = some u) := Lib.hid (cells_take Hcells.out HOe.out hgl)
  have Hn2 : Hid (∀ W, Only [] w3 W → ∀ j u, (xs.drop ((k + 1) * 5))[j]? = some u → W.cell? ((⟨g, (k + 1) * 5, none⟩ : Addr).add j) = some u) := Lib.hid (fun W hW => cells_drop Hcells.out hW hgl)
  have b1 : (0 : Int) ≤ (k : Int) := by omega
  have b2 : (k : Int) ≤ ((c : Nat) : Int) := by omega
  have b3 : (k : Int) + 1 ≤ (ps.length : Int) := by omega
  have b4 : (0 : Int) ≤ (k : Int) + 1 := by omega
  have b5 : (ps.length : Int) ≤ ((c : Nat) : Int) := by omega
  have b6 : k ≤ c := by omega
  have b7 : k + 1 ≤ ps.length := by omega
  have Hxl := Lib.hid hxl
  clear hpp hxs hxl
  go_wp2_with fail
  go_region_held3 (fun _ => True) (trivial)
    (first
      | (rw [if_pos (by rfl)]
         refine wp_append_own _ _ _ 49 rfl w3.heap.size 28 i0 _ 5 56 Try.underlying49 hi hz0 hz1 hz2 rfl (by decide) _ (0 + k) _ rfl h4 ⟨g, (k + 1) * 5, none⟩ (ps.length - (k + 1)) (c - (k + 1)) (xs.drop ((k + 1) * 5)) rfl (by have := Hxl.out; simp; omega) (Hn2.out _ hO4) (fun u hu => H1c.out u (List.mem_of_mem_drop hu)) (by unfold maxLen; omega) (by omega) hO4.size ?_
         intro v5 w5 h5 hg5 hn5
         clear hn5)
      | (rw [if_pos (by rfl)]
         refine wp_append_own _ _ _ 49 rfl w3.heap.size 28 i0 _ 5 56 Try.underlying49 hi hz0 hz1 hz2 rfl (by decide) _ 0 [] rfl Hemp.out ⟨g, 0, none⟩ k (c) (xs.take (k * 5)) rfl (by have := Hxl.out; simp; omega) Hn1.out (fun u hu => H1c.out u (List.mem_of_mem_take hu)) (by unfold maxLen; omega) (by omega) HOe.out.size ?_
         intro v4 w4 h4 hg4 hn4
         clear hn4
         have hO4 : Only [] w3 w4 := own_only Hemp.out hg4 HOe.out))
  have hO5 : Only [] w3 w5 := own_only h4 hg5 hO4
  obtain ⟨a5, c5, hv5, hp5⟩ := without_parts Hxl.out Hpp.out hO5 hkn (by simpa using h5) (by omega)
  subst hv5
  go_wp2_with fail
  refine Met.intro ?_
  apply HJ.out
  refine ⟨_, _, _, _, rfl, hp5, by omega, fun q hq => ?_, HO3.out.then hO5 [] (by simp) (by simp)⟩
  rcases List.mem_append.1 hq with h | h
  · exact Hd52.out q (List.mem_of_mem_take h)
  · exact Hd52.out q (List.mem_of_mem_drop h)


end Go.Proofs.Ytiegkdkbkkbjpaa
