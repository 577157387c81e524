/-
  The switch of the law SectJoins: the ways 5.
-/
import Derived.Test.YtiegkdkbkkbjpaaSectSw
namespace Go.Proofs.Ytiegkdkbkkbjpaa
open Go.RowKit

set_option maxRecDepth 100000 in
set_option maxHeartbeats 8000000 in
theorem joins_sw5 (c0 c1 c2 c5 c6 c7 c8 c9 c10 c11 c12 c14 c16 c18 c19 c20 c21 c22 c23 c24 c25 c26 c27 c28 c29 c30 c31 c32 c33 c34 c35 c36 c37 c38 c39 c40 c41 c42 c43 c44 c45 c46 c47 c48 c49 c50 c51 c52 c53 c54 c55 c56 c57 c58 c60 c61 c62 c63 c64 c65 c66 c67 c68 c69 c70 c71 c72 c73 c74 c75 c76 c77 c78 c79 c80 c81 c82 c83 c84 c85 c86 c87 c88 c89 c90 c91 c92 c93 c94 c95 c96 c97 c98 c99 c100 c101 c102 c103 c104 c105 c106 c107 c108 c109 c110 c111 c112 c113 c114 c115 c116 c117 c118 c119 c120 c121 c122 c123 c124 c125 c126 c127 c128 c129 c130 c131 c132 c133 c134 c135 c136 c137 c138 c139 c140 c141 c142 c143 c144 c145 c146 c147 c148 c149 c150 c151 c152 c153 c154 c155 c156 c157 c158 c159 c160 c161 c162 c163 c164 c165 c166 c167 c168 c169 c170 c171 c172 c173 c174 c175 c176 c177 c178 c179 c180 c181 c182 c183 c184 c185 c186 c187 c188 c189 c190 c191 c192 c193 c194 c195 c196 c197 c198 c199 c200 c201 c202 c203 c204 c205 c206 c207 c208 c209 c210 c211 c212 c213 c214 c215 c216 c217 c218 c219 c220 c221 : Value) (at' by' : Int) (g c g' c' k t : Nat) (ps qs : List PartM) (w w1 w2 w3 : World) (ht : t = 5)
    (Hrow3 : Hid (RefRow w3 w1.heap.size (.slice (some ⟨g, 0, none⟩) ps.length c) ps)) (Hrow' : Hid (RefRow w3 w2.heap.size (.slice (some ⟨g', 0, none⟩) qs.length c') qs))
    (HO1 : Hid (Only [] w w1)) (HO13 : Hid (Only [] w1 w3)) (HO3 : Hid (Only [] w w3)) (Hd : Hid (∀ p ∈ ps, p.d.length = 52)) (Hd' : Hid (∀ p ∈ qs, p.d.length = 52))
    (hpl : ps.length ≤ 8) (hp0 : 0 < ps.length) (hpl' : qs.length ≤ 8) (hp0' : 0 < qs.length) (hc : ps.length ≤ c) (hc' : qs.length ≤ c') (hkn : k < ps.length) (hgw1 : w1.heap.size ≤ g) (hgw2 : w2.heap.size ≤ g')
    (J K' : Act → World → Prop) (R : Ending → World → Prop)
    (hJ : ∀ u13 u24 u25 u26 u27 u28 u29 u30 u31 u32 u33 u34 u35 u36 u37 u38 u39 u40 u41 u42 u43 u44 u45 u46 u47 u48 u49 u50 u51 u52 u53 u54 u55 u56 u57 u58 u60 u61 u62 u63 u64 u65 u66 u67 u68 u69 u70 u71 u72 u73 u74 u75 u76 u77 u78 u79 u80 u81 u82 u83 u84 u85 u86 u87 u88 u89 u90 u91 u92 u93 u94 u95 u96 u97 u98 u99 u100 u101 u102 u103 u104 u105 u106 u107 u108 u109 u110 u111 u112 u113 u114 u115 u116 u117 u118 u119 u120 u121 u122 u123 u124 u125 u126 u127 u128 u129 u130 u131 u132 u133 u134 u135 u136 u137 u138 u139 u140 u141 u142 u143 u144 u145 u146 u147 u148 u149 u150 u151 u152 u153 u154 u155 u156 u157 u158 u159 u160 u161 u162 u163 u164 u165 u166 u167 u168 u169 u170 u171 u172 u173 u174 u175 u176 u177 u178 u179 u180 u181 u182 u183 u184 u185 u186 u187 u188 u189 u190 u191 u192 u193 u194 u195 u196 u197 u198 u199 u200 u201 u202 u203 u204 u205 u206 u207 u208 u209 u210 u211 u212 u213 u214 u215 u216 u217 u218 u219 u220 u221 : Value, ∀ wx, Sw w u13 wx → J ⟨#[c0, c1, c2, .int .i64 at', .int .u8 by', c5, c6, c7, c8, c9, c10, c11, c12, u13, c14, .slice (some ⟨g', 0, none⟩) qs.length c', c16, .int .i64 k, c18, c19, c20, c21, c22, c23, u24, u25, u26, u27, u28, u29, u30, u31, u32, u33, u34, u35, u36, u37, u38, u39, u40, u41, u42, u43, u44, u45, u46, u47, u48, u49, u50, u51, u52, u53, u54, u55, u56, u57, u58, .int .i64 (t : Nat), u60, u61, u62, u63, u64, u65, u66, u67, u68, u69, u70, u71, u72, u73, u74, u75, u76, u77, u78, u79, u80, u81, u82, u83, u84, u85, u86, u87, u88, u89, u90, u91, u92, u93, u94, u95, u96, u97, u98, u99, u100, u101, u102, u103, u104, u105, u106, u107, u108, u109, u110, u111, u112, u113, u114, u115, u116, u117, u118, u119, u120, u121, u122, u123, u124, u125, u126, u127, u128, u129, u130, u131, u132, u133, u134, u135, u136, u137, u138, u139, u140, u141, u142, u143, u144, u145, u146, u147, u148, u149, u150, u151, u152, u153, u154, u155, u156, u157, u158, u159, u160, u161, u162, u163, u164, u165, u166, u167, u168, u169, u170, u171, u172, u173, u174, u175, u176, u177, u178, u179, u180, u181, u182, u183, u184, u185, u186, u187, u188, u189, u190, u191, u192, u193, u194, u195, u196, u197, u198, u199, u200, u201, u202, u203, u204, u205, u206, u207, u208, u209, u210, u211, u212, u213, u214, u215, u216, u217, u218, u219, u220, u221], []⟩ wx) (hK : ∀ a' w', Met J a' w' → K' a' w') :
    Code.wp Try.prog swBlock (Exit.then K' (bodyPost Try.prog Try.f7 R)) ⟨#[c0, c1, c2, .int .i64 at', .int .u8 by', c5, c6, c7, c8, c9, c10, c11, c12, .slice (some ⟨g, 0, none⟩) ps.length c, c14, .slice (some ⟨g', 0, none⟩) qs.length c', c16, .int .i64 k, c18, c19, c20, c21, c22, c23, c24, c25, c26, c27, c28, c29, c30, c31, c32, c33, c34, c35, c36, c37, c38, c39, c40, c41, c42, c43, c44, c45, c46, c47, c48, c49, c50, c51, c52, c53, c54, c55, c56, c57, c58, .int .i64 (t : Nat), c60, c61, c62, c63, c64, c65, c66, c67, c68, c69, c70, c71, c72, c73, c74, c75, c76, c77, c78, c79, c80, c81, c82, c83, c84, c85, c86, c87, c88, c89, c90, c91, c92, c93, c94, c95, c96, c97, c98, c99, c100, c101, c102, c103, c104, c105, c106, c107, c108, c109, c110, c111, c112, c113, c114, c115, c116, c117, c118, c119, c120, c121, c122, c123, c124, c125, c126, c127, c128, c129, c130, c131, c132, c133, c134, c135, c136, c137, c138, c139, c140, c141, c142, c143, c144, c145, c146, c147, c148, c149, c150, c151, c152, c153, c154, c155, c156, c157, c158, c159, c160, c161, c162, c163, c164, c165, c166, c167, c168, c169, c170, c171, c172, c173, c174, c175, c176, c177, c178, c179, c180, c181, c182, c183, c184, c185, c186, c187, c188, c189, c190, c191, c192, c193, c194, c195, c196, c197, c198, c199, c200, c201, c202, c203, c204, c205, c206, c207, c208, c209, c210, c211, c212, c213, c214, c215, c216, c217, c218, c219, c220, c221], []⟩ w3 := by
  conv => arg 2; whnf
  subst ht
  have hk : (k : Int) < (ps.length : Int) := by omega
  have HM := Lib.hid (Hrow3.out.mrowAt hp0).1
  have hgw : w.heap.size ≤ g := by have := HO1.out.size; omega
  have hsz1 : w.heap.size ≤ w1.heap.size := HO1.out.size
  have hsz3 : w1.heap.size ≤ w3.heap.size := HO13.out.size
  have Hd52 : Hid (∀ p ∈ ps, p.d.length ≤ 52) := Lib.hid (fun p hp => Nat.le_of_eq (Hd.out p hp))
  have HJ := Lib.hid hJ
  clear hJ
  obtain ⟨gi, ci, cui, hri, hbi, hrii, hci, hBi⟩ := Hrow3.out.piece k hkn
  have hd52 := Hd.out _ (List.getElem_mem hkn)
  have Hset : Hid (∀ s : Nat, (s : Int) < 53 → ∃ ps' : List PartM, ps'.length = ps.length ∧ (∀ q ∈ ps', q.d.length ≤ 52) ∧ MRow (w3.setCell ⟨g, k * 5 + 4, none⟩ (.slice (some ⟨gi, 0, none⟩) s ci)) g ps') := Lib.hid (fun s hs => ⟨_, by simp, mem_set Hd52.out (by simp; omega), HM.out.shorter hkn hri (by omega)⟩)
  rw [hd52] at hri hci
  have y4 : w3.cell? ⟨g, k * 5 + 4, none⟩ = some (.slice (some ⟨gi, 0, none⟩) 52 ci) := hri 4 _ rfl
  obtain ⟨cug, hbg, _⟩ := HM.out.row
  have hfz := IsBlk.notFrozen hbg (k * 5 + 4)
  clear hri hbi hrii hd52 hbg
  go_wp2_with fail
  go_region_with (go_loud (go_at_call 20; refine Calls.mono (within_t _ _ 53 (by omega) (by omega)) ?_; rintro e w' ⟨s, hs, rfl, rfl⟩; have hsc : (s : Int) ≤ (ci : Int) := (by omega); have hsc2 : s ≤ ci := (by omega)))
  all_goals
    go_wp2_with fail
    refine Met.intro ?_
    apply HJ.out
    obtain ⟨ps', hl2, hd2, hM2⟩ := Hset.out s hs
    exact Sw.of (hM2.more (Only.refl [] _).drew) (by omega) hd2 (HO3.out.setCell (.inr hgw) _).drew hl2.symm


end Go.Proofs.Ytiegkdkbkkbjpaa
