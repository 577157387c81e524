/-
  The walk of the law SectJoins.
-/
import Derived.Test.YtiegkdkbkkbjpaaSectSwA
import Derived.Test.YtiegkdkbkkbjpaaSectSwB
import Derived.Test.YtiegkdkbkkbjpaaSectSwC
import Derived.Test.YtiegkdkbkkbjpaaSectSwD
import Derived.Test.YtiegkdkbkkbjpaaSectSwE
namespace Go.Proofs.Ytiegkdkbkkbjpaa
open Go.RowKit

set_option maxRecDepth 100000 in
set_option maxHeartbeats 8000000 in
theorem joins_walk (a : Option Addr) (len cap : Nat) (l : List UInt8) (a' : Option Addr) (len' cap' : Nat) (l' : List UInt8) (which at' by' gen : Int) (w : World) (h : Src w a len l) (h' : Src w a' len' l') :
    Calls Try.prog 7 #[.slice a len cap, .slice a' len' cap', .int .i64 which, .int .i64 at', .int .u8 by', .int .i64 gen] w fun e w' => e = .returned (.bool true) ∧ Only [] w w' := by
  have hlen := h.1
  subst hlen
  have hlen' := h'.1
  subst hlen'
  by_cases hl : l.length > 400
  · have hli : (400 : Int) < (l.length : Int) := by omega
    go_enter Try.func7, Try.ntmps7
    go_wp2_with fail
    refine (known_any _).mono ?_
    rintro e w1 ⟨rfl, hO⟩
    go_wp2
    go_ret
    exact ⟨rfl, hO⟩
  have hli : ¬ (400 : Int) < (l.length : Int) := by omega
  by_cases hl' : l'.length > 400
  · have hli' : (400 : Int) < (l'.length : Int) := by omega
    go_enter Try.func7, Try.ntmps7
    go_wp2_with fail
    refine (known_any _).mono ?_
    rintro e w1 ⟨rfl, hO⟩
    go_wp2
    go_ret
    exact ⟨rfl, hO⟩
  have hli' : ¬ (400 : Int) < (l'.length : Int) := by omega
  have H := Lib.hid h
  have H' := Lib.hid h'
  clear h h'
  go_enter Try.func7, Try.ntmps7
  go_wp2_with fail
  refine (known_any _).mono ?_
  rintro e w1 ⟨rfl, hO1⟩
  have HO1 := Lib.hid hO1
  have hsz1 := hO1.size
  clear hO1
  go_wp2_with fail
  refine (within_t _ gen 3 (by omega) (by omega)).mono ?_
  rintro e w' ⟨G, hG, rfl, rfl⟩
  go_wp2_with fail
  refine (refcut_any _ (1 + (G : Int)) 0 a cap l (H.out.more HO1.out) (mayB_iff.2 (by omega)) (by omega)).mono ?_
  rintro e w2 ⟨hyes, _, hO2⟩
  obtain ⟨v, rfl, hrow⟩ := hyes (Nat.le_trans (parts_few _ (by omega)) (by omega))
  obtain ⟨g, c, rfl, hM, hc, hg⟩ := hrow.mrow (by rw [length_cutP]; have := partsN_le l.length; omega)
  have hpl : (cutP (1 + (G : Int)) 0 l).length ≤ 8 := by rw [length_cutP]; exact parts_few _ (by omega)
  have hp0 : 0 < (cutP (1 + (G : Int)) 0 l).length := by rw [length_cutP]; have := partsN_le l.length; omega
  have Hd := Lib.hid (cutP_d (g := 1 + (G : Int)) (r := 0) (b := l))
  generalize cutP (1 + (G : Int)) 0 l = ps at *
  have hO2' : Only [] w w2 := HO1.out.then hO2 [] (by simp) (by simp)
  have Hrow := Lib.hid hrow
  have HO2 := Lib.hid hO2'
  have HO12 := Lib.hid hO2
  have hsz2 := hO2.size
  clear hyes hO2 hO2' hrow hM
  go_wp2_with fail
  refine (within_t _ _ 3 (by omega) (by omega)).mono ?_
  rintro e w' ⟨G2, hG2, rfl, rfl⟩
  go_wp2_with fail
  refine (within_t _ _ 2 (by omega) (by omega)).mono ?_
  rintro e w' ⟨R2, hR2, rfl, rfl⟩
  go_wp2_with fail
  refine (refcut_any _ (1 + (G2 : Int)) (R2 : Int) a' cap' l' (H'.out.more HO2.out) (mayB_iff.2 (by omega)) (by omega)).mono ?_
  rintro e w3 ⟨hyes, _, hO3⟩
  obtain ⟨v, rfl, hrow⟩ := hyes (Nat.le_trans (parts_few _ (by omega)) (by omega))
  obtain ⟨g', c', rfl, hM', hc', hg'⟩ := hrow.mrow (by rw [length_cutP]; have := partsN_le l'.length; omega)
  have hpl' : (cutP (1 + (G2 : Int)) R2 l').length ≤ 8 := by rw [length_cutP]; exact parts_few _ (by omega)
  have hp0' : 0 < (cutP (1 + (G2 : Int)) R2 l').length := by rw [length_cutP]; have := partsN_le l'.length; omega
  have Hd' := Lib.hid (cutP_d (g := 1 + (G2 : Int)) (r := R2) (b := l'))
  generalize cutP (1 + (G2 : Int)) R2 l' = qs at *
  have hO3' : Only [] w w3 := HO2.out.then hO3 [] (by simp) (by simp)
  have Hrow3 := Lib.hid (Hrow.out.more hO3)
  have Hrow' := Lib.hid hrow
  have HO3 := Lib.hid hO3'
  have HO13 := Lib.hid (HO12.out.then hO3 [] (by simp) (by simp))
  have hsz3 := hO3.size
  clear hyes hO3 hO3' hrow hM' HO2 HO12 Hrow
  go_wp2_with fail
  refine (within_t _ at' ps.length (by omega) (by omega)).mono ?_
  rintro e w' ⟨k, hk, rfl, rfl⟩
  go_wp2_with fail
  refine (within_t _ which 8 (by omega) (by omega)).mono ?_
  rintro e w' ⟨t, ht, rfl, rfl⟩
  go_upto_block 0 with fail
  go_cut [13] (fun s13 wx => Sw w s13 wx)
  case first =>
    rename_i J K' hJ hK
    have hkn : k < ps.length := by omega
    have hJ' := fun u13 u24 u25 u26 u27 u28 u29 u30 u31 u32 u33 u34 u35 u36 u37 u38 u39 u40 u41 u42 u43 u44 u45 u46 u47 u48 u49 u50 u51 u52 u53 u54 u55 u56 u57 u58 u60 u61 u62 u63 u64 u65 u66 u67 u68 u69 u70 u71 u72 u73 u74 u75 u76 u77 u78 u79 u80 u81 u82 u83 u84 u85 u86 u87 u88 u89 u90 u91 u92 u93 u94 u95 u96 u97 u98 u99 u100 u101 u102 u103 u104 u105 u106 u107 u108 u109 u110 u111 u112 u113 u114 u115 u116 u117 u118 u119 u120 u121 u122 u123 u124 u125 u126 u127 u128 u129 u130 u131 u132 u133 u134 u135 u136 u137 u138 u139 u140 u141 u142 u143 u144 u145 u146 u147 u148 u149 u150 u151 u152 u153 u154 u155 u156 u157 u158 u159 u160 u161 u162 u163 u164 u165 u166 u167 u168 u169 u170 u171 u172 u173 u174 u175 u176 u177 u178 u179 u180 u181 u182 u183 u184 u185 u186 u187 u188 u189 u190 u191 u192 u193 u194 u195 u196 u197 u198 u199 u200 u201 u202 u203 u204 u205 u206 u207 u208 u209 u210 u211 u212 u213 u214 u215 u216 u217 u218 u219 u220 u221 wx h => hJ _ wx ⟨u13, u24, u25, u26, u27, u28, u29, u30, u31, u32, u33, u34, u35, u36, u37, u38, u39, u40, u41, u42, u43, u44, u45, u46, u47, u48, u49, u50, u51, u52, u53, u54, u55, u56, u57, u58, u60, u61, u62, u63, u64, u65, u66, u67, u68, u69, u70, u71, u72, u73, u74, u75, u76, u77, u78, u79, u80, u81, u82, u83, u84, u85, u86, u87, u88, u89, u90, u91, u92, u93, u94, u95, u96, u97, u98, u99, u100, u101, u102, u103, u104, u105, u106, u107, u108, u109, u110, u111, u112, u113, u114, u115, u116, u117, u118, u119, u120, u121, u122, u123, u124, u125, u126, u127, u128, u129, u130, u131, u132, u133, u134, u135, u136, u137, u138, u139, u140, u141, u142, u143, u144, u145, u146, u147, u148, u149, u150, u151, u152, u153, u154, u155, u156, u157, u158, u159, u160, u161, u162, u163, u164, u165, u166, u167, u168, u169, u170, u171, u172, u173, u174, u175, u176, u177, u178, u179, u180, u181, u182, u183, u184, u185, u186, u187, u188, u189, u190, u191, u192, u193, u194, u195, u196, u197, u198, u199, u200, u201, u202, u203, u204, u205, u206, u207, u208, u209, u210, u211, u212, u213, u214, u215, u216, u217, u218, u219, u220, u221, h, rfl⟩
    obtain rfl | rfl | rfl | rfl | rfl | rfl | rfl | rfl : t = 0 ∨ t = 1 ∨ t = 2 ∨ t = 3 ∨ t = 4 ∨ t = 5 ∨ t = 6 ∨ t = 7 := by omega
    · exact joins_sw0 _ _ _ _ _ _ _ _ _ _ _ _ _ _ _ _ _ _ _ _ _ _ _ _ _ _ _ _ _ _ _ _ _ _ _ _ _ _ _ _ _ _ _ _ _ _ _ _ _ _ _ _ _ _ _ _ _ _ _ _ _ _ _ _ _ _ _ _ _ _ _ _ _ _ _ _ _ _ _ _ _ _ _ _ _ _ _ _ _ _ _ _ _ _ _ _ _ _ _ _ _ _ _ _ _ _ _ _ _ _ _ _ _ _ _ _ _ _ _ _ _ _ _ _ _ _ _ _ _ _ _ _ _ _ _ _ _ _ _ _ _ _ _ _ _ _ _ _ _ _ _ _ _ _ _ _ _ _ _ _ _ _ _ _ _ _ _ _ _ _ _ _ _ _ _ _ _ _ _ _ _ _ _ _ _ _ _ _ _ _ _ _ _ _ _ _ _ _ _ _ _ _ _ _ _ _ _ _ _ _ _ _ _ _ _ _ at' by' g c g' c' k 0 ps qs w w1 w2 w3 rfl Hrow3 Hrow' HO1 HO13 HO3 Hd Hd' hpl hp0 hpl' hp0' hc hc' hkn hg hg' J K' _ hJ' hK
    · exact joins_sw1 _ _ _ _ _ _ _ _ _ _ _ _ _ _ _ _ _ _ _ _ _ _ _ _ _ _ _ _ _ _ _ _ _ _ _ _ _ _ _ _ _ _ _ _ _ _ _ _ _ _ _ _ _ _ _ _ _ _ _ _ _ _ _ _ _ _ _ _ _ _ _ _ _ _ _ _ _ _ _ _ _ _ _ _ _ _ _ _ _ _ _ _ _ _ _ _ _ _ _ _ _ _ _ _ _ _ _ _ _ _ _ _ _ _ _ _ _ _ _ _ _ _ _ _ _ _ _ _ _ _ _ _ _ _ _ _ _ _ _ _ _ _ _ _ _ _ _ _ _ _ _ _ _ _ _ _ _ _ _ _ _ _ _ _ _ _ _ _ _ _ _ _ _ _ _ _ _ _ _ _ _ _ _ _ _ _ _ _ _ _ _ _ _ _ _ _ _ _ _ _ _ _ _ _ _ _ _ _ _ _ _ _ _ _ _ _ at' by' g c g' c' k 1 ps qs w w1 w2 w3 rfl Hrow3 Hrow' HO1 HO13 HO3 Hd Hd' hpl hp0 hpl' hp0' hc hc' hkn hg hg' J K' _ hJ' hK
    · exact joins_sw2 _ _ _ _ _ _ _ _ _ _ _ _ _ _ _ _ _ _ _ _ _ _ _ _ _ _ _ _ _ _ _ _ _ _ _ _ _ _ _ _ _ _ _ _ _ _ _ _ _ _ _ _ _ _ _ _ _ _ _ _ _ _ _ _ _ _ _ _ _ _ _ _ _ _ _ _ _ _ _ _ _ _ _ _ _ _ _ _ _ _ _ _ _ _ _ _ _ _ _ _ _ _ _ _ _ _ _ _ _ _ _ _ _ _ _ _ _ _ _ _ _ _ _ _ _ _ _ _ _ _ _ _ _ _ _ _ _ _ _ _ _ _ _ _ _ _ _ _ _ _ _ _ _ _ _ _ _ _ _ _ _ _ _ _ _ _ _ _ _ _ _ _ _ _ _ _ _ _ _ _ _ _ _ _ _ _ _ _ _ _ _ _ _ _ _ _ _ _ _ _ _ _ _ _ _ _ _ _ _ _ _ _ _ _ _ _ at' by' g c g' c' k 2 ps qs w w1 w2 w3 rfl Hrow3 Hrow' HO1 HO13 HO3 Hd Hd' hpl hp0 hpl' hp0' hc hc' hkn hg hg' J K' _ hJ' hK
    · exact joins_sw3 _ _ _ _ _ _ _ _ _ _ _ _ _ _ _ _ _ _ _ _ _ _ _ _ _ _ _ _ _ _ _ _ _ _ _ _ _ _ _ _ _ _ _ _ _ _ _ _ _ _ _ _ _ _ _ _ _ _ _ _ _ _ _ _ _ _ _ _ _ _ _ _ _ _ _ _ _ _ _ _ _ _ _ _ _ _ _ _ _ _ _ _ _ _ _ _ _ _ _ _ _ _ _ _ _ _ _ _ _ _ _ _ _ _ _ _ _ _ _ _ _ _ _ _ _ _ _ _ _ _ _ _ _ _ _ _ _ _ _ _ _ _ _ _ _ _ _ _ _ _ _ _ _ _ _ _ _ _ _ _ _ _ _ _ _ _ _ _ _ _ _ _ _ _ _ _ _ _ _ _ _ _ _ _ _ _ _ _ _ _ _ _ _ _ _ _ _ _ _ _ _ _ _ _ _ _ _ _ _ _ _ _ _ _ _ _ at' by' g c g' c' k 3 ps qs w w1 w2 w3 rfl Hrow3 Hrow' HO1 HO13 HO3 Hd Hd' hpl hp0 hpl' hp0' hc hc' hkn hg hg' J K' _ hJ' hK
    · exact joins_sw4 _ _ _ _ _ _ _ _ _ _ _ _ _ _ _ _ _ _ _ _ _ _ _ _ _ _ _ _ _ _ _ _ _ _ _ _ _ _ _ _ _ _ _ _ _ _ _ _ _ _ _ _ _ _ _ _ _ _ _ _ _ _ _ _ _ _ _ _ _ _ _ _ _ _ _ _ _ _ _ _ _ _ _ _ _ _ _ _ _ _ _ _ _ _ _ _ _ _ _ _ _ _ _ _ _ _ _ _ _ _ _ _ _ _ _ _ _ _ _ _ _ _ _ _ _ _ _ _ _ _ _ _ _ _ _ _ _ _ _ _ _ _ _ _ _ _ _ _ _ _ _ _ _ _ _ _ _ _ _ _ _ _ _ _ _ _ _ _ _ _ _ _ _ _ _ _ _ _ _ _ _ _ _ _ _ _ _ _ _ _ _ _ _ _ _ _ _ _ _ _ _ _ _ _ _ _ _ _ _ _ _ _ _ _ _ _ at' by' g c g' c' k 4 ps qs w w1 w2 w3 rfl Hrow3 Hrow' HO1 HO13 HO3 Hd Hd' hpl hp0 hpl' hp0' hc hc' hkn hg hg' J K' _ hJ' hK
    · exact joins_sw5 _ _ _ _ _ _ _ _ _ _ _ _ _ _ _ _ _ _ _ _ _ _ _ _ _ _ _ _ _ _ _ _ _ _ _ _ _ _ _ _ _ _ _ _ _ _ _ _ _ _ _ _ _ _ _ _ _ _ _ _ _ _ _ _ _ _ _ _ _ _ _ _ _ _ _ _ _ _ _ _ _ _ _ _ _ _ _ _ _ _ _ _ _ _ _ _ _ _ _ _ _ _ _ _ _ _ _ _ _ _ _ _ _ _ _ _ _ _ _ _ _ _ _ _ _ _ _ _ _ _ _ _ _ _ _ _ _ _ _ _ _ _ _ _ _ _ _ _ _ _ _ _ _ _ _ _ _ _ _ _ _ _ _ _ _ _ _ _ _ _ _ _ _ _ _ _ _ _ _ _ _ _ _ _ _ _ _ _ _ _ _ _ _ _ _ _ _ _ _ _ _ _ _ _ _ _ _ _ _ _ _ _ _ _ _ _ at' by' g c g' c' k 5 ps qs w w1 w2 w3 rfl Hrow3 Hrow' HO1 HO13 HO3 Hd Hd' hpl hp0 hpl' hp0' hc hc' hkn hg hg' J K' _ hJ' hK
    · exact joins_sw6 _ _ _ _ _ _ _ _ _ _ _ _ _ _ _ _ _ _ _ _ _ _ _ _ _ _ _ _ _ _ _ _ _ _ _ _ _ _ _ _ _ _ _ _ _ _ _ _ _ _ _ _ _ _ _ _ _ _ _ _ _ _ _ _ _ _ _ _ _ _ _ _ _ _ _ _ _ _ _ _ _ _ _ _ _ _ _ _ _ _ _ _ _ _ _ _ _ _ _ _ _ _ _ _ _ _ _ _ _ _ _ _ _ _ _ _ _ _ _ _ _ _ _ _ _ _ _ _ _ _ _ _ _ _ _ _ _ _ _ _ _ _ _ _ _ _ _ _ _ _ _ _ _ _ _ _ _ _ _ _ _ _ _ _ _ _ _ _ _ _ _ _ _ _ _ _ _ _ _ _ _ _ _ _ _ _ _ _ _ _ _ _ _ _ _ _ _ _ _ _ _ _ _ _ _ _ _ _ _ _ _ _ _ _ _ _ at' by' g c g' c' k 6 ps qs w w1 w2 w3 rfl Hrow3 Hrow' HO1 HO13 HO3 Hd Hd' hpl hp0 hpl' hp0' hc hc' hkn hg hg' J K' _ hJ' hK
    · exact joins_sw7 _ _ _ _ _ _ _ _ _ _ _ _ _ _ _ _ _ _ _ _ _ _ _ _ _ _ _ _ _ _ _ _ _ _ _ _ _ _ _ _ _ _ _ _ _ _ _ _ _ _ _ _ _ _ _ _ _ _ _ _ _ _ _ _ _ _ _ _ _ _ _ _ _ _ _ _ _ _ _ _ _ _ _ _ _ _ _ _ _ _ _ _ _ _ _ _ _ _ _ _ _ _ _ _ _ _ _ _ _ _ _ _ _ _ _ _ _ _ _ _ _ _ _ _ _ _ _ _ _ _ _ _ _ _ _ _ _ _ _ _ _ _ _ _ _ _ _ _ _ _ _ _ _ _ _ _ _ _ _ _ _ _ _ _ _ _ _ _ _ _ _ _ _ _ _ _ _ _ _ _ _ _ _ _ _ _ _ _ _ _ _ _ _ _ _ _ _ _ _ _ _ _ _ _ _ _ _ _ _ _ _ _ _ _ _ _ at' by' g c g' c' k 7 ps qs w w1 w2 w3 rfl Hrow3 Hrow' HO1 HO13 HO3 Hd Hd' hpl hp0 hpl' hp0' hc hc' hkn hg hg' J K' _ hJ' hK
  case rest =>
    obtain ⟨x, K, cx, rs, rfl, hpx, hK, hdx, hOx⟩ := hcut
    have hlrs := hpx.1
    subst hlrs
    have Hdx := Lib.hid hdx
    clear hdx
    have Hpx := Lib.hid hpx
    have HOx := Lib.hid hOx
    have hszx := hOx.size
    clear hpx hOx Hrow3 Hrow' HO3 HO13 HO1 Hd Hd' H H'
    go_wp2_with fail
    go_loopw [18, 19] (fun v i wr => ∃ j : Nat, j ≤ rs.length ∧ i = .int .i64 j ∧ SecRow wr wc.heap.size v (rs.take j) ∧ Only [] wc wr) (fun _ i _ => rs.length - (intOf i).toNat)
    case atStart => exact ⟨0, Nat.zero_le _, rfl, SecRow.nil _ _, Only.refl _ _⟩
    case round =>
      obtain ⟨j, hj, rfl, hrow, hO⟩ := hrel
      have HO := Lib.hid hO
      have hwsz := hO.size
      by_cases hlt : j < rs.length
      · have hlti : (j : Int) < (rs.length : Int) := by omega
        obtain ⟨b, o, hx, hb, hps⟩ := Hpx.out.2 (by omega)
        subst hx
        have hjl : j < rs.length := by omega
        obtain ⟨da, dc, hr, hsd⟩ := hps j rs[j] (List.getElem?_eq_getElem hjl)
        have Htk := Lib.hid (take_snoc rs j hjl)
        have hpl : (rs.take j).length ≤ 1000 := by rw [List.length_take]; omega
        have hdj := Hdx.out _ (List.getElem_mem hjl)
        generalize rs[j] = p at *
        obtain ⟨pg, pr, pn, po, pd⟩ := p
        simp only at hr hsd
        have hsd1 : Src (wr.alloc (.cells #[] 5)).drew da pd.length pd := hsd.more (hO.alloc _).drew
        have hOe : Only [] wr (wr.alloc (.cells #[] 5)).drew := ((Only.refl [] wr).alloc _).drew
        have hemp : OwnB (wr.alloc (.cells #[] 5)).drew wr.heap.size (.slice (some ⟨wr.heap.size, 0, none⟩) 0 0) [] := (OwnB.empty wr wr.heap.size (Nat.le_refl _)).drew
        have Hr := Lib.hid hr
        have Hsd1 := Lib.hid hsd1
        have HOe := Lib.hid hOe
        have Hemp := Lib.hid hemp
        have Hrow := Lib.hid hrow
        have Hwe := Lib.hid (hO.alloc (.cells #[] 5)).drew
        have hpdl : pd.length ≤ 52 := hdj
        clear hr hsd hsd1 hOe hemp hrow hps hO
        go_upto_region 27 with fail
        go_region_held3 (fun W => W.cell? ⟨b, o + j * 5, none⟩ = some (.int .i64 pg) ∧ W.cell? ⟨b, o + j * 5 + 1, none⟩ = some (.int .i64 pr) ∧ W.cell? ⟨b, o + j * 5 + 2, none⟩ = some (.int .i64 pn) ∧ W.cell? ⟨b, o + j * 5 + 3, none⟩ = some (.int .i64 po) ∧ W.cell? ⟨b, o + j * 5 + 4, none⟩ = some (.slice da pd.length dc))
          (first | assumption | exact part_keep Hr.out hb hO6 | exact part_keep Hr.out hb (hO5.alloc _) | exact part_keep Hr.out hb hO5 | exact part_keep Hr.out hb Hwe.out | exact part_keep Hr.out hb HO.out.drew)
          (first
            | (rw [if_pos (by rfl)]
               refine wp_append_sec _ _ rfl wc.heap.size _ (rs.take j) rfl (Hrow.out.more (hO5r.alloc _)) w5.heap.size ⟨pg, pr, pn, po, pd⟩ g5 c5 cur5 rfl (part_new w5 _ _ _ _ _ _ _ _ _ rfl) (hbk5.alloc _) (World.rangeAt_alloc hr5 _) (by omega) hcl5 hpl (Nat.le_trans (Nat.le_trans hwsz hO5r.size) (by simp)) ?_
               intro v6 w6 h6 h6o
               have hO6 : Only [] wc w6 := h6o wc rfl (hO5.alloc _))
            | (rw [if_pos (by rfl)]
               refine wp_append_b _ _ rfl wr.heap.size _ [] rfl Hemp.out da pd.length dc pd rfl Hsd1.out (by simp; omega) HOe.out.size ?_
               intro v5 w5 h5 hb5 hn5
               rw [List.nil_append] at h5
               have hO5r : Only [] wr w5 := HOe.out.belowThen hb5
               have hO5 : Only [] wc w5 := HO.out.then hO5r [] (by simp) (by simp)
               obtain ⟨g5, c5, cur5, rfl, hg5, hbk5, hcl5, hr5⟩ := h5.notNil (fun e => by have := hn5 e; simp [Act.eval] at this)
               clear hn5))
        rw [← Htk.out] at h6
        go_wp2_with fail
        go_roundw
        case rel => exact ⟨j + 1, by omega, by go_num, h6, hO6⟩
        case measure => simp [intOf]; omega
      · have hge : ¬ (j : Int) < (rs.length : Int) := by omega
        have hjK : j = rs.length := by omega
        subst hjK
        rw [List.take_of_length_le (Nat.le_refl _)] at hrow
        obtain ⟨y, cy, rfl, hpy⟩ := hrow.parts
        have hpx9 := Hpx.out.more hO
        have Hpy := Lib.hid hpy
        have Hpx9 := Lib.hid hpx9
        clear hpy hpx9 hrow hO
        go_wp2_with fail
        refine (join_any _ y rs.length cy rs Hpy.out (by omega)).mono ?_
        cases hJ : joinB rs with
        | none =>
          have HJ := Lib.hid hJ
          clear hJ
          rintro e w7 ⟨rfl, hO7⟩
          have Hp7 := Lib.hid (Hpx9.out.more hO7)
          have HO7 := Lib.hid hO7
          clear hO7
          go_wp2_with fail
          refine (refjoin_any _ x rs.length cx rs Hp7.out).mono ?_
          rw [HJ.out]
          rintro e w8 ⟨rfl, hO8⟩
          have cv1 := conv_src w8 none 0 0 [] ⟨rfl, fun h => by cases h⟩
          have hOf : Only [] w w8 := ((HOx.out.then HO.out [] (by simp) (by simp)).then HO7.out [] (by simp) (by simp)).then hO8 [] (by simp) (by simp)
          have HOf := Lib.hid hOf
          clear hO8 hOf
          go_wp2
          go_ret
          exact ⟨rfl, HOf.out⟩
        | some bb =>
          have HJ := Lib.hid hJ
          clear hJ
          rintro e w7 ⟨ja, rfl, hs7, _, hO7⟩
          have Hp7 := Lib.hid (Hpx9.out.more hO7)
          have HO7 := Lib.hid hO7
          have Hs7 := Lib.hid hs7
          clear hO7 hs7
          go_wp2_with fail
          refine (refjoin_any _ x rs.length cx rs Hp7.out).mono ?_
          rw [HJ.out]
          rintro e w8 ⟨ya, yc, rfl, hs8, hO8⟩
          have cv1 := conv_src w8 ja bb.length bb.length bb (Hs7.out.more hO8)
          have cv2 := conv_src w8 ya bb.length yc bb hs8
          have hOf : Only [] w w8 := ((HOx.out.then HO.out [] (by simp) (by simp)).then HO7.out [] (by simp) (by simp)).then hO8 [] (by simp) (by simp)
          have HOf := Lib.hid hOf
          clear hO8 hOf hs8
          go_wp2
          go_ret
          exact ⟨rfl, HOf.out⟩

end Go.Proofs.Ytiegkdkbkkbjpaa
