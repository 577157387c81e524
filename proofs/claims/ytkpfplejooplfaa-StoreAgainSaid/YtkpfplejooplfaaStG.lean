/-
  What makes one set of another one, as bytes (changeBytes); whether two sets are the same (maps.Equal).
-/
import Derived.Test.YtkpfplejooplfaaStF
namespace Go.Proofs.Ytkpfplejooplfaa
set_option maxRecDepth 100000
set_option linter.unusedVariables false
open Go.RowKit Go.Sort Go.Maps

def atF (n : List UInt8) (F : List FileM) : FileM := (getS n F).getD ([], [])
/-- One change, or none. -/
def chgE (G F : List FileM) (n : List UInt8) : Option (List UInt8) :=
  if atF n F = atF n G then none else some (if (getS n F).isSome then leB 1 1 ++ fileB (atF n F) else leB 1 0 ++ (leB 1 n.length ++ n))
def chgL (G F : List FileM) (ns : List (List UInt8)) : List (List UInt8) := ns.filterMap (chgE G F)
def changeB (G F : List FileM) (ns : List (List UInt8)) : List UInt8 := leB 1 (chgL G F ns).length ++ (chgL G F ns).flatten
theorem chgL_snoc (G F : List FileM) (ns : List (List UInt8)) (n : List UInt8) : chgL G F (ns ++ [n]) = chgL G F ns ++ (chgE G F n).toList := by
  simp [chgL, List.filterMap_append, List.filterMap_cons]; cases chgE G F n <;> rfl

theorem chgE_len {G F : List FileM} (hF : ∀ f ∈ F, f.1.length ≤ 255 ∧ f.2.length ≤ 3000) {n x : List UInt8} (hn : n.length ≤ 255) (h : chgE G F n = some x) : x.length ≤ 3290 := by
  unfold chgE at h
  split at h
  · cases h
  · injection h with h
    subst h
    split
    · rename_i hs
      obtain ⟨g, hg⟩ := Option.isSome_iff_exists.1 hs
      have h1 := hF g (List.mem_of_find?_eq_some hg)
      have h3 : atF n F = g := by unfold atF; rw [hg]; rfl
      rw [h3, List.length_append, length_leB, length_fileB]
      omega
    · rw [List.length_append, List.length_append, length_leB, length_leB]
      omega
theorem chg_flat {G F : List FileM} (hF : ∀ f ∈ F, f.1.length ≤ 255 ∧ f.2.length ≤ 3000) : ∀ ns : List (List UInt8), (∀ n ∈ ns, n.length ≤ 255) → (chgL G F ns).flatten.length ≤ 3290 * ns.length
  | [], _ => by simp [chgL]
  | n :: r, h => by
    have ih := chg_flat (G := G) hF r (fun m hm => h m (by simp [hm]))
    unfold chgL at ih ⊢
    rw [List.filterMap_cons]
    cases hc : chgE G F n with
    | none => simp only [List.length_cons]; omega
    | some x =>
      have := chgE_len hF (h n (by simp)) hc
      simp only [List.flatten_cons, List.length_append, List.length_cons]
      omega

set_option maxHeartbeats 8000000 in
theorem change_any (w : World) (b c : Nat) (G F : List FileM) (hg : SetAt w c G) (hf : SetAt w b F) (hG : G = []) (hM : Modest F) :
    Calls Try.prog 45 #[.map (some c), .map (some b)] w fun e w' => ∃ v, e = .returned v ∧ OwnB w' w.heap.size v (changeB G F (F.map (·.1))) ∧ Only [] w w' := by
  have Hg := Lib.hid hg
  have HG := Lib.hid hG
  clear hG
  have Hf := Lib.hid hf
  have hF := hM.1
  have HM := Lib.hid hM.2
  clear hg hf hM
  go_enter Try.func45, Try.ntmps45
  have hg2 := IsBlk.made w (.cells #[.map (some c), .map (some b)] 56)
  have HO1 := Lib.hid ((Only.refl [] w).alloc (.cells #[.map (some c), .map (some b)] 56))
  go_wp2_with fail
  refine (names_any _ w.heap.size _ 1 b F [(c, G), (b, F)] ⟨hg2.lt, fun i x hx => ?hset⟩ rfl (by omega) (fun i x hi hx => ?hpre) rfl (by omega)).mono ?_
  case hset =>
    match i, hx with
    | 0, hx => simp at hx; subst hx; exact ⟨hg2.cell 0, Hg.out.more HO1.out⟩
    | 1, hx => simp at hx; subst hx; exact ⟨hg2.cell 1, Hf.out.more HO1.out⟩
    | n + 2, hx => simp at hx
  case hpre =>
    obtain rfl : i = 0 := by omega
    simp at hx; subst hx; exact HG.out
  rintro e w2 ⟨vN, rfl, hoN, hO2⟩
  obtain ⟨aN, cN, rfl⟩ := hoN.len
  have HoN := Lib.hid hoN
  have HO2 := Lib.hid (HO1.out.plus hO2)
  clear hoN hO2 hg2 HO1
  rw [List.length_map] at *
  have hsz2 := HO2.out.size
  go_wp2_with fail
  go_loopw [16, 5, 6] (fun i s5 s6 wr => ∃ j : Nat, j ≤ F.length ∧ i = .int .i64 j ∧ s5 = .int .i64 ((chgL G F ((F.map (·.1)).take j)).length : Nat) ∧ OwnB wr w2.heap.size s6 (chgL G F ((F.map (·.1)).take j)).flatten ∧ OwnS wr (w.heap.size + 1) (.slice aN F.length cN) (F.map (·.1)) ∧ Only [] w2 wr) (fun i _ _ _ => F.length - (intOf i).toNat)
  case atStart => exact ⟨0, by omega, rfl, rfl, OwnB.nil _ _, by simpa using HoN.out, Only.refl _ _⟩
  case round =>
    obtain ⟨j, hj, rfl, rfl, hown, hN, hO⟩ := hrel
    have Hown := Lib.hid hown
    have HNj := Lib.hid hN
    have HO := Lib.hid hO
    clear hown hN hO
    by_cases hlt : j < F.length
    · have hlti : (j : Int) < (F.length : Int) := by omega
      obtain ⟨gN, cN', e, hcell⟩ := HNj.out.cell (j := j) (by simpa using hlt)
      rw [List.length_map] at e
      injection e with e1 e2 e3
      subst e1 e3
      rw [List.getElem_map] at hcell
      have Hgr := Hg.out.more (HO2.out.plus HO.out)
      have Hfr := Hf.out.more (HO2.out.plus HO.out)
      have hnb := (HM.out _ (List.getElem_mem hlt)).1
      have hnm : F[j].1.length ≤ maxLen := by unfold maxLen; omega
      have hgf := run_get wr b F F[j].1 true Hfr hnm
      have hgg := fun o : Obj => run_get (wr.alloc o) c G F[j].1 false (Hgr.more ((Only.refl [] wr).alloc o)) hnm
      rw [if_pos rfl] at hgf
      simp only [Bool.false_eq_true, if_false] at hgg
      have htk : Hid ((F.map (·.1)).take (j + 1) = (F.map (·.1)).take j ++ [F[j].1]) := Lib.hid (by rw [List.take_add_one, List.getElem?_eq_getElem (by simpa using hlt), List.getElem_map]; rfl)
      generalize F[j].1 = n at *
      have hsome : Hid ((getS n F).isSome = true → n.length ≤ 255 ∧ (atF n F).2.length ≤ 3000 ∧ (atF n F).1 = n) := Lib.hid (fun h => by
        obtain ⟨g, hg⟩ := Option.isSome_iff_exists.1 h
        have hm := List.mem_of_find?_eq_some hg
        have h1 := HM.out g hm
        have h2 := get_name hg
        have h3 : atF n F = g := by unfold atF; rw [hg]; rfl
        rw [h3]
        exact ⟨by omega, h1.2, h2⟩)
      have hxe : ∃ x, (getS n F).getD ([], []) = x := ⟨_, rfl⟩
      have hye : ∃ y, (getS n G).getD ([], []) = y := ⟨_, rfl⟩
      obtain ⟨⟨xn, xt⟩, hx⟩ := hxe
      obtain ⟨⟨yn, yt⟩, hy⟩ := hye
      rw [hx] at hgf
      rw [hy] at hgg
      have Hx : Hid (atF n F = (xn, xt)) := Lib.hid hx
      have Hy : Hid (atF n G = (yn, yt)) := Lib.hid hy
      unfold fileV encStr at hgf hgg
      unfold encStr at hcell
      simp only at hgf hgg
      obtain ⟨is, his⟩ : ∃ is, (getS n F).isSome = is := ⟨_, rfl⟩
      rw [his] at hgf
      have His := Lib.hid his
      clear hx hy his Hgr Hfr
      generalize hL : chgL G F ((F.map (·.1)).take j) = CL at *
      have HL := Lib.hid hL
      clear hL
      have hOa := Lib.hid ((Only.refl [] wr).alloc (.cells #[.string ⟨xn.toArray⟩, .string ⟨xt.toArray⟩] 33))
      have hszr := HO.out.size
      have hCL : CL.length ≤ 255 := by
        have h1 : CL.length ≤ ((F.map (·.1)).take j).length := by rw [← HL.out]; exact List.length_filterMap_le _ _
        rw [List.length_take, List.length_map] at h1
        omega
      have hCF : CL.flatten.length ≤ 840000 := by
        have := chg_flat (G := G) HM.out ((F.map (·.1)).take j) (fun n hn => by
          obtain ⟨f, hf, rfl⟩ := List.mem_map.1 (List.mem_of_mem_take hn)
          exact (HM.out f hf).1)
        rw [HL.out, List.length_take, List.length_map] at this
        have h2 : 3290 * min j F.length ≤ 3290 * 255 := Nat.mul_le_mul_left _ (by omega)
        omega
      have hnl : n.length ≤ 255 := hnb
      by_cases hb1 : xn = yn
      · subst hb1
        by_cases hb2 : xt = yt
        · subst hb2
          have He : Hid (chgE G F n = none) := Lib.hid (by
            unfold chgE; rw [Hx.out, Hy.out, if_pos rfl])
          go_wp2
          go_roundw
          case rel =>
            refine ⟨j + 1, by omega, by go_num, ?_, ?_, HNj.out.only hOa.out, HO.out.plus hOa.out⟩
            · rw [htk.out, chgL_snoc, HL.out, He.out]; simp
            · rw [htk.out, chgL_snoc, HL.out, He.out]
              simp only [Option.toList_none, List.append_nil]
              exact rowOnly Hown.out hOa.out
          case measure => simp [intOf]; omega
        · cases is with
          | true =>
            obtain ⟨hn1, hn2, hn3⟩ := hsome.out His.out
            rw [Hx.out] at hn2 hn3
            simp only at hn2 hn3
            have hxn : xn.length ≤ 255 := by rw [hn3]; exact hn1
            clear hn3
            have He : Hid (chgE G F n = some (leB 1 1 ++ fileB (xn, xt))) := Lib.hid (by unfold chgE; rw [Hx.out, Hy.out, if_neg (by intro e; injection e with e1 e2; exact hb2 e2), His.out]; rfl)
            go_wp2_with fail
            refine (layNumber_any _ w2.heap.size _ 1 1 _ (rowOnly Hown.out hOa.out) (Nat.le_trans hszr hOa.out.size) (by omega) (by omega) (by omega)).mono ?_
            rintro e w3 ⟨v3, rfl, h3, hB3⟩
            have hb3 := hB3.blk (IsBlk.made wr _) (by decide)
            have q0 : w3.cell? ⟨wr.heap.size, 0, none⟩ = some (.string ⟨xn.toArray⟩) := hb3.cell 0
            have q1 : w3.cell? ⟨wr.heap.size, 1, none⟩ = some (.string ⟨xt.toArray⟩) := hb3.cell 1
            have H3 := Lib.hid h3
            have HN3 := Lib.hid (hB3.row (HNj.out.only hOa.out) (by decide))
            have HO3 := Lib.hid (hB3.only (HO.out.plus hOa.out) (Nat.le_refl _))
            have hs3 : w2.heap.size ≤ w3.heap.size := HO3.out.size
            clear h3 hB3 hb3
            go_wp2_with fail
            refine (layFile_any _ w2.heap.size _ (xn, xt) _ H3.out hs3 (by rw [List.length_append, length_leB]; omega) (by simp only; omega) (by simp only; omega)).mono ?_
            rintro e w4 ⟨v4, rfl, h4, hB4⟩
            have H4 := Lib.hid h4
            have HN4 := Lib.hid (hB4.row HN3.out (by decide))
            have HO4 := Lib.hid (hB4.only HO3.out (Nat.le_refl _))
            clear h4 hB4 q0 q1
            go_wp2
            go_roundw
            case rel =>
              refine ⟨j + 1, by omega, by go_num, ?_, ?_, HN4.out, HO4.out⟩
              · rw [htk.out, chgL_snoc, HL.out, He.out]; simp
              · rw [htk.out, chgL_snoc, HL.out, He.out]
                have := H4.out
                simp only [Option.toList_some, List.flatten_append, List.flatten_cons, List.flatten_nil, List.append_nil]
                rw [← List.append_assoc]
                exact this
            case measure => simp [intOf]; omega
          | false =>
            have He : Hid (chgE G F n = some (leB 1 0 ++ (leB 1 n.length ++ n))) := Lib.hid (by unfold chgE; rw [Hx.out, Hy.out, if_neg (by intro e; injection e with e1 e2; exact hb2 e2), His.out]; rfl)
            go_wp2_with fail
            refine (layNumber_any _ w2.heap.size _ 0 1 _ (rowOnly Hown.out hOa.out) (Nat.le_trans hszr hOa.out.size) (by omega) (by omega) (by omega)).mono ?_
            rintro e w3 ⟨v3, rfl, h3, hB3⟩
            have H3 := Lib.hid h3
            have HN3 := Lib.hid (hB3.row (HNj.out.only hOa.out) (by decide))
            have HO3 := Lib.hid (hB3.only (HO.out.plus hOa.out) (Nat.le_refl _))
            have hs3 : w2.heap.size ≤ w3.heap.size := HO3.out.size
            clear h3 hB3
            go_wp2_with fail
            refine (layText_any _ w2.heap.size _ n 1 _ H3.out hs3 (by rw [List.length_append, length_leB]; omega) (by omega) (by omega)).mono ?_
            rintro e w4 ⟨v4, rfl, h4, hB4⟩
            have H4 := Lib.hid h4
            have HN4 := Lib.hid (hB4.row HN3.out (by decide))
            have HO4 := Lib.hid (hB4.only HO3.out (Nat.le_refl _))
            clear h4 hB4
            go_wp2
            go_roundw
            case rel =>
              refine ⟨j + 1, by omega, by go_num, ?_, ?_, HN4.out, HO4.out⟩
              · rw [htk.out, chgL_snoc, HL.out, He.out]; simp
              · rw [htk.out, chgL_snoc, HL.out, He.out]
                have := H4.out
                simp only [Option.toList_some, List.flatten_append, List.flatten_cons, List.flatten_nil, List.append_nil]
                rw [← List.append_assoc, ← List.append_assoc]
                exact this
            case measure => simp [intOf]; omega
      · cases is with
        | true =>
          obtain ⟨hn1, hn2, hn3⟩ := hsome.out His.out
          rw [Hx.out] at hn2 hn3
          simp only at hn2 hn3
          have hxn : xn.length ≤ 255 := by rw [hn3]; exact hn1
          clear hn3
          have He : Hid (chgE G F n = some (leB 1 1 ++ fileB (xn, xt))) := Lib.hid (by unfold chgE; rw [Hx.out, Hy.out, if_neg (by intro e; injection e with e1 e2; exact hb1 e1), His.out]; rfl)
          go_wp2_with fail
          refine (layNumber_any _ w2.heap.size _ 1 1 _ (rowOnly Hown.out hOa.out) (Nat.le_trans hszr hOa.out.size) (by omega) (by omega) (by omega)).mono ?_
          rintro e w3 ⟨v3, rfl, h3, hB3⟩
          have hb3 := hB3.blk (IsBlk.made wr _) (by decide)
          have q0 : w3.cell? ⟨wr.heap.size, 0, none⟩ = some (.string ⟨xn.toArray⟩) := hb3.cell 0
          have q1 : w3.cell? ⟨wr.heap.size, 1, none⟩ = some (.string ⟨xt.toArray⟩) := hb3.cell 1
          have H3 := Lib.hid h3
          have HN3 := Lib.hid (hB3.row (HNj.out.only hOa.out) (by decide))
          have HO3 := Lib.hid (hB3.only (HO.out.plus hOa.out) (Nat.le_refl _))
          have hs3 : w2.heap.size ≤ w3.heap.size := HO3.out.size
          clear h3 hB3 hb3
          go_wp2_with fail
          refine (layFile_any _ w2.heap.size _ (xn, xt) _ H3.out hs3 (by rw [List.length_append, length_leB]; omega) (by simp only; omega) (by simp only; omega)).mono ?_
          rintro e w4 ⟨v4, rfl, h4, hB4⟩
          have H4 := Lib.hid h4
          have HN4 := Lib.hid (hB4.row HN3.out (by decide))
          have HO4 := Lib.hid (hB4.only HO3.out (Nat.le_refl _))
          clear h4 hB4 q0 q1
          go_wp2
          go_roundw
          case rel =>
            refine ⟨j + 1, by omega, by go_num, ?_, ?_, HN4.out, HO4.out⟩
            · rw [htk.out, chgL_snoc, HL.out, He.out]; simp
            · rw [htk.out, chgL_snoc, HL.out, He.out]
              have := H4.out
              simp only [Option.toList_some, List.flatten_append, List.flatten_cons, List.flatten_nil, List.append_nil]
              rw [← List.append_assoc]
              exact this
          case measure => simp [intOf]; omega
        | false =>
          have He : Hid (chgE G F n = some (leB 1 0 ++ (leB 1 n.length ++ n))) := Lib.hid (by unfold chgE; rw [Hx.out, Hy.out, if_neg (by intro e; injection e with e1 e2; exact hb1 e1), His.out]; rfl)
          go_wp2_with fail
          refine (layNumber_any _ w2.heap.size _ 0 1 _ (rowOnly Hown.out hOa.out) (Nat.le_trans hszr hOa.out.size) (by omega) (by omega) (by omega)).mono ?_
          rintro e w3 ⟨v3, rfl, h3, hB3⟩
          have H3 := Lib.hid h3
          have HN3 := Lib.hid (hB3.row (HNj.out.only hOa.out) (by decide))
          have HO3 := Lib.hid (hB3.only (HO.out.plus hOa.out) (Nat.le_refl _))
          have hs3 : w2.heap.size ≤ w3.heap.size := HO3.out.size
          clear h3 hB3
          go_wp2_with fail
          refine (layText_any _ w2.heap.size _ n 1 _ H3.out hs3 (by rw [List.length_append, length_leB]; omega) (by omega) (by omega)).mono ?_
          rintro e w4 ⟨v4, rfl, h4, hB4⟩
          have H4 := Lib.hid h4
          have HN4 := Lib.hid (hB4.row HN3.out (by decide))
          have HO4 := Lib.hid (hB4.only HO3.out (Nat.le_refl _))
          clear h4 hB4
          go_wp2
          go_roundw
          case rel =>
            refine ⟨j + 1, by omega, by go_num, ?_, ?_, HN4.out, HO4.out⟩
            · rw [htk.out, chgL_snoc, HL.out, He.out]; simp
            · rw [htk.out, chgL_snoc, HL.out, He.out]
              have := H4.out
              simp only [Option.toList_some, List.flatten_append, List.flatten_cons, List.flatten_nil, List.append_nil]
              rw [← List.append_assoc, ← List.append_assoc]
              exact this
          case measure => simp [intOf]; omega
    · have hge : ¬ (j : Int) < (F.length : Int) := by omega
      have hjF : j = F.length := by omega
      subst hjF
      have etk : (F.map (·.1)).take F.length = F.map (·.1) := List.take_of_length_le (by simp)
      rw [etk] at Hown ⊢
      clear etk
      have hCL : (chgL G F (F.map (·.1))).length ≤ 255 := by
        have h1 : (chgL G F (F.map (·.1))).length ≤ (F.map (·.1)).length := List.length_filterMap_le _ _
        rw [List.length_map] at h1
        omega
      have hCF : (chgL G F (F.map (·.1))).flatten.length ≤ 840000 := by
        have := chg_flat (G := G) HM.out (F.map (·.1)) (fun n hn => by
          obtain ⟨f, hf, rfl⟩ := List.mem_map.1 hn
          exact (HM.out f hf).1)
        rw [List.length_map] at this
        have h2 : 3290 * F.length ≤ 3290 * 255 := Nat.mul_le_mul_left _ (by omega)
        omega
      have hun : Hid (changeB G F (F.map (·.1)) = leB 1 (chgL G F (F.map (·.1))).length ++ (chgL G F (F.map (·.1))).flatten) := Lib.hid rfl
      generalize chgL G F (F.map (·.1)) = CL at *
      generalize CL.flatten = FL at *
      have hszr := HO.out.size
      go_wp2_with fail
      refine (layNumber_any _ wr.heap.size _ CL.length 1 [] (OwnB.nil _ _) (Nat.le_refl _) (by simp) (by omega) (by omega)).mono ?_
      rintro e w3 ⟨v3, rfl, h3, hB3⟩
      rw [List.nil_append] at h3
      have hO3 := hB3.only (Only.refl [] wr) (Nat.le_refl _)
      have H3 := Lib.hid h3
      obtain ⟨a6, c6, rfl, hs6, hn6, -⟩ := (OwnB.shape (rowOnly Hown.out hO3))
      have Hs6 := Lib.hid hs6
      have HO3 := Lib.hid hO3
      have hs3 := hO3.size
      clear h3 hB3 hO3 hs6 hn6
      have hl3 : (leB 1 CL.length).length + FL.length ≤ 100000000 := by rw [length_leB]; omega
      go_wp2_with (at_builtin; refine wpList_append_bo rfl _ _ rfl wr.heap.size _ _ rfl H3.out a6 FL.length c6 FL rfl Hs6.out hl3 hs3 ?_; intro v' w' h2 hB)
      go_ret
      refine ⟨v', rfl, ?_, ?_⟩
      · rw [hun.out]
        exact ownsRow_base_a h2 (Nat.le_trans HO2.out.size HO.out.size)
      · exact HO2.out.plus (HO.out.plus (hB.only HO3.out (Nat.le_refl _)))

end Go.Proofs.Ytkpfplejooplfaa
