/-
  The next set, kept (keep).
-/
import Derived.Test.YtfampoblcielpaaGreatStF
import Derived.Maps.RangeWalk
namespace Go.Proofs.YtfampoblcielpaaGreat
set_option maxRecDepth 100000
set_option linter.unusedVariables false
open Go.RowKit Go.Sort Go.Maps

def atF (n : List UInt8) (F : List FileM) : FileM := (getS n F).getD ([], [])
/-- One change, or none. -/
def chgE (G F : List FileM) (n : List UInt8) : Option (List UInt8) :=
  if atF n F = atF n G then none else some (if (getS n F).isSome then leB 1 1 ++ fileB (atF n F) else leB 1 0 ++ (leB 1 n.length ++ n))
def chgL (G F : List FileM) (ns : List (List UInt8)) : List (List UInt8) := ns.filterMap (chgE G F)
def changeB (G F : List FileM) (ns : List (List UInt8)) : List UInt8 := leB 1 (chgL G F ns).length ++ (chgL G F ns).flatten
theorem chgL_snoc (G F : List FileM) (ns : List (List UInt8)) (n : List UInt8) : chgL G F (ns ++ [n]) = chgL G F ns ++ (chgE G F n).toList := by
  simp [chgL, List.filterMap_append, List.filterMap_cons]; cases chgE G F n <;> rfl

theorem chgE_len {G F : List FileM} (hF : ∀ f ∈ F, f.1.length ≤ 255 ∧ f.2.length ≤ 3000) {n x : List UInt8} (hn : n.length ≤ 255) (h : chgE G F n = some x) : x.length ≤ 3290 := by
  unfold chgE at h
  split at h
  · cases h
  · injection h with h
    subst h
    split
    · rename_i hs
      obtain ⟨g, hg⟩ := Option.isSome_iff_exists.1 hs
      have h1 := hF g (List.mem_of_find?_eq_some hg)
      have h3 : atF n F = g := by unfold atF; rw [hg]; rfl
      rw [h3, List.length_append, length_leB, length_fileB]
      omega
    · rw [List.length_append, List.length_append, length_leB, length_leB]
      omega
theorem chg_flat {G F : List FileM} (hF : ∀ f ∈ F, f.1.length ≤ 255 ∧ f.2.length ≤ 3000) : ∀ ns : List (List UInt8), (∀ n ∈ ns, n.length ≤ 255) → (chgL G F ns).flatten.length ≤ 3290 * ns.length
  | [], _ => by simp [chgL]
  | n :: r, h => by
    have ih := chg_flat (G := G) hF r (fun m hm => h m (by simp [hm]))
    unfold chgL at ih ⊢
    rw [List.filterMap_cons]
    cases hc : chgE G F n with
    | none => simp only [List.length_cons]; omega
    | some x =>
      have := chgE_len hF (h n (by simp)) hc
      simp only [List.flatten_cons, List.length_append, List.length_cons]
      omega

set_option maxHeartbeats 8000000 in
theorem change_any (w : World) (b c : Nat) (G F : List FileM) (hg : SetAt w c G) (hf : SetAt w b F) (hG : G = []) (hM : Modest F) :
    Calls Tryz.prog 44 #[.map (some c), .map (some b)] w fun e w' => ∃ v, e = .returned v ∧ OwnB w' w.heap.size v (changeB G F (F.map (·.1))) ∧ Only [] w w' := by
  have Hg := Lib.hid hg
  have HG := Lib.hid hG
  clear hG
  have Hf := Lib.hid hf
  have hF := hM.1
  have HM := Lib.hid hM.2
  clear hg hf hM
  go_enter Tryz.func44, Tryz.ntmps44
  have hg2 := IsBlk.made w (.cells #[.map (some c), .map (some b)] 57)
  have HO1 := Lib.hid ((Only.refl [] w).alloc (.cells #[.map (some c), .map (some b)] 57))
  go_wp2_with fail
  refine (names_any _ w.heap.size _ 1 b F [(c, G), (b, F)] ⟨hg2.lt, fun i x hx => ?hset⟩ rfl (by omega) (fun i x hi hx => ?hpre) rfl (by omega)).mono ?_
  case hset =>
    match i, hx with
    | 0, hx => simp at hx; subst hx; exact ⟨hg2.cell 0, Hg.out.more HO1.out⟩
    | 1, hx => simp at hx; subst hx; exact ⟨hg2.cell 1, Hf.out.more HO1.out⟩
    | n + 2, hx => simp at hx
  case hpre =>
    obtain rfl : i = 0 := by omega
    simp at hx; subst hx; exact HG.out
  rintro e w2 ⟨vN, rfl, hoN, hO2⟩
  obtain ⟨aN, cN, rfl⟩ := hoN.len
  have HoN := Lib.hid hoN
  have HO2 := Lib.hid (HO1.out.plus hO2)
  clear hoN hO2 hg2 HO1
  rw [List.length_map] at *
  have hsz2 := HO2.out.size
  go_wp2_with fail
  go_loopw [16, 5, 6] (fun i s5 s6 wr => ∃ j : Nat, j ≤ F.length ∧ i = .int .i64 j ∧ s5 = .int .i64 ((chgL G F ((F.map (·.1)).take j)).length : Nat) ∧ OwnB wr w2.heap.size s6 (chgL G F ((F.map (·.1)).take j)).flatten ∧ OwnS wr (w.heap.size + 1) (.slice aN F.length cN) (F.map (·.1)) ∧ Only [] w2 wr) (fun i _ _ _ => F.length - (intOf i).toNat)
  case atStart => exact ⟨0, by omega, rfl, rfl, OwnB.nil _ _, by simpa using HoN.out, Only.refl _ _⟩
  case round =>
    obtain ⟨j, hj, rfl, rfl, hown, hN, hO⟩ := hrel
    have Hown := Lib.hid hown
    have HNj := Lib.hid hN
    have HO := Lib.hid hO
    clear hown hN hO
    by_cases hlt : j < F.length
    · have hlti : (j : Int) < (F.length : Int) := by omega
      obtain ⟨gN, cN', e, hcell⟩ := HNj.out.cell (j := j) (by simpa using hlt)
      rw [List.length_map] at e
      injection e with e1 e2 e3
      subst e1 e3
      rw [List.getElem_map] at hcell
      have Hgr := Hg.out.more (HO2.out.plus HO.out)
      have Hfr := Hf.out.more (HO2.out.plus HO.out)
      have hnb := (HM.out _ (List.getElem_mem hlt)).1
      have hnm : F[j].1.length ≤ maxLen := by unfold maxLen; omega
      have hgf := run_get wr b F F[j].1 true Hfr hnm
      have hgg := fun o : Obj => run_get (wr.alloc o) c G F[j].1 false (Hgr.more ((Only.refl [] wr).alloc o)) hnm
      rw [if_pos rfl] at hgf
      simp only [Bool.false_eq_true, if_false] at hgg
      have htk : Hid ((F.map (·.1)).take (j + 1) = (F.map (·.1)).take j ++ [F[j].1]) := Lib.hid (by rw [List.take_add_one, List.getElem?_eq_getElem (by simpa using hlt), List.getElem_map]; rfl)
      generalize F[j].1 = n at *
      have hsome : Hid ((getS n F).isSome = true → n.length ≤ 255 ∧ (atF n F).2.length ≤ 3000 ∧ (atF n F).1 = n) := Lib.hid (fun h => by
        obtain ⟨g, hg⟩ := Option.isSome_iff_exists.1 h
        have hm := List.mem_of_find?_eq_some hg
        have h1 := HM.out g hm
        have h2 := get_name hg
        have h3 : atF n F = g := by unfold atF; rw [hg]; rfl
        rw [h3]
        exact ⟨by omega, h1.2, h2⟩)
      have hxe : ∃ x, (getS n F).getD ([], []) = x := ⟨_, rfl⟩
      have hye : ∃ y, (getS n G).getD ([], []) = y := ⟨_, rfl⟩
      obtain ⟨⟨xn, xt⟩, hx⟩ := hxe
      obtain ⟨⟨yn, yt⟩, hy⟩ := hye
      rw [hx] at hgf
      rw [hy] at hgg
      have Hx : Hid (atF n F = (xn, xt)) := Lib.hid hx
      have Hy : Hid (atF n G = (yn, yt)) := Lib.hid hy
      unfold fileV encStr at hgf hgg
      unfold encStr at hcell
      simp only at hgf hgg
      obtain ⟨is, his⟩ : ∃ is, (getS n F).isSome = is := ⟨_, rfl⟩
      rw [his] at hgf
      have His := Lib.hid his
      clear hx hy his Hgr Hfr
      generalize hL : chgL G F ((F.map (·.1)).take j) = CL at *
      have HL := Lib.hid hL
      clear hL
      have hOa := Lib.hid ((Only.refl [] wr).alloc (.cells #[.string ⟨xn.toArray⟩, .string ⟨xt.toArray⟩] 48))
      have hszr := HO.out.size
      have hCL : CL.length ≤ 255 := by
        have h1 : CL.length ≤ ((F.map (·.1)).take j).length := by rw [← HL.out]; exact List.length_filterMap_le _ _
        rw [List.length_take, List.length_map] at h1
        omega
      have hCF : CL.flatten.length ≤ 840000 := by
        have := chg_flat (G := G) HM.out ((F.map (·.1)).take j) (fun n hn => by
          obtain ⟨f, hf, rfl⟩ := List.mem_map.1 (List.mem_of_mem_take hn)
          exact (HM.out f hf).1)
        rw [HL.out, List.length_take, List.length_map] at this
        have h2 : 3290 * min j F.length ≤ 3290 * 255 := Nat.mul_le_mul_left _ (by omega)
        omega
      have hnl : n.length ≤ 255 := hnb
      by_cases hb1 : xn = yn
      · subst hb1
        by_cases hb2 : xt = yt
        · subst hb2
          have He : Hid (chgE G F n = none) := Lib.hid (by
            unfold chgE; rw [Hx.out, Hy.out, if_pos rfl])
          go_wp2
          go_roundw
          case rel =>
            refine ⟨j + 1, by omega, by go_num, ?_, ?_, HNj.out.only hOa.out, HO.out.plus hOa.out⟩
            · rw [htk.out, chgL_snoc, HL.out, He.out]; simp
            · rw [htk.out, chgL_snoc, HL.out, He.out]
              simp only [Option.toList_none, List.append_nil]
              exact rowOnly Hown.out hOa.out
          case measure => simp [intOf]; omega
        · cases is with
          | true =>
            obtain ⟨hn1, hn2, hn3⟩ := hsome.out His.out
            rw [Hx.out] at hn2 hn3
            simp only at hn2 hn3
            have hxn : xn.length ≤ 255 := by rw [hn3]; exact hn1
            clear hn3
            have He : Hid (chgE G F n = some (leB 1 1 ++ fileB (xn, xt))) := Lib.hid (by unfold chgE; rw [Hx.out, Hy.out, if_neg (by intro e; injection e with e1 e2; exact hb2 e2), His.out]; rfl)
            go_wp2_with fail
            refine (layNumber_any _ w2.heap.size _ 1 1 _ (rowOnly Hown.out hOa.out) (Nat.le_trans hszr hOa.out.size) (by omega) (by omega) (by omega)).mono ?_
            rintro e w3 ⟨v3, rfl, h3, hB3⟩
            have hb3 := hB3.blk (IsBlk.made wr _) (by decide)
            have q0 : w3.cell? ⟨wr.heap.size, 0, none⟩ = some (.string ⟨xn.toArray⟩) := hb3.cell 0
            have q1 : w3.cell? ⟨wr.heap.size, 1, none⟩ = some (.string ⟨xt.toArray⟩) := hb3.cell 1
            have H3 := Lib.hid h3
            have HN3 := Lib.hid (hB3.row (HNj.out.only hOa.out) (by decide))
            have HO3 := Lib.hid (hB3.only (HO.out.plus hOa.out) (Nat.le_refl _))
            have hs3 : w2.heap.size ≤ w3.heap.size := HO3.out.size
            clear h3 hB3 hb3
            go_wp2_with fail
            refine (layFile_any _ w2.heap.size _ (xn, xt) _ H3.out hs3 (by rw [List.length_append, length_leB]; omega) (by simp only; omega) (by simp only; omega)).mono ?_
            rintro e w4 ⟨v4, rfl, h4, hB4⟩
            have H4 := Lib.hid h4
            have HN4 := Lib.hid (hB4.row HN3.out (by decide))
            have HO4 := Lib.hid (hB4.only HO3.out (Nat.le_refl _))
            clear h4 hB4 q0 q1
            go_wp2
            go_roundw
            case rel =>
              refine ⟨j + 1, by omega, by go_num, ?_, ?_, HN4.out, HO4.out⟩
              · rw [htk.out, chgL_snoc, HL.out, He.out]; simp
              · rw [htk.out, chgL_snoc, HL.out, He.out]
                have := H4.out
                simp only [Option.toList_some, List.flatten_append, List.flatten_cons, List.flatten_nil, List.append_nil]
                rw [← List.append_assoc]
                exact this
            case measure => simp [intOf]; omega
          | false =>
            have He : Hid (chgE G F n = some (leB 1 0 ++ (leB 1 n.length ++ n))) := Lib.hid (by unfold chgE; rw [Hx.out, Hy.out, if_neg (by intro e; injection e with e1 e2; exact hb2 e2), His.out]; rfl)
            go_wp2_with fail
            refine (layNumber_any _ w2.heap.size _ 0 1 _ (rowOnly Hown.out hOa.out) (Nat.le_trans hszr hOa.out.size) (by omega) (by omega) (by omega)).mono ?_
            rintro e w3 ⟨v3, rfl, h3, hB3⟩
            have H3 := Lib.hid h3
            have HN3 := Lib.hid (hB3.row (HNj.out.only hOa.out) (by decide))
            have HO3 := Lib.hid (hB3.only (HO.out.plus hOa.out) (Nat.le_refl _))
            have hs3 : w2.heap.size ≤ w3.heap.size := HO3.out.size
            clear h3 hB3
            go_wp2_with fail
            refine (layText_any _ w2.heap.size _ n 1 _ H3.out hs3 (by rw [List.length_append, length_leB]; omega) (by omega) (by omega)).mono ?_
            rintro e w4 ⟨v4, rfl, h4, hB4⟩
            have H4 := Lib.hid h4
            have HN4 := Lib.hid (hB4.row HN3.out (by decide))
            have HO4 := Lib.hid (hB4.only HO3.out (Nat.le_refl _))
            clear h4 hB4
            go_wp2
            go_roundw
            case rel =>
              refine ⟨j + 1, by omega, by go_num, ?_, ?_, HN4.out, HO4.out⟩
              · rw [htk.out, chgL_snoc, HL.out, He.out]; simp
              · rw [htk.out, chgL_snoc, HL.out, He.out]
                have := H4.out
                simp only [Option.toList_some, List.flatten_append, List.flatten_cons, List.flatten_nil, List.append_nil]
                rw [← List.append_assoc, ← List.append_assoc]
                exact this
            case measure => simp [intOf]; omega
      · cases is with
        | true =>
          obtain ⟨hn1, hn2, hn3⟩ := hsome.out His.out
          rw [Hx.out] at hn2 hn3
          simp only at hn2 hn3
          have hxn : xn.length ≤ 255 := by rw [hn3]; exact hn1
          clear hn3
          have He : Hid (chgE G F n = some (leB 1 1 ++ fileB (xn, xt))) := Lib.hid (by unfold chgE; rw [Hx.out, Hy.out, if_neg (by intro e; injection e with e1 e2; exact hb1 e1), His.out]; rfl)
          go_wp2_with fail
          refine (layNumber_any _ w2.heap.size _ 1 1 _ (rowOnly Hown.out hOa.out) (Nat.le_trans hszr hOa.out.size) (by omega) (by omega) (by omega)).mono ?_
          rintro e w3 ⟨v3, rfl, h3, hB3⟩
          have hb3 := hB3.blk (IsBlk.made wr _) (by decide)
          have q0 : w3.cell? ⟨wr.heap.size, 0, none⟩ = some (.string ⟨xn.toArray⟩) := hb3.cell 0
          have q1 : w3.cell? ⟨wr.heap.size, 1, none⟩ = some (.string ⟨xt.toArray⟩) := hb3.cell 1
          have H3 := Lib.hid h3
          have HN3 := Lib.hid (hB3.row (HNj.out.only hOa.out) (by decide))
          have HO3 := Lib.hid (hB3.only (HO.out.plus hOa.out) (Nat.le_refl _))
          have hs3 : w2.heap.size ≤ w3.heap.size := HO3.out.size
          clear h3 hB3 hb3
          go_wp2_with fail
          refine (layFile_any _ w2.heap.size _ (xn, xt) _ H3.out hs3 (by rw [List.length_append, length_leB]; omega) (by simp only; omega) (by simp only; omega)).mono ?_
          rintro e w4 ⟨v4, rfl, h4, hB4⟩
          have H4 := Lib.hid h4
          have HN4 := Lib.hid (hB4.row HN3.out (by decide))
          have HO4 := Lib.hid (hB4.only HO3.out (Nat.le_refl _))
          clear h4 hB4 q0 q1
          go_wp2
          go_roundw
          case rel =>
            refine ⟨j + 1, by omega, by go_num, ?_, ?_, HN4.out, HO4.out⟩
            · rw [htk.out, chgL_snoc, HL.out, He.out]; simp
            · rw [htk.out, chgL_snoc, HL.out, He.out]
              have := H4.out
              simp only [Option.toList_some, List.flatten_append, List.flatten_cons, List.flatten_nil, List.append_nil]
              rw [← List.append_assoc]
              exact this
          case measure => simp [intOf]; omega
        | false =>
          have He : Hid (chgE G F n = some (leB 1 0 ++ (leB 1 n.length ++ n))) := Lib.hid (by unfold chgE; rw [Hx.out, Hy.out, if_neg (by intro e; injection e with e1 e2; exact hb1 e1), His.out]; rfl)
          go_wp2_with fail
          refine (layNumber_any _ w2.heap.size _ 0 1 _ (rowOnly Hown.out hOa.out) (Nat.le_trans hszr hOa.out.size) (by omega) (by omega) (by omega)).mono ?_
          rintro e w3 ⟨v3, rfl, h3, hB3⟩
          have H3 := Lib.hid h3
          have HN3 := Lib.hid (hB3.row (HNj.out.only hOa.out) (by decide))
          have HO3 := Lib.hid (hB3.only (HO.out.plus hOa.out) (Nat.le_refl _))
          have hs3 : w2.heap.size ≤ w3.heap.size := HO3.out.size
          clear h3 hB3
          go_wp2_with fail
          refine (layText_any _ w2.heap.size _ n 1 _ H3.out hs3 (by rw [List.length_append, length_leB]; omega) (by omega) (by omega)).mono ?_
          rintro e w4 ⟨v4, rfl, h4, hB4⟩
          have H4 := Lib.hid h4
          have HN4 := Lib.hid (hB4.row HN3.out (by decide))
          have HO4 := Lib.hid (hB4.only HO3.out (Nat.le_refl _))
          clear h4 hB4
          go_wp2
          go_roundw
          case rel =>
            refine ⟨j + 1, by omega, by go_num, ?_, ?_, HN4.out, HO4.out⟩
            · rw [htk.out, chgL_snoc, HL.out, He.out]; simp
            · rw [htk.out, chgL_snoc, HL.out, He.out]
              have := H4.out
              simp only [Option.toList_some, List.flatten_append, List.flatten_cons, List.flatten_nil, List.append_nil]
              rw [← List.append_assoc, ← List.append_assoc]
              exact this
          case measure => simp [intOf]; omega
    · have hge : ¬ (j : Int) < (F.length : Int) := by omega
      have hjF : j = F.length := by omega
      subst hjF
      have etk : (F.map (·.1)).take F.length = F.map (·.1) := List.take_of_length_le (by simp)
      rw [etk] at Hown ⊢
      clear etk
      have hCL : (chgL G F (F.map (·.1))).length ≤ 255 := by
        have h1 : (chgL G F (F.map (·.1))).length ≤ (F.map (·.1)).length := List.length_filterMap_le _ _
        rw [List.length_map] at h1
        omega
      have hCF : (chgL G F (F.map (·.1))).flatten.length ≤ 840000 := by
        have := chg_flat (G := G) HM.out (F.map (·.1)) (fun n hn => by
          obtain ⟨f, hf, rfl⟩ := List.mem_map.1 hn
          exact (HM.out f hf).1)
        rw [List.length_map] at this
        have h2 : 3290 * F.length ≤ 3290 * 255 := Nat.mul_le_mul_left _ (by omega)
        omega
      have hun : Hid (changeB G F (F.map (·.1)) = leB 1 (chgL G F (F.map (·.1))).length ++ (chgL G F (F.map (·.1))).flatten) := Lib.hid rfl
      generalize chgL G F (F.map (·.1)) = CL at *
      generalize CL.flatten = FL at *
      have hszr := HO.out.size
      go_wp2_with fail
      refine (layNumber_any _ wr.heap.size _ CL.length 1 [] (OwnB.nil _ _) (Nat.le_refl _) (by simp) (by omega) (by omega)).mono ?_
      rintro e w3 ⟨v3, rfl, h3, hB3⟩
      rw [List.nil_append] at h3
      have hO3 := hB3.only (Only.refl [] wr) (Nat.le_refl _)
      have H3 := Lib.hid h3
      obtain ⟨a6, c6, rfl, hs6, hn6, -⟩ := (OwnB.shape (rowOnly Hown.out hO3))
      have Hs6 := Lib.hid hs6
      have HO3 := Lib.hid hO3
      have hs3 := hO3.size
      clear h3 hB3 hO3 hs6 hn6
      have hl3 : (leB 1 CL.length).length + FL.length ≤ 100000000 := by rw [length_leB]; omega
      go_wp2_with (at_builtin; refine wpList_append_bo rfl _ _ rfl wr.heap.size _ _ rfl H3.out a6 FL.length c6 FL rfl Hs6.out hl3 hs3 ?_; intro v' w' h2 hB)
      go_ret
      refine ⟨v', rfl, ?_, ?_⟩
      · rw [hun.out]
        exact ownsRow_base_a h2 (Nat.le_trans HO2.out.size HO.out.size)
      · exact HO2.out.plus (HO.out.plus (hB.only HO3.out (Nat.le_refl _)))

end Go.Proofs.YtfampoblcielpaaGreat
namespace Go.Proofs.YtfampoblcielpaaGreat
set_option maxRecDepth 100000
set_option linter.unusedVariables false
open Go.RowKit Go.Sort Go.Maps

theorem rise_ne {f g : FileM} (h : bytesBefore f.1 g.1 = true) : f ≠ g := fun e => by
  subst e; exact List.lt_irrefl _ (before_lt h)
theorem before_trans {a b c : FileM} (h : bytesBefore a.1 b.1 = true) (k : b.1 < c.1) : a.1 < c.1 := List.lt_trans (before_lt h) k
theorem sub_tail {f g : FileM} {F G : List FileM} (hF : Rise (f :: F)) (hG : Rise (g :: G)) (hs : ∀ x ∈ f :: F, x ∈ g :: G) (hne : f ≠ g) : ∀ x ∈ f :: F, x ∈ G := by
  have hfG : f ∈ G := (List.mem_cons.1 (hs f (by simp))).resolve_left hne
  have hgf := before_lt ((List.pairwise_cons.1 hG).1 f hfG)
  intro x hx
  refine (List.mem_cons.1 (hs x hx)).resolve_left (fun e => ?_)
  subst e
  rcases List.mem_cons.1 hx with e | e
  · exact hne e.symm
  · exact List.lt_irrefl _ (List.lt_trans hgf (before_lt ((List.pairwise_cons.1 hF).1 x e)))
theorem sub_same {f : FileM} {F G : List FileM} (hF : Rise (f :: F)) (hs : ∀ x ∈ f :: F, x ∈ f :: G) : ∀ x ∈ F, x ∈ G := fun x hx =>
  (List.mem_cons.1 (hs x (by simp [hx]))).resolve_left (fun e => by subst e; exact rise_ne ((List.pairwise_cons.1 hF).1 x hx) rfl)
theorem sub_len : ∀ (G F : List FileM), Rise F → Rise G → (∀ x ∈ F, x ∈ G) → F.length ≤ G.length
  | _, [], _, _, _ => Nat.zero_le _
  | [], f :: F, _, _, h => by have := h f (by simp); cases this
  | g :: G, f :: F, hF, hG, h => by
    by_cases e : f = g
    · subst e
      have := sub_len G F (List.pairwise_cons.1 hF).2 (List.pairwise_cons.1 hG).2 (sub_same hF h)
      simp only [List.length_cons]; omega
    · have := sub_len G (f :: F) hF (List.pairwise_cons.1 hG).2 (sub_tail hF hG h e)
      simp only [List.length_cons] at this ⊢; omega
theorem sub_eq : ∀ (G F : List FileM), Rise F → Rise G → (∀ x ∈ F, x ∈ G) → F.length = G.length → F = G
  | [], [], _, _, _, _ => rfl
  | g :: G, [], _, _, _, hl => by simp at hl
  | [], f :: F, _, _, h, _ => by have := h f (by simp); cases this
  | g :: G, f :: F, hF, hG, h, hl => by
    by_cases e : f = g
    · subst e
      rw [sub_eq G F (List.pairwise_cons.1 hF).2 (List.pairwise_cons.1 hG).2 (sub_same hF h) (by simpa using hl)]
    · have := sub_len G (f :: F) hF (List.pairwise_cons.1 hG).2 (sub_tail hF hG h e)
      simp only [List.length_cons] at this hl; omega

set_option maxHeartbeats 8000000 in
theorem sameSet_any (w : World) (b c : Nat) (F G : List FileM) (hf : SetAt w b F) (hg : SetAt w c G) :
    Calls Tryz.prog 25 #[.map (some b), .map (some c)] w fun e w' => e = .returned (.bool (decide (F = G))) ∧ Only [] w w' := by
  have hlf := World.ownsMap.len hf Tryz.underlying57
  have hlg := World.ownsMap.len hg Tryz.underlying57
  rw [show Maps.size (setD F) = F.length by simp [setD, Maps.size]] at hlf
  rw [show Maps.size (setD G) = G.length by simp [setD, Maps.size]] at hlg
  have hRF := Lib.hid hf.rise
  have hRG := Lib.hid hg.rise
  have Hf := Lib.hid hf
  have Hg := Lib.hid hg
  clear hf hg
  by_cases hsz : F.length = G.length
  · have hszi : (F.length : Int) = (G.length : Int) := by omega
    have Hsz := Lib.hid hsz
    clear hsz
    go_enter Tryz.func25, Tryz.ntmps25
    go_wp2_with (first
      | (at_range; refine wpList_range_own _ rfl _ _ rfl 9 48 (string_keyed Tryz.underlying9) Tryz.underlying57 RF b _ _ rfl Hf.out ?_; intro w0 hrg0 hg0 hs0)
      | go_in)
    go_frame
    have hO0 : Only [] w w0 := ⟨hg0.os, hg0.tape, hg0.output, hg0.size, fun k hk _ => hg0.block k hk (by simp)⟩
    have HO0 := Lib.hid hO0
    have Hrg0 := Lib.hid hrg0
    clear hO0 hrg0 hg0 hs0
    go_loopw [18] (fun _ wr => ∃ (left : Lit → Bool) (cnt : Nat), wr.ranges Tryz.prog 9 RF b w.heap.size F.length (setD F) left cnt ∧ Only [] w wr ∧ Hid (∀ f ∈ F, left (.string f.1) = false → getS f.1 G = some f))
      (fun _ wr => wr.rangeLeft b w.heap.size)
    case atStart =>
      refine ⟨_, _, Hrg0.out, HO0.out, Lib.hid (fun f hf hl => ?_)⟩
      have : Maps.has (setD F) (.string f.1) = true := by
        show (F.map entD).any (fun p => p.1.sameKey (.string f.1)) = true
        rw [List.any_eq_true]
        exact ⟨entD f, List.mem_map.2 ⟨f, hf, rfl⟩, by simp [entD, Lit.sameKey]⟩
      rw [this] at hl; cases hl
    case round =>
      obtain ⟨left, cnt, hrg, hO, hG⟩ := hrel
      have HO := Lib.hid hO
      clear hO
      go_wp2_with (first
        | (at_next; refine wpList_next_ranges _ rfl _ rfl 9 (string_keyed Tryz.underlying9) RF encStr fileV (fun key kl hk => by obtain ⟨x, hx, _⟩ := Maps.keyOf_str Tryz.underlying9 hk; exact ⟨x, hx⟩) (fun v y hy => by obtain ⟨f, hf, _⟩ := RF_inv (d := y.1) (ps := y.2) hy; exact ⟨f, hf⟩) b w.heap.size _ _ _ _ rfl hrg ?_ ?_)
        | go_in)
      · intro hc0 hl0
        go_wp2
        go_ret
        refine ⟨?_, HO.out⟩
        have : F = G := sub_eq G F hRF.out hRG.out (fun x hx => List.mem_of_find?_eq_some (hG.out x hx (hl0 _))) Hsz.out
        simp [this]
      · intro x fn ft kl yd yp w2 cnt2 hkey hlk hv hat hrg2 hlt hg2 hs2 hen
        obtain ⟨x', ex, rfl, hxl⟩ := Maps.keyOf_str Tryz.underlying9 hkey
        obtain rfl : x = x' := encStr_inj ex
        have hO2 : Only [] w w2 := by
          have h0 := HO.out
          exact ⟨hg2.os.trans h0.os, hg2.tape.trans h0.tape, hg2.output.trans h0.output, Nat.le_trans h0.size hg2.size, fun k hk hm => (hg2.block k (Nat.lt_of_lt_of_le hk h0.size) (fun e => by injection e with e; omega)).trans (h0.block k hk hm)⟩
        have hxF : getS x F = some (fn, ft) ∧ fn = x := by
          have h1 := hat .nil
          rw [at_setD] at h1
          have h2 : yd = fileD (fn, ft) := by rw [RF_file] at hv; injection hv with hv; injection hv with hv; exact hv.symm
          cases hgx : getS x F with
          | none => rw [hgx] at h1; simp only at h1; rw [h2] at h1; cases h1
          | some f' => rw [hgx] at h1; simp only at h1; rw [h2] at h1; obtain rfl := fileD_inj h1; exact ⟨rfl, get_name hgx⟩
        have HxF := Lib.hid hxF
        have HO2 := Lib.hid hO2
        have Hrg2 := Lib.hid hrg2
        have hgs := Hg.out.more hO2
        have Hrg := Lib.hid hrg
        clear hat hkey hv hg2 hs2 ex hO2 hxF hrg2 hrg
        have hget := fun o : Obj => run_get (w2.alloc o) c G x true (hgs.more ((Only.refl [] w2).alloc o)) hxl
        simp only [if_true] at hget
        obtain ⟨⟨yn, yt⟩, hy⟩ : ∃ y, (getS x G).getD ([], []) = y := ⟨_, rfl⟩
        have Hy := Lib.hid hy
        rw [hy] at hget
        obtain ⟨is, his⟩ : ∃ is, (getS x G).isSome = is := ⟨_, rfl⟩
        have His := Lib.hid his
        rw [his] at hget
        unfold fileV encStr at hget hen
        simp only at hget hen
        clear hy his hgs
        have hOa := Lib.hid (((Only.refl [] w2).alloc (.cells #[.string ⟨fn.toArray⟩, .string ⟨ft.toArray⟩] 48)).alloc (.cells #[.string ⟨yn.toArray⟩, .string ⟨yt.toArray⟩] 48))
        have Hbad : Hid (¬ getS x G = some (fn, ft) → ¬ F = G) := Lib.hid (fun hn e => by
          subst e; exact hn HxF.out.1)
        cases is with
        | false =>
          go_wp2
          go_ret
          refine ⟨?_, HO2.out.plus hOa.out⟩
          have : ¬ F = G := Hbad.out (fun e => by have := His.out; rw [e] at this; cases this)
          simp [this]
        | true =>
          have Hsome : Hid (getS x G = some (yn, yt)) := Lib.hid (by
            obtain ⟨g, hg⟩ := Option.isSome_iff_exists.1 His.out
            have := Hy.out
            rw [hg] at this ⊢
            exact congrArg some this)
          by_cases hb1 : fn = yn
          · subst hb1
            by_cases hb2 : ft = yt
            · subst hb2
              go_wp2
              go_roundw
              case rel =>
                refine ⟨_, cnt2, (Hrg2.out.alloc _).alloc _, HO2.out.plus hOa.out, Lib.hid (fun g hg hl => ?_)⟩
                by_cases e : g.1 = x
                · have h1 : getS g.1 F = some g := get_mem hRF.out hg
                  rw [e, HxF.out.1] at h1
                  injection h1 with h1
                  rw [e, Hsome.out, h1]
                · refine hG.out g hg ?_
                  have h3 : (Lit.string g.1).sameKey (.string x) = false := by simp [Lit.sameKey, e]
                  simpa [h3] using hl
              case measure => rw [((Hrg2.out.alloc _).alloc _).left_eq, Hrg.out.left_eq]; exact hlt
            · go_wp2
              go_ret
              refine ⟨?_, HO2.out.plus hOa.out⟩
              have : ¬ F = G := Hbad.out (fun e => by rw [Hsome.out] at e; injection e with e; injection e with e1 e2; exact hb2 e2.symm)
              simp [this]
          · go_wp2
            go_ret
            refine ⟨?_, HO2.out.plus hOa.out⟩
            have : ¬ F = G := Hbad.out (fun e => by rw [Hsome.out] at e; injection e with e; injection e with e1 e2; exact hb1 e1.symm)
            simp [this]
  · have hne : ¬ ((F.length : Int) = (G.length : Int)) := by omega
    go_enter Tryz.func25, Tryz.ntmps25
    go_wp2
    go_ret
    refine ⟨?_, Only.refl _ _⟩
    have : ¬ F = G := fun e => hsz (by rw [e])
    simp [this]

end Go.Proofs.YtfampoblcielpaaGreat
namespace Go.Proofs.YtfampoblcielpaaGreat
set_option maxRecDepth 100000
set_option linter.unusedVariables false
open Go.RowKit Go.Sort Go.Maps

def stcells (lp b : Nat) : Array Value := #[.pointer (some ⟨lp, 0, none⟩), .map (some b)]
/-- A store, its log by chapter 3 itself, its files. -/
structure StAt (w : World) (sp lp pd bl bm b : Nat) (D : DS) (L : LS) (rs : List (List UInt8)) (k : Int) (F : List FileM) : Prop where
  blk : IsBlk w sp (.cells (stcells lp b) 62)
  wl : WL w lp pd bl bm D L rs k
  set : SetAt w b F
  ns : sp ∉ [lp, pd, bl, bm]
  nb : b ∉ [lp, pd, bl, bm]
theorem StAt.more {w w' : World} {sp lp pd bl bm b : Nat} {D : DS} {L : LS} {rs : List (List UInt8)} {k : Int} {F : List FileM} (h : StAt w sp lp pd bl bm b D L rs k F) (hO : Only [] w w') : StAt w' sp lp pd bl bm b D L rs k F :=
  ⟨h.blk.only hO (by simp), h.wl.more hO, h.set.more hO, h.ns, h.nb⟩
theorem StAt.c0 {w : World} {sp lp pd bl bm b : Nat} {D : DS} {L : LS} {rs : List (List UInt8)} {k : Int} {F : List FileM} (h : StAt w sp lp pd bl bm b D L rs k F) : w.cell? ⟨sp, 0, none⟩ = some (.pointer (some ⟨lp, 0, none⟩)) := h.blk.cell 0
theorem StAt.c1 {w : World} {sp lp pd bl bm b : Nat} {D : DS} {L : LS} {rs : List (List UInt8)} {k : Int} {F : List FileM} (h : StAt w sp lp pd bl bm b D L rs k F) : w.cell? ⟨sp, 1, none⟩ = some (.map (some b)) := h.blk.cell 1

theorem filesOf_none (w : World) (a : Option Addr) (cap : Nat) : Calls Tryz.prog 19 #[.slice a 0 cap] w fun e w' => e = .returned (.map (some w.heap.size)) ∧ w' = w.alloc (.map #[] 0) := by
  have hmk : ∀ W : World, (Instr.makeMap 57 none).run Tryz.prog W = .ok (.map (some W.heap.size)) (W.alloc (.map #[] 0)) := fun W => run_makeMap _ W
  go_enter Tryz.func19, Tryz.ntmps19
  go_wp2
  go_ret
  exact ⟨rfl, rfl⟩

theorem files_any (w : World) (sp lp pd bl bm b : Nat) (D : DS) (L : LS) (rs : List (List UInt8)) (k : Int) (F : List FileM) (h : StAt w sp lp pd bl bm b D L rs k F) (hF : F.length ≤ 100000) :
    Calls Tryz.prog 13 #[.pointer (some ⟨sp, 0, none⟩)] w fun e w' => ∃ v, e = .returned v ∧ OwnF w' w.heap.size v F ∧ Only [] w w' := by
  have c1 := h.c1
  have H := Lib.hid h
  clear h
  go_enter Tryz.func13, Tryz.ntmps13
  go_wp2_with fail
  refine (list_any _ b F H.out.set hF).mono ?_
  rintro e w' ⟨v, rfl, ho, hO⟩
  go_wp2
  go_ret
  exact ⟨v, rfl, ho, hO⟩

set_option maxHeartbeats 4000000 in
theorem openS_new (w : World) (pd bl bm n : Nat) (h : DiskAt w pd bl bm (newDS (2 * n))) (hn : 1 ≤ n) :
    Calls Tryz.prog 8 #[.pointer (some ⟨pd, 0, none⟩)] w fun e w' => ∃ sp lp b D, e = .returned (.tuple #[.pointer (some ⟨sp, 0, none⟩), .int .i64 0]) ∧ StAt w' sp lp pd bl bm b D ⟨n, 1, 1, 0, 1, 1⟩ [setB []] 2 [] ∧ w.heap.size ≤ sp ∧ w.heap.size ≤ lp ∧ w.heap.size ≤ b ∧ Only [pd, bl, bm] w w' := by
  have h1 := h.plt
  have h2 := h.blt
  have h3 := h.mlt
  have H := Lib.hid h
  clear h
  go_enter Tryz.func8, Tryz.ntmps8
  go_wp2_with fail
  refine (opened_new _ pd bl bm n H.out).mono ?_
  rintro e w1 ⟨lp, a, cap, rfl, hN, hlp, hO1⟩
  have HN := Lib.hid hN
  have HO1 := Lib.hid hO1
  have hlw := IsBlk.lt hN.log
  clear hN hO1
  go_wp2_with fail
  refine (filesOf_none _ a cap).mono ?_
  rintro e w2 ⟨rfl, hw2⟩
  have hO2 : Only [] w1 w2 := by rw [hw2]; exact (Only.refl _ _).alloc _
  have hS2 : SetAt w2 w1.heap.size [] := by rw [hw2]; exact set_made w1
  have hsz2 : w1.heap.size < w2.heap.size := hS2.lt
  have HN2 := Lib.hid (HN.out.more hO2)
  have HS2 := Lib.hid hS2
  have HO2 := Lib.hid (HO1.out.plus hO2)
  have hs1 := HO1.out.size
  generalize w1.heap.size = b at *
  clear hw2 hO2 hS2 HN HO1
  go_wp2_with fail
  refine (whole_any _ b [] HS2.out ⟨by simp, by simp⟩).mono ?_
  rintro e w3 ⟨v3, rfl, hv3, hO3⟩
  obtain ⟨a3, c3, rfl, hs3, hn3, -⟩ := OwnB.shape hv3
  have HN3 := Lib.hid (HN2.out.more hO3)
  have HS3 := Lib.hid (HS2.out.more hO3)
  have HO3 := Lib.hid (HO2.out.plus hO3)
  have Hs3 := Lib.hid hs3
  have hl1 : (setB []).length = 1 := by simp [setB, length_leB]
  have hp1 : partsN 1 = 1 := by decide
  clear hv3 hn3 hs3 hO3 HN2 HS2 HO2
  have Hl1 := Lib.hid hl1
  rw [hl1] at Hs3 ⊢
  clear hl1
  go_wp2_with fail
  refine (freshened_new _ lp pd bl bm n a3 c3 (setB []) HN3.out (by rw [Hl1.out]; exact Hs3.out) (by rw [Hl1.out, hp1]; omega) (by rw [Hl1.out, hp1]; exact hn)).mono ?_
  rintro e w4 ⟨rfl, D4, hW4, hO4⟩
  rw [Hl1.out, hp1] at hW4
  have hbn : b ∉ [lp, pd, bl, bm] := by simp; omega
  have HW4 := Lib.hid hW4
  have HS4 := Lib.hid (HS3.out.keep hO4 hbn)
  have HO4 := Lib.hid (HO3.out.trans hO4)
  have hsz4 := HO4.out.size
  have hb4 := HS4.out.lt
  clear hW4 hO4 HN3 HS3 HO3 Hs3
  go_wp2
  go_ret2
  have hO5 := (Only.refl [] w4).alloc (.cells (stcells lp b) 62)
  refine ⟨w4.heap.size, lp, b, D4, rfl, ⟨IsBlk.made w4 _, HW4.out.more hO5, HS4.out.more hO5, ?_, hbn⟩, hsz4, hlp, by omega, ?_⟩
  · have q1 := HW4.out.disk.plt; have q2 := HW4.out.disk.blt; have q3 := HW4.out.disk.mlt; have q4 := IsBlk.lt HW4.out.log
    simp; omega
  · exact (HO4.out.plus hO5).into (fun j hj => by simp at hj; rcases hj with rfl | hj; exact .inr hlp; exact .inl (by simpa using hj))

end Go.Proofs.YtfampoblcielpaaGreat
namespace Go.Proofs.YtfampoblcielpaaGreat
set_option maxRecDepth 100000
set_option linter.unusedVariables false
open Go.RowKit Go.Sort Go.Maps

set_option maxHeartbeats 2000000 in
theorem keep_done (q r s sp bn : Nat) (u : FrameMode) (w : World) (h : w.cell? ⟨q, 0, none⟩ = some (.int .i64 0)) (h1 : w.cell? ⟨r, 0, none⟩ = some (.map (some bn))) (h2 : w.cell? ⟨s, 0, none⟩ = some (.pointer (some ⟨sp, 0, none⟩))) (h3 : ∃ v, w.cell? ⟨sp, 1, none⟩ = some v) (h4 : w.frozen? ⟨sp, 1, none⟩ = false) :
    CallsD Tryz.prog 42 #[.pointer (some ⟨q, 0, none⟩), .pointer (some ⟨r, 0, none⟩), .pointer (some ⟨s, 0, none⟩)] u w fun e u' w' => u' = u ∧ (e = .returned (.tuple #[]) ∧ w' = w.setCell ⟨sp, 1, none⟩ (.map (some bn))) := by
  obtain ⟨v, h3⟩ := h3
  go_enter_d Tryz.func42, Tryz.ntmps42
  go_wp2
  go_end0
  exact ⟨rfl, rfl⟩

/-- The boxes that keep has made, and what they point at. -/
structure KB (w : World) (q sp lp b bn : Nat) (N : List FileM) : Prop where
  b3 : IsBlk w q (.cells #[.pointer (some ⟨sp, 0, none⟩)] 30)
  b4 : IsBlk w (q + 1) (.cells #[.map (some bn)] 57)
  b6 : IsBlk w (q + 1 + 1) (.cells #[.int .i64 0] 31)
  blk : IsBlk w sp (.cells (stcells lp b) 62)
  set : SetAt w bn N
theorem KB.keep {w w' : World} {q sp lp b bn : Nat} {N : List FileM} {S : List Nat} (h : KB w q sp lp b bn N) (hO : Only S w w') (h0 : q ∉ S) (h1 : q + 1 ∉ S) (h2 : q + 1 + 1 ∉ S) (h3 : sp ∉ S) (h4 : bn ∉ S) : KB w' q sp lp b bn N :=
  ⟨h.b3.only hO h0, h.b4.only hO h1, h.b6.only hO h2, h.blk.only hO h3, h.set.keep hO h4⟩

/-- What keep answers. -/
def KeepTo (w : World) (sp lp pd bl bm bn : Nat) (L : LS) (rs : List (List UInt8)) (k : Int) (N : List FileM) (e : Ending) (w' : World) : Prop :=
  e = .returned (.int .i64 0) ∧ ∃ D' L' rs' k', StAt w' sp lp pd bl bm bn D' L' rs' k' N ∧ L'.size = L.size ∧ 0 ≤ k' ∧ (k' ≤ k + 600 ∧ (rs' = rs ++ [changeB [] N (N.map (·.1))] ∨ rs' = [setB N]) ∧ L'.gen ≤ L.gen + 1) ∧ Only [sp, lp, pd, bl, bm] w w'
/-- Behind the deferred function. -/
theorem KB.done {w w2 : World} {q sp lp pd bl bm b bn : Nat} {D' : DS} {L L' : LS} {rs rs' : List (List UInt8)} {k k' : Int} {N : List FileM} (h : KB w2 q sp lp b bn N) (hW : WL w2 lp pd bl bm D' L' rs' k') (hO : Only [lp, pd, bl, bm] w w2) (hq : w.heap.size = q) (hl : lp < q) (hp : pd < q) (hbl : bl < q) (hbm : bm < q) (hs : sp < q) (hns : sp ∉ [lp, pd, bl, bm]) (hnb : bn ∉ [lp, pd, bl, bm]) (hbs : bn ≠ sp) (hb : bn < q) (hsz : L'.size = L.size) (hk0 : 0 ≤ k') (hk : k' ≤ k + 600 ∧ (rs' = rs ++ [changeB [] N (N.map (·.1))] ∨ rs' = [setB N]) ∧ L'.gen ≤ L.gen + 1) :
    KeepTo w sp lp pd bl bm bn L rs k N (.returned (.int .i64 0)) (w2.setCell ⟨sp, 1, none⟩ (.map (some bn))) := by
  have hO1 : Only [sp] w2 (w2.setCell ⟨sp, 1, none⟩ (.map (some bn))) := only_put w2 _
  refine ⟨rfl, D', L', rs', k', ⟨h.blk.put 1 (.map (some bn)), ?_, h.set.keep hO1 (by simpa using hbs), hns, hnb⟩, hsz, hk0, hk, ?_⟩
  · simp only [List.mem_cons, List.not_mem_nil, or_false, not_or] at hns
    exact ⟨hW.disk.keep hO1 (by simp; omega) (by simp; omega) (by simp; omega), hW.log.keep hO1 (by simp; omega), hW.live, hW.ok, hW.ne⟩
  · exact (hO.trans hO1).into (fun j hj => .inl (by simp at hj ⊢; omega))
theorem KB.put6 {w : World} {q sp lp b bn : Nat} {N : List FileM} (h : KB w q sp lp b bn N) (h3 : sp ≠ q + 1 + 1) (h4 : bn ≠ q + 1 + 1) : KB (w.setCell ⟨q + 1 + 1, 0, none⟩ (.int .i64 0)) q sp lp b bn N := by
  have hO : Only [q + 1 + 1] w (w.setCell ⟨q + 1 + 1, 0, none⟩ (.int .i64 0)) := only_put w _
  exact ⟨h.b3.only hO (by simp; omega), h.b4.only hO (by simp), h.b6.put 0 (.int .i64 0), h.blk.only hO (by simpa using h3), h.set.keep hO (by simpa using h4)⟩

set_option maxHeartbeats 8000000 in
theorem keep_new (w : World) (sp lp pd bl bm b bn : Nat) (D : DS) (L : LS) (rs : List (List UInt8)) (k : Int) (N : List FileM) (aw : Option Addr) (cw : Nat) (h : StAt w sp lp pd bl bm b D L rs k []) (hN : SetAt w bn N) (hnb : bn ∉ [lp, pd, bl, bm]) (hns : bn ≠ sp) (hM : Modest N) (hw : Src w aw (setB N).length (setB N))
    (hp : partsN (setB N).length ≤ 255) (hpc : partsN (changeB [] N (N.map (·.1))).length ≤ 255) (hsz : partsN (setB N).length ≤ L.size) (hg : L.gen < 4294967295) (hk0 : 0 ≤ k) (hk : k < 10000) (haw : 0 < (setB N).length → ∀ x y, aw = some ⟨x, y, none⟩ → x ∉ [lp, pd, bl, bm]) :
    Calls Tryz.prog 26 #[.pointer (some ⟨sp, 0, none⟩), .map (some bn), .slice aw (setB N).length cw] w (KeepTo w sp lp pd bl bm bn L rs k N) := by
  have hmf : ∀ (fn : Fn) (first cap : Array Value) (w : World), (Instr.makeFunc fn first cap).run Tryz.prog w = .ok (.func fn first cap) w := fun _ _ _ _ => rfl
  have hspl := h.blk.lt
  have hbnl := hN.lt
  have hlpl := IsBlk.lt h.wl.log
  have hpdl := h.wl.disk.plt
  have hbll := h.wl.disk.blt
  have hbml := h.wl.disk.mlt
  have H := Lib.hid h
  have HN := Lib.hid hN
  have Hw := Lib.hid hw
  have HM := Lib.hid hM
  have Haw := Lib.hid haw
  have hO3 := Lib.hid ((((Only.refl [] w).alloc (.cells #[.pointer (some ⟨sp, 0, none⟩)] 30)).alloc (.cells #[.map (some bn)] 57)).alloc (.cells #[.int .i64 0] 31))
  have hKB : Hid (KB (((w.alloc (.cells #[.pointer (some ⟨sp, 0, none⟩)] 30)).alloc (.cells #[.map (some bn)] 57)).alloc (.cells #[.int .i64 0] 31)) w.heap.size sp lp b bn N) := Lib.hid (by
    refine ⟨((IsBlk.made w _).alloc _).alloc _, ?_, ?_, h.blk.only hO3.out (by simp), hN.more hO3.out⟩
    · have := (IsBlk.made (w.alloc (.cells #[.pointer (some ⟨sp, 0, none⟩)] 30)) (.cells #[.map (some bn)] 57)).alloc (.cells #[.int .i64 0] 31)
      rwa [World.size_alloc] at this
    · have := IsBlk.made ((w.alloc (.cells #[.pointer (some ⟨sp, 0, none⟩)] 30)).alloc (.cells #[.map (some bn)] 57)) (.cells #[.int .i64 0] 31)
      rwa [World.size_alloc, World.size_alloc] at this)
  clear h hN hw hM haw
  go_enter_defers Tryz.func26, Tryz.ntmps26
  go_wp2_with fail
  have hszA : w.heap.size + 1 + 1 + 1 = (((w.alloc (.cells #[.pointer (some ⟨sp, 0, none⟩)] 30)).alloc (.cells #[.map (some bn)] 57)).alloc (.cells #[.int .i64 0] 31)).heap.size := by simp
  generalize ((w.alloc (.cells #[.pointer (some ⟨sp, 0, none⟩)] 30)).alloc (.cells #[.map (some bn)] 57)).alloc (.cells #[.int .i64 0] 31) = wA at *
  generalize hq : w.heap.size = q at *
  have Hq := Lib.hid hq
  clear hq
  have c3 : wA.cell? ⟨q, 0, none⟩ = some (.pointer (some ⟨sp, 0, none⟩)) := hKB.out.b3.cell 0
  have c4 : wA.cell? ⟨q + 1, 0, none⟩ = some (.map (some bn)) := hKB.out.b4.cell 0
  have s0 : wA.cell? ⟨sp, 0, none⟩ = some (.pointer (some ⟨lp, 0, none⟩)) := hKB.out.blk.cell 0
  have s1 : wA.cell? ⟨sp, 1, none⟩ = some (.map (some b)) := hKB.out.blk.cell 1
  have Hpost : Hid (L.next + partsN (changeB [] N (N.map (·.1))).length ≤ L.size ∨ L.size < L.next + partsN (changeB [] N (N.map (·.1))).length) := Lib.hid (by omega)
  generalize hcb : changeB [] N (N.map (·.1)) = cb at *
  have Hcb := Lib.hid hcb
  clear hcb
  have keepS : Hid (∀ W : World, KB W q sp lp b bn N → W.cell? ⟨q, 0, none⟩ = some (.pointer (some ⟨sp, 0, none⟩)) ∧ W.cell? ⟨q + 1, 0, none⟩ = some (.map (some bn)) ∧ W.cell? ⟨sp, 0, none⟩ = some (.pointer (some ⟨lp, 0, none⟩)) ∧ W.cell? ⟨sp, 1, none⟩ = some (.map (some b)) ∧ W.cell? ⟨q + 1 + 1, 0, none⟩ = some (.int .i64 0) ∧ W.frozen? ⟨q + 1 + 1, 0, none⟩ = false) := Lib.hid (fun W h => ⟨h.b3.cell 0, h.b4.cell 0, h.blk.cell 0, h.blk.cell 1, h.b6.cell 0, h.b6.notFrozen 0⟩)
  have hall := keepS.out wA hKB.out
  go_region_held3 (fun W => W.cell? ⟨q, 0, none⟩ = some (.pointer (some ⟨sp, 0, none⟩)) ∧ W.cell? ⟨q + 1, 0, none⟩ = some (.map (some bn)) ∧ W.cell? ⟨sp, 0, none⟩ = some (.pointer (some ⟨lp, 0, none⟩)) ∧ W.cell? ⟨sp, 1, none⟩ = some (.map (some b)) ∧ W.cell? ⟨q + 1 + 1, 0, none⟩ = some (.int .i64 0) ∧ W.frozen? ⟨q + 1 + 1, 0, none⟩ = false) (first | exact hall | assumption | exact keepS.out _ (hKB2.put6 (by omega) (by omega)))
      (first
        | (go_at_call 43
           refine (appended _ lp pd bl bm D L rs k a1 c1 cb (H.out.wl.more hO1) hs1 hpc hk0 (by omega)).mono ?_
           rintro e w2 ⟨rfl, hO2, hx2⟩
           have hKB2 := hKB1.keep hO2 (by simp; omega) (by simp; omega) (by simp; omega) H.out.ns hnb
           have hS2 := keepS.out w2 hKB2
           have hOw2 := (hO1.trans hO2))
        | (go_at_call 44
           refine (change_any _ bn b [] N (H.out.set.more (hO3.out.drew)) (hKB.out.set.more (Only.refl [] wA).drew) rfl HM.out).mono ?_
           rintro e w1 ⟨v1, rfl, hv1, hO1a⟩
           rw [Hcb.out] at hv1
           obtain ⟨a1, c1, rfl, hs1, hn1, -⟩ := OwnB.shape hv1
           have hO1b := ((Only.refl [] wA).drew).plus hO1a
           have hO1 := hO3.out.plus hO1b
           have hKB1 := hKB.out.keep hO1b (by simp) (by simp) (by simp) (by simp) (by simp)
           have hS1 := keepS.out w1 hKB1))
  have hspq : sp < q := by have := Hq.out; omega
  have HKB3 := Lib.hid (hKB2.put6 (by omega) (by omega))
  have hOs : Only [q + 1 + 1] w2 (w2.setCell ⟨q + 1 + 1, 0, none⟩ (.int .i64 0)) := only_put w2 _
  have HO2 : Hid (Only [lp, pd, bl, bm] w (w2.setCell ⟨q + 1 + 1, 0, none⟩ (.int .i64 0))) := Lib.hid ((hOw2.trans hOs).into (fun j hj => by
    simp at hj ⊢; have := Hq.out; omega))
  have HWk : Hid (∀ D' L' rs' k', WL w2 lp pd bl bm D' L' rs' k' → WL (w2.setCell ⟨q + 1 + 1, 0, none⟩ (.int .i64 0)) lp pd bl bm D' L' rs' k') := Lib.hid (fun D' L' rs' k' hW =>
    ⟨hW.disk.keep hOs (by simp; omega) (by simp; omega) (by simp; omega), hW.log.keep hOs (by simp; omega), hW.live, hW.ok, hW.ne⟩)
  have Hx2 := Lib.hid hx2
  clear hx2 hOs hKB1 hKB2 hS1 hS2 hO1 hO1a hO1b hO2 hOw2 hs1 hn1 hv1 hall c3 c4 s0 s1 hKB
  rename_i hheld
  clear hheld
  generalize w2.setCell ⟨q + 1 + 1, 0, none⟩ (.int .i64 0) = W3 at *
  obtain ⟨g3, g4, g0, g1, g6, gz⟩ := keepS.out W3 HKB3.out
  have Hk4 : Hid (∀ W : World, KB W q sp lp b bn N → ∀ D' L' rs' k', WL W lp pd bl bm D' L' rs' k' → WL (W.setCell ⟨q + 1 + 1, 0, none⟩ (.int .i64 0)) lp pd bl bm D' L' rs' k') := Lib.hid (fun W _ D' L' rs' k' hW =>
    ⟨hW.disk.keep (only_put W _) (by simp; omega) (by simp; omega) (by simp; omega), hW.log.keep (only_put W _) (by simp; omega), hW.live, hW.ok, hW.ne⟩)
  have Ho4 : Hid (∀ W : World, Only [lp, pd, bl, bm] w W → Only [lp, pd, bl, bm] w (W.setCell ⟨q + 1 + 1, 0, none⟩ (.int .i64 0))) := Lib.hid (fun W hW => (hW.trans (only_put (p := q + 1 + 1) (i := 0) W (.int .i64 0))).into (fun j hj => by
    simp at hj ⊢; have := Hq.out; omega))
  by_cases hfit : L.next + partsN cb.length ≤ L.size
  · rw [decide_eq_true hfit]
    have HKB4 := Lib.hid (HKB3.out.put6 (by omega) (by omega))
    obtain ⟨D', hW'⟩ : ∃ D', WL w2 lp pd bl bm D' { L with next := L.next + partsN cb.length, seq := L.seq + 1 } (rs ++ [cb]) (k + partsN cb.length + 1) := by
      have := Hx2.out; rw [if_pos hfit] at this; exact this
    have hfin := Lib.hid (HKB4.out.done (L := L) (rs := rs) (k := k) (Hk4.out W3 HKB3.out _ _ _ _ (HWk.out _ _ _ _ hW')) (Ho4.out W3 HO2.out) Hq.out (by have := Hq.out; omega) (by have := Hq.out; omega) (by have := Hq.out; omega) (by have := Hq.out; omega) hspq H.out.ns hnb hns (by have := Hq.out; omega) rfl (by omega) ⟨by omega, .inl (by rw [Hcb.out]), by show L.gen ≤ L.gen + 1; omega⟩)
    clear hW'
    go_wp2_with fail
    generalize W3.setCell ⟨q + 1 + 1, 0, none⟩ (.int .i64 0) = W4 at *
    obtain ⟨d3, d4, d0, d1, d6, -⟩ := keepS.out W4 HKB4.out
    have dz : W4.frozen? ⟨sp, 1, none⟩ = false := HKB4.out.blk.notFrozen 1
    clear g3 g4 g0 g1 g6 gz
    refine leaves_cons (f := 42) (args := #[.pointer (some ⟨q + 1 + 1, 0, none⟩), .pointer (some ⟨q + 1, 0, none⟩), .pointer (some ⟨q, 0, none⟩)]) (by simp) (by simp [go_sem]) ?_
    refine (keep_done (q + 1 + 1) (q + 1) q sp bn .returning _ d6 d4 d3 ⟨_, d1⟩ dz).mono ?_
    rintro e u' w'' ⟨rfl, rfl, rfl⟩
    have d6' : (W4.setCell ⟨sp, 1, none⟩ (.map (some bn))).cell? ⟨q + 1 + 1, 0, none⟩ = some (.int .i64 0) := ((HKB4.out.b6.only (only_put (p := sp) (i := 1) W4 (.map (some bn))) (by simp; omega)).cell 0)
    clear HKB4 d3 d4 d1 d6 dz
    generalize W4.setCell ⟨sp, 1, none⟩ (.map (some bn)) = W5 at *
    simp [Leaves, settle, results, Tryz.results26, go_sem, d6']
    exact hfin.out
  · rw [decide_eq_false hfit]
    have HW3 : Hid (WL W3 lp pd bl bm D L rs k) := Lib.hid (HWk.out _ _ _ _ (by have := Hx2.out; rw [if_neg hfit] at this; exact this))
    have Hs3 : Hid (Src W3 aw (setB N).length (setB N)) := Lib.hid (Hw.out.keep HO2.out Haw.out)
    go_wp2_with fail
    refine (freshened _ lp pd bl bm D L rs k aw cw (setB N) HW3.out Hs3.out hp hsz hg hk0 (by omega)).mono ?_
    rintro e w4 ⟨rfl, D', hW', hO'⟩
    have hKB4 := HKB3.out.keep hO' (by simp; omega) (by simp; omega) (by simp; omega) H.out.ns hnb
    have HKB5 := Lib.hid (hKB4.put6 (by omega) (by omega))
    have hfin := Lib.hid (HKB5.out.done (L := L) (rs := rs) (k := k) (Hk4.out w4 hKB4 _ _ _ _ hW') (Ho4.out w4 ((HO2.out.trans hO').into (fun j hj => .inl (by simp at hj ⊢; omega)))) Hq.out (by have := Hq.out; omega) (by have := Hq.out; omega) (by have := Hq.out; omega) (by have := Hq.out; omega) hspq H.out.ns hnb hns (by have := Hq.out; omega) rfl (by omega) ⟨by omega, .inr rfl, Int.le_refl _⟩)
    clear g3 g4 g0 g1 g6 gz
    obtain ⟨g3, g4, g0, g1, g6, gz⟩ := keepS.out w4 hKB4
    clear hW' hO' hKB4 HKB3
    have HKB4 := HKB5
    clear HKB5
    go_wp2_with fail
    generalize w4.setCell ⟨q + 1 + 1, 0, none⟩ (.int .i64 0) = W4 at *
    obtain ⟨d3, d4, d0, d1, d6, -⟩ := keepS.out W4 HKB4.out
    have dz : W4.frozen? ⟨sp, 1, none⟩ = false := HKB4.out.blk.notFrozen 1
    clear g3 g4 g0 g1 g6 gz
    refine leaves_cons (f := 42) (args := #[.pointer (some ⟨q + 1 + 1, 0, none⟩), .pointer (some ⟨q + 1, 0, none⟩), .pointer (some ⟨q, 0, none⟩)]) (by simp) (by simp [go_sem]) ?_
    refine (keep_done (q + 1 + 1) (q + 1) q sp bn .returning _ d6 d4 d3 ⟨_, d1⟩ dz).mono ?_
    rintro e u' w'' ⟨rfl, rfl, rfl⟩
    have d6' : (W4.setCell ⟨sp, 1, none⟩ (.map (some bn))).cell? ⟨q + 1 + 1, 0, none⟩ = some (.int .i64 0) := ((HKB4.out.b6.only (only_put (p := sp) (i := 1) W4 (.map (some bn))) (by simp; omega)).cell 0)
    clear HKB4 d3 d4 d1 d6 dz
    generalize W4.setCell ⟨sp, 1, none⟩ (.map (some bn)) = W5 at *
    simp [Leaves, settle, results, Tryz.results26, go_sem, d6']
    exact hfin.out

end Go.Proofs.YtfampoblcielpaaGreat
