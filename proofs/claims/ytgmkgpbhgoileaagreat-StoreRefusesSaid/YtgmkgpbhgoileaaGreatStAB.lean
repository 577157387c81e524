/-
  A commit, whatever the files were ahead of it (keep, Commit).
-/
import Derived.Test.YtgmkgpbhgoileaaGreatStZ
import Derived.Lib.RowBridge
namespace Go.Proofs.YtgmkgpbhgoileaaGreat
set_option maxRecDepth 100000
set_option linter.unusedVariables false
open Go.RowKit Go.Sort Go.Maps

def namesL (Fs : List (List FileM)) : List (List UInt8) := Fs.flatMap fun F => F.map (·.1)
def namesM (Fs : List (List FileM)) : List (List UInt8) := Lib.compact ((namesL Fs).mergeSort fun x y => decide (x ≤ y))
theorem namesM_len (Fs : List (List FileM)) : (namesM Fs).length ≤ (namesL Fs).length := by
  have := Lib.compact_length_le ((namesL Fs).mergeSort fun x y => decide (x ≤ y))
  rw [List.length_mergeSort] at this
  exact this
theorem compact_mem {zs : List (List UInt8)} {n : List UInt8} (h : n ∈ Lib.compact zs) : n ∈ zs := by
  unfold Lib.compact Lib.compactUpTo at h
  obtain ⟨j, hj, rfl⟩ := List.mem_map.1 h
  have hlt : j < zs.length := List.mem_range.1 (List.mem_filter.1 hj).1
  have e : zs.toArray[j]! = zs[j] := by rw [getElem!_pos zs.toArray j (by simpa using hlt)]; simp
  rw [e]
  exact List.getElem_mem hlt
theorem namesM_mem {Fs : List (List FileM)} {n : List UInt8} (h : n ∈ namesM Fs) : n ∈ namesL Fs := List.mem_mergeSort.1 (compact_mem h)

/-- The first of a row of texts. -/
theorem OwnS.firsts {w : World} {base g n cap m : Nat} {ts : List (List UInt8)} (h : OwnS w base (.slice (some ⟨g, 0, none⟩) n cap) ts) (hm : m ≤ ts.length) : OwnS w base (.slice (some ⟨g, 0, none⟩) m cap) (ts.take m) := by
  rcases h.2 with ⟨e, -⟩ | ⟨g', cap', cur, e, hb, hg, r1, r2, r3, r4⟩
  · cases e
  · injection e with e1 e2 e3
    injection e1 with e1
    injection e1 with e1 e4
    subst e1
    subst e3
    have hl : (ts.take m).length = m := by rw [List.length_take]; omega
    refine ⟨by simp, .inr ⟨g, cap, cur, by rw [hl], hb, hg, by rw [hl]; omega, r2, r3, ?_⟩⟩
    rw [hl, Nat.mul_one, List.map_take]
    rw [Nat.mul_one] at r4
    rw [← r4, List.take_take, show min m ts.length = m by omega]
theorem OwnS.of {w : World} {base n : Nat} {v : Value} {ts : List (List UInt8)} (hl : ts.length = n) (h : w.ownsRow base 9 1 v n (ts.map encStr)) : OwnS w base v ts := by
  unfold OwnS
  rw [hl]
  exact h
theorem compact_any (w : World) (base : Nat) (v : Value) (ss : List (List UInt8)) (h : OwnS w base v ss) (hl : ss.length ≤ 100000) :
    Calls Tryz.prog 74 #[v] w fun e w' => ∃ v', e = .returned v' ∧ OwnS w' base v' (Lib.compact ss) ∧ ∀ w0, Only [] w0 w → w0.heap.size ≤ base → Only [] w0 w' := by
  have h' := h
  have hcl := Lib.compact_length_le ss
  rcases h.2 with ⟨rfl, hz⟩ | ⟨g, cap, cur, rfl, hbase, hb, r1, r2, r3, r4⟩
  · have hss : ss = [] := List.eq_nil_of_length_eq_zero hz
    subst hss
    refine (Tryz.slices_Compact_string_empty none 0 w).mono ?_
    rintro e w' ⟨rfl, rfl⟩
    exact ⟨_, rfl, h', fun w0 hO _ => hO⟩
  · have hm : ss.length ≤ 9223372036854775807 := by omega
    refine (Tryz.slices_Compact_string g 0 cap ss w (holds_of_block hb (by simpa using r4)) hm r1).mono ?_
    rintro e w' ⟨rfl, n, rfl⟩
    have hlen : (Lib.compact ss ++ List.replicate (ss.length - (Lib.compact ss).length) ([] : List UInt8)).length = ss.length := by simp; omega
    rw [← grow_empty (putRow encStr (Sort.ahead w n) g 0 (Lib.compact ss ++ List.replicate (ss.length - (Lib.compact ss).length) ([] : List UInt8)).toArray)]
    have ho := ownsRow_sorted (n := n) (os := #[]) (ts := Lib.compact ss ++ List.replicate (ss.length - (Lib.compact ss).length) ([] : List UInt8)) hlen hbase hb r1 r2 r3
    have ho2 := OwnS.of hlen ho
    have ho3 := ho2.firsts (m := (Lib.compact ss).length) (by rw [hlen]; exact hcl)
    rw [List.take_left] at ho3
    exact ⟨_, rfl, ho3, fun w0 hO h0 => only_row hO (grownBy_sorted _) hbase h0⟩

set_option maxHeartbeats 4000000 in
theorem names_all (w : World) (g cap : Nat) (Ls : List (Nat × List FileM)) (h : SetsAt w g Ls) (hk9 : Ls.length ≤ 9) (hF : ∀ x ∈ Ls, x.2.length ≤ 1000) :
    Calls Tryz.prog 49 #[.slice (some ⟨g, 0, none⟩) Ls.length cap] w fun e w' => ∃ v, e = .returned v ∧ OwnS w' w.heap.size v (namesM (Ls.map (·.2))) ∧ Only [] w w' := by
  have H := Lib.hid h
  have HF := Lib.hid hF
  have hlenN : ∀ Xs : List (Nat × List FileM), (∀ x ∈ Xs, x.2.length ≤ 1000) → (namesL (Xs.map (·.2))).length ≤ 1000 * Xs.length := by
    intro Xs
    induction Xs with
    | nil => simp [namesL]
    | cons x r ih =>
      intro hx
      have h1 := hx x (by simp)
      have h2 := ih (fun y hy => hx y (by simp [hy]))
      simp only [namesL, List.map_cons, List.flatMap_cons, List.length_append, List.length_map, List.length_cons] at h2 ⊢
      omega
  have HlN := Lib.hid hlenN
  clear h hF hlenN
  go_enter Tryz.func49, Tryz.ntmps49
  go_wp2_with fail
  go_loopw [8, 3] (fun i s3 wr => ∃ (j : Nat) (ss : List (List UInt8)), j ≤ Ls.length ∧ i = .int .i64 j ∧ Hid (ss.Perm (namesL ((Ls.take j).map (·.2)))) ∧ OwnS wr w.heap.size s3 ss ∧ Only [] w wr) (fun i _ _ => Ls.length - (intOf i).toNat)
  case atStart => exact ⟨0, [], by omega, rfl, Lib.hid (by simp [namesL]), ⟨rfl, .inl ⟨rfl, rfl⟩⟩, Only.refl _ _⟩
  case round =>
    obtain ⟨j, ss, hj, rfl, hperm, hown, hO⟩ := hrel
    have HO := Lib.hid hO
    have Hown := Lib.hid hown
    obtain ⟨aS, cS, rfl⟩ := hown.len
    clear hO hown
    have hssl : ss.length ≤ 9000 := by
      have h1 := hperm.out.length_eq
      have h2 := HlN.out (Ls.take j) (fun x hx => HF.out x (List.mem_of_mem_take hx))
      rw [List.length_take] at h2
      omega
    by_cases hlt : j < Ls.length
    · have hlti : (j : Int) < (Ls.length : Int) := by omega
      have hS := H.out.more HO.out
      obtain ⟨⟨bj, Fj⟩, hx⟩ : ∃ x, Ls[j]? = some x := ⟨_, List.getElem?_eq_getElem hlt⟩
      obtain ⟨hc, hs⟩ := hS.2 j _ hx
      simp only at hc hs
      have Hs := Lib.hid hs
      have hFj : Fj.length ≤ 1000 := HF.out _ (List.mem_of_getElem? hx)
      have Htk : Hid (namesL ((Ls.take (j + 1)).map (·.2)) = namesL ((Ls.take j).map (·.2)) ++ Fj.map (·.1)) := Lib.hid (by rw [List.take_add_one, hx]; simp [namesL])
      clear hS hs hx
      go_wp2_with fail
      refine (keys_call _ bj).mono ?_
      rintro e w1 ⟨rfl, hw1⟩
      have hO1 : Only [] wr w1 := by rw [hw1]; exact (Only.refl _ _).alloc _
      have hc1 : w1.cell? ⟨wr.heap.size, 0, none⟩ = some (.map (some bj)) := by rw [hw1]; exact IsBlk.cell (IsBlk.made wr _) 0
      have hq1 : wr.heap.size < w1.heap.size := by rw [hw1]; simp
      have Hc1 := Lib.hid hc1
      have HO1 := Lib.hid hO1
      have hsz : w.heap.size ≤ w1.heap.size := Nat.le_trans HO.out.size hO1.size
      clear hw1 hc1 hO1
      go_wp2_with fail
      refine (appseq_any _ bj wr.heap.size w.heap.size Fj ss aS _ cS (Hs.out.more HO1.out) hFj (by omega) hsz (Hown.out.only HO1.out) hq1 Hc1.out).mono ?_
      rintro e w2 ⟨v, new, rfl, hp, how, hO2⟩
      have HO2 := Lib.hid (hO2 w (HO.out.plus HO1.out) (Nat.le_refl _))
      have How := Lib.hid how
      have Hp := Lib.hid hp
      clear how hO2 hp
      go_wp2
      go_roundw
      case rel => exact ⟨j + 1, ss ++ new, by omega, by go_num, Lib.hid (by rw [Htk.out]; exact hperm.out.append Hp.out), How.out, HO2.out⟩
      case measure => simp [intOf]; omega
    · have hge : ¬ (j : Int) < (Ls.length : Int) := by omega
      have hjl : j = Ls.length := by omega
      subst hjl
      rw [List.take_length] at hperm
      have Hsort := Lib.hid (mergeSort_of_perm hperm.out)
      go_wp2_with fail
      refine (sort_own _ w.heap.size _ ss Hown.out (by omega)).mono ?_
      rintro e w1 ⟨rfl, ho1, hO1⟩
      have HO1 := Lib.hid (hO1 w HO.out (Nat.le_refl _))
      have Ho1 := Lib.hid ho1
      clear ho1 hO1
      go_wp2_with fail
      refine (compact_any _ w.heap.size _ _ Ho1.out (by rw [List.length_mergeSort]; omega)).mono ?_
      rintro e w2 ⟨v2, rfl, ho2, hO2⟩
      rw [Hsort.out] at ho2
      have HO2 := Lib.hid (hO2 w HO1.out (Nat.le_refl _))
      have Ho2 := Lib.hid ho2
      clear ho2 hO2
      go_wp2
      go_ret
      exact ⟨_, rfl, Ho2.out, HO2.out⟩

set_option maxHeartbeats 8000000 in
theorem change_gen (w : World) (b c : Nat) (G F : List FileM) (hg : SetAt w c G) (hf : SetAt w b F) (hM : Modest F) (hMG : Modest G) (hs : G.length + F.length ≤ 255) :
    Calls Tryz.prog 48 #[.map (some c), .map (some b)] w fun e w' => ∃ v, e = .returned v ∧ OwnB w' w.heap.size v (changeB G F (namesM [G, F])) ∧ Only [] w w' := by
  have Hg := Lib.hid hg
  have hG := hMG.1
  have hns : (namesM [G, F]).length ≤ 255 := by have := namesM_len [G, F]; simp [namesL] at this; omega
  have Hns : Hid (∀ n ∈ namesM [G, F], n.length ≤ 255) := Lib.hid (fun n hn => by
    have := namesM_mem hn
    simp only [namesL, List.flatMap_cons, List.flatMap_nil, List.append_nil, List.mem_append, List.mem_map] at this
    rcases this with ⟨f, hf, rfl⟩ | ⟨f, hf, rfl⟩
    · exact (hMG.2 f hf).1
    · exact (hM.2 f hf).1)
  have Hf := Lib.hid hf
  have hF := hM.1
  have HM := Lib.hid hM.2
  clear hg hf hM hMG
  go_enter Tryz.func48, Tryz.ntmps48
  have hg2 := IsBlk.made w (.cells #[.map (some c), .map (some b)] 59)
  have HO1 := Lib.hid ((Only.refl [] w).alloc (.cells #[.map (some c), .map (some b)] 59))
  go_wp2_with fail
  refine (names_all _ w.heap.size _ [(c, G), (b, F)] ⟨hg2.lt, fun i x hx => ?hset⟩ (by simp) (fun x hx => ?hpre)).mono ?_
  case hset =>
    match i, hx with
    | 0, hx => simp at hx; subst hx; exact ⟨hg2.cell 0, Hg.out.more HO1.out⟩
    | 1, hx => simp at hx; subst hx; exact ⟨hg2.cell 1, Hf.out.more HO1.out⟩
    | n + 2, hx => simp at hx
  case hpre =>
    simp at hx
    rcases hx with rfl | rfl <;> simp only <;> omega
  rintro e w2 ⟨vN, rfl, hoN, hO2⟩
  have hoN : OwnS w2 _ vN (namesM [G, F]) := hoN
  generalize hnE : namesM [G, F] = ns at *
  have HnE := Lib.hid hnE
  clear hnE
  obtain ⟨aN, cN, rfl⟩ := hoN.len
  have HoN := Lib.hid hoN
  have HO2 := Lib.hid (HO1.out.plus hO2)
  clear hoN hO2 hg2 HO1
  have hsz2 := HO2.out.size
  go_wp2_with fail
  go_loopw [16, 5, 6] (fun i s5 s6 wr => ∃ j : Nat, j ≤ ns.length ∧ i = .int .i64 j ∧ s5 = .int .i64 ((chgL G F (ns.take j)).length : Nat) ∧ OwnB wr w2.heap.size s6 (chgL G F (ns.take j)).flatten ∧ OwnS wr (w.heap.size + 1) (.slice aN ns.length cN) ns ∧ Only [] w2 wr) (fun i _ _ _ => ns.length - (intOf i).toNat)
  case atStart => exact ⟨0, by omega, rfl, rfl, OwnB.nil _ _, by simpa using HoN.out, Only.refl _ _⟩
  case round =>
    obtain ⟨j, hj, rfl, rfl, hown, hN, hO⟩ := hrel
    have Hown := Lib.hid hown
    have HNj := Lib.hid hN
    have HO := Lib.hid hO
    clear hown hN hO
    by_cases hlt : j < ns.length
    · have hlti : (j : Int) < (ns.length : Int) := by omega
      obtain ⟨gN, cN', e, hcell⟩ := HNj.out.cell (j := j) hlt
      injection e with e1 e2 e3
      subst e1 e3
      have Hgr := Hg.out.more (HO2.out.plus HO.out)
      have Hfr := Hf.out.more (HO2.out.plus HO.out)
      have hnb := Hns.out _ (List.getElem_mem hlt)
      have hnm : ns[j].length ≤ maxLen := by unfold maxLen; omega
      have hgf := run_get wr b F ns[j] true Hfr hnm
      have hgg := fun o : Obj => run_get (wr.alloc o) c G ns[j] false (Hgr.more ((Only.refl [] wr).alloc o)) hnm
      rw [if_pos rfl] at hgf
      simp only [Bool.false_eq_true, if_false] at hgg
      have htk : Hid (ns.take (j + 1) = ns.take j ++ [ns[j]]) := Lib.hid (by rw [List.take_add_one, List.getElem?_eq_getElem hlt]; rfl)
      generalize ns[j] = n at *
      have hsome : Hid ((getS n F).isSome = true → n.length ≤ 255 ∧ (atF n F).2.length ≤ 3000 ∧ (atF n F).1 = n) := Lib.hid (fun h => by
        obtain ⟨g, hg⟩ := Option.isSome_iff_exists.1 h
        have hm := List.mem_of_find?_eq_some hg
        have h1 := HM.out g hm
        have h2 := get_name hg
        have h3 : atF n F = g := by unfold atF; rw [hg]; rfl
        rw [h3]
        exact ⟨by omega, h1.2, h2⟩)
      have hxe : ∃ x, (getS n F).getD ([], []) = x := ⟨_, rfl⟩
      have hye : ∃ y, (getS n G).getD ([], []) = y := ⟨_, rfl⟩
      obtain ⟨⟨xn, xt⟩, hx⟩ := hxe
      obtain ⟨⟨yn, yt⟩, hy⟩ := hye
      rw [hx] at hgf
      rw [hy] at hgg
      have Hx : Hid (atF n F = (xn, xt)) := Lib.hid hx
      have Hy : Hid (atF n G = (yn, yt)) := Lib.hid hy
      unfold fileV encStr at hgf hgg
      unfold encStr at hcell
      simp only at hgf hgg
      obtain ⟨is, his⟩ : ∃ is, (getS n F).isSome = is := ⟨_, rfl⟩
      rw [his] at hgf
      have His := Lib.hid his
      clear hx hy his Hgr Hfr
      generalize hL : chgL G F (ns.take j) = CL at *
      have HL := Lib.hid hL
      clear hL
      have hOa := Lib.hid ((Only.refl [] wr).alloc (.cells #[.string ⟨xn.toArray⟩, .string ⟨xt.toArray⟩] 40))
      have hszr := HO.out.size
      have hCL : CL.length ≤ 255 := by
        have h1 : CL.length ≤ (ns.take j).length := by rw [← HL.out]; exact List.length_filterMap_le _ _
        rw [List.length_take] at h1
        omega
      have hCF : CL.flatten.length ≤ 840000 := by
        have := chg_flat (G := G) HM.out (ns.take j) (fun n hn => Hns.out n (List.mem_of_mem_take hn))
        rw [HL.out, List.length_take] at this
        have h2 : 3290 * min j ns.length ≤ 3290 * 255 := Nat.mul_le_mul_left _ (by omega)
        omega
      have hnl : n.length ≤ 255 := hnb
      by_cases hb1 : xn = yn
      · subst hb1
        by_cases hb2 : xt = yt
        · subst hb2
          have He : Hid (chgE G F n = none) := Lib.hid (by
            unfold chgE; rw [Hx.out, Hy.out, if_pos rfl])
          go_wp2
          go_roundw
          case rel =>
            refine ⟨j + 1, by omega, by go_num, ?_, ?_, HNj.out.only hOa.out, HO.out.plus hOa.out⟩
            · rw [htk.out, chgL_snoc, HL.out, He.out]; simp
            · rw [htk.out, chgL_snoc, HL.out, He.out]
              simp only [Option.toList_none, List.append_nil]
              exact rowOnly Hown.out hOa.out
          case measure => simp [intOf]; omega
        · cases is with
          | true =>
            obtain ⟨hn1, hn2, hn3⟩ := hsome.out His.out
            rw [Hx.out] at hn2 hn3
            simp only at hn2 hn3
            have hxn : xn.length ≤ 255 := by rw [hn3]; exact hn1
            clear hn3
            have He : Hid (chgE G F n = some (leB 1 1 ++ fileB (xn, xt))) := Lib.hid (by unfold chgE; rw [Hx.out, Hy.out, if_neg (by intro e; injection e with e1 e2; exact hb2 e2), His.out]; rfl)
            go_wp2_with fail
            refine (layNumber_any _ w2.heap.size _ 1 1 _ (rowOnly Hown.out hOa.out) (Nat.le_trans hszr hOa.out.size) (by omega) (by omega) (by omega)).mono ?_
            rintro e w3 ⟨v3, rfl, h3, hB3⟩
            have hb3 := hB3.blk (IsBlk.made wr _) (by decide)
            have q0 : w3.cell? ⟨wr.heap.size, 0, none⟩ = some (.string ⟨xn.toArray⟩) := hb3.cell 0
            have q1 : w3.cell? ⟨wr.heap.size, 1, none⟩ = some (.string ⟨xt.toArray⟩) := hb3.cell 1
            have H3 := Lib.hid h3
            have HN3 := Lib.hid (hB3.row (HNj.out.only hOa.out) (by decide))
            have HO3 := Lib.hid (hB3.only (HO.out.plus hOa.out) (Nat.le_refl _))
            have hs3 : w2.heap.size ≤ w3.heap.size := HO3.out.size
            clear h3 hB3 hb3
            go_wp2_with fail
            refine (layFile_any _ w2.heap.size _ (xn, xt) _ H3.out hs3 (by rw [List.length_append, length_leB]; omega) (by simp only; omega) (by simp only; omega)).mono ?_
            rintro e w4 ⟨v4, rfl, h4, hB4⟩
            have H4 := Lib.hid h4
            have HN4 := Lib.hid (hB4.row HN3.out (by decide))
            have HO4 := Lib.hid (hB4.only HO3.out (Nat.le_refl _))
            clear h4 hB4 q0 q1
            go_wp2
            go_roundw
            case rel =>
              refine ⟨j + 1, by omega, by go_num, ?_, ?_, HN4.out, HO4.out⟩
              · rw [htk.out, chgL_snoc, HL.out, He.out]; simp
              · rw [htk.out, chgL_snoc, HL.out, He.out]
                have := H4.out
                simp only [Option.toList_some, List.flatten_append, List.flatten_cons, List.flatten_nil, List.append_nil]
                rw [← List.append_assoc]
                exact this
            case measure => simp [intOf]; omega
          | false =>
            have He : Hid (chgE G F n = some (leB 1 0 ++ (leB 1 n.length ++ n))) := Lib.hid (by unfold chgE; rw [Hx.out, Hy.out, if_neg (by intro e; injection e with e1 e2; exact hb2 e2), His.out]; rfl)
            go_wp2_with fail
            refine (layNumber_any _ w2.heap.size _ 0 1 _ (rowOnly Hown.out hOa.out) (Nat.le_trans hszr hOa.out.size) (by omega) (by omega) (by omega)).mono ?_
            rintro e w3 ⟨v3, rfl, h3, hB3⟩
            have H3 := Lib.hid h3
            have HN3 := Lib.hid (hB3.row (HNj.out.only hOa.out) (by decide))
            have HO3 := Lib.hid (hB3.only (HO.out.plus hOa.out) (Nat.le_refl _))
            have hs3 : w2.heap.size ≤ w3.heap.size := HO3.out.size
            clear h3 hB3
            go_wp2_with fail
            refine (layText_any _ w2.heap.size _ n 1 _ H3.out hs3 (by rw [List.length_append, length_leB]; omega) (by omega) (by omega)).mono ?_
            rintro e w4 ⟨v4, rfl, h4, hB4⟩
            have H4 := Lib.hid h4
            have HN4 := Lib.hid (hB4.row HN3.out (by decide))
            have HO4 := Lib.hid (hB4.only HO3.out (Nat.le_refl _))
            clear h4 hB4
            go_wp2
            go_roundw
            case rel =>
              refine ⟨j + 1, by omega, by go_num, ?_, ?_, HN4.out, HO4.out⟩
              · rw [htk.out, chgL_snoc, HL.out, He.out]; simp
              · rw [htk.out, chgL_snoc, HL.out, He.out]
                have := H4.out
                simp only [Option.toList_some, List.flatten_append, List.flatten_cons, List.flatten_nil, List.append_nil]
                rw [← List.append_assoc, ← List.append_assoc]
                exact this
            case measure => simp [intOf]; omega
      · cases is with
        | true =>
          obtain ⟨hn1, hn2, hn3⟩ := hsome.out His.out
          rw [Hx.out] at hn2 hn3
          simp only at hn2 hn3
          have hxn : xn.length ≤ 255 := by rw [hn3]; exact hn1
          clear hn3
          have He : Hid (chgE G F n = some (leB 1 1 ++ fileB (xn, xt))) := Lib.hid (by unfold chgE; rw [Hx.out, Hy.out, if_neg (by intro e; injection e with e1 e2; exact hb1 e1), His.out]; rfl)
          go_wp2_with fail
          refine (layNumber_any _ w2.heap.size _ 1 1 _ (rowOnly Hown.out hOa.out) (Nat.le_trans hszr hOa.out.size) (by omega) (by omega) (by omega)).mono ?_
          rintro e w3 ⟨v3, rfl, h3, hB3⟩
          have hb3 := hB3.blk (IsBlk.made wr _) (by decide)
          have q0 : w3.cell? ⟨wr.heap.size, 0, none⟩ = some (.string ⟨xn.toArray⟩) := hb3.cell 0
          have q1 : w3.cell? ⟨wr.heap.size, 1, none⟩ = some (.string ⟨xt.toArray⟩) := hb3.cell 1
          have H3 := Lib.hid h3
          have HN3 := Lib.hid (hB3.row (HNj.out.only hOa.out) (by decide))
          have HO3 := Lib.hid (hB3.only (HO.out.plus hOa.out) (Nat.le_refl _))
          have hs3 : w2.heap.size ≤ w3.heap.size := HO3.out.size
          clear h3 hB3 hb3
          go_wp2_with fail
          refine (layFile_any _ w2.heap.size _ (xn, xt) _ H3.out hs3 (by rw [List.length_append, length_leB]; omega) (by simp only; omega) (by simp only; omega)).mono ?_
          rintro e w4 ⟨v4, rfl, h4, hB4⟩
          have H4 := Lib.hid h4
          have HN4 := Lib.hid (hB4.row HN3.out (by decide))
          have HO4 := Lib.hid (hB4.only HO3.out (Nat.le_refl _))
          clear h4 hB4 q0 q1
          go_wp2
          go_roundw
          case rel =>
            refine ⟨j + 1, by omega, by go_num, ?_, ?_, HN4.out, HO4.out⟩
            · rw [htk.out, chgL_snoc, HL.out, He.out]; simp
            · rw [htk.out, chgL_snoc, HL.out, He.out]
              have := H4.out
              simp only [Option.toList_some, List.flatten_append, List.flatten_cons, List.flatten_nil, List.append_nil]
              rw [← List.append_assoc]
              exact this
          case measure => simp [intOf]; omega
        | false =>
          have He : Hid (chgE G F n = some (leB 1 0 ++ (leB 1 n.length ++ n))) := Lib.hid (by unfold chgE; rw [Hx.out, Hy.out, if_neg (by intro e; injection e with e1 e2; exact hb1 e1), His.out]; rfl)
          go_wp2_with fail
          refine (layNumber_any _ w2.heap.size _ 0 1 _ (rowOnly Hown.out hOa.out) (Nat.le_trans hszr hOa.out.size) (by omega) (by omega) (by omega)).mono ?_
          rintro e w3 ⟨v3, rfl, h3, hB3⟩
          have H3 := Lib.hid h3
          have HN3 := Lib.hid (hB3.row (HNj.out.only hOa.out) (by decide))
          have HO3 := Lib.hid (hB3.only (HO.out.plus hOa.out) (Nat.le_refl _))
          have hs3 : w2.heap.size ≤ w3.heap.size := HO3.out.size
          clear h3 hB3
          go_wp2_with fail
          refine (layText_any _ w2.heap.size _ n 1 _ H3.out hs3 (by rw [List.length_append, length_leB]; omega) (by omega) (by omega)).mono ?_
          rintro e w4 ⟨v4, rfl, h4, hB4⟩
          have H4 := Lib.hid h4
          have HN4 := Lib.hid (hB4.row HN3.out (by decide))
          have HO4 := Lib.hid (hB4.only HO3.out (Nat.le_refl _))
          clear h4 hB4
          go_wp2
          go_roundw
          case rel =>
            refine ⟨j + 1, by omega, by go_num, ?_, ?_, HN4.out, HO4.out⟩
            · rw [htk.out, chgL_snoc, HL.out, He.out]; simp
            · rw [htk.out, chgL_snoc, HL.out, He.out]
              have := H4.out
              simp only [Option.toList_some, List.flatten_append, List.flatten_cons, List.flatten_nil, List.append_nil]
              rw [← List.append_assoc, ← List.append_assoc]
              exact this
          case measure => simp [intOf]; omega
    · have hge : ¬ (j : Int) < (ns.length : Int) := by omega
      have hjF : j = ns.length := by omega
      subst hjF
      have etk : ns.take ns.length = ns := List.take_length
      rw [etk] at Hown ⊢
      clear etk
      have hCL : (chgL G F ns).length ≤ 255 := by
        have h1 : (chgL G F ns).length ≤ ns.length := List.length_filterMap_le _ _
        omega
      have hCF : (chgL G F ns).flatten.length ≤ 840000 := by
        have := chg_flat (G := G) HM.out ns Hns.out
        have h2 : 3290 * ns.length ≤ 3290 * 255 := Nat.mul_le_mul_left _ (by omega)
        omega
      have hun : Hid (changeB G F ns = leB 1 (chgL G F ns).length ++ (chgL G F ns).flatten) := Lib.hid rfl
      generalize chgL G F ns = CL at *
      generalize CL.flatten = FL at *
      have hszr := HO.out.size
      go_wp2_with fail
      refine (layNumber_any _ wr.heap.size _ CL.length 1 [] (OwnB.nil _ _) (Nat.le_refl _) (by simp) (by omega) (by omega)).mono ?_
      rintro e w3 ⟨v3, rfl, h3, hB3⟩
      rw [List.nil_append] at h3
      have hO3 := hB3.only (Only.refl [] wr) (Nat.le_refl _)
      have H3 := Lib.hid h3
      obtain ⟨a6, c6, rfl, hs6, hn6, -⟩ := (OwnB.shape (rowOnly Hown.out hO3))
      have Hs6 := Lib.hid hs6
      have HO3 := Lib.hid hO3
      have hs3 := hO3.size
      clear h3 hB3 hO3 hs6 hn6
      have hl3 : (leB 1 CL.length).length + FL.length ≤ 100000000 := by rw [length_leB]; omega
      go_wp2_with (at_builtin; refine wpList_append_bo rfl _ _ rfl wr.heap.size _ _ rfl H3.out a6 FL.length c6 FL rfl Hs6.out hl3 hs3 ?_; intro v' w' h2 hB)
      go_ret
      refine ⟨v', rfl, ?_, ?_⟩
      · rw [HnE.out, hun.out]
        exact ownsRow_base_a h2 (Nat.le_trans HO2.out.size HO.out.size)
      · exact HO2.out.plus (HO.out.plus (hB.only HO3.out (Nat.le_refl _)))

end Go.Proofs.YtgmkgpbhgoileaaGreat
namespace Go.Proofs.YtgmkgpbhgoileaaGreat
set_option maxRecDepth 100000
set_option linter.unusedVariables false
open Go.RowKit Go.Sort Go.Maps

/-- What keep answers. -/
def KeepToG (w : World) (sp lp pd bl bm bn : Nat) (L : LS) (rs : List (List UInt8)) (k : Int) (G N : List FileM) (e : Ending) (w' : World) : Prop :=
  e = .returned (.int .i64 0) ∧ ∃ D' L' rs' k', StAt w' sp lp pd bl bm bn D' L' rs' k' N ∧ L'.size = L.size ∧ 0 ≤ k' ∧ (k' ≤ k + 600 ∧ (rs' = rs ++ [changeB G N (namesM [G, N])] ∨ rs' = [setB N]) ∧ L'.gen ≤ L.gen + 1) ∧ Only [sp, lp, pd, bl, bm] w w'
/-- Behind the deferred function. -/
theorem KB.doneG {w w2 : World} {q sp lp pd bl bm b bn : Nat} {D' : DS} {L L' : LS} {rs rs' : List (List UInt8)} {k k' : Int} {G N : List FileM} (h : KB w2 q sp lp b bn N) (hW : WL w2 lp pd bl bm D' L' rs' k') (hO : Only [lp, pd, bl, bm] w w2) (hq : w.heap.size = q) (hl : lp < q) (hp : pd < q) (hbl : bl < q) (hbm : bm < q) (hs : sp < q) (hns : sp ∉ [lp, pd, bl, bm]) (hnb : bn ∉ [lp, pd, bl, bm]) (hbs : bn ≠ sp) (hb : bn < q) (hsz : L'.size = L.size) (hk0 : 0 ≤ k') (hk : k' ≤ k + 600 ∧ (rs' = rs ++ [changeB G N (namesM [G, N])] ∨ rs' = [setB N]) ∧ L'.gen ≤ L.gen + 1) :
    KeepToG w sp lp pd bl bm bn L rs k G N (.returned (.int .i64 0)) (w2.setCell ⟨sp, 1, none⟩ (.map (some bn))) := by
  have hO1 : Only [sp] w2 (w2.setCell ⟨sp, 1, none⟩ (.map (some bn))) := only_put w2 _
  refine ⟨rfl, D', L', rs', k', ⟨h.blk.put 1 (.map (some bn)), ?_, h.set.keep hO1 (by simpa using hbs), hns, hnb⟩, hsz, hk0, hk, ?_⟩
  · simp only [List.mem_cons, List.not_mem_nil, or_false, not_or] at hns
    exact ⟨hW.disk.keep hO1 (by simp; omega) (by simp; omega) (by simp; omega), hW.log.keep hO1 (by simp; omega), hW.live, hW.ok, hW.ne⟩
  · exact (hO.trans hO1).into (fun j hj => .inl (by simp at hj ⊢; omega))

set_option maxHeartbeats 8000000 in
theorem keep_gen (w : World) (sp lp pd bl bm b bn : Nat) (D : DS) (L : LS) (rs : List (List UInt8)) (k : Int) (G N : List FileM) (aw : Option Addr) (cw : Nat) (h : StAt w sp lp pd bl bm b D L rs k G) (hN : SetAt w bn N) (hnb : bn ∉ [lp, pd, bl, bm]) (hns : bn ≠ sp) (hM : Modest N) (hMG : Modest G) (hGN : G.length + N.length ≤ 255) (hw : Src w aw (setB N).length (setB N))
    (hp : partsN (setB N).length ≤ 255) (hpc : partsN (changeB G N (namesM [G, N])).length ≤ 255) (hsz : partsN (setB N).length ≤ L.size) (hg : L.gen < 4294967295) (hk0 : 0 ≤ k) (hk : k < 10000) (haw : 0 < (setB N).length → ∀ x y, aw = some ⟨x, y, none⟩ → x ∉ [lp, pd, bl, bm]) :
    Calls Tryz.prog 29 #[.pointer (some ⟨sp, 0, none⟩), .map (some bn), .slice aw (setB N).length cw] w (KeepToG w sp lp pd bl bm bn L rs k G N) := by
  have hmf : ∀ (fn : Fn) (first cap : Array Value) (w : World), (Instr.makeFunc fn first cap).run Tryz.prog w = .ok (.func fn first cap) w := fun _ _ _ _ => rfl
  have hspl := h.blk.lt
  have hbnl := hN.lt
  have hlpl := IsBlk.lt h.wl.log
  have hpdl := h.wl.disk.plt
  have hbll := h.wl.disk.blt
  have hbml := h.wl.disk.mlt
  have H := Lib.hid h
  have HN := Lib.hid hN
  have Hw := Lib.hid hw
  have HM := Lib.hid hM
  have HMG := Lib.hid hMG
  have Haw := Lib.hid haw
  have hO3 := Lib.hid ((((Only.refl [] w).alloc (.cells #[.pointer (some ⟨sp, 0, none⟩)] 30)).alloc (.cells #[.map (some bn)] 59)).alloc (.cells #[.int .i64 0] 31))
  have hKB : Hid (KB (((w.alloc (.cells #[.pointer (some ⟨sp, 0, none⟩)] 30)).alloc (.cells #[.map (some bn)] 59)).alloc (.cells #[.int .i64 0] 31)) w.heap.size sp lp b bn N) := Lib.hid (by
    refine ⟨((IsBlk.made w _).alloc _).alloc _, ?_, ?_, h.blk.only hO3.out (by simp), hN.more hO3.out⟩
    · have := (IsBlk.made (w.alloc (.cells #[.pointer (some ⟨sp, 0, none⟩)] 30)) (.cells #[.map (some bn)] 59)).alloc (.cells #[.int .i64 0] 31)
      rwa [World.size_alloc] at this
    · have := IsBlk.made ((w.alloc (.cells #[.pointer (some ⟨sp, 0, none⟩)] 30)).alloc (.cells #[.map (some bn)] 59)) (.cells #[.int .i64 0] 31)
      rwa [World.size_alloc, World.size_alloc] at this)
  clear h hN hw hM hMG haw
  go_enter_defers Tryz.func29, Tryz.ntmps29
  go_wp2_with fail
  have hszA : w.heap.size + 1 + 1 + 1 = (((w.alloc (.cells #[.pointer (some ⟨sp, 0, none⟩)] 30)).alloc (.cells #[.map (some bn)] 59)).alloc (.cells #[.int .i64 0] 31)).heap.size := by simp
  generalize ((w.alloc (.cells #[.pointer (some ⟨sp, 0, none⟩)] 30)).alloc (.cells #[.map (some bn)] 59)).alloc (.cells #[.int .i64 0] 31) = wA at *
  generalize hq : w.heap.size = q at *
  have Hq := Lib.hid hq
  clear hq
  have c3 : wA.cell? ⟨q, 0, none⟩ = some (.pointer (some ⟨sp, 0, none⟩)) := hKB.out.b3.cell 0
  have c4 : wA.cell? ⟨q + 1, 0, none⟩ = some (.map (some bn)) := hKB.out.b4.cell 0
  have s0 : wA.cell? ⟨sp, 0, none⟩ = some (.pointer (some ⟨lp, 0, none⟩)) := hKB.out.blk.cell 0
  have s1 : wA.cell? ⟨sp, 1, none⟩ = some (.map (some b)) := hKB.out.blk.cell 1
  have Hpost : Hid (L.next + partsN (changeB G N (namesM [G, N])).length ≤ L.size ∨ L.size < L.next + partsN (changeB G N (namesM [G, N])).length) := Lib.hid (by omega)
  generalize hcb : changeB G N (namesM [G, N]) = cb at *
  have Hcb := Lib.hid hcb
  clear hcb
  have keepS : Hid (∀ W : World, KB W q sp lp b bn N → W.cell? ⟨q, 0, none⟩ = some (.pointer (some ⟨sp, 0, none⟩)) ∧ W.cell? ⟨q + 1, 0, none⟩ = some (.map (some bn)) ∧ W.cell? ⟨sp, 0, none⟩ = some (.pointer (some ⟨lp, 0, none⟩)) ∧ W.cell? ⟨sp, 1, none⟩ = some (.map (some b)) ∧ W.cell? ⟨q + 1 + 1, 0, none⟩ = some (.int .i64 0) ∧ W.frozen? ⟨q + 1 + 1, 0, none⟩ = false) := Lib.hid (fun W h => ⟨h.b3.cell 0, h.b4.cell 0, h.blk.cell 0, h.blk.cell 1, h.b6.cell 0, h.b6.notFrozen 0⟩)
  have hall := keepS.out wA hKB.out
  go_region_held3 (fun W => W.cell? ⟨q, 0, none⟩ = some (.pointer (some ⟨sp, 0, none⟩)) ∧ W.cell? ⟨q + 1, 0, none⟩ = some (.map (some bn)) ∧ W.cell? ⟨sp, 0, none⟩ = some (.pointer (some ⟨lp, 0, none⟩)) ∧ W.cell? ⟨sp, 1, none⟩ = some (.map (some b)) ∧ W.cell? ⟨q + 1 + 1, 0, none⟩ = some (.int .i64 0) ∧ W.frozen? ⟨q + 1 + 1, 0, none⟩ = false) (first | exact hall | assumption | exact keepS.out _ (hKB2.put6 (by omega) (by omega)))
      (first
        | (go_at_call 47
           refine (appended _ lp pd bl bm D L rs k a1 c1 cb (H.out.wl.more hO1) hs1 hpc hk0 (by omega)).mono ?_
           rintro e w2 ⟨rfl, hO2, hx2⟩
           have hKB2 := hKB1.keep hO2 (by simp; omega) (by simp; omega) (by simp; omega) H.out.ns hnb
           have hS2 := keepS.out w2 hKB2
           have hOw2 := (hO1.trans hO2))
        | (go_at_call 48
           refine (change_gen _ bn b G N (H.out.set.more (hO3.out.drew)) (hKB.out.set.more (Only.refl [] wA).drew) HM.out HMG.out hGN).mono ?_
           rintro e w1 ⟨v1, rfl, hv1, hO1a⟩
           rw [Hcb.out] at hv1
           obtain ⟨a1, c1, rfl, hs1, hn1, -⟩ := OwnB.shape hv1
           have hO1b := ((Only.refl [] wA).drew).plus hO1a
           have hO1 := hO3.out.plus hO1b
           have hKB1 := hKB.out.keep hO1b (by simp) (by simp) (by simp) (by simp) (by simp)
           have hS1 := keepS.out w1 hKB1))
  have hspq : sp < q := by have := Hq.out; omega
  have HKB3 := Lib.hid (hKB2.put6 (by omega) (by omega))
  have hOs : Only [q + 1 + 1] w2 (w2.setCell ⟨q + 1 + 1, 0, none⟩ (.int .i64 0)) := only_put w2 _
  have HO2 : Hid (Only [lp, pd, bl, bm] w (w2.setCell ⟨q + 1 + 1, 0, none⟩ (.int .i64 0))) := Lib.hid ((hOw2.trans hOs).into (fun j hj => by
    simp at hj ⊢; have := Hq.out; omega))
  have HWk : Hid (∀ D' L' rs' k', WL w2 lp pd bl bm D' L' rs' k' → WL (w2.setCell ⟨q + 1 + 1, 0, none⟩ (.int .i64 0)) lp pd bl bm D' L' rs' k') := Lib.hid (fun D' L' rs' k' hW =>
    ⟨hW.disk.keep hOs (by simp; omega) (by simp; omega) (by simp; omega), hW.log.keep hOs (by simp; omega), hW.live, hW.ok, hW.ne⟩)
  have Hx2 := Lib.hid hx2
  clear hx2 hOs hKB1 hKB2 hS1 hS2 hO1 hO1a hO1b hO2 hOw2 hs1 hn1 hv1 hall c3 c4 s0 s1 hKB
  rename_i hheld
  clear hheld
  generalize w2.setCell ⟨q + 1 + 1, 0, none⟩ (.int .i64 0) = W3 at *
  obtain ⟨g3, g4, g0, g1, g6, gz⟩ := keepS.out W3 HKB3.out
  have Hk4 : Hid (∀ W : World, KB W q sp lp b bn N → ∀ D' L' rs' k', WL W lp pd bl bm D' L' rs' k' → WL (W.setCell ⟨q + 1 + 1, 0, none⟩ (.int .i64 0)) lp pd bl bm D' L' rs' k') := Lib.hid (fun W _ D' L' rs' k' hW =>
    ⟨hW.disk.keep (only_put W _) (by simp; omega) (by simp; omega) (by simp; omega), hW.log.keep (only_put W _) (by simp; omega), hW.live, hW.ok, hW.ne⟩)
  have Ho4 : Hid (∀ W : World, Only [lp, pd, bl, bm] w W → Only [lp, pd, bl, bm] w (W.setCell ⟨q + 1 + 1, 0, none⟩ (.int .i64 0))) := Lib.hid (fun W hW => (hW.trans (only_put (p := q + 1 + 1) (i := 0) W (.int .i64 0))).into (fun j hj => by
    simp at hj ⊢; have := Hq.out; omega))
  by_cases hfit : L.next + partsN cb.length ≤ L.size
  · rw [decide_eq_true hfit]
    have HKB4 := Lib.hid (HKB3.out.put6 (by omega) (by omega))
    obtain ⟨D', hW'⟩ : ∃ D', WL w2 lp pd bl bm D' { L with next := L.next + partsN cb.length, seq := L.seq + 1 } (rs ++ [cb]) (k + partsN cb.length + 1) := by
      have := Hx2.out; rw [if_pos hfit] at this; exact this
    have hfin := Lib.hid (HKB4.out.doneG (L := L) (G := G) (rs := rs) (k := k) (Hk4.out W3 HKB3.out _ _ _ _ (HWk.out _ _ _ _ hW')) (Ho4.out W3 HO2.out) Hq.out (by have := Hq.out; omega) (by have := Hq.out; omega) (by have := Hq.out; omega) (by have := Hq.out; omega) hspq H.out.ns hnb hns (by have := Hq.out; omega) rfl (by omega) ⟨by omega, .inl (by rw [Hcb.out]), by show L.gen ≤ L.gen + 1; omega⟩)
    clear hW'
    go_wp2_with fail
    generalize W3.setCell ⟨q + 1 + 1, 0, none⟩ (.int .i64 0) = W4 at *
    obtain ⟨d3, d4, d0, d1, d6, -⟩ := keepS.out W4 HKB4.out
    have dz : W4.frozen? ⟨sp, 1, none⟩ = false := HKB4.out.blk.notFrozen 1
    clear g3 g4 g0 g1 g6 gz
    refine leaves_cons (f := 46) (args := #[.pointer (some ⟨q + 1 + 1, 0, none⟩), .pointer (some ⟨q + 1, 0, none⟩), .pointer (some ⟨q, 0, none⟩)]) (by simp) (by simp [go_sem]) ?_
    refine (keep_done (q + 1 + 1) (q + 1) q sp bn .returning _ d6 d4 d3 ⟨_, d1⟩ dz).mono ?_
    rintro e u' w'' ⟨rfl, rfl, rfl⟩
    have d6' : (W4.setCell ⟨sp, 1, none⟩ (.map (some bn))).cell? ⟨q + 1 + 1, 0, none⟩ = some (.int .i64 0) := ((HKB4.out.b6.only (only_put (p := sp) (i := 1) W4 (.map (some bn))) (by simp; omega)).cell 0)
    clear HKB4 d3 d4 d1 d6 dz
    generalize W4.setCell ⟨sp, 1, none⟩ (.map (some bn)) = W5 at *
    simp [Leaves, settle, results, Tryz.results29, go_sem, d6']
    exact hfin.out
  · rw [decide_eq_false hfit]
    have HW3 : Hid (WL W3 lp pd bl bm D L rs k) := Lib.hid (HWk.out _ _ _ _ (by have := Hx2.out; rw [if_neg hfit] at this; exact this))
    have Hs3 : Hid (Src W3 aw (setB N).length (setB N)) := Lib.hid (Hw.out.keep HO2.out Haw.out)
    go_wp2_with fail
    refine (freshened _ lp pd bl bm D L rs k aw cw (setB N) HW3.out Hs3.out hp hsz hg hk0 (by omega)).mono ?_
    rintro e w4 ⟨rfl, D', hW', hO'⟩
    have hKB4 := HKB3.out.keep hO' (by simp; omega) (by simp; omega) (by simp; omega) H.out.ns hnb
    have HKB5 := Lib.hid (hKB4.put6 (by omega) (by omega))
    have hfin := Lib.hid (HKB5.out.doneG (L := L) (G := G) (rs := rs) (k := k) (Hk4.out w4 hKB4 _ _ _ _ hW') (Ho4.out w4 ((HO2.out.trans hO').into (fun j hj => .inl (by simp at hj ⊢; omega)))) Hq.out (by have := Hq.out; omega) (by have := Hq.out; omega) (by have := Hq.out; omega) (by have := Hq.out; omega) hspq H.out.ns hnb hns (by have := Hq.out; omega) rfl (by omega) ⟨by omega, .inr rfl, Int.le_refl _⟩)
    clear g3 g4 g0 g1 g6 gz
    obtain ⟨g3, g4, g0, g1, g6, gz⟩ := keepS.out w4 hKB4
    clear hW' hO' hKB4 HKB3
    have HKB4 := HKB5
    clear HKB5
    go_wp2_with fail
    generalize w4.setCell ⟨q + 1 + 1, 0, none⟩ (.int .i64 0) = W4 at *
    obtain ⟨d3, d4, d0, d1, d6, -⟩ := keepS.out W4 HKB4.out
    have dz : W4.frozen? ⟨sp, 1, none⟩ = false := HKB4.out.blk.notFrozen 1
    clear g3 g4 g0 g1 g6 gz
    refine leaves_cons (f := 46) (args := #[.pointer (some ⟨q + 1 + 1, 0, none⟩), .pointer (some ⟨q + 1, 0, none⟩), .pointer (some ⟨q, 0, none⟩)]) (by simp) (by simp [go_sem]) ?_
    refine (keep_done (q + 1 + 1) (q + 1) q sp bn .returning _ d6 d4 d3 ⟨_, d1⟩ dz).mono ?_
    rintro e u' w'' ⟨rfl, rfl, rfl⟩
    have d6' : (W4.setCell ⟨sp, 1, none⟩ (.map (some bn))).cell? ⟨q + 1 + 1, 0, none⟩ = some (.int .i64 0) := ((HKB4.out.b6.only (only_put (p := sp) (i := 1) W4 (.map (some bn))) (by simp; omega)).cell 0)
    clear HKB4 d3 d4 d1 d6 dz
    generalize W4.setCell ⟨sp, 1, none⟩ (.map (some bn)) = W5 at *
    simp [Leaves, settle, results, Tryz.results29, go_sem, d6']
    exact hfin.out


theorem fits_all (w : World) (lp pd : Nat) (L : LS) (a : Option Addr) (cap : Nat) (b : List UInt8) (h : LogAt w lp pd L) (hs : Src w a b.length b) (hsz : L.size ≤ 128) (hb : b.length ≤ 1000000) :
    Calls Tryz.prog 27 #[.pointer (some ⟨lp, 0, none⟩), .slice a b.length cap] w fun e w' => e = .returned (.bool (decide (partsN b.length ≤ L.size))) ∧ Only [] w w' := by
  by_cases hl : partsN b.length ≤ 255
  · exact fits_any w lp pd L a cap b h hs hl
  · rw [decide_eq_false (show ¬ partsN b.length ≤ L.size by omega)]
    go_enter Tryz.func27, Tryz.ntmps27
    go_wp2_with fail
    refine (cut_long _ 1 0 a b.length cap (by decide) (by omega) (by omega)).mono ?_
    rintro e w' ⟨rfl, rfl⟩
    go_wp2
    go_ret
    exact ⟨rfl, Only.refl _ _⟩

def CommitToG (w : World) (sp lp pd bl bm b : Nat) (D : DS) (L : LS) (rs : List (List UInt8)) (k : Int) (F l : List FileM) (e : Ending) (w' : World) : Prop :=
  (soundM l = false → e = .returned (.int .i64 1) ∧ StAt w' sp lp pd bl bm b D L rs k F ∧ Only [] w w') ∧
  (soundM l = true → L.size < partsN (setB (buildF l)).length → e = .returned (.int .i64 4) ∧ StAt w' sp lp pd bl bm b D L rs k F ∧ Only [] w w') ∧
  (soundM l = true → partsN (setB (buildF l)).length ≤ L.size → F = buildF l → e = .returned (.int .i64 0) ∧ StAt w' sp lp pd bl bm b D L rs k F ∧ Only [] w w') ∧
  (soundM l = true → partsN (setB (buildF l)).length ≤ L.size → F ≠ buildF l → e = .returned (.int .i64 0) ∧ ∃ bn D' L' rs' k', StAt w' sp lp pd bl bm bn D' L' rs' k' (buildF l) ∧ L'.size = L.size ∧ 0 ≤ k' ∧ (k' ≤ k + 600 ∧ (rs' = rs ++ [changeB F (buildF l) (namesM [F, buildF l])] ∨ rs' = [setB (buildF l)]) ∧ L'.gen ≤ L.gen + 1) ∧ w.heap.size ≤ bn ∧ Only [sp, lp, pd, bl, bm] w w')

set_option maxHeartbeats 8000000 in
theorem commit_gen (w : World) (sp lp pd bl bm b : Nat) (D : DS) (L : LS) (rs : List (List UInt8)) (k : Int) (F l : List FileM) (a : Option Addr) (len cap : Nat) (h : StAt w sp lp pd bl bm b D L rs k F) (hl : FilesAt w a len l) (hm : ∀ f ∈ l, f.1.length ≤ maxLen ∧ f.2.length ≤ maxLen) (hlen : len ≤ maxLen)
    (hF : Modest F) (hF8 : F.length ≤ 8) (hpc : soundM l = true → partsN (setB (buildF l)).length ≤ L.size → partsN (changeB F (buildF l) (namesM [F, buildF l])).length ≤ 255) (hg : L.gen < 4294967295) (hk0 : 0 ≤ k) (hk : k < 10000) :
    Calls Tryz.prog 10 #[.pointer (some ⟨sp, 0, none⟩), .slice a len cap] w (CommitToG w sp lp pd bl bm b D L rs k F l) := by
  have H := Lib.hid h
  have Hl := Lib.hid hl
  have Hm := Lib.hid hm
  have HF := Lib.hid hF
  have Hpc := Lib.hid hpc
  have hLs := h.wl.size
  have hspl := h.blk.lt
  have hlpl := IsBlk.lt h.wl.log
  have hpdl := h.wl.disk.plt
  have hbll := h.wl.disk.blt
  have hbml := h.wl.disk.mlt
  clear h hl hm hF hpc
  go_enter Tryz.func10, Tryz.ntmps10
  go_wp2_with fail
  refine (setOf_any _ a len cap l Hl.out Hm.out hlen).mono ?_
  rintro e w1 ⟨hyes, hno, hO1⟩
  have HO1 := Lib.hid hO1
  cases hs : soundM l with
  | false =>
    obtain rfl := hno hs
    have Hs := Lib.hid hs
    clear hyes hno hO1 hs
    go_wp2
    go_ret
    exact ⟨fun _ => ⟨rfl, H.out.more HO1.out, HO1.out⟩, fun h => (by rw [Hs.out] at h; cases h), fun h => (by rw [Hs.out] at h; cases h), fun h => (by rw [Hs.out] at h; cases h)⟩
  | true =>
    obtain ⟨bn, rfl, hset, hbn⟩ := hyes hs
    have Hs := Lib.hid hs
    have hpc := Hpc.out hs
    have hbl : (setB (buildF l)).length ≤ 1000000 := by
      have h1 := sound_modest hs
      have h2 := flat_len h1.2
      have h3 := h1.1
      unfold setB
      rw [List.length_append, length_leB]
      omega
    have hN8 : (buildF l).length ≤ 8 := by
      have hs' := hs
      simp only [soundM, Bool.and_eq_true, decide_eq_true_eq] at hs'
      rw [(build_perm l hs'.2.2).length_eq]; omega
    have hFN : F.length + (buildF l).length ≤ 255 := by omega
    have HM := Lib.hid (sound_modest hs)
    have Hset := Lib.hid hset
    have hbnl := hset.lt
    have hsz1 := hO1.size
    clear hyes hno hO1 hs hset Hpc
    generalize hN : buildF l = N at *
    have HN := Lib.hid hN
    clear hN
    go_wp2_with fail
    refine (whole_any _ bn N Hset.out HM.out).mono ?_
    rintro e w2 ⟨v2, rfl, hv2, hO2⟩
    obtain ⟨a2, c2, rfl, hs2, hn2, -⟩ := OwnB.shape hv2
    have Hs2 := Lib.hid hs2
    have Hn2 := Lib.hid hn2
    have HO2 := Lib.hid (HO1.out.plus hO2)
    have Hset2 := Lib.hid (Hset.out.more hO2)
    have H2 := Lib.hid (H.out.more HO2.out)
    have c0 := H2.out.c0
    have c1 := H2.out.c1
    clear hv2 hs2 hn2 hO2 Hset
    go_wp2_with fail
    refine (fits_all _ lp pd L a2 c2 (setB N) H2.out.wl.log Hs2.out hLs hbl).mono ?_
    rintro e w3 ⟨rfl, hO3⟩
    have Hs3 := Lib.hid (Hs2.out.more hO3)
    have HO3 := Lib.hid (HO2.out.plus hO3)
    have Hset3 := Lib.hid (Hset2.out.more hO3)
    have H3 := Lib.hid (H2.out.more hO3)
    have d0 := H3.out.c0
    have d1 := H3.out.c1
    have hsz23 := hO3.size
    clear hO3 c0 c1 Hs2 HO2 Hset2 H2
    by_cases hfit : partsN (setB N).length ≤ L.size
    · have hp : partsN (setB N).length ≤ 255 := by omega
      have hpc := hpc hfit
      rw [decide_eq_true hfit]
      go_wp2_with fail
      refine (sameSet_any _ b bn F N H3.out.set Hset3.out).mono ?_
      rintro e w4 ⟨rfl, hO4⟩
      have Hs4 := Lib.hid (Hs3.out.more hO4)
      have HO4 := Lib.hid (HO3.out.plus hO4)
      have Hset4 := Lib.hid (Hset3.out.more hO4)
      have H4 := Lib.hid (H3.out.more hO4)
      have hsz34 := hO4.size
      clear hO4 d0 d1 Hs3 HO3 Hset3 H3
      by_cases heq : F = N
      · rw [decide_eq_true heq]
        have Heq := Lib.hid heq
        clear heq
        go_wp2
        go_ret
        refine ⟨fun h => ?_, fun _ h => ?_, fun _ _ _ => ⟨rfl, H4.out, HO4.out⟩, fun _ _ h => ?_⟩
        · rw [Hs.out] at h; cases h
        · rw [HN.out] at h; omega
        · rw [HN.out] at h; exact absurd Heq.out h
      · rw [decide_eq_false heq]
        have Heq := Lib.hid heq
        clear heq
        have hbnn : bn ∉ [lp, pd, bl, bm] := by simp; omega
        go_wp2_with fail
        refine (keep_gen _ sp lp pd bl bm b bn D L rs k F N a2 c2 H4.out Hset4.out hbnn (by omega) HM.out HF.out hFN Hs4.out hp hpc hfit hg hk0 hk ?haw).mono ?_
        case haw =>
          intro hp0 x y e
          have := (Hn2.out x y e).1
          simp; omega
        rintro e w5 ⟨rfl, D', L', rs', k', hS5, hsz5, hk5, hk6, hO5⟩
        have HS5 := Lib.hid hS5
        have HO5 := Lib.hid (HO4.out.trans hO5)
        clear hS5 hO5
        go_wp2
        go_ret
        refine ⟨fun h => ?_, fun _ h => ?_, fun _ _ h => ?_, fun _ _ _ => ⟨rfl, bn, D', L', rs', k', by rw [HN.out]; exact HS5.out, hsz5, hk5, by rw [HN.out]; exact hk6, hbn, HO5.out.into (fun j hj => .inl (by simpa using hj))⟩⟩
        · rw [Hs.out] at h; cases h
        · rw [HN.out] at h; omega
        · rw [HN.out] at h; exact absurd h Heq.out
    · rw [decide_eq_false hfit]
      go_wp2
      go_ret
      refine ⟨fun h => ?_, fun _ _ => ⟨rfl, H3.out, HO3.out⟩, fun _ h => ?_, fun _ h => ?_⟩
      · rw [Hs.out] at h; cases h
      · rw [HN.out] at h; omega
      · rw [HN.out] at h; omega

end Go.Proofs.YtgmkgpbhgoileaaGreat
