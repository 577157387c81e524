/-
  The document's Places.
-/
import Derived.Test.YtildkedplmjdaaaGreatDoorPcJ
namespace Go.Proofs.YtildkedplmjdaaaGreatDoor
set_option maxRecDepth 100000
set_option linter.unusedVariables false
open Go.RowKit Go.Sort

def placesF (l : List FuncM) : List Nat := l.flatMap fun f => f.at_ :: placesB f.body
def placesP (P : ProgM) : List Nat := P.vars.map DeclM.at_ ++ P.locks.map DeclM.at_ ++ placesF P.funcs
theorem dcells_at : ∀ (l : List DeclM) (i : Nat) (x : DeclM), l[i]? = some x → (dcells l)[i * 2 + 1]? = some (.int .i64 x.at_)
  | [], i, x, h => by simp at h
  | y :: l, 0, x, h => by
    simp only [List.getElem?_cons_zero, Option.some.injEq] at h
    subst h
    simp [dcells]
  | y :: l, i + 1, x, h => by
    have h' : l[i]? = some x := by simpa using h
    have := dcells_at l i x h'
    have e : dcells (y :: l) = encStr y.name :: .int .i64 y.at_ :: dcells l := by simp [dcells]
    rw [e, show (i + 1) * 2 + 1 = i * 2 + 1 + 2 by omega]
    exact this

def PlacesPTo (w : World) (P : ProgM) (r : Ending) (w' : World) : Prop := ∃ v base, r = .returned v ∧ w.heap.size ≤ base ∧ OwnP w' base v (placesP P) ∧ Only [] w w'
theorem placesF_ge : ∀ (l : List FuncM), l.length ≤ (placesF l).length
  | [] => Nat.le_refl _
  | f :: l => by
    have := placesF_ge l
    simp only [placesF, List.flatMap_cons, List.length_append, List.length_cons] at this ⊢
    omega

set_option maxHeartbeats 16000000 in
theorem dplacesP_any (w : World) (vv vl vf : Value) (P : ProgM) (h : ProgAt w vv vl vf P) (hn : P.vars.length + P.locks.length + (placesF P.funcs).length ≤ 1000000) :
    Calls Tryz.prog 42 #[.agg #[vv, vl, vf]] w (PlacesPTo w P) := by
  have hfn := placesF_ge P.funcs
  obtain ⟨⟨av, cv, rfl, hcv, hv⟩, ⟨al, cl, rfl, hcl, hl⟩, ⟨af, cf, rfl, hcf, hf⟩⟩ := h
  have HV := Lib.hid hv
  have HL := Lib.hid hl
  have HF := Lib.hid hf
  have hq := IsBlk.made w (.cells #[.slice av P.vars.length cv, .slice al P.locks.length cl, .slice af P.funcs.length cf] 30)
  have hO1 := (Only.refl [] w).alloc (.cells #[.slice av P.vars.length cv, .slice al P.locks.length cl, .slice af P.funcs.length cf] 30)
  have hs1 : (w.alloc (.cells #[.slice av P.vars.length cv, .slice al P.locks.length cl, .slice af P.funcs.length cf] 30)).heap.size = w.heap.size + 1 := by simp
  clear hv hl hf
  go_enter Tryz.func42, Tryz.ntmps42
  go_wp2_with fail
  generalize hW : w.alloc (.cells #[.slice av P.vars.length cv, .slice al P.locks.length cl, .slice af P.funcs.length cf] 30) = w1 at *
  clear hW
  generalize hqq : w.heap.size = q at *
  have HQ := Lib.hid hq
  have HO1 := Lib.hid hO1
  have Hqw : Hid (w.heap.size = q) := Lib.hid hqq
  generalize hbs : w1.heap.size = base at *
  have hqb : q < base := by omega
  have hb1 : base ≤ w1.heap.size := by omega
  have Hbase : Hid (w1.heap.size = base) := Lib.hid hbs
  clear hq hO1 hs1 hbs hqq
  go_loopw [3, 4] (fun v iv wr => ∃ j : Nat, iv = .int .i64 j ∧ j ≤ P.vars.length ∧ OwnP wr base v ((P.vars.take j).map DeclM.at_) ∧ Only [] w1 wr) (fun _ iv _ => P.vars.length - (intOf iv).toNat)
  case atStart => exact ⟨0, rfl, Nat.zero_le _, ⟨rfl, .inl ⟨rfl, rfl⟩⟩, Only.refl _ _⟩
  case round =>
    obtain ⟨j, rfl, hj, hown, hO⟩ := hrel
    have HO := Lib.hid hO
    have Hown := Lib.hid hown
    have d0 := (HQ.out.only hO (by simp)).cell 0
    have hql := (HQ.out.only hO (by simp)).lt
    have hbr : base ≤ wr.heap.size := by have := hO.size; omega
    clear hown hO
    by_cases hlt : j < P.vars.length
    · have hlti : (j : Int) < (P.vars.length : Int) := by omega
      have hj0 : (0 : Int) ≤ (j : Int) := by omega
      have hget : P.vars[j]? = some P.vars[j] := List.getElem?_eq_getElem hlt
      obtain ⟨g, hag, hg, hra⟩ := HV.out (by omega)
      have hat := hra _ _ (dcells_at _ _ _ hget)
      rw [Nat.zero_add] at hat
      have hat := ((HO1.out.plus HO.out).cell (p := ⟨g, j * 2 + 1, none⟩) (show g < w.heap.size by have := Hqw.out; omega) (by simp)).trans hat
      have hgw : g < wr.heap.size := Nat.lt_of_lt_of_le (show g < w.heap.size by have := Hqw.out; omega) (HO1.out.plus HO.out).size
      have Htk : Hid ((P.vars.take (j + 1)).map DeclM.at_ = (P.vars.take j).map DeclM.at_ ++ [P.vars[j].at_]) := Lib.hid (by rw [List.take_add_one, hget, List.map_append]; rfl)
      have hln : ((P.vars.take j).map DeclM.at_).length ≤ 1000000 := by simp only [List.length_map, List.length_take]; omega
      generalize P.vars[j] = x at *
      generalize (P.vars.take j).map DeclM.at_ = acc at *
      rw [hag] at d0
      have hq := IsBlk.made wr (.cells #[.int .i64 x.at_] 3)
      have hOa := (Only.refl [] wr).alloc (.cells #[.int .i64 x.at_] 3)
      have Hq0 := Lib.hid (hq.cell 0)
      have Hox : Hid (OwnP (wr.alloc (.cells #[.int .i64 x.at_] 3)) base u3 acc) := Lib.hid (owns_keep Hown.out hOa (by simp))
      have hsa := Nat.le_trans hbr hOa.size
      have HOa := Lib.hid (HO.out.plus hOa)
      have hTb : ∀ k ∈ ownL u3, base ≤ k := fun k hk => (World.ownsRow.lt Hown.out k (mem_ownL.1 hk)).1
      clear hq hOa hra hag
      go_wp2_with (at_builtin; refine wpList_append_i rfl _ _ rfl base u3 acc rfl Hox.out wr.heap.size 1 x.at_ rfl Hq0.out hln hsa ?_; intro v' w9 h9 hg9 hb9)
      go_roundw
      case rel => exact ⟨j + 1, by go_num, hlt, by rw [Htk.out]; exact h9, HOa.out.then hg9 [] (by simp) (fun k hk => .inr (by have := hTb k hk; have := Hbase.out; omega))⟩
      case measure => simp [intOf]; omega
    · have hlti : ¬ (j : Int) < (P.vars.length : Int) := by omega
      have hjl : j = P.vars.length := by omega
      have Hacc : Hid (OwnP wr base u3 (P.vars.map DeclM.at_)) := Lib.hid (by have := Hown.out; rw [hjl, List.take_length] at this; exact this)
      clear Hown hjl hj
      go_wp2_with fail
      clear d0 hql
      go_loopw [3, 5] (fun v iv wr => ∃ j : Nat, iv = .int .i64 j ∧ j ≤ P.locks.length ∧ OwnP wr base v (P.vars.map DeclM.at_ ++ (P.locks.take j).map DeclM.at_) ∧ Only [] w1 wr) (fun _ iv _ => P.locks.length - (intOf iv).toNat)
      case atStart => exact ⟨0, rfl, Nat.zero_le _, by rw [List.take_zero, List.map_nil, List.append_nil]; exact Hacc.out, HO.out⟩
      case round =>
        obtain ⟨j, rfl, hj, hown, hO⟩ := hrel
        have HO := Lib.hid hO
        have Hown := Lib.hid hown
        have d1 := (HQ.out.only hO (by simp)).cell 1
        have hql := (HQ.out.only hO (by simp)).lt
        have hbr : base ≤ wr.heap.size := by have := hO.size; omega
        clear hown hO
        by_cases hlt : j < P.locks.length
        · have hlti : (j : Int) < (P.locks.length : Int) := by omega
          have hj0 : (0 : Int) ≤ (j : Int) := by omega
          have hget : P.locks[j]? = some P.locks[j] := List.getElem?_eq_getElem hlt
          obtain ⟨g, hag, hg, hra⟩ := HL.out (by omega)
          have hat := hra _ _ (dcells_at _ _ _ hget)
          rw [Nat.zero_add] at hat
          have hat := ((HO1.out.plus HO.out).cell (p := ⟨g, j * 2 + 1, none⟩) (show g < w.heap.size by have := Hqw.out; omega) (by simp)).trans hat
          have hgw : g < wr.heap.size := Nat.lt_of_lt_of_le (show g < w.heap.size by have := Hqw.out; omega) (HO1.out.plus HO.out).size
          have Htk : Hid (P.vars.map DeclM.at_ ++ (P.locks.take (j + 1)).map DeclM.at_ = P.vars.map DeclM.at_ ++ (P.locks.take j).map DeclM.at_ ++ [P.locks[j].at_]) := Lib.hid (by rw [List.take_add_one, hget, List.map_append, ← List.append_assoc]; rfl)
          have hln : (P.vars.map DeclM.at_ ++ (P.locks.take j).map DeclM.at_).length ≤ 1000000 := by simp only [List.length_append, List.length_map, List.length_take]; omega
          generalize P.locks[j] = x at *
          generalize P.vars.map DeclM.at_ ++ (P.locks.take j).map DeclM.at_ = acc at *
          rw [hag] at d1
          have hq := IsBlk.made wr (.cells #[.int .i64 x.at_] 3)
          have hOa := (Only.refl [] wr).alloc (.cells #[.int .i64 x.at_] 3)
          have Hq0 := Lib.hid (hq.cell 0)
          have Hox : Hid (OwnP (wr.alloc (.cells #[.int .i64 x.at_] 3)) base u3 acc) := Lib.hid (owns_keep Hown.out hOa (by simp))
          have hsa := Nat.le_trans hbr hOa.size
          have HOa := Lib.hid (HO.out.plus hOa)
          have hTb : ∀ k ∈ ownL u3, base ≤ k := fun k hk => (World.ownsRow.lt Hown.out k (mem_ownL.1 hk)).1
          clear hq hOa hra hag
          go_wp2_with (at_builtin; refine wpList_append_i rfl _ _ rfl base u3 acc rfl Hox.out wr.heap.size 1 x.at_ rfl Hq0.out hln hsa ?_; intro v' w9 h9 hg9 hb9)
          go_roundw
          case rel => exact ⟨j + 1, by go_num, hlt, by rw [Htk.out]; exact h9, HOa.out.then hg9 [] (by simp) (fun k hk => .inr (by have := hTb k hk; have := Hbase.out; omega))⟩
          case measure => simp [intOf]; omega
        · have hlti : ¬ (j : Int) < (P.locks.length : Int) := by omega
          have hjl : j = P.locks.length := by omega
          have Hacc : Hid (OwnP wr base u3 (P.vars.map DeclM.at_ ++ P.locks.map DeclM.at_)) := Lib.hid (by have := Hown.out; rw [hjl, List.take_length] at this; exact this)
          clear Hown hjl hj
          go_wp2_with fail
          clear d1 hql
          go_loopw [3, 6] (fun v iv wr => ∃ j : Nat, iv = .int .i64 j ∧ j ≤ P.funcs.length ∧ OwnP wr base v (P.vars.map DeclM.at_ ++ P.locks.map DeclM.at_ ++ placesF (P.funcs.take j)) ∧ Only [] w1 wr) (fun _ iv _ => P.funcs.length - (intOf iv).toNat)
          case atStart => exact ⟨0, rfl, Nat.zero_le _, by rw [List.take_zero, placesF, List.flatMap_nil, List.append_nil]; exact Hacc.out, HO.out⟩
          case round =>
            clear Hacc HO
            obtain ⟨j, rfl, hj, hown, hO⟩ := hrel
            have HO := Lib.hid hO
            have d2 := (HQ.out.only hO (by simp)).cell 2
            have hql := (HQ.out.only hO (by simp)).lt
            have hbr : base ≤ wr.heap.size := by have := hO.size; omega
            by_cases hlt : j < P.funcs.length
            · have hlti : (j : Int) < (P.funcs.length : Int) := by omega
              have hj0 : (0 : Int) ≤ (j : Int) := by omega
              have hget : P.funcs[j]? = some P.funcs[j] := List.getElem?_eq_getElem hlt
              obtain ⟨g, xs, fp, hag, hg, hra, hef⟩ := HF.out (by omega)
              obtain ⟨vx, fx, e1, e2, e3, hbk, hnd⟩ := hef.get _ _ hget
              have r2 := hra _ _ e2
              have r3 := hra _ _ e3
              rw [Nat.zero_add] at r2 r3
              obtain ⟨xa, xc, rfl, -⟩ := hbk.slice
              have hgw : g < w.heap.size := by have := Hqw.out; omega
              have hfx : ∀ k ∈ fx, k < w.heap.size := hbk.lt
              have Hbk := Lib.hid hbk
              have Htk : Hid (P.vars.map DeclM.at_ ++ P.locks.map DeclM.at_ ++ placesF (P.funcs.take (j + 1)) = P.vars.map DeclM.at_ ++ P.locks.map DeclM.at_ ++ placesF (P.funcs.take j) ++ [P.funcs[j].at_] ++ placesB P.funcs[j].body) := Lib.hid (by rw [List.take_add_one, hget, placesF, List.flatMap_append]; simp [placesF])
              have hln : (P.vars.map DeclM.at_ ++ P.locks.map DeclM.at_ ++ placesF (P.funcs.take j)).length + 1 + P.funcs[j].body.cnt ≤ 1000000 := by
                have h1 : placesF P.funcs = placesF (P.funcs.take (j + 1)) ++ placesF (P.funcs.drop (j + 1)) := by rw [placesF, placesF, placesF, ← List.flatMap_append, List.take_append_drop]
                have h2 := congrArg List.length h1
                have h3 := congrArg List.length Htk.out
                simp only [List.length_append, List.length_map, List.length_cons, List.length_nil, placesB_len] at h2 h3 ⊢
                omega
              clear hra hef e1 e2 e3 hbk hnd hO
              generalize P.funcs[j] = x at *
              generalize P.vars.map DeclM.at_ ++ P.locks.map DeclM.at_ ++ placesF (P.funcs.take j) = acc at *
              obtain ⟨av, cv, rfl⟩ := owns_slice hown
              have Hown := Lib.hid hown
              generalize hT : ownL (.slice av acc.length cv) = T at *
              have hTb : ∀ k ∈ T, base ≤ k := fun k hk => by rw [← hT] at hk; exact (World.ownsRow.lt hown k (mem_ownL.1 hk)).1
              have hTn : ∀ S : List Nat, (∀ k ∈ S, k < w.heap.size) → ∀ k ∈ S, k ∉ T := fun S hS k hk hm => by have := hS k hk; have := hTb k hm; have := Hqw.out; omega
              have hqT : q ∉ T := fun hm => by have := hTb q hm; omega
              have hcl : ∀ W, Only T wr W → W.cell? ⟨q, 2, none⟩ = some (.slice (some ⟨g, 0, none⟩) P.funcs.length cf) ∧ W.cell? ⟨g, j * 3 + 1, none⟩ = some (.int .i64 x.at_) ∧ W.cell? ⟨g, j * 3 + 2, none⟩ = some (.slice xa x.body.len xc) ∧ g < W.heap.size ∧ q < W.heap.size := fun W hW => by
                have hWW := (HO1.out.plus HO.out).then hW T (by simp) (fun i hi => .inl hi)
                have hgn : g ∉ T := hTn [g] (by simpa using hgw) g (by simp)
                refine ⟨?_, (hWW.cell (p := ⟨g, j * 3 + 1, none⟩) hgw hgn).trans r2, (hWW.cell (p := ⟨g, j * 3 + 2, none⟩) hgw hgn).trans r3, Nat.lt_of_lt_of_le hgw hWW.size, Nat.lt_of_lt_of_le hql hW.size⟩
                have := ((HQ.out.only HO.out (by simp)).only hW hqT).cell 2
                rw [hag] at this
                exact this
              have Hcl := Lib.hid hcl
              have HRB : Hid (∀ W, Only T wr W → ∀ u, OwnP W base u (acc ++ [x.at_]) → Calls Tryz.prog 62 #[u, .slice xa x.body.len xc] W (PlacesTo W base u (acc ++ [x.at_] ++ placesB x.body))) := Lib.hid (fun W hW u hu => dplaces_any _ x.body (Nat.le_refl _) W base u _ _ fx hu (Nat.le_trans hbr hW.size) (Hbk.out.keep ((HO1.out.plus HO.out).then hW T (by simp) (fun i hi => .inl hi)) (hTn fx hfx)) (fun k hk => by have := hfx k hk; have := Hqw.out; omega) (by rw [List.length_append]; simpa using hln))
              have hacl : acc.length ≤ 1000000 := by omega
              have hdr : Only [] wr wr.drew := (Only.refl [] wr).drew
              clear hcl hown hTn hgw hfx r2 r3 hln
              rw [hag] at d2
              go_upto_region 13 with fail
              refine wp_region_chain (P := Tryz.prog) 16 (by kernel_rfl) (by kernel_rfl) (fun i => i == 15) (fun k => k == 8 || k == 15) 8 (by decide +kernel) (fun k hk => by simp at hk; omega) T
                [SP.is (.slice av acc.length cv),
                 SP.is (.pointer (some ⟨q, 2, none⟩)),
                 SP.is (.slice (some ⟨g, 0, none⟩) P.funcs.length cf),
                 SP.is (.int .i64 j),
                 SP.is (.pointer (some ⟨g, j * 3, none⟩)),
                 SP.is (.pointer (some ⟨g, j * 3 + 1, none⟩)),
                 SP.is (.int .i64 x.at_),
                 ⟨fun v W => ∃ q, v = .slice (some ⟨q, 0, none⟩) 1 1 ∧ IsBlk W q (.cells #[.int .i64 x.at_] 3), fun _ _ _ ⟨q, e, h⟩ hO => ⟨q, e, h.only hO (by simp)⟩⟩,
                 RowSP base wr.heap.size T (acc ++ [x.at_]),
                 SP.is (.pointer (some ⟨q, 2, none⟩)),
                 SP.is (.slice (some ⟨g, 0, none⟩) P.funcs.length cf),
                 SP.is (.int .i64 j),
                 SP.is (.pointer (some ⟨g, j * 3, none⟩)),
                 SP.is (.pointer (some ⟨g, j * 3 + 2, none⟩)),
                 SP.is (.slice xa x.body.len xc),
                 RowSP base wr.heap.size T (acc ++ [x.at_] ++ placesB x.body)] ?_ ?_ ?_
              · intro k hkn hk
                have hk3 : k = 8 ∨ k = 15 := by simpa [or_assoc] using hk
                rcases hk3 with rfl | rfl
                all_goals refine ⟨?_, ?_, ?_, ?_, ?_, ?_, ?_, ?_, ?_, ?_, ?_, ?_, ?_, ?_, ?_, ?_, trivial⟩
                all_goals first
                  | exact .inr (fun _ _ _ h _ => h)
                  | exact .inl (by decide +kernel)
              · simp only [List.take_succ_cons, List.take_zero]
                refine StepsOK.cons ?_ (StepsOK.cons ?_ (StepsOK.cons ?_ (StepsOK.cons ?_ (StepsOK.cons ?_ (StepsOK.cons ?_ (StepsOK.cons ?_ (StepsOK.cons ?_ (StepsOK.cons ?_ (StepsOK.cons ?_ (StepsOK.cons ?_ (StepsOK.cons ?_ (StepsOK.cons ?_ (StepsOK.cons ?_ (StepsOK.cons ?_ (StepsOK.cons ?_ StepsOK.nil)))))))))))))))
                · intro a W L N hR hold hφ hcl hkp hd K hK
                  have e3 := hold 3 (by kernel_rfl)
                  clear hold hφ hcl hkp hd
                  rw [if_pos (by rfl)]
                  go_simp
                  exact hK _ _ (RkB.small rfl (Only.refl _ _)) rfl
                · intro a W L N hR hold hφ hcl hkp hd K hK
                  have e1 := hold 1 (by kernel_rfl)
                  clear hold hφ hcl hkp hd
                  rw [if_pos (by rfl)]
                  go_simp
                  exact hK _ _ (RkB.small rfl (Only.refl _ _)) rfl
                · intro a W L N hR hold hφ hcl hkp hd K hK
                  have e47 := got hφ (hd 1 (by kernel_rfl)) rfl rfl rfl
                  obtain ⟨c1, c2, c3, c4, c5⟩ := Hcl.out W (hdr.then hR T (by simp) (fun i hi => .inl hi))
                  clear hold hφ hcl hkp hd
                  rw [if_pos (by rfl)]
                  go_simp
                  exact hK _ _ (RkB.small rfl (Only.refl _ _)) rfl
                · intro a W L N hR hold hφ hcl hkp hd K hK
                  have e6 := hold 6 (by kernel_rfl)
                  clear hold hφ hcl hkp hd
                  rw [if_pos (by rfl)]
                  go_simp
                  exact hK _ _ (RkB.small rfl (Only.refl _ _)) rfl
                · intro a W L N hR hold hφ hcl hkp hd K hK
                  have e48 := got hφ (hd 2 (by kernel_rfl)) rfl rfl rfl
                  have e49 := got hφ (hd 3 (by kernel_rfl)) rfl rfl rfl
                  obtain ⟨c1, c2, c3, c4, c5⟩ := Hcl.out W (hdr.then hR T (by simp) (fun i hi => .inl hi))
                  clear hold hφ hcl hkp hd
                  rw [if_pos (by rfl)]
                  go_simp
                  exact hK _ _ (RkB.small rfl (Only.refl _ _)) rfl
                · intro a W L N hR hold hφ hcl hkp hd K hK
                  have e50 := got hφ (hd 4 (by kernel_rfl)) rfl rfl rfl
                  clear hold hφ hcl hkp hd
                  rw [if_pos (by rfl)]
                  go_simp
                  exact hK _ _ (RkB.small rfl (Only.refl _ _)) rfl
                · intro a W L N hR hold hφ hcl hkp hd K hK
                  have e51 := got hφ (hd 5 (by kernel_rfl)) rfl rfl rfl
                  obtain ⟨c1, c2, c3, c4, c5⟩ := Hcl.out W (hdr.then hR T (by simp) (fun i hi => .inl hi))
                  clear hold hφ hcl hkp hd
                  rw [if_pos (by rfl)]
                  go_simp
                  exact hK _ _ (RkB.small rfl (Only.refl _ _)) rfl
                · intro a W L N hR hold hφ hcl hkp hd K hK
                  have e52 := got hφ (hd 6 (by kernel_rfl)) rfl rfl rfl
                  clear hold hφ hcl hkp hd
                  rw [if_pos (by rfl)]
                  go_simp
                  exact hK _ _ (RkB.small rfl ((Only.refl _ _).alloc _)) ⟨_, rfl, IsBlk.made W _⟩
                · intro a W L N hR hold hφ hcl hkp hd K hK
                  have e46 := got hφ (hd 0 (by kernel_rfl)) rfl rfl rfl
                  obtain ⟨u53, e53, q53, p53, b53⟩ := gotP hφ (hd 7 (by kernel_rfl)) rfl rfl rfl
                  have p53 : u53 = .slice (some ⟨q53, 0, none⟩) 1 1 := p53
                  subst p53
                  have hpr := hdr.plus (hcl.2.2.2.2 8 hcl.2.1).get
                  have hsz := (hdr.then hR T (by simp) (fun i hi => .inl hi)).size
                  clear hold hφ hcl hkp hd
                  rw [if_pos (by rfl)]
                  refine wp_append_i _ _ rfl base (.slice av acc.length cv) acc (by simp [Act.eval, e46]) (owns_keep Hown.out hpr (by simp)) q53 1 x.at_ (by simp [Act.eval, e53]) (b53.cell 0) (by omega) (Nat.le_trans hbr hsz) ?_
                  intro v9 w9 h9 hO9 hb9
                  exact hK _ _ (RkB.big rfl ⟨_, hO9, fun k hk => .inl (by rw [← hT]; exact hk)⟩) ⟨h9, fun k hk => by rcases hb9 with h | h; exact .inl (by rw [← hT]; exact mem_ownL.2 (h ▸ hk)); exact .inr (by rw [h] at hk; injection hk with hk; omega)⟩
                · intro a W L N hR hold hφ hcl hkp hd K hK
                  have e1 := hold 1 (by kernel_rfl)
                  clear hold hφ hcl hkp hd
                  rw [if_pos (by rfl)]
                  go_simp
                  exact hK _ _ (RkB.small rfl (Only.refl _ _)) rfl
                · intro a W L N hR hold hφ hcl hkp hd K hK
                  have e55 := got hφ (hd 9 (by kernel_rfl)) rfl rfl rfl
                  obtain ⟨c1, c2, c3, c4, c5⟩ := Hcl.out W (hdr.then hR T (by simp) (fun i hi => .inl hi))
                  clear hold hφ hcl hkp hd
                  rw [if_pos (by rfl)]
                  go_simp
                  exact hK _ _ (RkB.small rfl (Only.refl _ _)) rfl
                · intro a W L N hR hold hφ hcl hkp hd K hK
                  have e6 := hold 6 (by kernel_rfl)
                  clear hold hφ hcl hkp hd
                  rw [if_pos (by rfl)]
                  go_simp
                  exact hK _ _ (RkB.small rfl (Only.refl _ _)) rfl
                · intro a W L N hR hold hφ hcl hkp hd K hK
                  have e56 := got hφ (hd 10 (by kernel_rfl)) rfl rfl rfl
                  have e57 := got hφ (hd 11 (by kernel_rfl)) rfl rfl rfl
                  obtain ⟨c1, c2, c3, c4, c5⟩ := Hcl.out W (hdr.then hR T (by simp) (fun i hi => .inl hi))
                  clear hold hφ hcl hkp hd
                  rw [if_pos (by rfl)]
                  go_simp
                  exact hK _ _ (RkB.small rfl (Only.refl _ _)) rfl
                · intro a W L N hR hold hφ hcl hkp hd K hK
                  have e58 := got hφ (hd 12 (by kernel_rfl)) rfl rfl rfl
                  clear hold hφ hcl hkp hd
                  rw [if_pos (by rfl)]
                  go_simp
                  exact hK _ _ (RkB.small rfl (Only.refl _ _)) rfl
                · intro a W L N hR hold hφ hcl hkp hd K hK
                  have e59 := got hφ (hd 13 (by kernel_rfl)) rfl rfl rfl
                  obtain ⟨c1, c2, c3, c4, c5⟩ := Hcl.out W (hdr.then hR T (by simp) (fun i hi => .inl hi))
                  clear hold hφ hcl hkp hd
                  rw [if_pos (by rfl)]
                  go_simp
                  exact hK _ _ (RkB.small rfl (Only.refl _ _)) rfl
                · intro a W L N hR hold hφ hcl hkp hd K hK
                  have e60 := got hφ (hd 14 (by kernel_rfl)) rfl rfl rfl
                  obtain ⟨u, e54, p54⟩ := gotP hφ (hd 8 (by kernel_rfl)) rfl rfl rfl
                  have p54 := row_word p54
                  have hsz := (hdr.then hR T (by simp) (fun i hi => .inl hi)).size
                  have hWT := hdr.then hR T (by simp) (fun i hi => .inl hi)
                  clear hold hφ hcl hkp hd
                  rw [if_pos (by rfl)]
                  go_simp
                  refine (HRB.out W hWT u p54.1).mono ?_
                  rintro r w9 ⟨v9, rfl, h9, hO9, hb9⟩
                  exact hK _ _ (RkB.big rfl ⟨_, hO9, fun k hk => p54.2 k (mem_ownL.1 hk)⟩) ⟨h9, fun k hk => by rcases hb9 k hk with h | h; exact p54.2 k (mem_ownL.1 h); exact .inr (by omega)⟩
              · intro us W hO' hus
                obtain ⟨hr1, hr2⟩ := row_word (hus 15 _ 61 (by omega) rfl rfl rfl)
                clear hus
                simp only [List.take_succ_cons, List.take_zero, List.drop_succ_cons, List.drop_zero, fillAct, Act.put, List.setIfInBounds_toArray, List.set_cons_zero, List.set_cons_succ, Nat.reduceAdd]
                have hOW := hdr.then hO' T (by simp) (fun i hi => .inl hi)
                have Hr1 := Lib.hid hr1
                have HOW := Lib.hid (HO.out.then hOW [] (by simp) (fun i hi => .inr (by have := hTb i hi; have := Hbase.out; omega)))
                clear hr1 hr2 hOW hO'
                generalize us 15 = v15 at *
                clear d2 hql
                go_wp2
                go_roundw
                case rel => exact ⟨j + 1, by go_num, hlt, by rw [Htk.out]; exact Hr1.out, HOW.out⟩
                case measure => simp [intOf]; omega
            · have hlti : ¬ (j : Int) < (P.funcs.length : Int) := by omega
              have hjl : j = P.funcs.length := by omega
              have Hacc : Hid (OwnP wr base u3 (placesP P)) := Lib.hid (by have := hown; rw [hjl, List.take_length] at this; exact this)
              clear hown hjl hj hO
              go_wp2
              go_ret
              exact ⟨_, base, rfl, by have := Hqw.out; omega, Hacc.out, HO1.out.plus HO.out⟩

end Go.Proofs.YtildkedplmjdaaaGreatDoor
