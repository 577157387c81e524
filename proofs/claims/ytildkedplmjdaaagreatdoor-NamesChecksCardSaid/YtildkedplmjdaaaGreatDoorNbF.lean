/-
  What NamesOrder's walk reaches.
-/
import Derived.Test.YtildkedplmjdaaaGreatDoorPcJ
import Derived.Test.YtildkedplmjdaaaGreatDoorNaV
import Derived.Test.YtildkedplmjdaaaGreatDoorLxF
import Derived.Test.YtildkedplmjdaaaGreatDoorPaZ
import Derived.Test.YtildkedplmjdaaaGreatDoorPbB
import Derived.Test.YtildkedplmjdaaaGreatDoorPbM
namespace Go.Proofs.YtildkedplmjdaaaGreatDoor
set_option maxRecDepth 100000
set_option linter.unusedVariables false
open Go.RowKit Go.Sort

def placesF (l : List FuncM) : List Nat := l.flatMap fun f => f.at_ :: placesB f.body
def placesP (P : ProgM) : List Nat := P.vars.map DeclM.at_ ++ P.locks.map DeclM.at_ ++ placesF P.funcs
theorem dcells_at : ∀ (l : List DeclM) (i : Nat) (x : DeclM), l[i]? = some x → (dcells l)[i * 2 + 1]? = some (.int .i64 x.at_)
  | [], i, x, h => by simp at h
  | y :: l, 0, x, h => by
    simp only [List.getElem?_cons_zero, Option.some.injEq] at h
    subst h
    simp [dcells]
  | y :: l, i + 1, x, h => by
    have h' : l[i]? = some x := by simpa using h
    have := dcells_at l i x h'
    have e : dcells (y :: l) = encStr y.name :: .int .i64 y.at_ :: dcells l := by simp [dcells]
    rw [e, show (i + 1) * 2 + 1 = i * 2 + 1 + 2 by omega]
    exact this

def PlacesPTo (w : World) (P : ProgM) (r : Ending) (w' : World) : Prop := ∃ v base, r = .returned v ∧ w.heap.size ≤ base ∧ OwnP w' base v (placesP P) ∧ Only [] w w'
theorem placesF_ge : ∀ (l : List FuncM), l.length ≤ (placesF l).length
  | [] => Nat.le_refl _
  | f :: l => by
    have := placesF_ge l
    simp only [placesF, List.flatMap_cons, List.length_append, List.length_cons] at this ⊢
    omega

set_option maxHeartbeats 16000000 in
theorem dplacesP_any (w : World) (vv vl vf : Value) (P : ProgM) (h : ProgAt w vv vl vf P) (hn : P.vars.length + P.locks.length + (placesF P.funcs).length ≤ 1000000) :
    Calls Tryz.prog 42 #[.agg #[vv, vl, vf]] w (PlacesPTo w P) := by
  have hfn := placesF_ge P.funcs
  obtain ⟨⟨av, cv, rfl, hcv, hv⟩, ⟨al, cl, rfl, hcl, hl⟩, ⟨af, cf, rfl, hcf, hf⟩⟩ := h
  have HV := Lib.hid hv
  have HL := Lib.hid hl
  have HF := Lib.hid hf
  have hq := IsBlk.made w (.cells #[.slice av P.vars.length cv, .slice al P.locks.length cl, .slice af P.funcs.length cf] 30)
  have hO1 := (Only.refl [] w).alloc (.cells #[.slice av P.vars.length cv, .slice al P.locks.length cl, .slice af P.funcs.length cf] 30)
  have hs1 : (w.alloc (.cells #[.slice av P.vars.length cv, .slice al P.locks.length cl, .slice af P.funcs.length cf] 30)).heap.size = w.heap.size + 1 := by simp
  clear hv hl hf
  go_enter Tryz.func42, Tryz.ntmps42
  go_wp2_with fail
  generalize hW : w.alloc (.cells #[.slice av P.vars.length cv, .slice al P.locks.length cl, .slice af P.funcs.length cf] 30) = w1 at *
  clear hW
  generalize hqq : w.heap.size = q at *
  have HQ := Lib.hid hq
  have HO1 := Lib.hid hO1
  have Hqw : Hid (w.heap.size = q) := Lib.hid hqq
  generalize hbs : w1.heap.size = base at *
  have hqb : q < base := by omega
  have hb1 : base ≤ w1.heap.size := by omega
  have Hbase : Hid (w1.heap.size = base) := Lib.hid hbs
  clear hq hO1 hs1 hbs hqq
  go_loopw [3, 4] (fun v iv wr => ∃ j : Nat, iv = .int .i64 j ∧ j ≤ P.vars.length ∧ OwnP wr base v ((P.vars.take j).map DeclM.at_) ∧ Only [] w1 wr) (fun _ iv _ => P.vars.length - (intOf iv).toNat)
  case atStart => exact ⟨0, rfl, Nat.zero_le _, ⟨rfl, .inl ⟨rfl, rfl⟩⟩, Only.refl _ _⟩
  case round =>
    obtain ⟨j, rfl, hj, hown, hO⟩ := hrel
    have HO := Lib.hid hO
    have Hown := Lib.hid hown
    have d0 := (HQ.out.only hO (by simp)).cell 0
    have hql := (HQ.out.only hO (by simp)).lt
    have hbr : base ≤ wr.heap.size := by have := hO.size; omega
    clear hown hO
    by_cases hlt : j < P.vars.length
    · have hlti : (j : Int) < (P.vars.length : Int) := by omega
      have hj0 : (0 : Int) ≤ (j : Int) := by omega
      have hget : P.vars[j]? = some P.vars[j] := List.getElem?_eq_getElem hlt
      obtain ⟨g, hag, hg, hra⟩ := HV.out (by omega)
      have hat := hra _ _ (dcells_at _ _ _ hget)
      rw [Nat.zero_add] at hat
      have hat := ((HO1.out.plus HO.out).cell (p := ⟨g, j * 2 + 1, none⟩) (show g < w.heap.size by have := Hqw.out; omega) (by simp)).trans hat
      have hgw : g < wr.heap.size := Nat.lt_of_lt_of_le (show g < w.heap.size by have := Hqw.out; omega) (HO1.out.plus HO.out).size
      have Htk : Hid ((P.vars.take (j + 1)).map DeclM.at_ = (P.vars.take j).map DeclM.at_ ++ [P.vars[j].at_]) := Lib.hid (by rw [List.take_add_one, hget, List.map_append]; rfl)
      have hln : ((P.vars.take j).map DeclM.at_).length ≤ 1000000 := by simp only [List.length_map, List.length_take]; omega
      generalize P.vars[j] = x at *
      generalize (P.vars.take j).map DeclM.at_ = acc at *
      rw [hag] at d0
      have hq := IsBlk.made wr (.cells #[.int .i64 x.at_] 3)
      have hOa := (Only.refl [] wr).alloc (.cells #[.int .i64 x.at_] 3)
      have Hq0 := Lib.hid (hq.cell 0)
      have Hox : Hid (OwnP (wr.alloc (.cells #[.int .i64 x.at_] 3)) base u3 acc) := Lib.hid (owns_keep Hown.out hOa (by simp))
      have hsa := Nat.le_trans hbr hOa.size
      have HOa := Lib.hid (HO.out.plus hOa)
      have hTb : ∀ k ∈ ownL u3, base ≤ k := fun k hk => (World.ownsRow.lt Hown.out k (mem_ownL.1 hk)).1
      clear hq hOa hra hag
      go_wp2_with (at_builtin; refine wpList_append_i rfl _ _ rfl base u3 acc rfl Hox.out wr.heap.size 1 x.at_ rfl Hq0.out hln hsa ?_; intro v' w9 h9 hg9 hb9)
      go_roundw
      case rel => exact ⟨j + 1, by go_num, hlt, by rw [Htk.out]; exact h9, HOa.out.then hg9 [] (by simp) (fun k hk => .inr (by have := hTb k hk; have := Hbase.out; omega))⟩
      case measure => simp [intOf]; omega
    · have hlti : ¬ (j : Int) < (P.vars.length : Int) := by omega
      have hjl : j = P.vars.length := by omega
      have Hacc : Hid (OwnP wr base u3 (P.vars.map DeclM.at_)) := Lib.hid (by have := Hown.out; rw [hjl, List.take_length] at this; exact this)
      clear Hown hjl hj
      go_wp2_with fail
      clear d0 hql
      go_loopw [3, 5] (fun v iv wr => ∃ j : Nat, iv = .int .i64 j ∧ j ≤ P.locks.length ∧ OwnP wr base v (P.vars.map DeclM.at_ ++ (P.locks.take j).map DeclM.at_) ∧ Only [] w1 wr) (fun _ iv _ => P.locks.length - (intOf iv).toNat)
      case atStart => exact ⟨0, rfl, Nat.zero_le _, by rw [List.take_zero, List.map_nil, List.append_nil]; exact Hacc.out, HO.out⟩
      case round =>
        obtain ⟨j, rfl, hj, hown, hO⟩ := hrel
        have HO := Lib.hid hO
        have Hown := Lib.hid hown
        have d1 := (HQ.out.only hO (by simp)).cell 1
        have hql := (HQ.out.only hO (by simp)).lt
        have hbr : base ≤ wr.heap.size := by have := hO.size; omega
        clear hown hO
        by_cases hlt : j < P.locks.length
        · have hlti : (j : Int) < (P.locks.length : Int) := by omega
          have hj0 : (0 : Int) ≤ (j : Int) := by omega
          have hget : P.locks[j]? = some P.locks[j] := List.getElem?_eq_getElem hlt
          obtain ⟨g, hag, hg, hra⟩ := HL.out (by omega)
          have hat := hra _ _ (dcells_at _ _ _ hget)
          rw [Nat.zero_add] at hat
          have hat := ((HO1.out.plus HO.out).cell (p := ⟨g, j * 2 + 1, none⟩) (show g < w.heap.size by have := Hqw.out; omega) (by simp)).trans hat
          have hgw : g < wr.heap.size := Nat.lt_of_lt_of_le (show g < w.heap.size by have := Hqw.out; omega) (HO1.out.plus HO.out).size
          have Htk : Hid (P.vars.map DeclM.at_ ++ (P.locks.take (j + 1)).map DeclM.at_ = P.vars.map DeclM.at_ ++ (P.locks.take j).map DeclM.at_ ++ [P.locks[j].at_]) := Lib.hid (by rw [List.take_add_one, hget, List.map_append, ← List.append_assoc]; rfl)
          have hln : (P.vars.map DeclM.at_ ++ (P.locks.take j).map DeclM.at_).length ≤ 1000000 := by simp only [List.length_append, List.length_map, List.length_take]; omega
          generalize P.locks[j] = x at *
          generalize P.vars.map DeclM.at_ ++ (P.locks.take j).map DeclM.at_ = acc at *
          rw [hag] at d1
          have hq := IsBlk.made wr (.cells #[.int .i64 x.at_] 3)
          have hOa := (Only.refl [] wr).alloc (.cells #[.int .i64 x.at_] 3)
          have Hq0 := Lib.hid (hq.cell 0)
          have Hox : Hid (OwnP (wr.alloc (.cells #[.int .i64 x.at_] 3)) base u3 acc) := Lib.hid (owns_keep Hown.out hOa (by simp))
          have hsa := Nat.le_trans hbr hOa.size
          have HOa := Lib.hid (HO.out.plus hOa)
          have hTb : ∀ k ∈ ownL u3, base ≤ k := fun k hk => (World.ownsRow.lt Hown.out k (mem_ownL.1 hk)).1
          clear hq hOa hra hag
          go_wp2_with (at_builtin; refine wpList_append_i rfl _ _ rfl base u3 acc rfl Hox.out wr.heap.size 1 x.at_ rfl Hq0.out hln hsa ?_; intro v' w9 h9 hg9 hb9)
          go_roundw
          case rel => exact ⟨j + 1, by go_num, hlt, by rw [Htk.out]; exact h9, HOa.out.then hg9 [] (by simp) (fun k hk => .inr (by have := hTb k hk; have := Hbase.out; omega))⟩
          case measure => simp [intOf]; omega
        · have hlti : ¬ (j : Int) < (P.locks.length : Int) := by omega
          have hjl : j = P.locks.length := by omega
          have Hacc : Hid (OwnP wr base u3 (P.vars.map DeclM.at_ ++ P.locks.map DeclM.at_)) := Lib.hid (by have := Hown.out; rw [hjl, List.take_length] at this; exact this)
          clear Hown hjl hj
          go_wp2_with fail
          clear d1 hql
          go_loopw [3, 6] (fun v iv wr => ∃ j : Nat, iv = .int .i64 j ∧ j ≤ P.funcs.length ∧ OwnP wr base v (P.vars.map DeclM.at_ ++ P.locks.map DeclM.at_ ++ placesF (P.funcs.take j)) ∧ Only [] w1 wr) (fun _ iv _ => P.funcs.length - (intOf iv).toNat)
          case atStart => exact ⟨0, rfl, Nat.zero_le _, by rw [List.take_zero, placesF, List.flatMap_nil, List.append_nil]; exact Hacc.out, HO.out⟩
          case round =>
            clear Hacc HO
            obtain ⟨j, rfl, hj, hown, hO⟩ := hrel
            have HO := Lib.hid hO
            have d2 := (HQ.out.only hO (by simp)).cell 2
            have hql := (HQ.out.only hO (by simp)).lt
            have hbr : base ≤ wr.heap.size := by have := hO.size; omega
            by_cases hlt : j < P.funcs.length
            · have hlti : (j : Int) < (P.funcs.length : Int) := by omega
              have hj0 : (0 : Int) ≤ (j : Int) := by omega
              have hget : P.funcs[j]? = some P.funcs[j] := List.getElem?_eq_getElem hlt
              obtain ⟨g, xs, fp, hag, hg, hra, hef⟩ := HF.out (by omega)
              obtain ⟨vx, fx, e1, e2, e3, hbk, hnd⟩ := hef.get _ _ hget
              have r2 := hra _ _ e2
              have r3 := hra _ _ e3
              rw [Nat.zero_add] at r2 r3
              obtain ⟨xa, xc, rfl, -⟩ := hbk.slice
              have hgw : g < w.heap.size := by have := Hqw.out; omega
              have hfx : ∀ k ∈ fx, k < w.heap.size := hbk.lt
              have Hbk := Lib.hid hbk
              have Htk : Hid (P.vars.map DeclM.at_ ++ P.locks.map DeclM.at_ ++ placesF (P.funcs.take (j + 1)) = P.vars.map DeclM.at_ ++ P.locks.map DeclM.at_ ++ placesF (P.funcs.take j) ++ [P.funcs[j].at_] ++ placesB P.funcs[j].body) := Lib.hid (by rw [List.take_add_one, hget, placesF, List.flatMap_append]; simp [placesF])
              have hln : (P.vars.map DeclM.at_ ++ P.locks.map DeclM.at_ ++ placesF (P.funcs.take j)).length + 1 + P.funcs[j].body.cnt ≤ 1000000 := by
                have h1 : placesF P.funcs = placesF (P.funcs.take (j + 1)) ++ placesF (P.funcs.drop (j + 1)) := by rw [placesF, placesF, placesF, ← List.flatMap_append, List.take_append_drop]
                have h2 := congrArg List.length h1
                have h3 := congrArg List.length Htk.out
                simp only [List.length_append, List.length_map, List.length_cons, List.length_nil, placesB_len] at h2 h3 ⊢
                omega
              clear hra hef e1 e2 e3 hbk hnd hO
              generalize P.funcs[j] = x at *
              generalize P.vars.map DeclM.at_ ++ P.locks.map DeclM.at_ ++ placesF (P.funcs.take j) = acc at *
              obtain ⟨av, cv, rfl⟩ := owns_slice hown
              have Hown := Lib.hid hown
              generalize hT : ownL (.slice av acc.length cv) = T at *
              have hTb : ∀ k ∈ T, base ≤ k := fun k hk => by rw [← hT] at hk; exact (World.ownsRow.lt hown k (mem_ownL.1 hk)).1
              have hTn : ∀ S : List Nat, (∀ k ∈ S, k < w.heap.size) → ∀ k ∈ S, k ∉ T := fun S hS k hk hm => by have := hS k hk; have := hTb k hm; have := Hqw.out; omega
              have hqT : q ∉ T := fun hm => by have := hTb q hm; omega
              have hcl : ∀ W, Only T wr W → W.cell? ⟨q, 2, none⟩ = some (.slice (some ⟨g, 0, none⟩) P.funcs.length cf) ∧ W.cell? ⟨g, j * 3 + 1, none⟩ = some (.int .i64 x.at_) ∧ W.cell? ⟨g, j * 3 + 2, none⟩ = some (.slice xa x.body.len xc) ∧ g < W.heap.size ∧ q < W.heap.size := fun W hW => by
                have hWW := (HO1.out.plus HO.out).then hW T (by simp) (fun i hi => .inl hi)
                have hgn : g ∉ T := hTn [g] (by simpa using hgw) g (by simp)
                refine ⟨?_, (hWW.cell (p := ⟨g, j * 3 + 1, none⟩) hgw hgn).trans r2, (hWW.cell (p := ⟨g, j * 3 + 2, none⟩) hgw hgn).trans r3, Nat.lt_of_lt_of_le hgw hWW.size, Nat.lt_of_lt_of_le hql hW.size⟩
                have := ((HQ.out.only HO.out (by simp)).only hW hqT).cell 2
                rw [hag] at this
                exact this
              have Hcl := Lib.hid hcl
              have HRB : Hid (∀ W, Only T wr W → ∀ u, OwnP W base u (acc ++ [x.at_]) → Calls Tryz.prog 62 #[u, .slice xa x.body.len xc] W (PlacesTo W base u (acc ++ [x.at_] ++ placesB x.body))) := Lib.hid (fun W hW u hu => dplaces_any _ x.body (Nat.le_refl _) W base u _ _ fx hu (Nat.le_trans hbr hW.size) (Hbk.out.keep ((HO1.out.plus HO.out).then hW T (by simp) (fun i hi => .inl hi)) (hTn fx hfx)) (fun k hk => by have := hfx k hk; have := Hqw.out; omega) (by rw [List.length_append]; simpa using hln))
              have hacl : acc.length ≤ 1000000 := by omega
              have hdr : Only [] wr wr.drew := (Only.refl [] wr).drew
              clear hcl hown hTn hgw hfx r2 r3 hln
              rw [hag] at d2
              go_upto_region 13 with fail
              refine wp_region_chain (P := Tryz.prog) 16 (by kernel_rfl) (by kernel_rfl) (fun i => i == 15) (fun k => k == 8 || k == 15) 8 (by decide +kernel) (fun k hk => by simp at hk; omega) T
                [SP.is (.slice av acc.length cv),
                 SP.is (.pointer (some ⟨q, 2, none⟩)),
                 SP.is (.slice (some ⟨g, 0, none⟩) P.funcs.length cf),
                 SP.is (.int .i64 j),
                 SP.is (.pointer (some ⟨g, j * 3, none⟩)),
                 SP.is (.pointer (some ⟨g, j * 3 + 1, none⟩)),
                 SP.is (.int .i64 x.at_),
                 ⟨fun v W => ∃ q, v = .slice (some ⟨q, 0, none⟩) 1 1 ∧ IsBlk W q (.cells #[.int .i64 x.at_] 3), fun _ _ _ ⟨q, e, h⟩ hO => ⟨q, e, h.only hO (by simp)⟩⟩,
                 RowSP base wr.heap.size T (acc ++ [x.at_]),
                 SP.is (.pointer (some ⟨q, 2, none⟩)),
                 SP.is (.slice (some ⟨g, 0, none⟩) P.funcs.length cf),
                 SP.is (.int .i64 j),
                 SP.is (.pointer (some ⟨g, j * 3, none⟩)),
                 SP.is (.pointer (some ⟨g, j * 3 + 2, none⟩)),
                 SP.is (.slice xa x.body.len xc),
                 RowSP base wr.heap.size T (acc ++ [x.at_] ++ placesB x.body)] ?_ ?_ ?_
              · intro k hkn hk
                have hk3 : k = 8 ∨ k = 15 := by simpa [or_assoc] using hk
                rcases hk3 with rfl | rfl
                all_goals refine ⟨?_, ?_, ?_, ?_, ?_, ?_, ?_, ?_, ?_, ?_, ?_, ?_, ?_, ?_, ?_, ?_, trivial⟩
                all_goals first
                  | exact .inr (fun _ _ _ h _ => h)
                  | exact .inl (by decide +kernel)
              · simp only [List.take_succ_cons, List.take_zero]
                refine StepsOK.cons ?_ (StepsOK.cons ?_ (StepsOK.cons ?_ (StepsOK.cons ?_ (StepsOK.cons ?_ (StepsOK.cons ?_ (StepsOK.cons ?_ (StepsOK.cons ?_ (StepsOK.cons ?_ (StepsOK.cons ?_ (StepsOK.cons ?_ (StepsOK.cons ?_ (StepsOK.cons ?_ (StepsOK.cons ?_ (StepsOK.cons ?_ (StepsOK.cons ?_ StepsOK.nil)))))))))))))))
                · intro a W L N hR hold hφ hcl hkp hd K hK
                  have e3 := hold 3 (by kernel_rfl)
                  clear hold hφ hcl hkp hd
                  rw [if_pos (by rfl)]
                  go_simp
                  exact hK _ _ (RkB.small rfl (Only.refl _ _)) rfl
                · intro a W L N hR hold hφ hcl hkp hd K hK
                  have e1 := hold 1 (by kernel_rfl)
                  clear hold hφ hcl hkp hd
                  rw [if_pos (by rfl)]
                  go_simp
                  exact hK _ _ (RkB.small rfl (Only.refl _ _)) rfl
                · intro a W L N hR hold hφ hcl hkp hd K hK
                  have e47 := got hφ (hd 1 (by kernel_rfl)) rfl rfl rfl
                  obtain ⟨c1, c2, c3, c4, c5⟩ := Hcl.out W (hdr.then hR T (by simp) (fun i hi => .inl hi))
                  clear hold hφ hcl hkp hd
                  rw [if_pos (by rfl)]
                  go_simp
                  exact hK _ _ (RkB.small rfl (Only.refl _ _)) rfl
                · intro a W L N hR hold hφ hcl hkp hd K hK
                  have e6 := hold 6 (by kernel_rfl)
                  clear hold hφ hcl hkp hd
                  rw [if_pos (by rfl)]
                  go_simp
                  exact hK _ _ (RkB.small rfl (Only.refl _ _)) rfl
                · intro a W L N hR hold hφ hcl hkp hd K hK
                  have e48 := got hφ (hd 2 (by kernel_rfl)) rfl rfl rfl
                  have e49 := got hφ (hd 3 (by kernel_rfl)) rfl rfl rfl
                  obtain ⟨c1, c2, c3, c4, c5⟩ := Hcl.out W (hdr.then hR T (by simp) (fun i hi => .inl hi))
                  clear hold hφ hcl hkp hd
                  rw [if_pos (by rfl)]
                  go_simp
                  exact hK _ _ (RkB.small rfl (Only.refl _ _)) rfl
                · intro a W L N hR hold hφ hcl hkp hd K hK
                  have e50 := got hφ (hd 4 (by kernel_rfl)) rfl rfl rfl
                  clear hold hφ hcl hkp hd
                  rw [if_pos (by rfl)]
                  go_simp
                  exact hK _ _ (RkB.small rfl (Only.refl _ _)) rfl
                · intro a W L N hR hold hφ hcl hkp hd K hK
                  have e51 := got hφ (hd 5 (by kernel_rfl)) rfl rfl rfl
                  obtain ⟨c1, c2, c3, c4, c5⟩ := Hcl.out W (hdr.then hR T (by simp) (fun i hi => .inl hi))
                  clear hold hφ hcl hkp hd
                  rw [if_pos (by rfl)]
                  go_simp
                  exact hK _ _ (RkB.small rfl (Only.refl _ _)) rfl
                · intro a W L N hR hold hφ hcl hkp hd K hK
                  have e52 := got hφ (hd 6 (by kernel_rfl)) rfl rfl rfl
                  clear hold hφ hcl hkp hd
                  rw [if_pos (by rfl)]
                  go_simp
                  exact hK _ _ (RkB.small rfl ((Only.refl _ _).alloc _)) ⟨_, rfl, IsBlk.made W _⟩
                · intro a W L N hR hold hφ hcl hkp hd K hK
                  have e46 := got hφ (hd 0 (by kernel_rfl)) rfl rfl rfl
                  obtain ⟨u53, e53, q53, p53, b53⟩ := gotP hφ (hd 7 (by kernel_rfl)) rfl rfl rfl
                  have p53 : u53 = .slice (some ⟨q53, 0, none⟩) 1 1 := p53
                  subst p53
                  have hpr := hdr.plus (hcl.2.2.2.2 8 hcl.2.1).get
                  have hsz := (hdr.then hR T (by simp) (fun i hi => .inl hi)).size
                  clear hold hφ hcl hkp hd
                  rw [if_pos (by rfl)]
                  refine wp_append_i _ _ rfl base (.slice av acc.length cv) acc (by simp [Act.eval, e46]) (owns_keep Hown.out hpr (by simp)) q53 1 x.at_ (by simp [Act.eval, e53]) (b53.cell 0) (by omega) (Nat.le_trans hbr hsz) ?_
                  intro v9 w9 h9 hO9 hb9
                  exact hK _ _ (RkB.big rfl ⟨_, hO9, fun k hk => .inl (by rw [← hT]; exact hk)⟩) ⟨h9, fun k hk => by rcases hb9 with h | h; exact .inl (by rw [← hT]; exact mem_ownL.2 (h ▸ hk)); exact .inr (by rw [h] at hk; injection hk with hk; omega)⟩
                · intro a W L N hR hold hφ hcl hkp hd K hK
                  have e1 := hold 1 (by kernel_rfl)
                  clear hold hφ hcl hkp hd
                  rw [if_pos (by rfl)]
                  go_simp
                  exact hK _ _ (RkB.small rfl (Only.refl _ _)) rfl
                · intro a W L N hR hold hφ hcl hkp hd K hK
                  have e55 := got hφ (hd 9 (by kernel_rfl)) rfl rfl rfl
                  obtain ⟨c1, c2, c3, c4, c5⟩ := Hcl.out W (hdr.then hR T (by simp) (fun i hi => .inl hi))
                  clear hold hφ hcl hkp hd
                  rw [if_pos (by rfl)]
                  go_simp
                  exact hK _ _ (RkB.small rfl (Only.refl _ _)) rfl
                · intro a W L N hR hold hφ hcl hkp hd K hK
                  have e6 := hold 6 (by kernel_rfl)
                  clear hold hφ hcl hkp hd
                  rw [if_pos (by rfl)]
                  go_simp
                  exact hK _ _ (RkB.small rfl (Only.refl _ _)) rfl
                · intro a W L N hR hold hφ hcl hkp hd K hK
                  have e56 := got hφ (hd 10 (by kernel_rfl)) rfl rfl rfl
                  have e57 := got hφ (hd 11 (by kernel_rfl)) rfl rfl rfl
                  obtain ⟨c1, c2, c3, c4, c5⟩ := Hcl.out W (hdr.then hR T (by simp) (fun i hi => .inl hi))
                  clear hold hφ hcl hkp hd
                  rw [if_pos (by rfl)]
                  go_simp
                  exact hK _ _ (RkB.small rfl (Only.refl _ _)) rfl
                · intro a W L N hR hold hφ hcl hkp hd K hK
                  have e58 := got hφ (hd 12 (by kernel_rfl)) rfl rfl rfl
                  clear hold hφ hcl hkp hd
                  rw [if_pos (by rfl)]
                  go_simp
                  exact hK _ _ (RkB.small rfl (Only.refl _ _)) rfl
                · intro a W L N hR hold hφ hcl hkp hd K hK
                  have e59 := got hφ (hd 13 (by kernel_rfl)) rfl rfl rfl
                  obtain ⟨c1, c2, c3, c4, c5⟩ := Hcl.out W (hdr.then hR T (by simp) (fun i hi => .inl hi))
                  clear hold hφ hcl hkp hd
                  rw [if_pos (by rfl)]
                  go_simp
                  exact hK _ _ (RkB.small rfl (Only.refl _ _)) rfl
                · intro a W L N hR hold hφ hcl hkp hd K hK
                  have e60 := got hφ (hd 14 (by kernel_rfl)) rfl rfl rfl
                  obtain ⟨u, e54, p54⟩ := gotP hφ (hd 8 (by kernel_rfl)) rfl rfl rfl
                  have p54 := row_word p54
                  have hsz := (hdr.then hR T (by simp) (fun i hi => .inl hi)).size
                  have hWT := hdr.then hR T (by simp) (fun i hi => .inl hi)
                  clear hold hφ hcl hkp hd
                  rw [if_pos (by rfl)]
                  go_simp
                  refine (HRB.out W hWT u p54.1).mono ?_
                  rintro r w9 ⟨v9, rfl, h9, hO9, hb9⟩
                  exact hK _ _ (RkB.big rfl ⟨_, hO9, fun k hk => p54.2 k (mem_ownL.1 hk)⟩) ⟨h9, fun k hk => by rcases hb9 k hk with h | h; exact p54.2 k (mem_ownL.1 h); exact .inr (by omega)⟩
              · intro us W hO' hus
                obtain ⟨hr1, hr2⟩ := row_word (hus 15 _ 61 (by omega) rfl rfl rfl)
                clear hus
                simp only [List.take_succ_cons, List.take_zero, List.drop_succ_cons, List.drop_zero, fillAct, Act.put, List.setIfInBounds_toArray, List.set_cons_zero, List.set_cons_succ, Nat.reduceAdd]
                have hOW := hdr.then hO' T (by simp) (fun i hi => .inl hi)
                have Hr1 := Lib.hid hr1
                have HOW := Lib.hid (HO.out.then hOW [] (by simp) (fun i hi => .inr (by have := hTb i hi; have := Hbase.out; omega)))
                clear hr1 hr2 hOW hO'
                generalize us 15 = v15 at *
                clear d2 hql
                go_wp2
                go_roundw
                case rel => exact ⟨j + 1, by go_num, hlt, by rw [Htk.out]; exact Hr1.out, HOW.out⟩
                case measure => simp [intOf]; omega
            · have hlti : ¬ (j : Int) < (P.funcs.length : Int) := by omega
              have hjl : j = P.funcs.length := by omega
              have Hacc : Hid (OwnP wr base u3 (placesP P)) := Lib.hid (by have := hown; rw [hjl, List.take_length] at this; exact this)
              clear hown hjl hj hO
              go_wp2
              go_ret
              exact ⟨_, base, rfl, by have := Hqw.out; omega, Hacc.out, HO1.out.plus HO.out⟩

end Go.Proofs.YtildkedplmjdaaaGreatDoor
namespace Go.Proofs.YtildkedplmjdaaaGreatDoor
set_option maxRecDepth 100000
set_option linter.unusedVariables false
open Go.RowKit Go.Sort Go.Stop

theorem ret_Join {fn : Func} {p q r : Tmp} (h : fn.results = #[.cell p 30, .tmp q, .tmp r]) (tmps : Array Value) (w : World) (g : Nat) (x0 x1 x2 y z : Value)
    (hp : tmps.getD p undef = .pointer (some ⟨g, 0, none⟩)) (hq : tmps.getD q undef = y) (hr : tmps.getD r undef = z) (h0 : IsBlk w g (.cells #[x0, x1, x2] 30)) :
    (results fn tmps).run Tryz.prog w = .ok (.tuple #[.agg #[x0, x1, x2], y, z]) w := by
  have hp' : tmps[p]?.getD undef = .pointer (some ⟨g, 0, none⟩) := by simpa using hp
  have hq' : tmps[q]?.getD undef = y := by simpa using hq
  have hr' : tmps[r]?.getD undef = z := by simpa using hr
  have k0 : w.cell? ⟨g, 0, none⟩ = some x0 := h0.cell 0
  have k1 : w.cell? ⟨g, 1, none⟩ = some x1 := h0.cell 1
  have k2 : w.cell? ⟨g, 2, none⟩ = some x2 := h0.cell 2
  simp [results, h, hp', hq', hr', asAddr, k0, k1, k2, go_sem]

/-- What Join answers of files: of none that are no sound set; of the others in their order. -/
def JoinX (zs : List FilM) (X : ProgM × Nat × Nat) : Prop := soundN zs = false ∧ X = (⟨[], [], []⟩, 0, 1) ∨ soundN zs = true ∧ ∃ zs', zs'.Perm zs ∧ OrdF zs' ∧ X = allM (zs'.map (·.2))
def JoinedTo (w : World) (zs : List FilM) (r : Ending) (w' : World) : Prop :=
  ∃ X : ProgM × Nat × Nat, JoinX zs X ∧ ∃ vv vl vf, r = .returned (.tuple #[.agg #[vv, vl, vf], .int .i64 X.2.1, .int .i64 X.2.2]) ∧ ProgAt w' vv vl vf X.1 ∧ Only [] w w'

set_option maxHeartbeats 8000000 in
theorem join_any (w : World) (a : Option Addr) (c : Nat) (zs : List FilM) (h : FilAt w a zs) (hc : zs.length ≤ c) (hn : ∀ f ∈ zs, f.1.length ≤ 100000) (hg : ErrT w) :
    Calls Tryz.prog 18 #[.slice a zs.length c] w (JoinedTo w zs) := by
  have hOa := (Only.refl [] w).alloc (.cells #[.slice none 0 0, .slice none 0 0, .slice none 0 0] 30)
  have hR := Lib.hid (IsBlk.made w (.cells #[.slice none 0 0, .slice none 0 0, .slice none 0 0] 30))
  have HO := Lib.hid hOa
  have H := Lib.hid (h.more hOa)
  have HG := Lib.hid (hg.only hOa (by simp))
  have hgl := hg.lt
  clear h hOa hg
  go_enter Tryz.func18, Tryz.ntmps18
  go_wp2_with fail
  generalize hW : w.alloc (.cells #[.slice none 0 0, .slice none 0 0, .slice none 0 0] 30) = w1 at *
  clear hW
  refine (joined_any w1 a c zs H.out hc hn HG.out).mono ?_
  rintro r w2 ⟨X, hX, vv, vl, vf, ev, rfl, hev, hP, hO2⟩
  have hP0 := hP [] _ (Only.refl [] _) (by simp)
  obtain ⟨a1, c1, rfl, -⟩ := hP0.1
  obtain ⟨a2, c2, rfl, -⟩ := hP0.2.1
  obtain ⟨a3, c3, rfl, -⟩ := hP0.2.2
  clear hP0
  have hRl := hR.out.lt
  obtain ⟨P, pos, er⟩ := X
  simp only at *
  have hR2 := hR.out.only hO2 (by simp)
  have HO2 := Lib.hid (HO.out.plus hO2)
  have HP := Lib.hid hP
  have HX := Lib.hid hX
  have HG2 := Lib.hid (HG.out.only hO2 (by simp))
  have y0 := hR2.cell 0
  have y1 := hR2.cell 1
  have y2 := hR2.cell 2
  have f0 := hR2.notFrozen 0
  have f1 := hR2.notFrozen 1
  have f2 := hR2.notFrozen 2
  have yl := hR2.lt
  have HR2 := Lib.hid hR2
  clear hP hX hR2 hO2
  have Hev := Lib.hid hev
  clear hev
  go_upto_region 2 with fail
  obtain ⟨s0, hE0⟩ := three_world HR2.out (.slice a1 P.vars.length c1) (.slice a2 P.locks.length c2) (.slice a3 P.funcs.length c3)
  have HE0 := Lib.hid (And.intro s0 hE0)
  have HG3 := Lib.hid (HG2.out.only hE0 (by simp; omega))
  clear s0 hE0 y0 y1 y2 f0 f1 f2 yl
  generalize hW3 : ((w2.setCell ⟨w.heap.size, 0, none⟩ (.slice a1 P.vars.length c1)).setCell ⟨w.heap.size, 1, none⟩ (.slice a2 P.locks.length c2)).setCell ⟨w.heap.size, 2, none⟩ (.slice a3 P.funcs.length c3) = w3 at *
  clear hW3
  go_wp2_with fail
  refine (told_any w3 ev _ Hev.out HG3.out).mono ?_
  rintro r w4 ⟨rfl, hO4⟩
  have hR4 := HE0.out.1.only hO4 (by simp)
  have HO4 := Lib.hid (And.intro HE0.out.2 hO4)
  have y0 := hR4.cell 0
  have y1 := hR4.cell 1
  have y2 := hR4.cell 2
  have f0 := hR4.notFrozen 0
  have f1 := hR4.notFrozen 1
  have f2 := hR4.notFrozen 2
  have HR4 := Lib.hid hR4
  clear hR4 hO4
  go_wp2
  obtain ⟨s1, hE1⟩ := three_world HR4.out (.slice a1 P.vars.length c1) (.slice a2 P.locks.length c2) (.slice a3 P.funcs.length c3)
  refine bodyPost_ret_by (ret_Join rfl _ _ w.heap.size _ _ _ _ _ rfl rfl rfl s1) rfl ?_
  refine ⟨(P, pos, er), HX.out, _, _, _, rfl, ?_, ?_⟩
  · exact HP.out [w.heap.size] _ ((HO4.out.1.plus HO4.out.2).then hE1 [w.heap.size] (by simp) (by simp)) (by simp; exact hRl)
  · exact HO2.out.then ((HO4.out.1.plus HO4.out.2).then hE1 [w.heap.size] (by simp) (by simp)) [] (by simp) (by simp)

end Go.Proofs.YtildkedplmjdaaaGreatDoor
namespace Go.Proofs.YtildkedplmjdaaaGreatDoor
set_option maxRecDepth 100000
set_option linter.unusedVariables false
open Go.RowKit Go.Sort Go.Stop

theorem ord_unique {zs zs' l : List FilM} (hp : zs'.Perm zs) (ho : OrdF zs') (hl : l.Perm zs) (hs : l.Pairwise (fun f g => f.1 < g.1)) : zs' = l := by
  have hle : l.Pairwise (fun f g => ¬ g.1 < f.1) := hs.imp (fun {f g} h h2 => List.lt_irrefl _ (List.lt_trans h h2))
  refine List.Perm.eq_of_pairwise (le := fun f g : FilM => ¬ g.1 < f.1) (fun a b ha hb h1 h2 => ?_) (show List.Pairwise (fun f g : FilM => ¬ g.1 < f.1) zs' from ho) hle (hp.trans hl.symm)
  have hal : a ∈ l := (hp.trans hl.symm).mem_iff.1 ha
  have e : a.1 = b.1 := List.le_antisymm (List.not_lt.1 h1) (List.not_lt.1 h2)
  by_cases hab : a = b
  · exact hab
  · exfalso
    obtain ⟨i, hi, hi'⟩ := List.getElem_of_mem hal
    obtain ⟨j, hj, hj'⟩ := List.getElem_of_mem hb
    rw [List.pairwise_iff_getElem] at hs
    rcases Nat.lt_trichotomy i j with h | h | h
    · have := hs i j hi hj h
      rw [hi', hj', e] at this
      exact List.lt_irrefl _ this
    · subst h; exact hab (hi'.symm.trans hj')
    · have := hs j i hj hi h
      rw [hi', hj', e] at this
      exact List.lt_irrefl _ this
/-- Files that are sound, in an order that is known. -/
theorem joinX_of {zs l : List FilM} {X : ProgM × Nat × Nat} (h : JoinX zs X) (hs : soundN zs = true) (hl : l.Perm zs) (hr : l.Pairwise (fun f g => f.1 < g.1)) : X = allM (l.map (·.2)) := by
  rcases h with ⟨h1, -⟩ | ⟨-, zs', hp, ho, rfl⟩
  · rw [hs] at h1; cases h1
  · rw [ord_unique hp ho hl hr]
theorem joinX_not {zs : List FilM} {X : ProgM × Nat × Nat} (h : JoinX zs X) (hs : soundN zs = false) : X = (⟨[], [], []⟩, 0, 1) := by
  rcases h with ⟨-, h2⟩ | ⟨h1, -⟩
  · exact h2
  · rw [hs] at h1; cases h1

def mainT : List UInt8 := [102, 117, 110, 99, 32, 109, 97, 105, 110, 32, 123, 32, 125]
theorem all_none : allM [] = (⟨[], [], []⟩, 0, 11) := by kernel_rfl
theorem all_main : allM [mainT] = (⟨[], [], [⟨[109, 97, 105, 110], 0, .nil⟩]⟩, 0, 0) := by kernel_rfl

end Go.Proofs.YtildkedplmjdaaaGreatDoor
namespace Go.Proofs.YtildkedplmjdaaaGreatDoor
set_option maxRecDepth 100000
set_option linter.unusedVariables false
open Go.RowKit Go.Sort

set_option maxHeartbeats 400000 in
theorem within7_nat (w : World) (x : Int) (n : Nat) (hn0 : 0 < n) (hn : n < 1000000) :
    Calls Tryz.prog 10 #[.int .i64 x, .int .i64 n] w fun e w' => e = .returned (.int .i64 (x % n)) ∧ w = w' := by
  obtain ⟨h1, h2, h3, h4⟩ := tmod_bounds x n hn0
  have H3 := Lib.hid h3
  have H4 := Lib.hid h4
  clear h3 h4
  have hnz : ((n : Int) == 0) = false := by simp; omega
  by_cases hs : x.tmod n < 0
  · have e1 := H4.out hs
    rw [← e1]
    clear H3 H4 e1
    go_enter Tryz.func10, Tryz.ntmps10
    go_wp2
    go_ret
    exact ⟨rfl, rfl⟩
  · have e1 := H3.out (by omega)
    rw [← e1]
    clear H3 H4 e1
    go_enter Tryz.func10, Tryz.ntmps10
    go_wp2
    go_ret
    exact ⟨rfl, rfl⟩
theorem within7_to (w : World) (x n : Int) (hn0 : 0 < n) (hn : n < 1000000) :
    Calls Tryz.prog 10 #[.int .i64 x, .int .i64 n] w fun e w' => e = .returned (.int .i64 (inM x n.toNat)) ∧ w = w' := by
  obtain ⟨k, rfl⟩ := Int.eq_ofNat_of_zero_le (show 0 ≤ n by omega)
  refine (within7_nat w x k (by omega) (by omega)).mono ?_
  rintro e w' ⟨rfl, rfl⟩
  have h1 := Int.emod_nonneg x (show (k : Int) ≠ 0 by omega)
  exact ⟨by unfold inM; rw [Int.toNat_natCast, Int.toNat_of_nonneg h1], rfl⟩

theorem FilAt.none (w : World) (a : Option Addr) : FilAt w a [] := fun h => by simp at h
theorem FilAt.one {w : World} {g : Nat} {s t : List UInt8} {T : TypeId} (h : IsBlk w g (.cells #[encStr s, encStr t] T)) : FilAt w (some ⟨g, 0, Option.none⟩) [(s, t)] := fun _ => by
  refine ⟨g, 0, rfl, h.lt, fun j f hf => ?_⟩
  match j, hf with
  | 0, hf => simp at hf; subst hf; exact ⟨h.cell 0, h.cell 1⟩
  | k + 1, hf => simp at hf

set_option maxHeartbeats 8000000 in
theorem known7_any (w : World) (hg : ErrT w) : Calls Tryz.prog 6 #[] w fun e w' => e = .returned (.bool true) ∧ Only [] w w' := by
  go_enter Tryz.func6, Tryz.ntmps6
  go_wp2_with fail
  refine (join_any w Option.none 0 [] (FilAt.none _ _) (by simp) (by simp) hg).mono ?_
  rintro e w1 ⟨X, hX, vv, vl, vf, rfl, hP, hO1⟩
  have hX1 := joinX_of (l := []) hX (by decide +kernel) (List.Perm.refl _) List.Pairwise.nil
  rw [show List.map (fun x => x.2) ([] : List FilM) = [] from rfl, all_none] at hX1
  subst hX1
  obtain ⟨a1, c1, rfl, -⟩ := hP.1
  obtain ⟨a2, c2, rfl, -⟩ := hP.2.1
  obtain ⟨a3, c3, rfl, -⟩ := hP.2.2
  simp only [List.length_nil] at *
  have hO2 := hO1.alloc (.cells #[.slice a1 0 c1, .slice a2 0 c2, .slice a3 0 c3] 30)
  have hO3 := hO2.alloc (.cells #[.string ⟨#[97]⟩, .string ⟨#[102, 117, 110, 99, 32, 109, 97, 105, 110, 32, 123, 32, 125]⟩] 46)
  have hb2 := IsBlk.made (w1.alloc (.cells #[.slice a1 0 c1, .slice a2 0 c2, .slice a3 0 c3] 30)) (.cells #[.string ⟨#[97]⟩, .string ⟨#[102, 117, 110, 99, 32, 109, 97, 105, 110, 32, 123, 32, 125]⟩] 46)
  have hs1 : (w1.alloc (.cells #[.slice a1 0 c1, .slice a2 0 c2, .slice a3 0 c3] 30)).heap.size = w1.heap.size + 1 := by simp
  rw [hs1] at hb2
  have Hb2 := Lib.hid (FilAt.one (s := [97]) (t := mainT) hb2)
  have HO3 := Lib.hid hO3
  have HG3 := Lib.hid (hg.only hO3 (by simp))
  clear hP hO1 hO2 hO3 hb2 hs1 hg hX
  go_wp2_with fail
  generalize hW : (w1.alloc (.cells #[.slice a1 0 c1, .slice a2 0 c2, .slice a3 0 c3] 30)).alloc (.cells #[.string ⟨#[97]⟩, .string ⟨#[102, 117, 110, 99, 32, 109, 97, 105, 110, 32, 123, 32, 125]⟩] 46) = w3 at *
  clear hW
  generalize w1.heap.size = q at *
  refine (join_any w3 _ 1 [([97], mainT)] Hb2.out (by simp) (by simp) HG3.out).mono ?_
  rintro e w4 ⟨X, hX, vv, vl, vf, rfl, hP, hO4⟩
  have hX1 := joinX_of (l := [([97], mainT)]) hX (by decide +kernel) (List.Perm.refl _) (by simp)
  rw [show List.map (fun x => x.2) [(([97], mainT) : FilM)] = [mainT] from rfl, all_main] at hX1
  subst hX1
  obtain ⟨a1, c1, rfl, -⟩ := hP.1
  obtain ⟨a2, c2, rfl, -⟩ := hP.2.1
  obtain ⟨a3, c3, xs, fp, rfl, hE, hra⟩ := funcs_open hP.2.2
  obtain ⟨g, rfl, hgl, hra⟩ := hra (by simp)
  obtain ⟨va, fa, fr, xr, rfl, -, -⟩ := hE
  have k0 : w4.cell? ⟨g, 0, Option.none⟩ = some (.string ⟨#[109, 97, 105, 110]⟩) := hra 0 _ rfl
  have HO4 := Lib.hid (HO3.out.plus hO4)
  clear hX hP hra hO4 HO3
  simp only [List.length_nil, List.length_cons] at *
  go_wp2
  go_ret
  exact ⟨rfl, HO4.out.alloc _⟩

end Go.Proofs.YtildkedplmjdaaaGreatDoor
namespace Go.Proofs.YtildkedplmjdaaaGreatDoor
set_option maxRecDepth 100000
set_option linter.unusedVariables false
open Go.RowKit Go.Sort

end Go.Proofs.YtildkedplmjdaaaGreatDoor
