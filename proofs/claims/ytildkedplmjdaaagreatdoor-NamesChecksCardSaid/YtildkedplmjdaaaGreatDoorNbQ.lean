/-
  NamesChecks: any program that was read is checked as the document says.
-/
import Derived.Test.YtildkedplmjdaaaGreatDoorNbO
namespace Go.Proofs.YtildkedplmjdaaaGreatDoor
set_option maxRecDepth 100000
set_option linter.unusedVariables false
open Go.RowKit Go.Sort

theorem cntF_drop : ∀ (l : List FuncM) (j : Nat) (f : FuncM), l[j]? = some f → cntF (l.drop j) = cntB f.body + cntF (l.drop (j + 1))
  | [], j, f, h => by simp at h
  | d :: l, 0, f, h => by simp at h; subst h; rfl
  | d :: l, j + 1, f, h => by rw [List.drop_succ_cons, List.drop_succ_cons]; exact cntF_drop l j f (by simpa using h)
theorem cntB_le : ∀ (l : List FuncM) (j : Nat) (f : FuncM), l[j]? = some f → cntB f.body ≤ cntF l
  | [], j, f, h => by simp at h
  | d :: l, 0, f, h => by simp at h; subst h; rw [cntF]; omega
  | d :: l, j + 1, f, h => by have := cntB_le l j f (by simpa using h); rw [cntF]; omega
theorem lookCF_drop (P : ProgM) : ∀ (l : List FuncM) (j : Nat) (f : FuncM), l[j]? = some f → lookCF P (l.drop j) = (lookC P f.body).or (lookCF P (l.drop (j + 1)))
  | [], j, f, h => by simp at h
  | d :: l, 0, f, h => by simp at h; subst h; rfl
  | d :: l, j + 1, f, h => by rw [List.drop_succ_cons, List.drop_succ_cons]; exact lookCF_drop P l j f (by simpa using h)

set_option maxHeartbeats 16000000 in
theorem dcheck_any (w : World) (vv vl vf : Value) (P : ProgM) (h : ProgAt w vv vl vf P) (hn : P.vars.length ≤ 300000 ∧ P.locks.length ≤ 300000 ∧ P.funcs.length ≤ 300000) (hc : cntF P.funcs ≤ 1000000) :
    Calls Tryz.prog 14 #[.agg #[vv, vl, vf]] w fun e w' => e = .returned (.tuple #[.int .i64 (checkM P).1, .int .i64 (checkM P).2]) ∧ Only [] w w' := by
  have HP := Lib.hid h
  obtain ⟨⟨av, cv, rfl, -⟩, ⟨al, cl, rfl, -⟩, ⟨af, cf, rfl, hcf, hf⟩⟩ := h
  have Hf := Lib.hid hf
  have HB := Lib.hid (IsBlk.made w (.cells #[.slice av P.vars.length cv, .slice al P.locks.length cl, .slice af P.funcs.length cf] 30))
  have HOa := Lib.hid ((Only.refl [] w).alloc (.cells #[.slice av P.vars.length cv, .slice al P.locks.length cl, .slice af P.funcs.length cf] 30))
  clear hf
  have HX := Lib.hid (check_to P).symm
  go_enter Tryz.func14, Tryz.ntmps14
  go_wp2_with fail
  generalize hW1 : w.alloc (.cells #[.slice av P.vars.length cv, .slice al P.locks.length cl, .slice af P.funcs.length cf] 30) = w1 at *
  clear hW1
  go_loopw [4, 5] (fun nv iv wr => ∃ j m : Nat, nv = .int .i64 m ∧ iv = .int .i64 j ∧ j ≤ P.funcs.length ∧ m + cntF (P.funcs.drop j) = cntF P.funcs ∧ Only [] w1 wr) (fun _ iv _ => P.funcs.length - (intOf iv).toNat)
  case atStart => exact ⟨0, 0, rfl, rfl, Nat.zero_le _, by simp, Only.refl _ _⟩
  case round =>
    obtain ⟨j, m, rfl, rfl, hj, hm, hO⟩ := hrel
    have HO := Lib.hid hO
    have b0 := (HB.out.only hO (by simp)).cell 0
    have b1 := (HB.out.only hO (by simp)).cell 1
    have b2 := (HB.out.only hO (by simp)).cell 2
    have bl := (HB.out.only hO (by simp)).lt
    clear hO
    by_cases hlt : j < P.funcs.length
    · have hji : (j : Int) < (P.funcs.length : Int) := by omega
      obtain ⟨gf, xs, fp, rfl, hgf, hrx, hE⟩ := Hf.out (by omega)
      obtain ⟨f, hfj⟩ : ∃ f, P.funcs[j]? = some f := ⟨P.funcs[j], by simp [hlt]⟩
      obtain ⟨va, fa, -, -, e2, hbk, -⟩ := EncF.get hE j f hfj
      have c2 := hrx _ _ e2
      rw [Nat.zero_add] at c2
      have hOO := HOa.out.plus HO.out
      have c2 := (hOO.cell (p := ⟨gf, j * 3 + 2, none⟩) hgf (by simp)).trans c2
      have hgw := Nat.lt_of_lt_of_le hgf hOO.size
      have hd := cntF_drop _ _ _ hfj
      have hcb := cntB_le _ _ _ hfj
      have Hd := Lib.hid (show (m + cntB f.body) + cntF (P.funcs.drop (j + 1)) = cntF P.funcs by omega)
      have hmb : m + cntB f.body ≤ 1000000 := by omega
      have hcc := cntB_cnt f.body
      obtain ⟨ab, cb, rfl, -⟩ := BlkAt.slice hbk
      have Hcnt := Lib.hid (dcount_any _ f.body (Nat.le_refl _) (by omega) wr _ fa (hbk.more hOO))
      clear hd hm hrx hE hfj e2 hbk hOO hcc hcb
      go_wp2_with fail
      refine Hcnt.out.mono ?_
      rintro e w2 ⟨rfl, hO2⟩
      have HO2 := Lib.hid (HO.out.plus hO2)
      clear hO2 Hcnt
      go_wp2_with fail
      go_roundw
      case rel => exact ⟨j + 1, m + cntB f.body, by go_num, by go_num, hlt, Hd.out, HO2.out⟩
      case measure => simp [intOf]; omega
    · have hji : ¬ (j : Int) < (P.funcs.length : Int) := by omega
      obtain rfl : j = P.funcs.length := by omega
      have hmc : m = cntF P.funcs := by rw [List.drop_length] at hm; simpa [cntF] using hm
      have hlg : longM P = decide (20 < P.vars.length ∨ 20 < P.locks.length ∨ 20 < P.funcs.length ∨ 200 < m) := by rw [hmc]; unfold longM; simp [Bool.or_assoc]
      have Hlg := Lib.hid hlg
      have HOw := Lib.hid (HOa.out.plus HO.out)
      clear hm hmc hlg
      by_cases h1 : 20 < P.vars.length
      · have i1 : (20 : Int) < (P.vars.length : Int) := by omega
        go_wp2
        go_ret2
        have hl : longM P = true := by rw [Hlg.out]; simp [h1]
        rw [HX.out, checkD, if_pos hl]
        exact ⟨rfl, HOw.out⟩
      have i1 : ¬ (20 : Int) < (P.vars.length : Int) := by omega
      by_cases h2 : 20 < P.locks.length
      · have i2 : (20 : Int) < (P.locks.length : Int) := by omega
        go_wp2
        go_ret2
        have hl : longM P = true := by rw [Hlg.out]; simp [h2]
        rw [HX.out, checkD, if_pos hl]
        exact ⟨rfl, HOw.out⟩
      have i2 : ¬ (20 : Int) < (P.locks.length : Int) := by omega
      by_cases h3 : 20 < P.funcs.length
      · have i3 : (20 : Int) < (P.funcs.length : Int) := by omega
        go_wp2
        go_ret2
        have hl : longM P = true := by rw [Hlg.out]; simp [h3]
        rw [HX.out, checkD, if_pos hl]
        exact ⟨rfl, HOw.out⟩
      have i3 : ¬ (20 : Int) < (P.funcs.length : Int) := by omega
      by_cases h4 : 200 < m
      · have i4 : (200 : Int) < (m : Int) := by omega
        go_wp2
        go_ret2
        have hl : longM P = true := by rw [Hlg.out]; simp [h4]
        rw [HX.out, checkD, if_pos hl]
        exact ⟨rfl, HOw.out⟩
      have i4 : ¬ (200 : Int) < (m : Int) := by omega
      have Hl : Hid (longM P = false) := Lib.hid (by rw [Hlg.out]; simp; omega)
      go_upto_region 8 with fail
      have hOz := Lib.hid (((Only.refl [] wr).alloc (.cells #[] 59)).drew)
      have Hv0 : Hid (OwnD7 (wr.alloc (.cells #[] 59)).drew wr.heap.size (.slice (some ⟨wr.heap.size, 0, none⟩) 0 0) []) := Lib.hid (OwnD7.more (w := wr.alloc (.cells #[] 59)) ⟨rfl, .inr ⟨_, 0, #[], rfl, Nat.le_refl _, IsBlk.made wr _, Nat.le_refl _, by unfold maxLen; omega, rfl, rfl⟩⟩ ((Only.refl [] _).drew))
      have HSc : Hid (∀ W, Only [] wr W → W.cell? ⟨w.heap.size, 0, none⟩ = some (.slice av P.vars.length cv) ∧ W.cell? ⟨w.heap.size, 1, none⟩ = some (.slice al P.locks.length cl) ∧ W.cell? ⟨w.heap.size, 2, none⟩ = some (.slice af P.funcs.length cf)) := Lib.hid (fun W hW =>
        ⟨(HB.out.only (HO.out.plus hW) (by simp)).cell 0, (HB.out.only (HO.out.plus hW) (by simp)).cell 1, (HB.out.only (HO.out.plus hW) (by simp)).cell 2⟩)
      have hS0 := HSc.out _ ((Only.refl [] wr).drew)
      have hS1 := HSc.out _ hOz.out
      obtain ⟨hnv, hnl, hnf⟩ := hn
      go_region_held3 (fun W => W.cell? ⟨w.heap.size, 0, none⟩ = some (.slice av P.vars.length cv) ∧ W.cell? ⟨w.heap.size, 1, none⟩ = some (.slice al P.locks.length cl) ∧ W.cell? ⟨w.heap.size, 2, none⟩ = some (.slice af P.funcs.length cf)) (first | exact hS0 | exact hS1 | assumption)
        (first
          | (rw [if_pos (by rfl)]
             refine wp_append_d7 _ _ rfl wr.heap.size v6 vfn (P.vars ++ P.locks) (P.funcs.map fdM) rfl (h6.more hO7) rfl hfn (by simp; omega) (by simp; omega) hw7.size ?_
             intro v8 w8 S8 h8 hO8 hT8
             have hw8 : Only [] wr w8 := hw7.then hO8 [] (by simp) (fun i hi => .inr (hT8 i hi))
             have hS8 := HSc.out w8 hw8)
          | (go_at_call 33
             with_reducible refine (dfuncs_any w6 _ _ _ P (HP.out.more (HOw.out.plus hw6)) (by omega)).mono ?_
             rintro e w7 ⟨vfn, rfl, hfn', hO7⟩
             have hfn := owns_decls hfn'
             have hw7 : Only [] wr w7 := Only.plus hw6 hO7
             have hS7 := HSc.out w7 hw7)
          | (rw [if_pos (by rfl)]
             refine wp_append_d7 _ _ rfl wr.heap.size v5 (.slice al P.locks.length cl) P.vars P.locks rfl h5 rfl ((HP.out.more (HOw.out.plus hw5)).2.1) (by omega) (by omega) hw5.size ?_
             intro v6 w6 S6 h6 hO6 hT6
             have hw6 : Only [] wr w6 := hw5.then hO6 [] (by simp) (fun i hi => .inr (hT6 i hi))
             have hS6 := HSc.out w6 hw6)
          | (rw [if_pos (by rfl)]
             refine wp_append_d7 _ _ rfl wr.heap.size (.slice (some ⟨wr.heap.size, 0, none⟩) 0 0) (.slice av P.vars.length cv) [] P.vars rfl Hv0.out rfl ((HP.out.more (HOw.out.plus hOz.out)).1) (by simp) (by omega) hOz.out.size ?_
             intro v5 w5 S5 h5 hO5 hT5
             rw [List.nil_append] at h5
             have hw5 : Only [] wr w5 := hOz.out.then hO5 [] (by simp) (fun i hi => .inr (hT5 i hi))
             have hS5 := HSc.out w5 hw5))
      have Hall : Hid (OwnD7 w8 wr.heap.size v8 (allD P)) := Lib.hid (by have := h8; rw [List.append_assoc] at this; exact this)
      have HO8 := Lib.hid (HOw.out.plus hw8)
      have HO18 := Lib.hid (HO.out.plus hw8)
      have hL : (allD P).length ≤ 1000000 := by unfold allD; simp; omega
      clear hS8 hw8 h8 hO8 hT8 hS7 hw7 hO7 hfn hfn' hS6 hw6 h6 hO6 hT6 hS5 hw5 h5 hO5 hT5 hS0 hS1 hOz Hv0 b0 b1 b2 bl
      obtain ⟨a8, c8, rfl, hc8, hr8⟩ := owns_decls Hall.out
      have H8 := Lib.hid hr8
      have Hck := Lib.hid (show checkD P = match twiceD [] (allD P) with
        | some p => (p, 9)
        | none => match lookCF P P.funcs with
          | some p => (p, 10)
          | none => if (P.funcs.map fdM).any (fun d => d.name == main7) then (0, 0) else (0, 11) by unfold checkD; rw [if_neg (by rw [Hl.out]; simp)]; rfl)
      clear hr8 Hall Hl Hlg hcf
      have HBw := Lib.hid (HB.out.only HO18.out (by simp))
      generalize hLL : allD P = L at *
      clear hLL
      go_wp2_with fail
      go_loopw [7] (fun iv wz => ∃ j : Nat, iv = .int .i64 j ∧ j ≤ L.length ∧ twiceD [] L = twiceD (L.take j) (L.drop j) ∧ Only [] w8 wz) (fun iv _ => L.length - (intOf iv).toNat)
      case atStart => exact ⟨0, rfl, Nat.zero_le _, by simp, Only.refl _ _⟩
      case round =>
        obtain ⟨j, rfl, hj, htw, hO⟩ := hrel
        have Htw := Lib.hid htw
        have HOl := Lib.hid hO
        have HOt := Lib.hid (HO8.out.plus hO)
        clear htw hO
        by_cases hlt : j < L.length
        · have hji : (j : Int) < (L.length : Int) := by omega
          have hj0 : (0 : Int) ≤ (j : Int) := by omega
          have hjc : (j : Int) ≤ (c8 : Int) := by omega
          obtain ⟨ga, rfl, hga, hrx⟩ := H8.out (by omega)
          obtain ⟨d, hdj⟩ : ∃ d, L[j]? = some d := ⟨L[j], by simp [hlt]⟩
          obtain ⟨e0, e1⟩ := dcells_get L j d hdj
          have c0 := hrx _ _ e0
          have c1 := hrx _ _ e1
          rw [Nat.zero_add] at c0 c1
          have hlt' : (L.take j).length = j := by rw [List.length_take]; omega
          have HDt : Hid (∀ W, Only [] w8 W → DeclsAt W (.slice (some ⟨ga, 0, none⟩) (L.take j).length c8) (L.take j)) := Lib.hid (fun W hW => by
            refine ⟨_, c8, rfl, by omega, fun _ => ⟨ga, rfl, Nat.lt_of_lt_of_le hga hW.size, fun i x hx => ?_⟩⟩
            refine (hW.cell (p := ⟨ga, 0 + i, none⟩) hga (by simp)).trans (hrx i x ?_)
            have : dcells L = dcells (L.take j) ++ dcells (L.drop j) := by rw [← dcells_app, List.take_append_drop]
            rw [this, List.getElem?_append_left (by
              rcases Nat.lt_or_ge i (dcells (L.take j)).length with h | h
              · exact h
              · rw [List.getElem?_eq_none h] at hx; cases hx)]
            exact hx)
          have HAm : Hid (∀ W, Only [] w8 W → Calls Tryz.prog 34 #[.slice (some ⟨ga, 0, none⟩) j c8, .string ⟨d.name.toArray⟩] W fun e w' => e = .returned (.bool ((L.take j).any (fun x => x.name == d.name))) ∧ W = w') := Lib.hid (fun W hW => by
            have := among_any W _ (L.take j) d.name (HDt.out W hW) (by omega)
            rw [hlt'] at this
            exact this)
          have hS : ∀ W, Only [] w8 W → W.cell? ⟨ga, j * 2, none⟩ = some (.string ⟨d.name.toArray⟩) ∧ W.cell? ⟨ga, j * 2 + 1, none⟩ = some (.int .i64 d.at_) := fun W hW =>
            ⟨(hW.cell (p := ⟨ga, j * 2, none⟩) hga (by simp)).trans c0, (hW.cell (p := ⟨ga, j * 2 + 1, none⟩) hga (by simp)).trans c1⟩
          have HS := Lib.hid hS
          have Hdr := Lib.hid (show L.drop j = d :: L.drop (j + 1) by rw [List.drop_eq_getElem_cons hlt]; congr 1; have := List.getElem?_eq_getElem hlt; rw [hdj] at this; injection this with this; exact this.symm)
          have Htk := Lib.hid (show L.take (j + 1) = L.take j ++ [d] by rw [List.take_add_one, hdj]; rfl)
          have hgw : ga < wr.heap.size := Nat.lt_of_lt_of_le hga HOl.out.size
          clear hS c0 c1 e0 e1 hrx hdj HDt
          go_upto_region 12 with fail
          have hdr : Only [] wr wr.drew := (Only.refl [] wr).drew
          have hs0 := HS.out wr.drew (HOl.out.plus hdr)
          go_region_held3 (fun W => W.cell? ⟨ga, j * 2, none⟩ = some (.string ⟨d.name.toArray⟩) ∧ W.cell? ⟨ga, j * 2 + 1, none⟩ = some (.int .i64 d.at_)) (first | exact hs0 | assumption)
            (first
              | (go_at_call 34
                 with_reducible refine (HAm.out _ ?_).mono ?_
                 · exact HOl.out.plus hdr
                 rintro e w9 ⟨rfl, rfl⟩))
          have hdw := HOl.out.plus hdr
          cases hany : (L.take j).any (fun x => x.name == d.name) with
          | true =>
            have Hany := Lib.hid hany
            obtain ⟨q0, q1⟩ := hs0
            clear hany
            go_wp2_with fail
            go_ret2
            rw [HX.out, Hck.out, Htw.out, Hdr.out, twiceD, if_pos Hany.out]
            exact ⟨rfl, HOt.out.plus hdr⟩
          | false =>
            have Hany := Lib.hid hany
            clear hany
            go_wp2_with fail
            go_roundw
            case rel => exact ⟨j + 1, by go_num, hlt, by rw [Htw.out, Hdr.out, twiceD, if_neg (by rw [Hany.out]; simp), Htk.out], hdw⟩
            case measure => simp [intOf]; omega
        · have hji : ¬ (j : Int) < (L.length : Int) := by omega
          have Htn : Hid (twiceD [] L = none) := Lib.hid (by
            have := Htw.out
            obtain rfl : j = L.length := by omega
            rw [List.drop_length] at this
            rw [this]; rfl)
          have HBx := Lib.hid (HBw.out.only HOl.out (by simp))
          clear Htw HBw
          obtain ⟨w5, hw5⟩ : ∃ w5, w5 = wr := ⟨_, rfl⟩
          subst hw5
          go_wp2_with fail
          go_loopw [8] (fun iv wz => ∃ i : Nat, iv = .int .i64 i ∧ i ≤ P.funcs.length ∧ lookCF P P.funcs = lookCF P (P.funcs.drop i) ∧ Only [] w5 wz) (fun iv _ => P.funcs.length - (intOf iv).toNat)
          case atStart => exact ⟨0, rfl, Nat.zero_le _, by simp, Only.refl _ _⟩
          case round =>
            obtain ⟨i, rfl, hi, hlk, hO⟩ := hrel
            have Hlk := Lib.hid hlk
            have HOi := Lib.hid (HOt.out.plus hO)
            have HO5 := Lib.hid hO
            have b0 := (HBx.out.only hO (by simp)).cell 0
            have b1 := (HBx.out.only hO (by simp)).cell 1
            have b2 := (HBx.out.only hO (by simp)).cell 2
            have bl := (HBx.out.only hO (by simp)).lt
            clear hlk hO
            by_cases hif : i < P.funcs.length
            · have hii : (i : Int) < (P.funcs.length : Int) := by omega
              obtain ⟨gf, xs, fp, rfl, hgf, hrx, hE⟩ := Hf.out (by omega)
              obtain ⟨f, hfj⟩ : ∃ f, P.funcs[i]? = some f := ⟨P.funcs[i], by simp [hif]⟩
              obtain ⟨va, fa, -, -, e2, hbk, -⟩ := EncF.get hE i f hfj
              have c2 := hrx _ _ e2
              rw [Nat.zero_add] at c2
              have hcb := cntB_le _ _ _ hfj
              have hcc := cntB_cnt f.body
              obtain ⟨ab, cb, rfl, -⟩ := hbk.slice
              have HSc : Hid (∀ W, Only [] wr W → W.cell? ⟨w.heap.size, 0, none⟩ = some (.slice av P.vars.length cv) ∧ W.cell? ⟨w.heap.size, 1, none⟩ = some (.slice al P.locks.length cl) ∧ W.cell? ⟨w.heap.size, 2, none⟩ = some (.slice (some ⟨gf, 0, none⟩) P.funcs.length cf) ∧ W.cell? ⟨gf, i * 3 + 2, none⟩ = some (.slice ab f.body.len cb)) := Lib.hid (fun W hW =>
                ⟨(HBx.out.only (HO5.out.plus hW) (by simp)).cell 0, (HBx.out.only (HO5.out.plus hW) (by simp)).cell 1, (HBx.out.only (HO5.out.plus hW) (by simp)).cell 2, ((HOi.out.plus hW).cell (p := ⟨gf, i * 3 + 2, none⟩) hgf (by simp)).trans c2⟩)
              have HY : Hid (∀ W, Only [] wr W → Calls Tryz.prog 35 #[.agg #[.slice av P.vars.length cv, .slice al P.locks.length cl, .slice (some ⟨gf, 0, none⟩) P.funcs.length cf], .slice ab f.body.len cb] W fun e w' => e = .returned (.tuple #[.int .i64 (bodyX P f.body).1, .int .i64 (bodyX P f.body).2]) ∧ Only [] W w') :=
                Lib.hid (fun W hW => dbody_any P ⟨by omega, by omega, by omega⟩ _ f.body (Nat.le_refl _) (by omega) W _ _ _ _ (HP.out.more (HOi.out.plus hW)) (RdB.of (hbk.more (HOi.out.plus hW))))
              have Hld := Lib.hid (lookCF_drop P _ _ _ hfj)
              have hgw := Nat.lt_of_lt_of_le hgf HOi.out.size
              clear hrx hE hfj e2 hbk c2 hcb hcc
              go_upto_region 17 with fail
              have hdr : Only [] wr wr.drew := (Only.refl [] wr).drew
              have hs0 := HSc.out _ hdr
              go_region_held3 (fun W => W.cell? ⟨w.heap.size, 0, none⟩ = some (.slice av P.vars.length cv) ∧ W.cell? ⟨w.heap.size, 1, none⟩ = some (.slice al P.locks.length cl) ∧ W.cell? ⟨w.heap.size, 2, none⟩ = some (.slice (some ⟨gf, 0, none⟩) P.funcs.length cf) ∧ W.cell? ⟨gf, i * 3 + 2, none⟩ = some (.slice ab f.body.len cb)) (first | exact hs0 | assumption)
                (first
                  | (go_at_call 35
                     with_reducible refine (HY.out _ hdr).mono ?_
                     rintro e w9 ⟨rfl, hO9⟩
                     have hw9 : Only [] wr w9 := Only.plus hdr hO9
                     have hs9 := HSc.out w9 hw9))
              have HO9 := Lib.hid (HOi.out.plus hw9)
              have HO59 := Lib.hid (HO5.out.plus hw9)
              clear hs9 hw9 hO9 hs0
              have Hbx := Lib.hid (rfl : bodyX P f.body = (match lookC P f.body with | some p => (p, 10) | none => (0, 0)))
              cases hlc : lookC P f.body with
              | some pp =>
                have hb1 : bodyX P f.body = (pp, 10) := by unfold bodyX; rw [hlc]
                rw [hb1]
                have Hlc := Lib.hid hlc
                clear hlc hb1
                go_wp2_with fail
                go_ret2
                rw [HX.out, Hck.out, Htn.out, Hlk.out, Hld.out, Hlc.out]
                exact ⟨rfl, HO9.out⟩
              | none =>
                have hb1 : bodyX P f.body = (0, 0) := by unfold bodyX; rw [hlc]
                rw [hb1]
                have Hlc := Lib.hid hlc
                clear hlc hb1
                go_wp2_with fail
                go_roundw
                case rel => exact ⟨i + 1, by go_num, hif, by rw [Hlk.out, Hld.out, Hlc.out]; rfl, HO59.out⟩
                case measure => simp [intOf]; omega
            · have hii : ¬ (i : Int) < (P.funcs.length : Int) := by omega
              have Hln : Hid (lookCF P P.funcs = none) := Lib.hid (by
                have := Hlk.out
                obtain rfl : i = P.funcs.length := by omega
                rw [List.drop_length] at this
                rw [this]; rfl)
              go_wp2_with fail
              refine (dfuncs_any wr _ _ _ P (HP.out.more HOi.out) (by omega)).mono ?_
              rintro e w9 ⟨vfn, rfl, hfn, hO9⟩
              have HO9 := Lib.hid (HOi.out.plus hO9)
              have hdf := owns_decls hfn
              clear hO9 hfn
              go_wp2_with fail
              refine (among_any w9 vfn _ main7 hdf (by simp; omega)).mono ?_
              rintro e w' ⟨rfl, rfl⟩
              cases hmn : (P.funcs.map fdM).any (fun d => d.name == main7) with
              | true =>
                have Hmn := Lib.hid hmn
                clear hmn
                go_wp2_with fail
                go_ret2
                rw [HX.out, Hck.out, Htn.out, Hln.out]
                simp only [Hmn.out, if_true]
                exact ⟨rfl, HO9.out⟩
              | false =>
                have Hmn := Lib.hid hmn
                clear hmn
                go_wp2_with fail
                go_ret2
                rw [HX.out, Hck.out, Htn.out, Hln.out]
                simp only [Hmn.out, Bool.false_eq_true, if_false]
                exact ⟨rfl, HO9.out⟩

end Go.Proofs.YtildkedplmjdaaaGreatDoor
namespace Go.Proofs.YtildkedplmjdaaaGreatDoor
set_option maxRecDepth 100000
set_option linter.unusedVariables false
open Go.RowKit Go.Sort

/-- A row of short texts, read at some index. -/
theorem strs7_cell {w : World} {g : Nat} {l : List ByteArray} {T : TypeId} (h : IsBlk w g (.cells (l.map Value.string).toArray T)) (hl : ∀ b ∈ l, b.size ≤ 20) (i : Nat) (hi : i < l.length) : ∃ b : ByteArray, w.cell? ⟨g, i, none⟩ = some (.string b) ∧ b.size ≤ 20 := by
  refine ⟨l[i], ?_, hl _ (List.getElem_mem hi)⟩
  rw [h.cell]
  simp [hi]

set_option maxHeartbeats 16000000 in
theorem nchecks_walk (va vb : Value) (a b : RawM) (an : Option Addr) (ln cn : Nat) (ns : List Int) (which k : Int) (w : World) (ha : RawAt w va a) (hb : RawAt w vb b) (hns : IntsArg w an ln ns) (hg : ErrT w) :
    Calls Tryz.prog 3 #[va, vb, .slice an ln cn, .int .i64 which, .int .i64 k] w fun e w' => e = .returned (.bool true) ∧ Only [] w w' := by
  have Ha := Lib.hid ha
  have Hb := Lib.hid hb
  have Hns := Lib.hid hns
  obtain ⟨aa, ca, rfl, -⟩ := ha
  obtain ⟨ab, cb, rfl, -⟩ := hb
  clear hns
  go_enter Tryz.func3, Tryz.ntmps3
  go_wp2_with fail
  refine (known7_any _ hg).mono ?_
  rintro e w0 ⟨rfl, hO0⟩
  have HO0 := Lib.hid hO0
  have HG0 := Lib.hid (hg.only hO0 (by simp))
  clear hO0 hg
  go_wp2_with fail
  refine (few6_any a _ _ (Ha.out.more HO0.out)).mono ?_
  rintro e w1 ⟨rfl, hO1⟩
  have HO1 := Lib.hid (HO0.out.plus hO1)
  have HG1 := Lib.hid (HG0.out.only hO1 (by simp))
  clear hO1 HG0
  by_cases hfa : sizeM a 0 ≤ 40
  · rw [show decide (sizeM a 0 ≤ 40) = true from by simp [hfa]]
    have Hfa := Lib.hid hfa
    clear hfa
    go_wp2_with fail
    refine (few6_any b _ _ (Hb.out.more HO1.out)).mono ?_
    rintro e w2 ⟨rfl, hO2⟩
    have HO2 := Lib.hid (HO1.out.plus hO2)
    have HG2 := Lib.hid (HG1.out.only hO2 (by simp))
    clear hO2 HG1
    by_cases hfb : sizeM b 0 ≤ 40
    · rw [show decide (sizeM b 0 ≤ 40) = true from by simp [hfb]]
      have Hfb := Lib.hid hfb
      clear hfb
      go_wp2_with fail
      have hnil : RawAt w2 (.slice none 0 0) .nil := ⟨none, 0, rfl, Nat.zero_le _, fun h => by simp [RawM.len] at h⟩
      refine (prog6_any a b .nil .nil k w2 _ _ _ _ (Ha.out.more HO2.out) (Hb.out.more HO2.out) hnil hnil (by have := few_cnt Hfa.out; omega) (by have := few_cnt Hfb.out; omega) (by simp [RawM.cnt]) (by simp [RawM.cnt])).mono ?_
      rintro e w3 ⟨pv, pl, pf, rfl, hP, hO3⟩
      obtain ⟨hI, hB, hL⟩ := progR_good k Hfa.out Hfb.out few_nil few_nil
      have HT := Lib.hid (rtext_any w3 pv pl pf (progR a b .nil .nil k) hP (by omega) (fun f hf => (hB f hf).2) ⟨by show 3 ≤ 1000000; omega, by unfold progR; simp only; split <;> simp, by unfold progR; simp only; split <;> simp⟩)
      have HO3 := Lib.hid (HO2.out.plus hO3)
      have HG3 := Lib.hid (HG2.out.only hO3 (by simp))
      clear hnil hP hO3 hI hB HG2
      generalize progR a b .nil .nil k = P0 at *
      go_wp2_with fail
      refine HT.out.mono ?_
      rintro e w4 ⟨rfl, hO4⟩
      have HO4 := Lib.hid (HO3.out.plus hO4)
      have HG4 := Lib.hid (HG3.out.only hO4 (by simp))
      clear hO4 HT HG3
      generalize progT P0 = s0 at *
      unfold encStr
      have hsz : (⟨s0.toArray⟩ : ByteArray).size ≤ 4000 := by show s0.toArray.size ≤ 4000; simpa using hL
      clear hL
      generalize (⟨s0.toArray⟩ : ByteArray) = bs0 at *
      go_wp2_with fail
      refine (within7_to w4 which 7 (by omega) (by omega)).mono ?_
      rintro e w' ⟨rfl, rfl⟩
      rw [show (7 : Int).toNat = 7 from rfl]
      have hk7 := inM_lt which 7 (by omega)
      generalize inM which 7 = kk at *
      go_upto_block 0 with fail
      go_cut [11] (fun s wx => ∃ bs : ByteArray, s = .string bs ∧ bs.size ≤ 60000 ∧ Only [] w4 wx)
      case first =>
        rcases (show kk = 0 ∨ kk = 1 ∨ kk = 2 ∨ kk = 3 ∨ kk = 4 ∨ kk = 5 ∨ kk = 6 by omega) with rfl | rfl | rfl | rfl | rfl | rfl | rfl
        · have hmb := IsBlk.made w4 (.cells #[.string ⟨#[120]⟩, .string ⟨#[108]⟩, .string ⟨#[102]⟩, .string ⟨#[113]⟩] 9)
          have hOm := Lib.hid ((Only.refl [] w4).alloc (.cells #[.string ⟨#[120]⟩, .string ⟨#[108]⟩, .string ⟨#[102]⟩, .string ⟨#[113]⟩] 9))
          have hi4 := inM_lt k 4 (by omega)
          obtain ⟨bx, hcx, hbx⟩ := strs7_cell (l := [⟨#[120]⟩, ⟨#[108]⟩, ⟨#[102]⟩, ⟨#[113]⟩]) hmb (by decide) (inM k 4) hi4
          clear hmb
          go_wp2_with fail
          refine (within7_to _ k 4 (by omega) (by omega)).mono ?_
          rintro e w' ⟨rfl, rfl⟩
          rw [show (4 : Int).toNat = 4 from rfl]
          have hii : ((inM k 4 : Nat) : Int) < 4 := by omega
          generalize inM k 4 = ii at *
          go_wp2_with fail
          go_meet
          have z0 : (⟨#[118, 97, 114, 32]⟩ : ByteArray).size = 4 := rfl
          have z1 : (⟨#[108, 111, 99, 107, 32]⟩ : ByteArray).size = 5 := rfl
          have z2 : (⟨#[102, 117, 110, 99, 32]⟩ : ByteArray).size = 5 := rfl
          have z3 : (⟨#[32, 123, 32, 125]⟩ : ByteArray).size = 4 := rfl
          have z4 : (⟨#[102, 117, 110, 99, 32, 113, 32, 123, 32]⟩ : ByteArray).size = 9 := rfl
          have z5 : (⟨#[32, 125]⟩ : ByteArray).size = 2 := rfl
          have z6 : (⟨#[118, 97, 114, 32, 120, 32, 108, 111, 99, 107, 32, 108, 32]⟩ : ByteArray).size = 13 := rfl
          exact ⟨_, rfl, by simp only [ByteArray.size_append]; omega, hOm.out⟩
        · have hmb := IsBlk.made w4 (.cells #[.string ⟨#[121]⟩, .string ⟨#[109]⟩, .string ⟨#[103]⟩, .string ⟨#[113]⟩] 9)
          have hOm := Lib.hid ((Only.refl [] w4).alloc (.cells #[.string ⟨#[121]⟩, .string ⟨#[109]⟩, .string ⟨#[103]⟩, .string ⟨#[113]⟩] 9))
          have hi4 := inM_lt k 4 (by omega)
          obtain ⟨bx, hcx, hbx⟩ := strs7_cell (l := [⟨#[121]⟩, ⟨#[109]⟩, ⟨#[103]⟩, ⟨#[113]⟩]) hmb (by decide) (inM k 4) hi4
          clear hmb
          go_wp2_with fail
          refine (within7_to _ k 4 (by omega) (by omega)).mono ?_
          rintro e w' ⟨rfl, rfl⟩
          rw [show (4 : Int).toNat = 4 from rfl]
          have hii : ((inM k 4 : Nat) : Int) < 4 := by omega
          generalize inM k 4 = ii at *
          go_wp2_with fail
          go_meet
          have z0 : (⟨#[118, 97, 114, 32]⟩ : ByteArray).size = 4 := rfl
          have z1 : (⟨#[108, 111, 99, 107, 32]⟩ : ByteArray).size = 5 := rfl
          have z2 : (⟨#[102, 117, 110, 99, 32]⟩ : ByteArray).size = 5 := rfl
          have z3 : (⟨#[32, 123, 32, 125]⟩ : ByteArray).size = 4 := rfl
          have z4 : (⟨#[102, 117, 110, 99, 32, 113, 32, 123, 32]⟩ : ByteArray).size = 9 := rfl
          have z5 : (⟨#[32, 125]⟩ : ByteArray).size = 2 := rfl
          have z6 : (⟨#[118, 97, 114, 32, 120, 32, 108, 111, 99, 107, 32, 108, 32]⟩ : ByteArray).size = 13 := rfl
          exact ⟨_, rfl, by simp only [ByteArray.size_append]; omega, hOm.out⟩
        · have hmb := IsBlk.made w4 (.cells #[.string ⟨#[122]⟩, .string ⟨#[110]⟩, .string ⟨#[104]⟩, .string ⟨#[113]⟩] 9)
          have hOm := Lib.hid ((Only.refl [] w4).alloc (.cells #[.string ⟨#[122]⟩, .string ⟨#[110]⟩, .string ⟨#[104]⟩, .string ⟨#[113]⟩] 9))
          have hi4 := inM_lt k 4 (by omega)
          obtain ⟨bx, hcx, hbx⟩ := strs7_cell (l := [⟨#[122]⟩, ⟨#[110]⟩, ⟨#[104]⟩, ⟨#[113]⟩]) hmb (by decide) (inM k 4) hi4
          clear hmb
          go_wp2_with fail
          refine (within7_to _ k 4 (by omega) (by omega)).mono ?_
          rintro e w' ⟨rfl, rfl⟩
          rw [show (4 : Int).toNat = 4 from rfl]
          have hii : ((inM k 4 : Nat) : Int) < 4 := by omega
          generalize inM k 4 = ii at *
          go_wp2_with fail
          go_meet
          have z0 : (⟨#[118, 97, 114, 32]⟩ : ByteArray).size = 4 := rfl
          have z1 : (⟨#[108, 111, 99, 107, 32]⟩ : ByteArray).size = 5 := rfl
          have z2 : (⟨#[102, 117, 110, 99, 32]⟩ : ByteArray).size = 5 := rfl
          have z3 : (⟨#[32, 123, 32, 125]⟩ : ByteArray).size = 4 := rfl
          have z4 : (⟨#[102, 117, 110, 99, 32, 113, 32, 123, 32]⟩ : ByteArray).size = 9 := rfl
          have z5 : (⟨#[32, 125]⟩ : ByteArray).size = 2 := rfl
          have z6 : (⟨#[118, 97, 114, 32, 120, 32, 108, 111, 99, 107, 32, 108, 32]⟩ : ByteArray).size = 13 := rfl
          exact ⟨_, rfl, by simp only [ByteArray.size_append]; omega, hOm.out⟩
        · have hmb := IsBlk.made w4 (.cells #[.string ⟨#[117, 115, 101, 32, 108]⟩, .string ⟨#[115, 101, 116, 32, 102]⟩, .string ⟨#[108, 111, 99, 107, 32, 120]⟩, .string ⟨#[117, 110, 108, 111, 99, 107, 32, 103]⟩, .string ⟨#[99, 97, 108, 108, 32, 120]⟩, .string ⟨#[115, 112, 97, 119, 110, 32, 109]⟩, .string ⟨#[99, 97, 108, 108, 32, 110, 111, 110, 101]⟩, .string ⟨#[117, 115, 101, 32, 120]⟩] 9)
          have hOm := Lib.hid ((Only.refl [] w4).alloc (.cells #[.string ⟨#[117, 115, 101, 32, 108]⟩, .string ⟨#[115, 101, 116, 32, 102]⟩, .string ⟨#[108, 111, 99, 107, 32, 120]⟩, .string ⟨#[117, 110, 108, 111, 99, 107, 32, 103]⟩, .string ⟨#[99, 97, 108, 108, 32, 120]⟩, .string ⟨#[115, 112, 97, 119, 110, 32, 109]⟩, .string ⟨#[99, 97, 108, 108, 32, 110, 111, 110, 101]⟩, .string ⟨#[117, 115, 101, 32, 120]⟩] 9))
          have hi4 := inM_lt k 8 (by omega)
          obtain ⟨bx, hcx, hbx⟩ := strs7_cell (l := [⟨#[117, 115, 101, 32, 108]⟩, ⟨#[115, 101, 116, 32, 102]⟩, ⟨#[108, 111, 99, 107, 32, 120]⟩, ⟨#[117, 110, 108, 111, 99, 107, 32, 103]⟩, ⟨#[99, 97, 108, 108, 32, 120]⟩, ⟨#[115, 112, 97, 119, 110, 32, 109]⟩, ⟨#[99, 97, 108, 108, 32, 110, 111, 110, 101]⟩, ⟨#[117, 115, 101, 32, 120]⟩]) hmb (by decide) (inM k 8) hi4
          clear hmb
          go_wp2_with fail
          refine (within7_to _ k 8 (by omega) (by omega)).mono ?_
          rintro e w' ⟨rfl, rfl⟩
          rw [show (8 : Int).toNat = 8 from rfl]
          have hii : ((inM k 8 : Nat) : Int) < 8 := by omega
          generalize inM k 8 = ii at *
          go_wp2_with fail
          go_meet
          have z0 : (⟨#[118, 97, 114, 32]⟩ : ByteArray).size = 4 := rfl
          have z1 : (⟨#[108, 111, 99, 107, 32]⟩ : ByteArray).size = 5 := rfl
          have z2 : (⟨#[102, 117, 110, 99, 32]⟩ : ByteArray).size = 5 := rfl
          have z3 : (⟨#[32, 123, 32, 125]⟩ : ByteArray).size = 4 := rfl
          have z4 : (⟨#[102, 117, 110, 99, 32, 113, 32, 123, 32]⟩ : ByteArray).size = 9 := rfl
          have z5 : (⟨#[32, 125]⟩ : ByteArray).size = 2 := rfl
          have z6 : (⟨#[118, 97, 114, 32, 120, 32, 108, 111, 99, 107, 32, 108, 32]⟩ : ByteArray).size = 13 := rfl
          exact ⟨_, rfl, by simp only [ByteArray.size_append]; omega, hOm.out⟩
        · go_wp2_with fail
          refine (text_any w4 an ln cn ns (Hns.out.1.more HO4.out) Hns.out.2).mono ?_
          rintro e w' ⟨rfl, hO'⟩
          have htl := textM_len ns (min ln 150)
          have htm : (⟨(textM ns (min ln 150)).toArray⟩ : ByteArray).size ≤ 2000 := by show (textM ns (min ln 150)).toArray.size ≤ 2000; simp; omega
          unfold encStr
          clear htl
          generalize (⟨(textM ns (min ln 150)).toArray⟩ : ByteArray) = bt at *
          go_wp2_with fail
          go_meet
          have z0 : (⟨#[118, 97, 114, 32]⟩ : ByteArray).size = 4 := rfl
          have z1 : (⟨#[108, 111, 99, 107, 32]⟩ : ByteArray).size = 5 := rfl
          have z2 : (⟨#[102, 117, 110, 99, 32]⟩ : ByteArray).size = 5 := rfl
          have z3 : (⟨#[32, 123, 32, 125]⟩ : ByteArray).size = 4 := rfl
          have z4 : (⟨#[102, 117, 110, 99, 32, 113, 32, 123, 32]⟩ : ByteArray).size = 9 := rfl
          have z5 : (⟨#[32, 125]⟩ : ByteArray).size = 2 := rfl
          have z6 : (⟨#[118, 97, 114, 32, 120, 32, 108, 111, 99, 107, 32, 108, 32]⟩ : ByteArray).size = 13 := rfl
          exact ⟨_, rfl, by simp only [ByteArray.size_append]; omega, hO'⟩
        · go_wp2_with fail
          go_meet
          exact ⟨_, rfl, by decide, Only.refl _ _⟩
        · go_wp2_with fail
          go_meet
          exact ⟨_, rfl, by omega, Only.refl _ _⟩
      case rest =>
      obtain ⟨bs, rfl, hbs, hO5⟩ := hcut
      have HO5 := Lib.hid (HO4.out.plus hO5)
      have HG5 := Lib.hid (HG4.out.only hO5 (by simp))
      clear hO5 HG4
      obtain ⟨s, hs⟩ : ∃ s : List UInt8, bs = ⟨s.toArray⟩ := ⟨bs.data.toList, by simp⟩
      subst hs
      have hsl : s.length ≤ 60000 := by have h9 : s.toArray.size ≤ 60000 := hbs; simpa using h9
      clear hbs
      go_wp2_with fail
      refine (dparse_any wc s (by omega)).mono ?_
      rintro e w6 ⟨vv, vl, vf, rfl, hP, hO6⟩
      obtain ⟨hg1, hg2, hg3⟩ := parseM_good s
      generalize parseM s = x at *
      obtain ⟨P, pos, er⟩ := x
      simp only at *
      have HO6 := Lib.hid (HO5.out.plus hO6)
      have HG6 := Lib.hid (HG5.out.only hO6 (by simp))
      obtain ⟨av, cv, rfl⟩ : ∃ a c, vv = .slice a P.vars.length c := by obtain ⟨a, c, e, -⟩ := hP.1; exact ⟨a, c, e⟩
      obtain ⟨al, cl, rfl⟩ : ∃ a c, vl = .slice a P.locks.length c := by obtain ⟨a, c, e, -⟩ := hP.2.1; exact ⟨a, c, e⟩
      obtain ⟨af, cf, rfl⟩ : ∃ a c, vf = .slice a P.funcs.length c := by obtain ⟨a, c, e, -⟩ := hP.2.2; exact ⟨a, c, e⟩
      have hOp := (Only.refl [] w6).alloc (.cells #[.slice av P.vars.length cv, .slice al P.locks.length cl, .slice af P.funcs.length cf] 30)
      have HBp := Lib.hid (IsBlk.made w6 (.cells #[.slice av P.vars.length cv, .slice al P.locks.length cl, .slice af P.funcs.length cf] 30))
      have HP := Lib.hid (hP.more hOp)
      have HO7 := Lib.hid (HO6.out.plus hOp)
      have HG7 := Lib.hid (HG6.out.only hOp (by simp))
      clear hOp hP hO6 HG6 HG5
      go_upto_region 20 with fail
      generalize hW7 : w6.alloc (.cells #[.slice av P.vars.length cv, .slice al P.locks.length cl, .slice af P.funcs.length cf] 30) = w7 at *
      clear hW7
      generalize w6.heap.size = gp at *
      have p0 := HBp.out.cell 0
      have p1 := HBp.out.cell 1
      have p2 := HBp.out.cell 2
      have pl := HBp.out.lt
      have hh : P.vars.length + P.locks.length + P.funcs.length + cntF P.funcs ≤ 60000 := by unfold howM at hg2; omega
      by_cases he : er = 0
      · subst he
        go_wp2_with fail
        refine (check_any w7 _ _ _ P HP.out (by omega) ((hg1.mono (by omega) (by omega) : PlP 1000000 1000000 P).short) HG7.out).mono ?_
        rintro e w8 ⟨rfl, hO8⟩
        have HO8 := Lib.hid (HO7.out.plus hO8)
        have HP8 := Lib.hid (HP.out.more hO8)
        have r0 := (HBp.out.only hO8 (by simp)).cell 0
        have r1 := (HBp.out.only hO8 (by simp)).cell 1
        have r2 := (HBp.out.only hO8 (by simp)).cell 2
        have rl := (HBp.out.only hO8 (by simp)).lt
        clear hO8 p0 p1 p2 pl
        go_wp2_with fail
        refine (dcheck_any w8 _ _ _ P HP8.out ⟨by omega, by omega, by omega⟩ (by omega)).mono ?_
        rintro e w9 ⟨rfl, hO9⟩
        have HO9 := Lib.hid (HO8.out.plus hO9)
        clear hO9
        generalize checkM P = y at *
        go_wp2
        go_ret
        exact ⟨by simp, HO9.out⟩
      · have hei : ((er : Int) != 0) = true := by simp; omega
        go_wp2
        go_ret
        exact ⟨rfl, HO7.out⟩
    · rw [show decide (sizeM b 0 ≤ 40) = false from by simp [hfb]]
      go_wp2
      go_ret
      exact ⟨rfl, HO2.out⟩
  · rw [show decide (sizeM a 0 ≤ 40) = false from by simp [hfa]]
    go_wp2
    go_ret
    exact ⟨rfl, HO1.out⟩

theorem nchecks_row (a0 : Option Addr) (len0 cap0 : Nat) (l0 : RawM) (a1 : Option Addr) (len1 cap1 : Nat) (l1 : RawM) (a2 : Option Addr) (len2 cap2 : Nat) (l2 : List Int) (which k : Int) (w : World) (h0 : RawAt w (.slice a0 len0 cap0) l0) (h1 : RawAt w (.slice a1 len1 cap1) l1) (h2 : IntsArg w a2 len2 l2) (hg : ErrT w) :
    Calls Tryz.prog 3 #[.slice a0 len0 cap0, .slice a1 len1 cap1, .slice a2 len2 cap2, .int .i64 which, .int .i64 k] w fun e w' => e = .returned (.bool true) ∧ Only [] w w' := nchecks_walk _ _ l0 l1 a2 len2 cap2 l2 which k w h0 h1 h2 hg

end Go.Proofs.YtildkedplmjdaaaGreatDoor
