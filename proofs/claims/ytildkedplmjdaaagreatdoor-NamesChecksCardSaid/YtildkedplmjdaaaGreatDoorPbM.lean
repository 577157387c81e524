/-
  The document's Same.
-/
import Derived.Test.YtildkedplmjdaaaGreatDoorPbL
namespace Go.Proofs.YtildkedplmjdaaaGreatDoor
set_option maxRecDepth 100000
set_option linter.unusedVariables false
open Go.RowKit Go.Sort

set_option maxHeartbeats 8000000 in
theorem rsame_any (w : World) (pv pl pf qv ql qf : Value) (P Q : ProgM) (hP : ProgAt w pv pl pf P) (hQ : ProgAt w qv ql qf Q) (hB : ∀ f ∈ P.funcs, f.body.cnt ≤ 100000) (hB2 : ∀ f ∈ Q.funcs, f.body.cnt ≤ 100000)
    (hn : P.vars.length ≤ 1000000 ∧ P.locks.length ≤ 1000000 ∧ P.funcs.length ≤ 1000000) :
    Calls Tryz.prog 43 #[.agg #[pv, pl, pf], .agg #[qv, ql, qf]] w fun e w' => e = .returned (.bool (sameP P Q)) ∧ Only [] w w' := by
  have hOa := ((Only.refl [] w).alloc (.cells #[pv, pl, pf] 30)).alloc (.cells #[qv, ql, qf] 30)
  have b1 := (IsBlk.made w (.cells #[pv, pl, pf] 30)).alloc (.cells #[qv, ql, qf] 30)
  have b2 := IsBlk.made (w.alloc (.cells #[pv, pl, pf] 30)) (.cells #[qv, ql, qf] 30)
  rw [show (w.alloc (.cells #[pv, pl, pf] 30)).heap.size = w.heap.size + 1 from by simp] at b2
  have hP2 := hP.more hOa
  have hQ2 := hQ.more hOa
  have HP := Lib.hid hP2
  have HQ := Lib.hid hQ2
  obtain ⟨⟨a1, c1, rfl, -⟩, ⟨a2, c2, rfl, -⟩, ⟨a3, c3, rfl, -⟩⟩ := hP
  obtain ⟨⟨d1, e1, rfl, -⟩, ⟨d2, e2, rfl, -⟩, ⟨d3, e3, rfl, -⟩⟩ := hQ
  have HB := Lib.hid (And.intro hB hB2)
  have Hb1 := Lib.hid b1
  have Hb2 := Lib.hid b2
  have HO := Lib.hid hOa
  clear hP2 hQ2 hB hB2 b1 b2 hOa
  go_enter Tryz.func43, Tryz.ntmps43
  go_upto_region 1 with fail
  generalize hW : (w.alloc (.cells #[.slice a1 P.vars.length c1, .slice a2 P.locks.length c2, .slice a3 P.funcs.length c3] 30)).alloc (.cells #[.slice d1 Q.vars.length e1, .slice d2 Q.locks.length e2, .slice d3 Q.funcs.length e3] 30) = w1 at *
  clear hW
  have x0 := Hb1.out.cell 0
  have y0 := Hb2.out.cell 0
  have xl := Hb1.out.lt
  have yl := Hb2.out.lt
  go_wp2_with fail
  refine (rdecls_any w1 _ _ _ _ HP.out.1 HQ.out.1 hn.1).mono ?_
  rintro e w2 ⟨rfl, hO2⟩
  have HO2 := Lib.hid hO2
  clear x0 y0 xl yl hO2
  have x0 := (Hb1.out.only HO2.out (by simp)).cell 1
  have y0 := (Hb2.out.only HO2.out (by simp)).cell 1
  have xl := (Hb1.out.only HO2.out (by simp)).lt
  have yl := (Hb2.out.only HO2.out (by simp)).lt
  cases hv : sameD P.vars Q.vars with
  | false =>
    go_wp2
    go_ret
    exact ⟨by rw [sameP, hv, Bool.false_and]; rfl, HO.out.plus HO2.out⟩
  | true =>
    have Hv := Lib.hid hv
    clear hv
    go_wp2_with fail
    refine (rdecls_any w2 _ _ _ _ (HP.out.2.1.more HO2.out) (HQ.out.2.1.more HO2.out) hn.2.1).mono ?_
    rintro e w3 ⟨rfl, hO3⟩
    have HO3 := Lib.hid (HO2.out.plus hO3)
    clear x0 y0 xl yl hO3
    have x0 := (Hb1.out.only HO3.out (by simp)).cell 2
    have y0 := (Hb2.out.only HO3.out (by simp)).cell 2
    have xl := (Hb1.out.only HO3.out (by simp)).lt
    have yl := (Hb2.out.only HO3.out (by simp)).lt
    cases hl : sameD P.locks Q.locks with
    | false =>
      go_wp2
      go_ret
      exact ⟨by rw [sameP, Hv.out, hl]; rfl, HO.out.plus HO3.out⟩
    | true =>
      have Hl := Lib.hid hl
      clear hl
      have hRF : Hid (sameP P Q = sameF P.funcs Q.funcs) := Lib.hid (by rw [sameP, Hv.out, Hl.out]; rfl)
      by_cases hll : P.funcs.length = Q.funcs.length
      · have Hll := Lib.hid hll
        have hnb : ((P.funcs.length : Int) != (Q.funcs.length : Int)) = false := by simp; omega
        clear hll
        go_wp2_with fail
        clear hnb
        go_loopg [5] 10000000 (fun gk iv wr => ∃ i : Nat, iv = .int .i64 i ∧ i ≤ P.funcs.length ∧ P.funcs.length - i ≤ gk ∧ Hid (sameP P Q = sameF (P.funcs.drop i) (Q.funcs.drop i)) ∧ Only [] w1 wr)
        case atStart => exact ⟨0, rfl, Nat.zero_le _, by omega, hRF, HO3.out⟩
        case round =>
          obtain ⟨i, rfl, hi, hgk, hR, hOr⟩ := hrel
          have HOr := Lib.hid hOr
          clear x0 y0 xl yl hOr
          have x0 := (Hb1.out.only HOr.out (by simp)).cell 2
          have xl := (Hb1.out.only HOr.out (by simp)).lt
          by_cases hlt : i < P.funcs.length
          · have hlti : (i : Int) < (P.funcs.length : Int) := by omega
            have hltm : (i : Int) < (Q.funcs.length : Int) := by have := Hll.out; omega
            have hi0 : (0 : Int) ≤ (i : Int) := by omega
            have hgx : P.funcs[i]? = some P.funcs[i] := List.getElem?_eq_getElem hlt
            have hgy : Q.funcs[i]? = some (Q.funcs[i]'(by have := Hll.out; omega)) := List.getElem?_eq_getElem (by have := Hll.out; omega)
            have hcx := HB.out.1 _ (List.getElem_mem hlt)
            obtain ⟨-, -, ⟨a3', c3', hea, -, hff⟩⟩ := HP.out
            obtain ⟨-, -, ⟨d3', e3', heb, -, hfg⟩⟩ := HQ.out
            injection hea with h1 h2 h3
            injection heb with h4 h5 h6
            subst h1 h3 h4 h6
            obtain ⟨gx, xs, fp, hag, hg, hra, hef⟩ := hff (by omega)
            obtain ⟨gy, ys, fq, hbg, hk, hrb, heg⟩ := hfg (by have := Hll.out; omega)
            obtain ⟨vx, fx, e1, e2, e3_, hbx, hnx⟩ := hef.get _ _ hgx
            obtain ⟨vy, fy, d1_, d2_, d3_, hby, hny⟩ := heg.get _ _ hgy
            have r1 := hra _ _ e1
            have r3 := hra _ _ e3_
            have s1 := hrb _ _ d1_
            have s3 := hrb _ _ d3_
            rw [Nat.zero_add] at r1 r3 s1 s3
            have Hdr := Lib.hid (sameF_drop P.funcs Q.funcs i _ _ hgx hgy)
            have Hbx := Lib.hid hbx
            have Hby := Lib.hid hby
            obtain ⟨xa, xc, rfl, -⟩ := hbx.slice
            obtain ⟨ya, yc, rfl, -⟩ := hby.slice
            clear hff hfg hef heg hra hrb e1 e2 e3_ d1_ d2_ d3_ hbx hby hgx hgy x0 xl
            generalize P.funcs[i] = x at *
            generalize Q.funcs[i]'(by have := Hll.out; omega) = y at *
            subst hag hbg
            unfold encStr at r1 s1
            have hcl : ∀ W, Only [] wr W → W.cell? ⟨w.heap.size, 2, none⟩ = some (.slice (some ⟨gx, 0, none⟩) P.funcs.length c3) ∧ W.cell? ⟨gx, i * 3, none⟩ = some (.string ⟨x.name.toArray⟩) ∧ W.cell? ⟨gx, i * 3 + 2, none⟩ = some (.slice xa x.body.len xc) ∧ gx < W.heap.size ∧ w.heap.size < W.heap.size ∧
                W.cell? ⟨w.heap.size + 1, 2, none⟩ = some (.slice (some ⟨gy, 0, none⟩) Q.funcs.length e3) ∧ W.cell? ⟨gy, i * 3, none⟩ = some (.string ⟨y.name.toArray⟩) ∧ W.cell? ⟨gy, i * 3 + 2, none⟩ = some (.slice ya y.body.len yc) ∧ gy < W.heap.size ∧ w.heap.size + 1 < W.heap.size := fun W hW => by
              have h := HOr.out.plus hW
              exact ⟨(Hb1.out.only h (by simp)).cell 2, (h.cell (p := ⟨gx, i * 3, none⟩) hg (by simp)).trans r1, (h.cell (p := ⟨gx, i * 3 + 2, none⟩) hg (by simp)).trans r3, Nat.lt_of_lt_of_le hg h.size, (Hb1.out.only h (by simp)).lt,
                (Hb2.out.only h (by simp)).cell 2, (h.cell (p := ⟨gy, i * 3, none⟩) hk (by simp)).trans s1, (h.cell (p := ⟨gy, i * 3 + 2, none⟩) hk (by simp)).trans s3, Nat.lt_of_lt_of_le hk h.size, (Hb2.out.only h (by simp)).lt⟩
            have Hcl := Lib.hid hcl
            have hdr : Only [] wr wr.drew := (Only.refl [] wr).drew
            have HRB0 : Hid (∀ W, Only [] wr W → Calls Tryz.prog 64 #[.slice xa x.body.len xc, .slice ya y.body.len yc] W fun e w' => e = .returned (.bool (sameB x.body y.body)) ∧ Only [] W w') := Lib.hid (fun W hW => rstmts_any _ x.body (Nat.le_refl _) hcx y.body W _ _ _ _ (Hbx.out.more (HOr.out.plus hW)) (Hby.out.more (HOr.out.plus hW)))
            clear hcl r1 r3 s1 s3
            obtain ⟨x0, -, -, xg, xl, -⟩ := Hcl.out wr (Only.refl _ _)
            by_cases hn : x.name = y.name
            · have hnn : (x.name == y.name) = true := by simp [hn]
              have HR3 : Hid (sameP P Q = (sameB x.body y.body && sameF (P.funcs.drop (i + 1)) (Q.funcs.drop (i + 1)))) := Lib.hid (by rw [hR.out, Hdr.out]; simp [hn])
              clear hn
              generalize hrb : sameB x.body y.body = rb at *
              have HRB := HRB0
              have Hrb := Lib.hid hrb
              clear hrb HRB0
              go_upto_region 6 with fail
              refine wp_region_stabL (P := Tryz.prog) 29 (by kernel_rfl) (by kernel_rfl) (Only []) (Only.refl _ _) (fun _ _ _ h k => h.then k [] (by simp) (by simp))
                [SP.is (.pointer (some ⟨w.heap.size, 2, none⟩)),
                 SP.is (.slice (some ⟨gx, 0, none⟩) P.funcs.length c3),
                 SP.is (.int .i64 i),
                 SP.is (.pointer (some ⟨gx, i * 3, none⟩)),
                 SP.is (.pointer (some ⟨gx, i * 3, none⟩)),
                 SP.is (.string ⟨x.name.toArray⟩),
                 SP.is (.pointer (some ⟨w.heap.size + 1, 2, none⟩)),
                 SP.is (.slice (some ⟨gy, 0, none⟩) Q.funcs.length e3),
                 SP.is (.int .i64 i),
                 SP.is (.pointer (some ⟨gy, i * 3, none⟩)),
                 SP.is (.pointer (some ⟨gy, i * 3, none⟩)),
                 SP.is (.string ⟨y.name.toArray⟩),
                 SP.is (.bool false),
                 SP.is (.bool false),
                 SP.is (.pointer (some ⟨w.heap.size, 2, none⟩)),
                 SP.is (.slice (some ⟨gx, 0, none⟩) P.funcs.length c3),
                 SP.is (.int .i64 i),
                 SP.is (.pointer (some ⟨gx, i * 3, none⟩)),
                 SP.is (.pointer (some ⟨gx, i * 3 + 2, none⟩)),
                 SP.is (.slice xa x.body.len xc),
                 SP.is (.pointer (some ⟨w.heap.size + 1, 2, none⟩)),
                 SP.is (.slice (some ⟨gy, 0, none⟩) Q.funcs.length e3),
                 SP.is (.int .i64 i),
                 SP.is (.pointer (some ⟨gy, i * 3, none⟩)),
                 SP.is (.pointer (some ⟨gy, i * 3 + 2, none⟩)),
                 SP.is (.slice ya y.body.len yc),
                 SP.is (.bool rb),
                 SP.is (.bool (!rb)),
                 SP.is (.bool (!rb))] ?_ ?_
              · simp only [List.take_succ_cons, List.take_zero]
                refine StepsOK.cons ?_ (StepsOK.cons ?_ (StepsOK.cons ?_ (StepsOK.cons ?_ (StepsOK.cons ?_ (StepsOK.cons ?_ (StepsOK.cons ?_ (StepsOK.cons ?_ (StepsOK.cons ?_ (StepsOK.cons ?_ (StepsOK.cons ?_ (StepsOK.cons ?_ (StepsOK.cons ?_ (StepsOK.cons ?_ (StepsOK.cons ?_ (StepsOK.cons ?_ (StepsOK.cons ?_ (StepsOK.cons ?_ (StepsOK.cons ?_ (StepsOK.cons ?_ (StepsOK.cons ?_ (StepsOK.cons ?_ (StepsOK.cons ?_ (StepsOK.cons ?_ (StepsOK.cons ?_ (StepsOK.cons ?_ (StepsOK.cons ?_ (StepsOK.cons ?_ (StepsOK.cons ?_ StepsOK.nil))))))))))))))))))))))))))))
                · intro a W L N hR hold hφ hcl hkp hd K hK
                  have e2 := hold 2 (by kernel_rfl)
                  clear hold hφ hcl hkp hd
                  rw [if_pos (by rfl)]
                  go_simp
                  exact hK _ _ (Only.refl _ _) rfl
                · intro a W L N hR hold hφ hcl hkp hd K hK
                  have e36 := got hφ (hd 0 (by kernel_rfl)) rfl rfl rfl
                  obtain ⟨l1, l2, l3, l4, l5, l6, l7, l8, l9, l10⟩ := Hcl.out W (Only.plus hdr hR)
                  clear hold hφ hcl hkp hd
                  rw [if_pos (by rfl)]
                  go_simp
                  exact hK _ _ (Only.refl _ _) rfl
                · intro a W L N hR hold hφ hcl hkp hd K hK
                  have e5 := hold 5 (by kernel_rfl)
                  clear hold hφ hcl hkp hd
                  rw [if_pos (by rfl)]
                  go_simp
                  exact hK _ _ (Only.refl _ _) rfl
                · intro a W L N hR hold hφ hcl hkp hd K hK
                  have e37 := got hφ (hd 1 (by kernel_rfl)) rfl rfl rfl
                  have e38 := got hφ (hd 2 (by kernel_rfl)) rfl rfl rfl
                  clear hold hφ hcl hkp hd
                  rw [if_pos (by rfl)]
                  go_simp
                  exact hK _ _ (Only.refl _ _) rfl
                · intro a W L N hR hold hφ hcl hkp hd K hK
                  have e39 := got hφ (hd 3 (by kernel_rfl)) rfl rfl rfl
                  clear hold hφ hcl hkp hd
                  rw [if_pos (by rfl)]
                  go_simp
                  exact hK _ _ (Only.refl _ _) rfl
                · intro a W L N hR hold hφ hcl hkp hd K hK
                  have e40 := got hφ (hd 4 (by kernel_rfl)) rfl rfl rfl
                  obtain ⟨l1, l2, l3, l4, l5, l6, l7, l8, l9, l10⟩ := Hcl.out W (Only.plus hdr hR)
                  clear hold hφ hcl hkp hd
                  rw [if_pos (by rfl)]
                  go_simp
                  exact hK _ _ (Only.refl _ _) rfl
                · intro a W L N hR hold hφ hcl hkp hd K hK
                  have e3 := hold 3 (by kernel_rfl)
                  clear hold hφ hcl hkp hd
                  rw [if_pos (by rfl)]
                  go_simp
                  exact hK _ _ (Only.refl _ _) rfl
                · intro a W L N hR hold hφ hcl hkp hd K hK
                  have e42 := got hφ (hd 6 (by kernel_rfl)) rfl rfl rfl
                  obtain ⟨l1, l2, l3, l4, l5, l6, l7, l8, l9, l10⟩ := Hcl.out W (Only.plus hdr hR)
                  clear hold hφ hcl hkp hd
                  rw [if_pos (by rfl)]
                  go_simp
                  exact hK _ _ (Only.refl _ _) rfl
                · intro a W L N hR hold hφ hcl hkp hd K hK
                  have e5 := hold 5 (by kernel_rfl)
                  clear hold hφ hcl hkp hd
                  rw [if_pos (by rfl)]
                  go_simp
                  exact hK _ _ (Only.refl _ _) rfl
                · intro a W L N hR hold hφ hcl hkp hd K hK
                  have e43 := got hφ (hd 7 (by kernel_rfl)) rfl rfl rfl
                  have e44 := got hφ (hd 8 (by kernel_rfl)) rfl rfl rfl
                  clear hold hφ hcl hkp hd
                  rw [if_pos (by rfl)]
                  go_simp
                  exact hK _ _ (Only.refl _ _) rfl
                · intro a W L N hR hold hφ hcl hkp hd K hK
                  have e45 := got hφ (hd 9 (by kernel_rfl)) rfl rfl rfl
                  clear hold hφ hcl hkp hd
                  rw [if_pos (by rfl)]
                  go_simp
                  exact hK _ _ (Only.refl _ _) rfl
                · intro a W L N hR hold hφ hcl hkp hd K hK
                  have e46 := got hφ (hd 10 (by kernel_rfl)) rfl rfl rfl
                  obtain ⟨l1, l2, l3, l4, l5, l6, l7, l8, l9, l10⟩ := Hcl.out W (Only.plus hdr hR)
                  clear hold hφ hcl hkp hd
                  rw [if_pos (by rfl)]
                  go_simp
                  exact hK _ _ (Only.refl _ _) rfl
                · intro a W L N hR hold hφ hcl hkp hd K hK
                  have e41 := got hφ (hd 5 (by kernel_rfl)) rfl rfl rfl
                  have e47 := got hφ (hd 11 (by kernel_rfl)) rfl rfl rfl
                  clear hold hφ hcl hkp hd
                  rw [if_pos (by rfl)]
                  go_simp
                  exact hK _ _ (Only.refl _ _) rfl
                · intro a W L N hR hold hφ hcl hkp hd K hK
                  have e48 := got hφ (hd 12 (by kernel_rfl)) rfl rfl rfl
                  clear hold hφ hcl hkp hd
                  rw [if_pos (by rfl)]
                  go_simp
                  exact hK _ _ (Only.refl _ _) rfl
                · intro a W L N hR hold hφ hcl hkp hd K hK
                  have e2 := hold 2 (by kernel_rfl)
                  have e49 := got hφ (hd 13 (by kernel_rfl)) rfl rfl rfl
                  clear hold hφ hcl hkp hd
                  rw [if_pos (by simp [Region.wanted, yielded, e49])]
                  go_simp
                  exact hK _ _ (Only.refl _ _) rfl
                · intro a W L N hR hold hφ hcl hkp hd K hK
                  have e50 := got hφ (hd 14 (by kernel_rfl)) rfl rfl rfl
                  have e49 := got hφ (hd 13 (by kernel_rfl)) rfl rfl rfl
                  obtain ⟨l1, l2, l3, l4, l5, l6, l7, l8, l9, l10⟩ := Hcl.out W (Only.plus hdr hR)
                  clear hold hφ hcl hkp hd
                  rw [if_pos (by simp [Region.wanted, yielded, e49])]
                  go_simp
                  exact hK _ _ (Only.refl _ _) rfl
                · intro a W L N hR hold hφ hcl hkp hd K hK
                  have e5 := hold 5 (by kernel_rfl)
                  have e49 := got hφ (hd 13 (by kernel_rfl)) rfl rfl rfl
                  clear hold hφ hcl hkp hd
                  rw [if_pos (by simp [Region.wanted, yielded, e49])]
                  go_simp
                  exact hK _ _ (Only.refl _ _) rfl
                · intro a W L N hR hold hφ hcl hkp hd K hK
                  have e51 := got hφ (hd 15 (by kernel_rfl)) rfl rfl rfl
                  have e52 := got hφ (hd 16 (by kernel_rfl)) rfl rfl rfl
                  have e49 := got hφ (hd 13 (by kernel_rfl)) rfl rfl rfl
                  clear hold hφ hcl hkp hd
                  rw [if_pos (by simp [Region.wanted, yielded, e49])]
                  go_simp
                  exact hK _ _ (Only.refl _ _) rfl
                · intro a W L N hR hold hφ hcl hkp hd K hK
                  have e53 := got hφ (hd 17 (by kernel_rfl)) rfl rfl rfl
                  have e49 := got hφ (hd 13 (by kernel_rfl)) rfl rfl rfl
                  clear hold hφ hcl hkp hd
                  rw [if_pos (by simp [Region.wanted, yielded, e49])]
                  go_simp
                  exact hK _ _ (Only.refl _ _) rfl
                · intro a W L N hR hold hφ hcl hkp hd K hK
                  have e54 := got hφ (hd 18 (by kernel_rfl)) rfl rfl rfl
                  have e49 := got hφ (hd 13 (by kernel_rfl)) rfl rfl rfl
                  obtain ⟨l1, l2, l3, l4, l5, l6, l7, l8, l9, l10⟩ := Hcl.out W (Only.plus hdr hR)
                  clear hold hφ hcl hkp hd
                  rw [if_pos (by simp [Region.wanted, yielded, e49])]
                  go_simp
                  exact hK _ _ (Only.refl _ _) rfl
                · intro a W L N hR hold hφ hcl hkp hd K hK
                  have e3 := hold 3 (by kernel_rfl)
                  have e49 := got hφ (hd 13 (by kernel_rfl)) rfl rfl rfl
                  clear hold hφ hcl hkp hd
                  rw [if_pos (by simp [Region.wanted, yielded, e49])]
                  go_simp
                  exact hK _ _ (Only.refl _ _) rfl
                · intro a W L N hR hold hφ hcl hkp hd K hK
                  have e56 := got hφ (hd 20 (by kernel_rfl)) rfl rfl rfl
                  have e49 := got hφ (hd 13 (by kernel_rfl)) rfl rfl rfl
                  obtain ⟨l1, l2, l3, l4, l5, l6, l7, l8, l9, l10⟩ := Hcl.out W (Only.plus hdr hR)
                  clear hold hφ hcl hkp hd
                  rw [if_pos (by simp [Region.wanted, yielded, e49])]
                  go_simp
                  exact hK _ _ (Only.refl _ _) rfl
                · intro a W L N hR hold hφ hcl hkp hd K hK
                  have e5 := hold 5 (by kernel_rfl)
                  have e49 := got hφ (hd 13 (by kernel_rfl)) rfl rfl rfl
                  clear hold hφ hcl hkp hd
                  rw [if_pos (by simp [Region.wanted, yielded, e49])]
                  go_simp
                  exact hK _ _ (Only.refl _ _) rfl
                · intro a W L N hR hold hφ hcl hkp hd K hK
                  have e57 := got hφ (hd 21 (by kernel_rfl)) rfl rfl rfl
                  have e58 := got hφ (hd 22 (by kernel_rfl)) rfl rfl rfl
                  have e49 := got hφ (hd 13 (by kernel_rfl)) rfl rfl rfl
                  clear hold hφ hcl hkp hd
                  rw [if_pos (by simp [Region.wanted, yielded, e49])]
                  go_simp
                  exact hK _ _ (Only.refl _ _) rfl
                · intro a W L N hR hold hφ hcl hkp hd K hK
                  have e59 := got hφ (hd 23 (by kernel_rfl)) rfl rfl rfl
                  have e49 := got hφ (hd 13 (by kernel_rfl)) rfl rfl rfl
                  clear hold hφ hcl hkp hd
                  rw [if_pos (by simp [Region.wanted, yielded, e49])]
                  go_simp
                  exact hK _ _ (Only.refl _ _) rfl
                · intro a W L N hR hold hφ hcl hkp hd K hK
                  have e60 := got hφ (hd 24 (by kernel_rfl)) rfl rfl rfl
                  have e49 := got hφ (hd 13 (by kernel_rfl)) rfl rfl rfl
                  obtain ⟨l1, l2, l3, l4, l5, l6, l7, l8, l9, l10⟩ := Hcl.out W (Only.plus hdr hR)
                  clear hold hφ hcl hkp hd
                  rw [if_pos (by simp [Region.wanted, yielded, e49])]
                  go_simp
                  exact hK _ _ (Only.refl _ _) rfl
                · intro a W L N hR hold hφ hcl hkp hd K hK
                  have e55 := got hφ (hd 19 (by kernel_rfl)) rfl rfl rfl
                  have e61 := got hφ (hd 25 (by kernel_rfl)) rfl rfl rfl
                  have e49 := got hφ (hd 13 (by kernel_rfl)) rfl rfl rfl
                  have hW := Only.plus hdr hR
                  clear hold hφ hcl hkp hd
                  rw [if_pos (by simp [Region.wanted, yielded, e49])]
                  go_simp
                  refine (HRB.out W hW).mono ?_
                  rintro e w' ⟨rfl, hO'⟩
                  exact hK _ _ hO' rfl
                · intro a W L N hR hold hφ hcl hkp hd K hK
                  have e62 := got hφ (hd 26 (by kernel_rfl)) rfl rfl rfl
                  have e49 := got hφ (hd 13 (by kernel_rfl)) rfl rfl rfl
                  clear hold hφ hcl hkp hd
                  rw [if_pos (by simp [Region.wanted, yielded, e49])]
                  go_simp
                  exact hK _ _ (Only.refl _ _) rfl
                · intro a W L N hR hold hφ hcl hkp hd K hK
                  have e49 := got hφ (hd 13 (by kernel_rfl)) rfl rfl rfl
                  have e63 := got hφ (hd 27 (by kernel_rfl)) rfl rfl rfl
                  clear hold hφ hcl hkp hd
                  rw [if_pos (by rfl)]
                  go_simp
                  exact hK _ _ (Only.refl _ _) rfl
              · intro us W hO' hus
                have p28 : us 28 = .bool (!rb) := hus 28 _ 64 (by omega) rfl rfl
                clear hus
                simp only [List.take_succ_cons, List.take_zero, List.drop_succ_cons, List.drop_zero, fillAct, Act.put, List.setIfInBounds_toArray, List.set_cons_zero, List.set_cons_succ, Nat.reduceAdd, p28]
                clear p28
                have HO4 := Lib.hid (Only.plus (HOr.out.plus hdr) hO')
                clear hO'
                cases rb with
                | false =>
                  go_wp2
                  go_ret
                  exact ⟨by rw [HR3.out]; rfl, HO.out.plus HO4.out⟩
                | true =>
                  go_wp2
                  go_roundg (P.funcs.length - (i + 1))
                  case measure => omega
                  case rel => exact ⟨i + 1, by go_num, hlt, by omega, Lib.hid (by rw [HR3.out, Bool.true_and]), HO4.out⟩
            · have hnn : (x.name == y.name) = false := by simp [hn]
              have HR3 : Hid (sameP P Q = false) := Lib.hid (by rw [hR.out, Hdr.out]; simp [hn])
              clear hn
              go_upto_region 6 with fail
              refine wp_region_stabL (P := Tryz.prog) 29 (by kernel_rfl) (by kernel_rfl) (Only []) (Only.refl _ _) (fun _ _ _ h k => h.then k [] (by simp) (by simp))
                [SP.is (.pointer (some ⟨w.heap.size, 2, none⟩)),
                 SP.is (.slice (some ⟨gx, 0, none⟩) P.funcs.length c3),
                 SP.is (.int .i64 i),
                 SP.is (.pointer (some ⟨gx, i * 3, none⟩)),
                 SP.is (.pointer (some ⟨gx, i * 3, none⟩)),
                 SP.is (.string ⟨x.name.toArray⟩),
                 SP.is (.pointer (some ⟨w.heap.size + 1, 2, none⟩)),
                 SP.is (.slice (some ⟨gy, 0, none⟩) Q.funcs.length e3),
                 SP.is (.int .i64 i),
                 SP.is (.pointer (some ⟨gy, i * 3, none⟩)),
                 SP.is (.pointer (some ⟨gy, i * 3, none⟩)),
                 SP.is (.string ⟨y.name.toArray⟩),
                 SP.is (.bool true),
                 SP.is (.bool true),
                 SP.is (undef),
                 SP.is (undef),
                 SP.is (undef),
                 SP.is (undef),
                 SP.is (undef),
                 SP.is (undef),
                 SP.is (undef),
                 SP.is (undef),
                 SP.is (undef),
                 SP.is (undef),
                 SP.is (undef),
                 SP.is (undef),
                 SP.is (undef),
                 SP.is (undef),
                 SP.is (.bool true)] ?_ ?_
              · simp only [List.take_succ_cons, List.take_zero]
                refine StepsOK.cons ?_ (StepsOK.cons ?_ (StepsOK.cons ?_ (StepsOK.cons ?_ (StepsOK.cons ?_ (StepsOK.cons ?_ (StepsOK.cons ?_ (StepsOK.cons ?_ (StepsOK.cons ?_ (StepsOK.cons ?_ (StepsOK.cons ?_ (StepsOK.cons ?_ (StepsOK.cons ?_ (StepsOK.cons ?_ (StepsOK.cons ?_ (StepsOK.cons ?_ (StepsOK.cons ?_ (StepsOK.cons ?_ (StepsOK.cons ?_ (StepsOK.cons ?_ (StepsOK.cons ?_ (StepsOK.cons ?_ (StepsOK.cons ?_ (StepsOK.cons ?_ (StepsOK.cons ?_ (StepsOK.cons ?_ (StepsOK.cons ?_ (StepsOK.cons ?_ (StepsOK.cons ?_ StepsOK.nil))))))))))))))))))))))))))))
                · intro a W L N hR hold hφ hcl hkp hd K hK
                  have e2 := hold 2 (by kernel_rfl)
                  clear hold hφ hcl hkp hd
                  rw [if_pos (by rfl)]
                  go_simp
                  exact hK _ _ (Only.refl _ _) rfl
                · intro a W L N hR hold hφ hcl hkp hd K hK
                  have e36 := got hφ (hd 0 (by kernel_rfl)) rfl rfl rfl
                  obtain ⟨l1, l2, l3, l4, l5, l6, l7, l8, l9, l10⟩ := Hcl.out W (Only.plus hdr hR)
                  clear hold hφ hcl hkp hd
                  rw [if_pos (by rfl)]
                  go_simp
                  exact hK _ _ (Only.refl _ _) rfl
                · intro a W L N hR hold hφ hcl hkp hd K hK
                  have e5 := hold 5 (by kernel_rfl)
                  clear hold hφ hcl hkp hd
                  rw [if_pos (by rfl)]
                  go_simp
                  exact hK _ _ (Only.refl _ _) rfl
                · intro a W L N hR hold hφ hcl hkp hd K hK
                  have e37 := got hφ (hd 1 (by kernel_rfl)) rfl rfl rfl
                  have e38 := got hφ (hd 2 (by kernel_rfl)) rfl rfl rfl
                  clear hold hφ hcl hkp hd
                  rw [if_pos (by rfl)]
                  go_simp
                  exact hK _ _ (Only.refl _ _) rfl
                · intro a W L N hR hold hφ hcl hkp hd K hK
                  have e39 := got hφ (hd 3 (by kernel_rfl)) rfl rfl rfl
                  clear hold hφ hcl hkp hd
                  rw [if_pos (by rfl)]
                  go_simp
                  exact hK _ _ (Only.refl _ _) rfl
                · intro a W L N hR hold hφ hcl hkp hd K hK
                  have e40 := got hφ (hd 4 (by kernel_rfl)) rfl rfl rfl
                  obtain ⟨l1, l2, l3, l4, l5, l6, l7, l8, l9, l10⟩ := Hcl.out W (Only.plus hdr hR)
                  clear hold hφ hcl hkp hd
                  rw [if_pos (by rfl)]
                  go_simp
                  exact hK _ _ (Only.refl _ _) rfl
                · intro a W L N hR hold hφ hcl hkp hd K hK
                  have e3 := hold 3 (by kernel_rfl)
                  clear hold hφ hcl hkp hd
                  rw [if_pos (by rfl)]
                  go_simp
                  exact hK _ _ (Only.refl _ _) rfl
                · intro a W L N hR hold hφ hcl hkp hd K hK
                  have e42 := got hφ (hd 6 (by kernel_rfl)) rfl rfl rfl
                  obtain ⟨l1, l2, l3, l4, l5, l6, l7, l8, l9, l10⟩ := Hcl.out W (Only.plus hdr hR)
                  clear hold hφ hcl hkp hd
                  rw [if_pos (by rfl)]
                  go_simp
                  exact hK _ _ (Only.refl _ _) rfl
                · intro a W L N hR hold hφ hcl hkp hd K hK
                  have e5 := hold 5 (by kernel_rfl)
                  clear hold hφ hcl hkp hd
                  rw [if_pos (by rfl)]
                  go_simp
                  exact hK _ _ (Only.refl _ _) rfl
                · intro a W L N hR hold hφ hcl hkp hd K hK
                  have e43 := got hφ (hd 7 (by kernel_rfl)) rfl rfl rfl
                  have e44 := got hφ (hd 8 (by kernel_rfl)) rfl rfl rfl
                  clear hold hφ hcl hkp hd
                  rw [if_pos (by rfl)]
                  go_simp
                  exact hK _ _ (Only.refl _ _) rfl
                · intro a W L N hR hold hφ hcl hkp hd K hK
                  have e45 := got hφ (hd 9 (by kernel_rfl)) rfl rfl rfl
                  clear hold hφ hcl hkp hd
                  rw [if_pos (by rfl)]
                  go_simp
                  exact hK _ _ (Only.refl _ _) rfl
                · intro a W L N hR hold hφ hcl hkp hd K hK
                  have e46 := got hφ (hd 10 (by kernel_rfl)) rfl rfl rfl
                  obtain ⟨l1, l2, l3, l4, l5, l6, l7, l8, l9, l10⟩ := Hcl.out W (Only.plus hdr hR)
                  clear hold hφ hcl hkp hd
                  rw [if_pos (by rfl)]
                  go_simp
                  exact hK _ _ (Only.refl _ _) rfl
                · intro a W L N hR hold hφ hcl hkp hd K hK
                  have e41 := got hφ (hd 5 (by kernel_rfl)) rfl rfl rfl
                  have e47 := got hφ (hd 11 (by kernel_rfl)) rfl rfl rfl
                  clear hold hφ hcl hkp hd
                  rw [if_pos (by rfl)]
                  go_simp
                  exact hK _ _ (Only.refl _ _) rfl
                · intro a W L N hR hold hφ hcl hkp hd K hK
                  have e48 := got hφ (hd 12 (by kernel_rfl)) rfl rfl rfl
                  clear hold hφ hcl hkp hd
                  rw [if_pos (by rfl)]
                  go_simp
                  exact hK _ _ (Only.refl _ _) rfl
                · intro a W L N hR hold hφ hcl hkp hd K hK
                  have e2 := hold 2 (by kernel_rfl)
                  have e49 := got hφ (hd 13 (by kernel_rfl)) rfl rfl rfl
                  clear hold hφ hcl hkp hd
                  rw [if_neg (by simp [Region.wanted, yielded, e49])]
                  exact hK _ _ (Only.refl _ _) rfl
                · intro a W L N hR hold hφ hcl hkp hd K hK
                  have e50 := got hφ (hd 14 (by kernel_rfl)) rfl rfl rfl
                  have e49 := got hφ (hd 13 (by kernel_rfl)) rfl rfl rfl
                  clear hold hφ hcl hkp hd
                  rw [if_neg (by simp [Region.wanted, yielded, e49])]
                  exact hK _ _ (Only.refl _ _) rfl
                · intro a W L N hR hold hφ hcl hkp hd K hK
                  have e5 := hold 5 (by kernel_rfl)
                  have e49 := got hφ (hd 13 (by kernel_rfl)) rfl rfl rfl
                  clear hold hφ hcl hkp hd
                  rw [if_neg (by simp [Region.wanted, yielded, e49])]
                  exact hK _ _ (Only.refl _ _) rfl
                · intro a W L N hR hold hφ hcl hkp hd K hK
                  have e51 := got hφ (hd 15 (by kernel_rfl)) rfl rfl rfl
                  have e52 := got hφ (hd 16 (by kernel_rfl)) rfl rfl rfl
                  have e49 := got hφ (hd 13 (by kernel_rfl)) rfl rfl rfl
                  clear hold hφ hcl hkp hd
                  rw [if_neg (by simp [Region.wanted, yielded, e49])]
                  exact hK _ _ (Only.refl _ _) rfl
                · intro a W L N hR hold hφ hcl hkp hd K hK
                  have e53 := got hφ (hd 17 (by kernel_rfl)) rfl rfl rfl
                  have e49 := got hφ (hd 13 (by kernel_rfl)) rfl rfl rfl
                  clear hold hφ hcl hkp hd
                  rw [if_neg (by simp [Region.wanted, yielded, e49])]
                  exact hK _ _ (Only.refl _ _) rfl
                · intro a W L N hR hold hφ hcl hkp hd K hK
                  have e54 := got hφ (hd 18 (by kernel_rfl)) rfl rfl rfl
                  have e49 := got hφ (hd 13 (by kernel_rfl)) rfl rfl rfl
                  clear hold hφ hcl hkp hd
                  rw [if_neg (by simp [Region.wanted, yielded, e49])]
                  exact hK _ _ (Only.refl _ _) rfl
                · intro a W L N hR hold hφ hcl hkp hd K hK
                  have e3 := hold 3 (by kernel_rfl)
                  have e49 := got hφ (hd 13 (by kernel_rfl)) rfl rfl rfl
                  clear hold hφ hcl hkp hd
                  rw [if_neg (by simp [Region.wanted, yielded, e49])]
                  exact hK _ _ (Only.refl _ _) rfl
                · intro a W L N hR hold hφ hcl hkp hd K hK
                  have e56 := got hφ (hd 20 (by kernel_rfl)) rfl rfl rfl
                  have e49 := got hφ (hd 13 (by kernel_rfl)) rfl rfl rfl
                  clear hold hφ hcl hkp hd
                  rw [if_neg (by simp [Region.wanted, yielded, e49])]
                  exact hK _ _ (Only.refl _ _) rfl
                · intro a W L N hR hold hφ hcl hkp hd K hK
                  have e5 := hold 5 (by kernel_rfl)
                  have e49 := got hφ (hd 13 (by kernel_rfl)) rfl rfl rfl
                  clear hold hφ hcl hkp hd
                  rw [if_neg (by simp [Region.wanted, yielded, e49])]
                  exact hK _ _ (Only.refl _ _) rfl
                · intro a W L N hR hold hφ hcl hkp hd K hK
                  have e57 := got hφ (hd 21 (by kernel_rfl)) rfl rfl rfl
                  have e58 := got hφ (hd 22 (by kernel_rfl)) rfl rfl rfl
                  have e49 := got hφ (hd 13 (by kernel_rfl)) rfl rfl rfl
                  clear hold hφ hcl hkp hd
                  rw [if_neg (by simp [Region.wanted, yielded, e49])]
                  exact hK _ _ (Only.refl _ _) rfl
                · intro a W L N hR hold hφ hcl hkp hd K hK
                  have e59 := got hφ (hd 23 (by kernel_rfl)) rfl rfl rfl
                  have e49 := got hφ (hd 13 (by kernel_rfl)) rfl rfl rfl
                  clear hold hφ hcl hkp hd
                  rw [if_neg (by simp [Region.wanted, yielded, e49])]
                  exact hK _ _ (Only.refl _ _) rfl
                · intro a W L N hR hold hφ hcl hkp hd K hK
                  have e60 := got hφ (hd 24 (by kernel_rfl)) rfl rfl rfl
                  have e49 := got hφ (hd 13 (by kernel_rfl)) rfl rfl rfl
                  clear hold hφ hcl hkp hd
                  rw [if_neg (by simp [Region.wanted, yielded, e49])]
                  exact hK _ _ (Only.refl _ _) rfl
                · intro a W L N hR hold hφ hcl hkp hd K hK
                  have e55 := got hφ (hd 19 (by kernel_rfl)) rfl rfl rfl
                  have e61 := got hφ (hd 25 (by kernel_rfl)) rfl rfl rfl
                  have e49 := got hφ (hd 13 (by kernel_rfl)) rfl rfl rfl
                  clear hold hφ hcl hkp hd
                  rw [if_neg (by simp [Region.wanted, yielded, e49])]
                  exact hK _ _ (Only.refl _ _) rfl
                · intro a W L N hR hold hφ hcl hkp hd K hK
                  have e62 := got hφ (hd 26 (by kernel_rfl)) rfl rfl rfl
                  have e49 := got hφ (hd 13 (by kernel_rfl)) rfl rfl rfl
                  clear hold hφ hcl hkp hd
                  rw [if_neg (by simp [Region.wanted, yielded, e49])]
                  exact hK _ _ (Only.refl _ _) rfl
                · intro a W L N hR hold hφ hcl hkp hd K hK
                  have e49 := got hφ (hd 13 (by kernel_rfl)) rfl rfl rfl
                  have e63 := got hφ (hd 27 (by kernel_rfl)) rfl rfl rfl
                  clear hold hφ hcl hkp hd
                  rw [if_pos (by rfl)]
                  go_simp
                  exact hK _ _ (Only.refl _ _) rfl
              · intro us W hO' hus
                have p28 : us 28 = .bool true := hus 28 _ 64 (by omega) rfl rfl
                clear hus
                simp only [List.take_succ_cons, List.take_zero, List.drop_succ_cons, List.drop_zero, fillAct, Act.put, List.setIfInBounds_toArray, List.set_cons_zero, List.set_cons_succ, Nat.reduceAdd, p28]
                clear p28
                have HO4 := Lib.hid (Only.plus (HOr.out.plus hdr) hO')
                clear hO'
                go_wp2
                go_ret
                exact ⟨by rw [HR3.out]; rfl, HO.out.plus HO4.out⟩
          · have hlti : ¬ (i : Int) < (P.funcs.length : Int) := by omega
            go_wp2
            go_ret
            refine ⟨?_, HO.out.plus HOr.out⟩
            rw [hR.out, List.drop_of_length_le (by omega), List.drop_of_length_le (by have := Hll.out; omega)]
            rfl
      · have hnb : ((P.funcs.length : Int) != (Q.funcs.length : Int)) = true := by simp; omega
        have HR2 : Hid (sameP P Q = false) := Lib.hid (by rw [hRF.out, sameF_len _ _ hll])
        clear hll
        go_wp2
        go_ret
        exact ⟨by rw [HR2.out]; rfl, HO.out.plus HO3.out⟩

end Go.Proofs.YtildkedplmjdaaaGreatDoor
