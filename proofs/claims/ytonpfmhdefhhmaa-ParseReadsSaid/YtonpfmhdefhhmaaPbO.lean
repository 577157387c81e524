/-
  The walk of the law ParseBack.
-/
import Derived.Test.YtonpfmhdefhhmaaPbN
import Derived.Test.YtonpfmhdefhhmaaPbJ
namespace Go.Proofs.Ytonpfmhdefhhmaa
set_option maxRecDepth 100000
set_option linter.unusedVariables false
open Go.RowKit Go.Sort

set_option maxHeartbeats 16000000 in
theorem pback_walk (va vb vc vd : Value) (a b c d : RawM) (t : Int) (w : World) (ha : RawAt w va a) (hb : RawAt w vb b) (hc : RawAt w vc c) (hd : RawAt w vd d) :
    Calls Try.prog 4 #[va, vb, vc, vd, .int .i64 t] w fun e w' => e = .returned (.bool true) ∧ Only [] w w' := by
  have Ha := Lib.hid ha
  have Hb := Lib.hid hb
  have Hc := Lib.hid hc
  have Hd := Lib.hid hd
  obtain ⟨aa, ca, rfl, -⟩ := ha
  obtain ⟨ab, cb, rfl, -⟩ := hb
  obtain ⟨ac, cc, rfl, -⟩ := hc
  obtain ⟨ad, cd, rfl, -⟩ := hd
  go_enter Try.func4, Try.ntmps4
  go_wp2_with fail
  refine (known6_any _).mono ?_
  rintro e w0 ⟨rfl, hO0⟩
  have HO0 := Lib.hid hO0
  clear hO0
  go_wp2_with fail
  refine (all6_any a b c d _ _ _ _ _ (Ha.out.more HO0.out) (Hb.out.more HO0.out) (Hc.out.more HO0.out) (Hd.out.more HO0.out)).mono ?_
  rintro e w1 ⟨z, rfl, hz, hO1⟩
  have HO1 := Lib.hid (HO0.out.plus hO1)
  clear hO1
  cases z with
  | false =>
    clear hz
    go_wp2
    go_ret
    exact ⟨rfl, HO1.out⟩
  | true =>
    obtain ⟨Fa, Fb, Fc, Fd⟩ := hz rfl
    clear hz
    have hP1 := fun W (hW : Only [] w W) => prog6_any a b c d t W _ _ _ _ (Ha.out.more hW) (Hb.out.more hW) (Hc.out.more hW) (Hd.out.more hW) (by have := few_cnt Fa; omega) (by have := few_cnt Fb; omega) (by have := few_cnt Fc; omega) (by have := few_cnt Fd; omega)
    obtain ⟨hI, hB, hL⟩ := progR_good t Fa Fb Fc Fd
    have hn := small_prog a b c d t
    have hpb := parse_back (progR a b c d t) hI
    have hpl := parse_long (progT (progR a b c d t))
    have HP1 := Lib.hid hP1
    have HG := Lib.hid (And.intro hB (And.intro hL hn))
    have Hpb := Lib.hid hpb
    have Hpl := Lib.hid hpl
    clear hP1 hI hB hL hn hpb hpl Fa Fb Fc Fd
    generalize progR a b c d t = P at *
    go_wp2_with fail
    refine (HP1.out w1 HO1.out).mono ?_
    rintro e w2 ⟨v1, v2, v3, rfl, hP, hO2⟩
    have HP := Lib.hid hP
    obtain ⟨⟨av, cv, rfl, -⟩, ⟨al, cl, rfl, -⟩, ⟨af, cf, rfl, -⟩⟩ := hP
    have hOa := (Only.refl [] w2).alloc (.cells #[.slice av P.vars.length cv, .slice al P.locks.length cl, .slice af P.funcs.length cf] 30)
    have hbp := IsBlk.made w2 (.cells #[.slice av P.vars.length cv, .slice al P.locks.length cl, .slice af P.funcs.length cf] 30)
    have HP2 := Lib.hid (HP.out.more hOa)
    have HO3 := Lib.hid ((HO1.out.plus hO2).plus hOa)
    have Hbp := Lib.hid hbp
    clear hO2 hOa hbp HP HP1
    go_upto_region 6 with fail
    generalize hW3 : w2.alloc (.cells #[.slice av P.vars.length cv, .slice al P.locks.length cl, .slice af P.funcs.length cf] 30) = w3 at *
    clear hW3
    generalize w2.heap.size = q1 at *
    obtain ⟨hB, hL, hn⟩ := HG.out
    have c0 := Hbp.out.cell 0
    have c1 := Hbp.out.cell 1
    have c2 := Hbp.out.cell 2
    have cl0 := Hbp.out.lt
    have HT := Lib.hid (ptext_any w3 _ _ _ P HP2.out (by omega) hB ⟨by omega, by omega, by omega⟩)
    go_wp2_with fail
    refine HT.out.mono ?_
    rintro e w4 ⟨rfl, hO4⟩
    have HT2 := Lib.hid (rtext_any w4 _ _ _ P (HP2.out.more hO4) (by omega) (fun f hf => (hB f hf).2) ⟨by omega, by omega, by omega⟩)
    have HO4 := Lib.hid hO4
    clear c0 c1 c2 cl0 HT
    have c0 := (Hbp.out.only hO4 (by simp)).cell 0
    have c1 := (Hbp.out.only hO4 (by simp)).cell 1
    have c2 := (Hbp.out.only hO4 (by simp)).cell 2
    have cl0 := (Hbp.out.only hO4 (by simp)).lt
    clear hO4
    have hflen : ∀ f ∈ P.funcs, (putM false (wordsB f.body)).length ≤ 10000000 := fun f hf => by
      have h1 : (lineF f).length ≤ (P.funcs.flatMap lineF).length := by
        obtain ⟨l1, l2, e⟩ := List.append_of_mem hf
        rw [e, List.flatMap_append, List.flatMap_cons, List.length_append, List.length_append]
        omega
      have h2 : (P.funcs.flatMap lineF).length ≤ (progT P).length := by unfold progT; rw [List.length_append]; omega
      rw [lineF_eq] at h1
      simp only [List.length_append, List.length_cons] at h1
      omega
    have Hfl := Lib.hid hflen
    have HBB := Lib.hid hB
    have HLs : Hid ((progT P).length ≤ 4000) := Lib.hid hL
    clear hflen hL hB
    generalize progT P = s at *
    unfold encStr
    have hss : (s == s) = true := beq_self_eq_true _
    go_wp2_with fail
    refine HT2.out.mono ?_
    rintro e w5 ⟨rfl, hO5⟩
    have HO5 := Lib.hid (HO4.out.plus hO5)
    clear hO5 HT2 c0 c1 c2 cl0
    unfold encStr
    have c2 := (Hbp.out.only HO5.out (by simp)).cell 2
    have cl0 := (Hbp.out.only HO5.out (by simp)).lt
    go_wp2_with fail
    clear c2 cl0 hss
    go_loopw [13] (fun iv wr => ∃ i : Nat, iv = .int .i64 i ∧ i ≤ P.funcs.length ∧ Only [] w3 wr) (fun iv _ => P.funcs.length - (intOf iv).toNat)
    case atStart => exact ⟨0, rfl, Nat.zero_le _, HO5.out⟩
    case round =>
      obtain ⟨i, rfl, hi, hO⟩ := hrel
      have HO := Lib.hid hO
      have c2 := (Hbp.out.only hO (by simp)).cell 2
      have cl0 := (Hbp.out.only hO (by simp)).lt
      clear hO
      by_cases hlt : i < P.funcs.length
      · have hlti : (i : Int) < (P.funcs.length : Int) := by omega
        have hi0 : (0 : Int) ≤ (i : Int) := by omega
        have hget : P.funcs[i]? = some P.funcs[i] := List.getElem?_eq_getElem hlt
        have hbb := HBB.out _ (List.getElem_mem hlt)
        have hbl := Hfl.out _ (List.getElem_mem hlt)
        obtain ⟨-, -, ⟨a', c', hea, -, hff⟩⟩ := HP2.out
        injection hea with h1 h2 h3
        subst h1 h3
        obtain ⟨g, xs, fp, hag, hg, hra, hef⟩ := hff (by omega)
        obtain ⟨vx, fx, e1, e2, e3, hbk, hnd⟩ := hef.get _ _ hget
        have r1 := hra _ _ e1
        have r2 := hra _ _ e2
        have r3 := hra _ _ e3
        rw [Nat.zero_add] at r1 r2 r3
        have Hbk := Lib.hid hbk
        obtain ⟨xa, xc, rfl, -⟩ := hbk.slice
        clear hff hef hra e1 e2 e3 hbk hget
        generalize P.funcs[i] = x at *
        subst hag
        have hcl : ∀ W, Only [] wr W → W.cell? ⟨q1, 2, none⟩ = some (.slice (some ⟨g, 0, none⟩) P.funcs.length cf) ∧ W.cell? ⟨g, i * 3, none⟩ = some (.string ⟨x.name.toArray⟩) ∧ W.cell? ⟨g, i * 3 + 1, none⟩ = some (.int .i64 x.at_) ∧ W.cell? ⟨g, i * 3 + 2, none⟩ = some (.slice xa x.body.len xc) ∧ g < W.heap.size ∧ q1 < W.heap.size := fun W hW => by
          have h := HO.out.plus hW
          exact ⟨(Hbp.out.only h (by simp)).cell 2, (h.cell (p := ⟨g, i * 3, none⟩) hg (by simp)).trans r1, (h.cell (p := ⟨g, i * 3 + 1, none⟩) hg (by simp)).trans r2, (h.cell (p := ⟨g, i * 3 + 2, none⟩) hg (by simp)).trans r3, Nat.lt_of_lt_of_le hg h.size, (Hbp.out.only h (by simp)).lt⟩
        have HB1 : Hid (∀ W, Only [] wr W → Calls Try.prog 23 #[.agg #[.string ⟨x.name.toArray⟩, .int .i64 x.at_, .slice xa x.body.len xc]] W fun e w' => e = .returned (encStr (putM false (wordsB x.body))) ∧ Only [] W w') := Lib.hid (fun W hW => pbody_any W _ _ _ x.body fx (Hbk.out.more (HO.out.plus hW)) hnd hbb.1 hbb.2 hbl)
        have HB2 : Hid (∀ W, Only [] wr W → Calls Try.prog 24 #[.agg #[.string ⟨x.name.toArray⟩, .int .i64 x.at_, .slice xa x.body.len xc]] W fun e w' => e = .returned (encStr (putM false (wordsB x.body))) ∧ Only [] W w') := Lib.hid (fun W hW => rbody_any W _ _ _ x.body fx (Hbk.out.more (HO.out.plus hW)) hbb.2 hbl)
        have Hcl := Lib.hid hcl
        have hdr : Only [] wr wr.drew := (Only.refl [] wr).drew
        clear hcl r1 r2 r3 hbb hbl hnd
        generalize putM false (wordsB x.body) = tb at *
        unfold encStr at HB1 HB2
        have hbb2 : (tb == tb) = true := beq_self_eq_true _
        go_upto_region 12 with fail
        refine wp_region_stabL (P := Try.prog) 13 (by kernel_rfl) (by kernel_rfl) (Only []) (Only.refl _ _) (fun _ _ _ h k => h.then k [] (by simp) (by simp))
          [SP.is (.pointer (some ⟨q1, 2, none⟩)),
           SP.is (.slice (some ⟨g, 0, none⟩) P.funcs.length cf),
           SP.is (.int .i64 i),
           SP.is (.pointer (some ⟨g, i * 3, none⟩)),
           SP.is (.agg #[.string ⟨x.name.toArray⟩, .int .i64 x.at_, .slice xa x.body.len xc]),
           SP.is (.string ⟨tb.toArray⟩),
           SP.is (.pointer (some ⟨q1, 2, none⟩)),
           SP.is (.slice (some ⟨g, 0, none⟩) P.funcs.length cf),
           SP.is (.int .i64 i),
           SP.is (.pointer (some ⟨g, i * 3, none⟩)),
           SP.is (.agg #[.string ⟨x.name.toArray⟩, .int .i64 x.at_, .slice xa x.body.len xc]),
           SP.is (.string ⟨tb.toArray⟩),
           SP.is (.bool false)] ?_ ?_
        · simp only [List.take_succ_cons, List.take_zero]
          refine StepsOK.cons ?_ (StepsOK.cons ?_ (StepsOK.cons ?_ (StepsOK.cons ?_ (StepsOK.cons ?_ (StepsOK.cons ?_ (StepsOK.cons ?_ (StepsOK.cons ?_ (StepsOK.cons ?_ (StepsOK.cons ?_ (StepsOK.cons ?_ (StepsOK.cons ?_ (StepsOK.cons ?_ StepsOK.nil))))))))))))
          · intro a W L N hR hold hφ hcl hkp hd K hK
            have e11 := hold 11 (by kernel_rfl)
            clear hold hφ hcl hkp hd
            rw [if_pos (by rfl)]
            go_simp
            exact hK _ _ (Only.refl _ _) rfl
          · intro a W L N hR hold hφ hcl hkp hd K hK
            have e44 := got hφ (hd 0 (by kernel_rfl)) rfl rfl rfl
            obtain ⟨l1, l2, l3, l4, l5, l6⟩ := Hcl.out W (Only.plus hdr hR)
            clear hold hφ hcl hkp hd
            rw [if_pos (by rfl)]
            go_simp
            exact hK _ _ (Only.refl _ _) rfl
          · intro a W L N hR hold hφ hcl hkp hd K hK
            have e13 := hold 13 (by kernel_rfl)
            clear hold hφ hcl hkp hd
            rw [if_pos (by rfl)]
            go_simp
            exact hK _ _ (Only.refl _ _) rfl
          · intro a W L N hR hold hφ hcl hkp hd K hK
            have e45 := got hφ (hd 1 (by kernel_rfl)) rfl rfl rfl
            have e46 := got hφ (hd 2 (by kernel_rfl)) rfl rfl rfl
            clear hold hφ hcl hkp hd
            rw [if_pos (by rfl)]
            go_simp
            exact hK _ _ (Only.refl _ _) rfl
          · intro a W L N hR hold hφ hcl hkp hd K hK
            have e47 := got hφ (hd 3 (by kernel_rfl)) rfl rfl rfl
            obtain ⟨l1, l2, l3, l4, l5, l6⟩ := Hcl.out W (Only.plus hdr hR)
            clear hold hφ hcl hkp hd
            rw [if_pos (by rfl)]
            go_simp
            exact hK _ _ (Only.refl _ _) rfl
          · intro a W L N hR hold hφ hcl hkp hd K hK
            have e48 := got hφ (hd 4 (by kernel_rfl)) rfl rfl rfl
            have hW := Only.plus hdr hR
            clear hold hφ hcl hkp hd
            rw [if_pos (by rfl)]
            go_simp
            refine (HB1.out W hW).mono ?_
            rintro e w' ⟨rfl, hO'⟩
            exact hK _ _ hO' rfl
          · intro a W L N hR hold hφ hcl hkp hd K hK
            have e11 := hold 11 (by kernel_rfl)
            clear hold hφ hcl hkp hd
            rw [if_pos (by rfl)]
            go_simp
            exact hK _ _ (Only.refl _ _) rfl
          · intro a W L N hR hold hφ hcl hkp hd K hK
            have e50 := got hφ (hd 6 (by kernel_rfl)) rfl rfl rfl
            obtain ⟨l1, l2, l3, l4, l5, l6⟩ := Hcl.out W (Only.plus hdr hR)
            clear hold hφ hcl hkp hd
            rw [if_pos (by rfl)]
            go_simp
            exact hK _ _ (Only.refl _ _) rfl
          · intro a W L N hR hold hφ hcl hkp hd K hK
            have e13 := hold 13 (by kernel_rfl)
            clear hold hφ hcl hkp hd
            rw [if_pos (by rfl)]
            go_simp
            exact hK _ _ (Only.refl _ _) rfl
          · intro a W L N hR hold hφ hcl hkp hd K hK
            have e51 := got hφ (hd 7 (by kernel_rfl)) rfl rfl rfl
            have e52 := got hφ (hd 8 (by kernel_rfl)) rfl rfl rfl
            clear hold hφ hcl hkp hd
            rw [if_pos (by rfl)]
            go_simp
            exact hK _ _ (Only.refl _ _) rfl
          · intro a W L N hR hold hφ hcl hkp hd K hK
            have e53 := got hφ (hd 9 (by kernel_rfl)) rfl rfl rfl
            obtain ⟨l1, l2, l3, l4, l5, l6⟩ := Hcl.out W (Only.plus hdr hR)
            clear hold hφ hcl hkp hd
            rw [if_pos (by rfl)]
            go_simp
            exact hK _ _ (Only.refl _ _) rfl
          · intro a W L N hR hold hφ hcl hkp hd K hK
            have e54 := got hφ (hd 10 (by kernel_rfl)) rfl rfl rfl
            have hW := Only.plus hdr hR
            clear hold hφ hcl hkp hd
            rw [if_pos (by rfl)]
            go_simp
            refine (HB2.out W hW).mono ?_
            rintro e w' ⟨rfl, hO'⟩
            exact hK _ _ hO' rfl
          · intro a W L N hR hold hφ hcl hkp hd K hK
            have e49 := got hφ (hd 5 (by kernel_rfl)) rfl rfl rfl
            have e55 := got hφ (hd 11 (by kernel_rfl)) rfl rfl rfl
            clear hold hφ hcl hkp hd
            rw [if_pos (by rfl)]
            go_simp
            exact hK _ _ (Only.refl _ _) rfl
        · intro us W hO' hus
          have p12 : us 12 = .bool false := hus 12 _ 56 (by omega) rfl rfl
          clear hus
          simp only [List.take_succ_cons, List.take_zero, List.drop_succ_cons, List.drop_zero, fillAct, Act.put, List.setIfInBounds_toArray, List.set_cons_zero, List.set_cons_succ, Nat.reduceAdd, p12]
          clear p12
          have HO6 := Lib.hid (HO.out.plus (Only.plus hdr hO'))
          clear hO'
          go_wp2
          go_roundw
          case rel => exact ⟨i + 1, by go_num, hlt, HO6.out⟩
          case measure => simp [intOf]; omega
      · have hlti : ¬ (i : Int) < (P.funcs.length : Int) := by omega
        go_wp2_with fail
        refine (pparse_any wr s (by have := HLs.out; omega)).mono ?_
        rintro e w6 ⟨vv, vl, vf, rfl, hQ, hO6⟩
        have HO6 := Lib.hid (HO.out.plus hO6)
        clear c2 cl0 hO6
        by_cases hs : s.length ≤ 2000
        · have hsi : ¬ (2000 : Int) < (s.length : Int) := by omega
          obtain ⟨Q, g1, g2, -⟩ := Hpb.out hs
          rw [g1] at hQ ⊢
          simp only at hQ ⊢
          have HQ := Lib.hid hQ
          obtain ⟨⟨bv, dv, rfl, -⟩, ⟨bl, dl, rfl, -⟩, ⟨bf, df, rfl, -⟩⟩ := hQ
          have hOa := (Only.refl [] w6).alloc (.cells #[.slice bv Q.vars.length dv, .slice bl Q.locks.length dl, .slice bf Q.funcs.length df] 30)
          have hbq := IsBlk.made w6 (.cells #[.slice bv Q.vars.length dv, .slice bl Q.locks.length dl, .slice bf Q.funcs.length df] 30)
          have HQ2 := Lib.hid (HQ.out.more hOa)
          have HO7 := Lib.hid (HO6.out.plus hOa)
          have Hbq := Lib.hid hbq
          have HP7 := Lib.hid (HP2.out.more HO7.out)
          clear hOa hbq HQ g1
          go_upto_region 15 with fail
          generalize hW7 : w6.alloc (.cells #[.slice bv Q.vars.length dv, .slice bl Q.locks.length dl, .slice bf Q.funcs.length df] 30) = w7 at *
          clear hW7
          generalize w6.heap.size = q2 at *
          obtain ⟨u1, u2, u3, u4⟩ := back_ok g2 HBB.out
          have hsp : sameP P Q = true := by rw [sameP_iff]; simp [g2]
          have HS := fun W (hW : Only [] w7 W) => same_any W _ _ _ _ _ _ P Q (HP7.out.more hW) (HQ2.out.more hW) (fun f hf => (HBB.out f hf).1) (fun f hf => (u1 f hf).1) ⟨by omega, by omega, by omega⟩
          have HS2 := fun W (hW : Only [] w7 W) => rsame_any W _ _ _ _ _ _ P Q (HP7.out.more hW) (HQ2.out.more hW) (fun f hf => (HBB.out f hf).1) (fun f hf => (u1 f hf).1) ⟨by omega, by omega, by omega⟩
          rw [hsp] at HS HS2
          have HSa := Lib.hid HS
          have HSb := Lib.hid HS2
          have c0 := (Hbp.out.only HO7.out (by simp)).cell 0
          have c1 := (Hbp.out.only HO7.out (by simp)).cell 1
          have c2 := (Hbp.out.only HO7.out (by simp)).cell 2
          have cl0 := (Hbp.out.only HO7.out (by simp)).lt
          have d0 := Hbq.out.cell 0
          have d1 := Hbq.out.cell 1
          have d2 := Hbq.out.cell 2
          have dl0 := Hbq.out.lt
          clear HS HS2 hsp u1 u2 u3 u4 g2
          go_wp2_with fail
          refine (HSa.out w7 (Only.refl _ _)).mono ?_
          rintro e w8 ⟨rfl, hO8⟩
          have HO8 := Lib.hid hO8
          clear c0 c1 c2 cl0 d0 d1 d2 dl0
          have c0 := (Hbp.out.only (HO7.out.plus hO8) (by simp)).cell 0
          have c1 := (Hbp.out.only (HO7.out.plus hO8) (by simp)).cell 1
          have c2 := (Hbp.out.only (HO7.out.plus hO8) (by simp)).cell 2
          have cl0 := (Hbp.out.only (HO7.out.plus hO8) (by simp)).lt
          have d0 := (Hbq.out.only hO8 (by simp)).cell 0
          have d1 := (Hbq.out.only hO8 (by simp)).cell 1
          have d2 := (Hbq.out.only hO8 (by simp)).cell 2
          have dl0 := (Hbq.out.only hO8 (by simp)).lt
          clear hO8
          go_wp2_with fail
          refine (HSb.out w8 HO8.out).mono ?_
          rintro e w9 ⟨rfl, hO9⟩
          have HO9 := Lib.hid hO9
          clear hO9
          go_wp2
          go_ret
          exact ⟨rfl, HO3.out.plus ((HO7.out.plus HO8.out).plus HO9.out)⟩
        · have hsi : (2000 : Int) < (s.length : Int) := by omega
          have g1 := Hpl.out (by omega)
          rw [g1] at hQ ⊢
          obtain ⟨⟨bv, dv, rfl, -⟩, ⟨bl, dl, rfl, -⟩, ⟨bf, df, rfl, -⟩⟩ := hQ
          have HO7 := Lib.hid (HO6.out.alloc (.cells #[.slice bv 0 dv, .slice bl 0 dl, .slice bf 0 df] 30))
          simp only [List.length_nil] at *
          clear g1 hs
          go_wp2
          go_ret
          exact ⟨rfl, HO3.out.plus HO7.out⟩

theorem pback_row (a0 : Option Addr) (len0 cap0 : Nat) (l0 : RawM) (a1 : Option Addr) (len1 cap1 : Nat) (l1 : RawM) (a2 : Option Addr) (len2 cap2 : Nat) (l2 : RawM) (a3 : Option Addr) (len3 cap3 : Nat) (l3 : RawM) (t : Int) (w : World)
    (h0 : RawAt w (.slice a0 len0 cap0) l0) (h1 : RawAt w (.slice a1 len1 cap1) l1) (h2 : RawAt w (.slice a2 len2 cap2) l2) (h3 : RawAt w (.slice a3 len3 cap3) l3) :
    Calls Try.prog 4 #[.slice a0 len0 cap0, .slice a1 len1 cap1, .slice a2 len2 cap2, .slice a3 len3 cap3, .int .i64 t] w fun e w' => e = .returned (.bool true) ∧ Only [] w w' := pback_walk _ _ _ _ l0 l1 l2 l3 t w h0 h1 h2 h3

end Go.Proofs.Ytonpfmhdefhhmaa
