/-
  All; the walk of the law ParseSame.
-/
import Derived.Test.YtonpfmhdefhhmaaPbE
import Derived.Test.YtonpfmhdefhhmaaPbM
namespace Go.Proofs.Ytonpfmhdefhhmaa
set_option maxRecDepth 100000
set_option linter.unusedVariables false
open Go.RowKit Go.Sort

def AllFew (a b c d : RawM) : Prop := FewR a ∧ FewR b ∧ FewR c ∧ FewR d
set_option maxHeartbeats 4000000 in
theorem all6_any (a b c d : RawM) (w : World) (va vb vc vd : Value) (ha : RawAt w va a) (hb : RawAt w vb b) (hc : RawAt w vc c) (hd : RawAt w vd d) :
    Calls Try.prog 21 #[va, vb, vc, vd] w fun e w' => ∃ z : Bool, e = .returned (.bool z) ∧ (z = true → AllFew a b c d) ∧ Only [] w w' := by
  have Ha := Lib.hid ha
  have Hb := Lib.hid hb
  have Hc := Lib.hid hc
  have Hd := Lib.hid hd
  obtain ⟨_, _, rfl, -⟩ := ha
  obtain ⟨_, _, rfl, -⟩ := hb
  obtain ⟨_, _, rfl, -⟩ := hc
  obtain ⟨_, _, rfl, -⟩ := hd
  go_enter Try.func21, Try.ntmps21
  go_wp2_with fail
  refine (few6_any a _ _ (Ha.out)).mono ?_
  rintro e w1 ⟨rfl, hO⟩
  have HO1 := Lib.hid (hO)
  clear hO
  by_cases hfa : sizeM a 0 ≤ 40
  · rw [show decide (sizeM a 0 ≤ 40) = true from by simp [hfa]]
    have Hfa : Hid (FewR a) := Lib.hid hfa
    clear hfa
    go_wp2_with fail
    refine (few6_any b _ _ (Hb.out.more HO1.out)).mono ?_
    rintro e w2 ⟨rfl, hO⟩
    have HO2 := Lib.hid (HO1.out.plus hO)
    clear hO
    by_cases hfb : sizeM b 0 ≤ 40
    · rw [show decide (sizeM b 0 ≤ 40) = true from by simp [hfb]]
      have Hfb : Hid (FewR b) := Lib.hid hfb
      clear hfb
      go_wp2_with fail
      refine (few6_any c _ _ (Hc.out.more HO2.out)).mono ?_
      rintro e w3 ⟨rfl, hO⟩
      have HO3 := Lib.hid (HO2.out.plus hO)
      clear hO
      by_cases hfc : sizeM c 0 ≤ 40
      · rw [show decide (sizeM c 0 ≤ 40) = true from by simp [hfc]]
        have Hfc : Hid (FewR c) := Lib.hid hfc
        clear hfc
        go_wp2_with fail
        refine (few6_any d _ _ (Hd.out.more HO3.out)).mono ?_
        rintro e w4 ⟨rfl, hO⟩
        have HO4 := Lib.hid (HO3.out.plus hO)
        clear hO
        by_cases hfd : sizeM d 0 ≤ 40
        · rw [show decide (sizeM d 0 ≤ 40) = true from by simp [hfd]]
          have Hfd : Hid (FewR d) := Lib.hid hfd
          clear hfd
          go_wp2
          go_ret
          exact ⟨true, rfl, fun _ => ⟨Hfa.out, Hfb.out, Hfc.out, Hfd.out⟩, HO4.out⟩
        · rw [show decide (sizeM d 0 ≤ 40) = false from by simp [hfd]]
          clear hfd
          go_wp2
          go_ret
          exact ⟨false, rfl, (fun h => by cases h), HO4.out⟩
      · rw [show decide (sizeM c 0 ≤ 40) = false from by simp [hfc]]
        clear hfc
        go_wp2
        go_ret
        exact ⟨false, rfl, (fun h => by cases h), HO3.out⟩
    · rw [show decide (sizeM b 0 ≤ 40) = false from by simp [hfb]]
      clear hfb
      go_wp2
      go_ret
      exact ⟨false, rfl, (fun h => by cases h), HO2.out⟩
  · rw [show decide (sizeM a 0 ≤ 40) = false from by simp [hfa]]
    clear hfa
    go_wp2
    go_ret
    exact ⟨false, rfl, (fun h => by cases h), HO1.out⟩

theorem small_prog (m f g h : RawM) (t : Int) : (progR m f g h t).vars.length ≤ 1000 ∧ (progR m f g h t).locks.length ≤ 1000 ∧ (progR m f g h t).funcs.length ≤ 1000 :=
  ⟨by show 3 ≤ 1000; omega, by unfold progR; simp only; split <;> simp, by unfold progR; simp only; split <;> simp⟩

set_option maxHeartbeats 16000000 in
theorem psame_walk (va vb vc vd : Value) (a b c d : RawM) (t o : Int) (w : World) (ha : RawAt w va a) (hb : RawAt w vb b) (hc : RawAt w vc c) (hd : RawAt w vd d) :
    Calls Try.prog 6 #[va, vb, vc, vd, .int .i64 t, .int .i64 o] w fun e w' => e = .returned (.bool true) ∧ Only [] w w' := by
  have Ha := Lib.hid ha
  have Hb := Lib.hid hb
  have Hc := Lib.hid hc
  have Hd := Lib.hid hd
  obtain ⟨aa, ca, rfl, -⟩ := ha
  obtain ⟨ab, cb, rfl, -⟩ := hb
  obtain ⟨ac, cc, rfl, -⟩ := hc
  obtain ⟨ad, cd, rfl, -⟩ := hd
  go_enter Try.func6, Try.ntmps6
  go_wp2_with fail
  refine (known6_any _).mono ?_
  rintro e w0 ⟨rfl, hO0⟩
  have HO0 := Lib.hid hO0
  clear hO0
  go_wp2_with fail
  refine (all6_any a b c d _ _ _ _ _ (Ha.out.more HO0.out) (Hb.out.more HO0.out) (Hc.out.more HO0.out) (Hd.out.more HO0.out)).mono ?_
  rintro e w1 ⟨z, rfl, hz, hO1⟩
  have HO1 := Lib.hid (HO0.out.plus hO1)
  clear hO1
  cases z with
  | false =>
    clear hz
    go_wp2
    go_ret
    exact ⟨rfl, HO1.out⟩
  | true =>
    obtain ⟨Fa, Fb, Fc, Fd⟩ := hz rfl
    clear hz
    have hnil : ∀ W, RawAt W (.slice none 0 0) .nil := fun W => ⟨none, 0, rfl, Nat.zero_le _, fun h => by simp [RawM.len] at h⟩
    have hP1 := fun W (hW : Only [] w W) => prog6_any a b .nil .nil t W _ _ _ _ (Ha.out.more hW) (Hb.out.more hW) (hnil W) (hnil W) (by have := few_cnt Fa; omega) (by have := few_cnt Fb; omega) (by simp [RawM.cnt]) (by simp [RawM.cnt])
    have hQ1 := fun W (hW : Only [] w W) => prog6_any c d .nil .nil o W _ _ _ _ (Hc.out.more hW) (Hd.out.more hW) (hnil W) (hnil W) (by have := few_cnt Fc; omega) (by have := few_cnt Fd; omega) (by simp [RawM.cnt]) (by simp [RawM.cnt])
    obtain ⟨hI, hB, hL⟩ := progR_good t Fa Fb few_nil few_nil
    obtain ⟨kI, kB, kL⟩ := progR_good o Fc Fd few_nil few_nil
    have hn := small_prog a b .nil .nil t
    have kn := small_prog c d .nil .nil o
    have hR0 : (progT (progR a b .nil .nil t) == progT (progR c d .nil .nil o)) = sameP (progR a b .nil .nil t) (progR c d .nil .nil o) := by
      rw [sameP_iff]
      by_cases h : eraseP (progR a b .nil .nil t) = eraseP (progR c d .nil .nil o)
      · rw [text_congr h]; simp [h]
      · have : progT (progR a b .nil .nil t) ≠ progT (progR c d .nil .nil o) := fun e => h (text_inj hI kI e)
        simp [h, this]
    have HP1 := Lib.hid hP1
    have HQ1 := Lib.hid hQ1
    have HG := Lib.hid (And.intro hB (And.intro hL (And.intro kB (And.intro kL (And.intro hn kn)))))
    have HR0 := Lib.hid hR0
    clear hnil hP1 hQ1 hI hB hL kI kB kL hn kn hR0 Fa Fb Fc Fd
    generalize progR a b .nil .nil t = P at *
    generalize progR c d .nil .nil o = Q at *
    go_wp2_with fail
    refine (HP1.out w1 HO1.out).mono ?_
    rintro e w2 ⟨v1, v2, v3, rfl, hP, hO2⟩
    have HP := Lib.hid hP
    obtain ⟨⟨av, cv, rfl, -⟩, ⟨al, cl, rfl, -⟩, ⟨af, cf, rfl, -⟩⟩ := hP
    have HO2 := Lib.hid (HO1.out.plus hO2)
    clear hO2
    go_wp2_with fail
    refine (HQ1.out w2 HO2.out).mono ?_
    rintro e w3 ⟨v1, v2, v3, rfl, hQ, hO3⟩
    have HQ := Lib.hid hQ
    obtain ⟨⟨bv, dv, rfl, -⟩, ⟨bl, dl, rfl, -⟩, ⟨bf, df, rfl, -⟩⟩ := hQ
    have hbp := (IsBlk.made w3 (.cells #[.slice av P.vars.length cv, .slice al P.locks.length cl, .slice af P.funcs.length cf] 30)).alloc (.cells #[.slice bv Q.vars.length dv, .slice bl Q.locks.length dl, .slice bf Q.funcs.length df] 30)
    have hbq := IsBlk.made (w3.alloc (.cells #[.slice av P.vars.length cv, .slice al P.locks.length cl, .slice af P.funcs.length cf] 30)) (.cells #[.slice bv Q.vars.length dv, .slice bl Q.locks.length dl, .slice bf Q.funcs.length df] 30)
    rw [show (w3.alloc (.cells #[.slice av P.vars.length cv, .slice al P.locks.length cl, .slice af P.funcs.length cf] 30)).heap.size = w3.heap.size + 1 from by simp] at hbq
    have hOa := ((Only.refl [] w3).alloc (.cells #[.slice av P.vars.length cv, .slice al P.locks.length cl, .slice af P.funcs.length cf] 30)).alloc (.cells #[.slice bv Q.vars.length dv, .slice bl Q.locks.length dl, .slice bf Q.funcs.length df] 30)
    have HP2 := Lib.hid (HP.out.more (hO3.plus hOa))
    have HQ2 := Lib.hid (HQ.out.more hOa)
    have HO4 := Lib.hid ((HO2.out.plus hO3).plus hOa)
    have Hbp := Lib.hid hbp
    have Hbq := Lib.hid hbq
    clear hbp hbq hOa hO3 HP HQ HP1 HQ1
    go_upto_region 6 with fail
    generalize hW4 : (w3.alloc (.cells #[.slice av P.vars.length cv, .slice al P.locks.length cl, .slice af P.funcs.length cf] 30)).alloc (.cells #[.slice bv Q.vars.length dv, .slice bl Q.locks.length dl, .slice bf Q.funcs.length df] 30) = w4 at *
    clear hW4
    obtain ⟨hB, hL, kB, kL, hn, kn⟩ := HG.out
    have HS : Hid (∀ W, Only [] w4 W → Calls Try.prog 25 #[.agg #[.slice av P.vars.length cv, .slice al P.locks.length cl, .slice af P.funcs.length cf], .agg #[.slice bv Q.vars.length dv, .slice bl Q.locks.length dl, .slice bf Q.funcs.length df]] W fun e w' => e = .returned (.bool (sameP P Q)) ∧ Only [] W w') := Lib.hid (fun W hW => same_any W _ _ _ _ _ _ P Q (HP2.out.more hW) (HQ2.out.more hW) (fun f hf => (hB f hf).1) (fun f hf => (kB f hf).1) ⟨by omega, by omega, by omega⟩)
    have HS1 : Hid (∀ W, Only [] w4 W → Calls Try.prog 25 #[.agg #[.slice av P.vars.length cv, .slice al P.locks.length cl, .slice af P.funcs.length cf], .agg #[.slice av P.vars.length cv, .slice al P.locks.length cl, .slice af P.funcs.length cf]] W fun e w' => e = .returned (.bool true) ∧ Only [] W w') := Lib.hid (fun W hW => by
      have h := same_any W _ _ _ _ _ _ P P (HP2.out.more hW) (HP2.out.more hW) (fun f hf => (hB f hf).1) (fun f hf => (hB f hf).1) ⟨by omega, by omega, by omega⟩
      rw [sameP_iff, show decide (eraseP P = eraseP P) = true from by simp] at h
      exact h)
    have HR2 : Hid (∀ W, Only [] w4 W → Calls Try.prog 19 #[.agg #[.slice av P.vars.length cv, .slice al P.locks.length cl, .slice af P.funcs.length cf], .agg #[.slice bv Q.vars.length dv, .slice bl Q.locks.length dl, .slice bf Q.funcs.length df]] W fun e w' => e = .returned (.bool (sameP P Q)) ∧ Only [] W w') := Lib.hid (fun W hW => rsame_any W _ _ _ _ _ _ P Q (HP2.out.more hW) (HQ2.out.more hW) (fun f hf => (hB f hf).1) (fun f hf => (kB f hf).1) ⟨by omega, by omega, by omega⟩)
    have HT1 : Hid (∀ W, Only [] w4 W → Calls Try.prog 22 #[.agg #[.slice av P.vars.length cv, .slice al P.locks.length cl, .slice af P.funcs.length cf]] W fun e w' => e = .returned (encStr (progT P)) ∧ Only [] W w') := Lib.hid (fun W hW => ptext_any W _ _ _ P (HP2.out.more hW) (by omega) hB ⟨by omega, by omega, by omega⟩)
    have HT2 : Hid (∀ W, Only [] w4 W → Calls Try.prog 22 #[.agg #[.slice bv Q.vars.length dv, .slice bl Q.locks.length dl, .slice bf Q.funcs.length df]] W fun e w' => e = .returned (encStr (progT Q)) ∧ Only [] W w') := Lib.hid (fun W hW => ptext_any W _ _ _ Q (HQ2.out.more hW) (by omega) kB ⟨by omega, by omega, by omega⟩)
    have htt := HR0.out
    generalize sameP P Q = R at *
    generalize progT P = tP at *
    generalize progT Q = tQ at *
    unfold encStr at HT1 HT2
    have hdr : Only [] w4 w4.drew := (Only.refl [] w4).drew
    have hcl : ∀ W, Only [] w4 W → W.cell? ⟨w3.heap.size, 0, none⟩ = some (.slice av P.vars.length cv) ∧ W.cell? ⟨w3.heap.size, 1, none⟩ = some (.slice al P.locks.length cl) ∧ W.cell? ⟨w3.heap.size, 2, none⟩ = some (.slice af P.funcs.length cf) ∧ w3.heap.size < W.heap.size ∧
        W.cell? ⟨w3.heap.size + 1, 0, none⟩ = some (.slice bv Q.vars.length dv) ∧ W.cell? ⟨w3.heap.size + 1, 1, none⟩ = some (.slice bl Q.locks.length dl) ∧ W.cell? ⟨w3.heap.size + 1, 2, none⟩ = some (.slice bf Q.funcs.length df) ∧ w3.heap.size + 1 < W.heap.size := fun W hW =>
      ⟨(Hbp.out.only hW (by simp)).cell 0, (Hbp.out.only hW (by simp)).cell 1, (Hbp.out.only hW (by simp)).cell 2, (Hbp.out.only hW (by simp)).lt, (Hbq.out.only hW (by simp)).cell 0, (Hbq.out.only hW (by simp)).cell 1, (Hbq.out.only hW (by simp)).cell 2, (Hbq.out.only hW (by simp)).lt⟩
    have Hcl := Lib.hid hcl
    clear hcl hB hL kB kL hn kn HG HR0
    refine wp_region_stabL (P := Try.prog) 23 (by kernel_rfl) (by kernel_rfl) (Only []) (Only.refl _ _) (fun _ _ _ h k => h.then k [] (by simp) (by simp))
      [SP.is (.agg #[.slice av P.vars.length cv, .slice al P.locks.length cl, .slice af P.funcs.length cf]),
       SP.is (.agg #[.slice bv Q.vars.length dv, .slice bl Q.locks.length dl, .slice bf Q.funcs.length df]),
       SP.is (.bool R),
       SP.is (.agg #[.slice av P.vars.length cv, .slice al P.locks.length cl, .slice af P.funcs.length cf]),
       SP.is (.string ⟨tP.toArray⟩),
       SP.is (.agg #[.slice bv Q.vars.length dv, .slice bl Q.locks.length dl, .slice bf Q.funcs.length df]),
       SP.is (.string ⟨tQ.toArray⟩),
       SP.is (.bool R),
       SP.is (.bool true),
       SP.is (.bool true),
       SP.is (.agg #[.slice av P.vars.length cv, .slice al P.locks.length cl, .slice af P.funcs.length cf]),
       SP.is (.agg #[.slice av P.vars.length cv, .slice al P.locks.length cl, .slice af P.funcs.length cf]),
       SP.is (.bool true),
       SP.is (.bool true),
       SP.is (.bool true),
       SP.is (.agg #[.slice av P.vars.length cv, .slice al P.locks.length cl, .slice af P.funcs.length cf]),
       SP.is (.agg #[.slice bv Q.vars.length dv, .slice bl Q.locks.length dl, .slice bf Q.funcs.length df]),
       SP.is (.bool R),
       SP.is (.agg #[.slice av P.vars.length cv, .slice al P.locks.length cl, .slice af P.funcs.length cf]),
       SP.is (.agg #[.slice bv Q.vars.length dv, .slice bl Q.locks.length dl, .slice bf Q.funcs.length df]),
       SP.is (.bool R),
       SP.is (.bool true),
       SP.is (.bool true)] ?_ ?_
    · simp only [List.take_succ_cons, List.take_zero]
      refine StepsOK.cons ?_ (StepsOK.cons ?_ (StepsOK.cons ?_ (StepsOK.cons ?_ (StepsOK.cons ?_ (StepsOK.cons ?_ (StepsOK.cons ?_ (StepsOK.cons ?_ (StepsOK.cons ?_ (StepsOK.cons ?_ (StepsOK.cons ?_ (StepsOK.cons ?_ (StepsOK.cons ?_ (StepsOK.cons ?_ (StepsOK.cons ?_ (StepsOK.cons ?_ (StepsOK.cons ?_ (StepsOK.cons ?_ (StepsOK.cons ?_ (StepsOK.cons ?_ (StepsOK.cons ?_ (StepsOK.cons ?_ (StepsOK.cons ?_ StepsOK.nil))))))))))))))))))))))
      · intro a W L N hR hold hφ hcl hkp hd K hK
        have e13 := hold 13 (by kernel_rfl)
        obtain ⟨l0, l1, l2, l3, m0, m1, m2, m3⟩ := Hcl.out W (Only.plus hdr hR)
        clear hold hφ hcl hkp hd
        rw [if_pos (by rfl)]
        go_simp
        exact hK _ _ (Only.refl _ _) rfl
      · intro a W L N hR hold hφ hcl hkp hd K hK
        have e14 := hold 14 (by kernel_rfl)
        obtain ⟨l0, l1, l2, l3, m0, m1, m2, m3⟩ := Hcl.out W (Only.plus hdr hR)
        clear hold hφ hcl hkp hd
        rw [if_pos (by rfl)]
        go_simp
        exact hK _ _ (Only.refl _ _) rfl
      · intro a W L N hR hold hφ hcl hkp hd K hK
        have e31 := got hφ (hd 0 (by kernel_rfl)) rfl rfl rfl
        have e32 := got hφ (hd 1 (by kernel_rfl)) rfl rfl rfl
        have hW := Only.plus hdr hR
        clear hold hφ hcl hkp hd
        rw [if_pos (by rfl)]
        go_simp
        refine (HS.out W hW).mono ?_
        rintro e w' ⟨rfl, hO'⟩
        exact hK _ _ hO' rfl
      · intro a W L N hR hold hφ hcl hkp hd K hK
        have e13 := hold 13 (by kernel_rfl)
        obtain ⟨l0, l1, l2, l3, m0, m1, m2, m3⟩ := Hcl.out W (Only.plus hdr hR)
        clear hold hφ hcl hkp hd
        rw [if_pos (by rfl)]
        go_simp
        exact hK _ _ (Only.refl _ _) rfl
      · intro a W L N hR hold hφ hcl hkp hd K hK
        have e34 := got hφ (hd 3 (by kernel_rfl)) rfl rfl rfl
        have hW := Only.plus hdr hR
        clear hold hφ hcl hkp hd
        rw [if_pos (by rfl)]
        go_simp
        refine (HT1.out W hW).mono ?_
        rintro e w' ⟨rfl, hO'⟩
        exact hK _ _ hO' rfl
      · intro a W L N hR hold hφ hcl hkp hd K hK
        have e14 := hold 14 (by kernel_rfl)
        obtain ⟨l0, l1, l2, l3, m0, m1, m2, m3⟩ := Hcl.out W (Only.plus hdr hR)
        clear hold hφ hcl hkp hd
        rw [if_pos (by rfl)]
        go_simp
        exact hK _ _ (Only.refl _ _) rfl
      · intro a W L N hR hold hφ hcl hkp hd K hK
        have e36 := got hφ (hd 5 (by kernel_rfl)) rfl rfl rfl
        have hW := Only.plus hdr hR
        clear hold hφ hcl hkp hd
        rw [if_pos (by rfl)]
        go_simp
        refine (HT2.out W hW).mono ?_
        rintro e w' ⟨rfl, hO'⟩
        exact hK _ _ hO' rfl
      · intro a W L N hR hold hφ hcl hkp hd K hK
        have e35 := got hφ (hd 4 (by kernel_rfl)) rfl rfl rfl
        have e37 := got hφ (hd 6 (by kernel_rfl)) rfl rfl rfl
        clear hold hφ hcl hkp hd
        rw [if_pos (by rfl)]
        go_simp
        exact hK _ _ (Only.refl _ _) rfl
      · intro a W L N hR hold hφ hcl hkp hd K hK
        have e33 := got hφ (hd 2 (by kernel_rfl)) rfl rfl rfl
        have e38 := got hφ (hd 7 (by kernel_rfl)) rfl rfl rfl
        clear hold hφ hcl hkp hd
        rw [if_pos (by rfl)]
        go_simp
        exact hK _ _ (Only.refl _ _) rfl
      · intro a W L N hR hold hφ hcl hkp hd K hK
        have e39 := got hφ (hd 8 (by kernel_rfl)) rfl rfl rfl
        clear hold hφ hcl hkp hd
        rw [if_pos (by rfl)]
        go_simp
        exact hK _ _ (Only.refl _ _) rfl
      · intro a W L N hR hold hφ hcl hkp hd K hK
        have e13 := hold 13 (by kernel_rfl)
        have e40 := got hφ (hd 9 (by kernel_rfl)) rfl rfl rfl
        obtain ⟨l0, l1, l2, l3, m0, m1, m2, m3⟩ := Hcl.out W (Only.plus hdr hR)
        clear hold hφ hcl hkp hd
        rw [if_pos (by simp [Region.wanted, yielded, e40])]
        go_simp
        exact hK _ _ (Only.refl _ _) rfl
      · intro a W L N hR hold hφ hcl hkp hd K hK
        have e13 := hold 13 (by kernel_rfl)
        have e40 := got hφ (hd 9 (by kernel_rfl)) rfl rfl rfl
        obtain ⟨l0, l1, l2, l3, m0, m1, m2, m3⟩ := Hcl.out W (Only.plus hdr hR)
        clear hold hφ hcl hkp hd
        rw [if_pos (by simp [Region.wanted, yielded, e40])]
        go_simp
        exact hK _ _ (Only.refl _ _) rfl
      · intro a W L N hR hold hφ hcl hkp hd K hK
        have e41 := got hφ (hd 10 (by kernel_rfl)) rfl rfl rfl
        have e42 := got hφ (hd 11 (by kernel_rfl)) rfl rfl rfl
        have e40 := got hφ (hd 9 (by kernel_rfl)) rfl rfl rfl
        have hW := Only.plus hdr hR
        clear hold hφ hcl hkp hd
        rw [if_pos (by simp [Region.wanted, yielded, e40])]
        go_simp
        refine (HS1.out W hW).mono ?_
        rintro e w' ⟨rfl, hO'⟩
        exact hK _ _ hO' rfl
      · intro a W L N hR hold hφ hcl hkp hd K hK
        have e40 := got hφ (hd 9 (by kernel_rfl)) rfl rfl rfl
        have e43 := got hφ (hd 12 (by kernel_rfl)) rfl rfl rfl
        clear hold hφ hcl hkp hd
        rw [if_pos (by rfl)]
        go_simp
        exact hK _ _ (Only.refl _ _) rfl
      · intro a W L N hR hold hφ hcl hkp hd K hK
        have e44 := got hφ (hd 13 (by kernel_rfl)) rfl rfl rfl
        clear hold hφ hcl hkp hd
        rw [if_pos (by rfl)]
        go_simp
        exact hK _ _ (Only.refl _ _) rfl
      · intro a W L N hR hold hφ hcl hkp hd K hK
        have e13 := hold 13 (by kernel_rfl)
        have e45 := got hφ (hd 14 (by kernel_rfl)) rfl rfl rfl
        obtain ⟨l0, l1, l2, l3, m0, m1, m2, m3⟩ := Hcl.out W (Only.plus hdr hR)
        clear hold hφ hcl hkp hd
        rw [if_pos (by simp [Region.wanted, yielded, e45])]
        go_simp
        exact hK _ _ (Only.refl _ _) rfl
      · intro a W L N hR hold hφ hcl hkp hd K hK
        have e14 := hold 14 (by kernel_rfl)
        have e45 := got hφ (hd 14 (by kernel_rfl)) rfl rfl rfl
        obtain ⟨l0, l1, l2, l3, m0, m1, m2, m3⟩ := Hcl.out W (Only.plus hdr hR)
        clear hold hφ hcl hkp hd
        rw [if_pos (by simp [Region.wanted, yielded, e45])]
        go_simp
        exact hK _ _ (Only.refl _ _) rfl
      · intro a W L N hR hold hφ hcl hkp hd K hK
        have e46 := got hφ (hd 15 (by kernel_rfl)) rfl rfl rfl
        have e47 := got hφ (hd 16 (by kernel_rfl)) rfl rfl rfl
        have e45 := got hφ (hd 14 (by kernel_rfl)) rfl rfl rfl
        have hW := Only.plus hdr hR
        clear hold hφ hcl hkp hd
        rw [if_pos (by simp [Region.wanted, yielded, e45])]
        go_simp
        refine (HS.out W hW).mono ?_
        rintro e w' ⟨rfl, hO'⟩
        exact hK _ _ hO' rfl
      · intro a W L N hR hold hφ hcl hkp hd K hK
        have e13 := hold 13 (by kernel_rfl)
        have e45 := got hφ (hd 14 (by kernel_rfl)) rfl rfl rfl
        obtain ⟨l0, l1, l2, l3, m0, m1, m2, m3⟩ := Hcl.out W (Only.plus hdr hR)
        clear hold hφ hcl hkp hd
        rw [if_pos (by simp [Region.wanted, yielded, e45])]
        go_simp
        exact hK _ _ (Only.refl _ _) rfl
      · intro a W L N hR hold hφ hcl hkp hd K hK
        have e14 := hold 14 (by kernel_rfl)
        have e45 := got hφ (hd 14 (by kernel_rfl)) rfl rfl rfl
        obtain ⟨l0, l1, l2, l3, m0, m1, m2, m3⟩ := Hcl.out W (Only.plus hdr hR)
        clear hold hφ hcl hkp hd
        rw [if_pos (by simp [Region.wanted, yielded, e45])]
        go_simp
        exact hK _ _ (Only.refl _ _) rfl
      · intro a W L N hR hold hφ hcl hkp hd K hK
        have e49 := got hφ (hd 18 (by kernel_rfl)) rfl rfl rfl
        have e50 := got hφ (hd 19 (by kernel_rfl)) rfl rfl rfl
        have e45 := got hφ (hd 14 (by kernel_rfl)) rfl rfl rfl
        have hW := Only.plus hdr hR
        clear hold hφ hcl hkp hd
        rw [if_pos (by simp [Region.wanted, yielded, e45])]
        go_simp
        refine (HR2.out W hW).mono ?_
        rintro e w' ⟨rfl, hO'⟩
        exact hK _ _ hO' rfl
      · intro a W L N hR hold hφ hcl hkp hd K hK
        have e48 := got hφ (hd 17 (by kernel_rfl)) rfl rfl rfl
        have e51 := got hφ (hd 20 (by kernel_rfl)) rfl rfl rfl
        have e45 := got hφ (hd 14 (by kernel_rfl)) rfl rfl rfl
        clear hold hφ hcl hkp hd
        rw [if_pos (by simp [Region.wanted, yielded, e45])]
        go_simp
        exact hK _ _ (Only.refl _ _) rfl
      · intro a W L N hR hold hφ hcl hkp hd K hK
        have e45 := got hφ (hd 14 (by kernel_rfl)) rfl rfl rfl
        have e52 := got hφ (hd 21 (by kernel_rfl)) rfl rfl rfl
        clear hold hφ hcl hkp hd
        rw [if_pos (by rfl)]
        go_simp
        exact hK _ _ (Only.refl _ _) rfl
    · intro us W hO' hus
      have p22 : us 22 = .bool true := hus 22 _ 53 (by omega) rfl rfl
      clear hus
      simp only [List.take_succ_cons, List.take_zero, List.drop_succ_cons, List.drop_zero, fillAct, Act.put, List.setIfInBounds_toArray, List.set_cons_zero, List.set_cons_succ, Nat.reduceAdd, p22]
      clear p22
      have HO5 := Lib.hid (HO4.out.plus (Only.plus hdr hO'))
      clear hO'
      go_wp2
      go_ret
      exact ⟨rfl, HO5.out⟩

theorem psame_row (a0 : Option Addr) (len0 cap0 : Nat) (l0 : RawM) (a1 : Option Addr) (len1 cap1 : Nat) (l1 : RawM) (a2 : Option Addr) (len2 cap2 : Nat) (l2 : RawM) (a3 : Option Addr) (len3 cap3 : Nat) (l3 : RawM) (t o : Int) (w : World)
    (h0 : RawAt w (.slice a0 len0 cap0) l0) (h1 : RawAt w (.slice a1 len1 cap1) l1) (h2 : RawAt w (.slice a2 len2 cap2) l2) (h3 : RawAt w (.slice a3 len3 cap3) l3) :
    Calls Try.prog 6 #[.slice a0 len0 cap0, .slice a1 len1 cap1, .slice a2 len2 cap2, .slice a3 len3 cap3, .int .i64 t, .int .i64 o] w fun e w' => e = .returned (.bool true) ∧ Only [] w w' := psame_walk _ _ _ _ l0 l1 l2 l3 t o w h0 h1 h2 h3

end Go.Proofs.Ytonpfmhdefhhmaa
