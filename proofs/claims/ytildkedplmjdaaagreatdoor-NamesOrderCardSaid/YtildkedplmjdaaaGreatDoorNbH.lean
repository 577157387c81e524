/-
  NamesOrder: files come by their names, whatever their order; each one's places are its own.
-/
import Derived.Test.YtildkedplmjdaaaGreatDoorPcK
import Derived.Test.YtildkedplmjdaaaGreatDoorNbF
import Derived.Test.YtildkedplmjdaaaGreatDoorNbI
namespace Go.Proofs.YtildkedplmjdaaaGreatDoor
set_option maxRecDepth 100000
set_option linter.unusedVariables false
open Go.RowKit Go.Sort

theorem ownP_open {w : World} {base : Nat} {v : Value} {l : List Nat} (h : OwnP w base v l) : ∃ a c, v = .slice a l.length c ∧ (0 < l.length → ∃ g, a = some ⟨g, 0, none⟩ ∧ g < w.heap.size ∧ w.rangeAt g 0 (natsV l)) := by
  have h0 := h
  rcases h.2 with ⟨rfl, h1⟩ | ⟨g, cap, cur, rfl, hb, hg, hc, _⟩
  · exact ⟨none, 0, by rw [h1], fun hp => by omega⟩
  · refine ⟨_, cap, rfl, fun _ => ⟨g, rfl, IsBlk.lt hg, fun j x hx => ?_⟩⟩
    have := World.ownsRow.cells h0 (g := g) rfl j x hx
    rw [Addr.add_mid] at this
    exact this

end Go.Proofs.YtildkedplmjdaaaGreatDoor
namespace Go.Proofs.YtildkedplmjdaaaGreatDoor
set_option maxRecDepth 100000
set_option linter.unusedVariables false
open Go.RowKit Go.Sort

set_option maxHeartbeats 8000000 in
theorem lsame_any (w : World) (va vb vc vd ve vf : Value) (P : ProgM) (hP : ProgAt w va vb vc P) (hQ : ProgAt w vd ve vf P) (hn : P.vars.length + P.locks.length + (placesF P.funcs).length ≤ 1000000) (hB : ∀ f ∈ P.funcs, f.body.cnt ≤ 100000) :
    Calls Tryz.prog 20 #[.agg #[va, vb, vc], .agg #[vd, ve, vf]] w fun r w' => r = .returned (.bool true) ∧ Only [] w w' := by
  have HP := Lib.hid hP
  have HQ := Lib.hid hQ
  obtain ⟨⟨av, cv, rfl, -⟩, ⟨al, cl, rfl, -⟩, ⟨af, cf, rfl, -⟩⟩ := hP
  obtain ⟨⟨bv, dv, rfl, -⟩, ⟨bl, dl, rfl, -⟩, ⟨bf, df, rfl, -⟩⟩ := hQ
  have hlen : (placesP P).length ≤ 1000000 := by simp only [placesP, List.length_append, List.length_map]; omega
  have hOa := ((Only.refl [] w).alloc (.cells #[.slice av P.vars.length cv, .slice al P.locks.length cl, .slice af P.funcs.length cf] 30)).alloc (.cells #[.slice bv P.vars.length dv, .slice bl P.locks.length dl, .slice bf P.funcs.length df] 30)
  have hp := (IsBlk.made w (.cells #[.slice av P.vars.length cv, .slice al P.locks.length cl, .slice af P.funcs.length cf] 30)).alloc (.cells #[.slice bv P.vars.length dv, .slice bl P.locks.length dl, .slice bf P.funcs.length df] 30)
  have hq := IsBlk.made (w.alloc (.cells #[.slice av P.vars.length cv, .slice al P.locks.length cl, .slice af P.funcs.length cf] 30)) (.cells #[.slice bv P.vars.length dv, .slice bl P.locks.length dl, .slice bf P.funcs.length df] 30)
  rw [show (w.alloc (.cells #[.slice av P.vars.length cv, .slice al P.locks.length cl, .slice af P.funcs.length cf] 30)).heap.size = w.heap.size + 1 from by simp] at hq
  go_enter Tryz.func20, Tryz.ntmps20
  go_upto_region 1 with fail
  generalize hW : (w.alloc (.cells #[.slice av P.vars.length cv, .slice al P.locks.length cl, .slice af P.funcs.length cf] 30)).alloc (.cells #[.slice bv P.vars.length dv, .slice bl P.locks.length dl, .slice bf P.funcs.length df] 30) = w1 at *
  clear hW
  have HOa := Lib.hid hOa
  have Hp := Lib.hid hp
  have Hq := Lib.hid hq
  have hcl : ∀ W, Only [] w1 W → W.cell? ⟨w.heap.size, 0, none⟩ = some (.slice av P.vars.length cv) ∧ W.cell? ⟨w.heap.size, 1, none⟩ = some (.slice al P.locks.length cl) ∧ W.cell? ⟨w.heap.size, 2, none⟩ = some (.slice af P.funcs.length cf) ∧ w.heap.size < W.heap.size ∧
      W.cell? ⟨w.heap.size + 1, 0, none⟩ = some (.slice bv P.vars.length dv) ∧ W.cell? ⟨w.heap.size + 1, 1, none⟩ = some (.slice bl P.locks.length dl) ∧ W.cell? ⟨w.heap.size + 1, 2, none⟩ = some (.slice bf P.funcs.length df) ∧ w.heap.size + 1 < W.heap.size := fun W hW =>
    ⟨(Hp.out.only hW (by simp)).cell 0, (Hp.out.only hW (by simp)).cell 1, (Hp.out.only hW (by simp)).cell 2, (Hp.out.only hW (by simp)).lt, (Hq.out.only hW (by simp)).cell 0, (Hq.out.only hW (by simp)).cell 1, (Hq.out.only hW (by simp)).cell 2, (Hq.out.only hW (by simp)).lt⟩
  have Hcl := Lib.hid hcl
  have hfn := placesF_ge P.funcs
  have HSame := Lib.hid (fun W (hW : Only [] w1 W) => rsame_any W _ _ _ _ _ _ P P (HP.out.more (HOa.out.plus hW)) (HQ.out.more (HOa.out.plus hW)) hB hB ⟨by omega, by omega, by omega⟩)
  have HA := Lib.hid (fun W (hW : Only [] w1 W) => dplacesP_any W _ _ _ P (HP.out.more (HOa.out.plus hW)) hn)
  have HB := Lib.hid (fun W (hW : Only [] w1 W) => dplacesP_any W _ _ _ P (HQ.out.more (HOa.out.plus hW)) hn)
  have hdr : Only [] w1 w1.drew := (Only.refl [] w1).drew
  clear hcl hp hq hOa hn
  refine wp_region_stabL (P := Tryz.prog) 4 (by kernel_rfl) (by kernel_rfl) (Only []) (Only.refl _ _) (fun _ _ _ h k => h.then k [] (by simp) (by simp))
    [SP.is (.agg #[.slice av P.vars.length cv, .slice al P.locks.length cl, .slice af P.funcs.length cf]),
     ⟨fun v W => ∃ base, OwnP W base v (placesP P), fun _ _ _ ⟨base, h⟩ hO => ⟨base, owns_keep h hO (by simp)⟩⟩,
     SP.is (.agg #[.slice bv P.vars.length dv, .slice bl P.locks.length dl, .slice bf P.funcs.length df]),
     ⟨fun v W => ∃ base, OwnP W base v (placesP P), fun _ _ _ ⟨base, h⟩ hO => ⟨base, owns_keep h hO (by simp)⟩⟩] ?_ ?_
  · simp only [List.take_succ_cons, List.take_zero]
    refine StepsOK.cons ?_ (StepsOK.cons ?_ (StepsOK.cons ?_ (StepsOK.cons ?_ StepsOK.nil)))
    · intro a W L N hR hold hφ hcl hkp hd K hK
      have e2 := hold 2 (by kernel_rfl)
      obtain ⟨l0, l1, l2, l3, m0, m1, m2, m3⟩ := Hcl.out W (Only.plus hdr hR)
      clear hold hφ hcl hkp hd
      rw [if_pos (by rfl)]
      go_simp
      exact hK _ _ (Only.refl _ _) rfl
    · intro a W L N hR hold hφ hcl hkp hd K hK
      have e8 := got hφ (hd 0 (by kernel_rfl)) rfl rfl rfl
      have hW := Only.plus hdr hR
      clear hold hφ hcl hkp hd
      rw [if_pos (by rfl)]
      go_simp
      refine (HA.out W hW).mono ?_
      rintro e w' ⟨v, base, rfl, -, h, hO'⟩
      exact hK _ _ hO' ⟨base, h⟩
    · intro a W L N hR hold hφ hcl hkp hd K hK
      have e3 := hold 3 (by kernel_rfl)
      obtain ⟨l0, l1, l2, l3, m0, m1, m2, m3⟩ := Hcl.out W (Only.plus hdr hR)
      clear hold hφ hcl hkp hd
      rw [if_pos (by rfl)]
      go_simp
      exact hK _ _ (Only.refl _ _) rfl
    · intro a W L N hR hold hφ hcl hkp hd K hK
      have e10 := got hφ (hd 2 (by kernel_rfl)) rfl rfl rfl
      have hW := Only.plus hdr hR
      clear hold hφ hcl hkp hd
      rw [if_pos (by rfl)]
      go_simp
      refine (HB.out W hW).mono ?_
      rintro e w' ⟨v, base, rfl, -, h, hO'⟩
      exact hK _ _ hO' ⟨base, h⟩
  · intro us W hO' hus
    obtain ⟨b1, h1⟩ := hus 1 _ 9 (by omega) rfl rfl
    obtain ⟨b2, h2⟩ := hus 3 _ 11 (by omega) rfl rfl
    obtain ⟨x1, y1, e1, r1⟩ := ownP_open h1
    obtain ⟨x2, y2, e2, r2⟩ := ownP_open h2
    clear hus h1 h2
    simp only [List.take_succ_cons, List.take_zero, List.drop_succ_cons, List.drop_zero, fillAct, Act.put, List.setIfInBounds_toArray, List.set_cons_zero, List.set_cons_succ, Nat.reduceAdd, e1, e2]
    clear e1 e2
    have HO4 := Lib.hid (HOa.out.plus (Only.plus hdr hO'))
    have R1 := Lib.hid r1
    have R2 := Lib.hid r2
    have hWW := Only.plus hdr hO'
    obtain ⟨l0, l1, l2, l3, m0, m1, m2, m3⟩ := Hcl.out W hWW
    clear r1 r2 hO' HA HB hdr
    go_wp2_with fail
    refine (HSame.out W hWW).mono ?_
    rintro e W2 ⟨rfl, hO2⟩
    rw [show sameP P P = true by rw [sameP_iff]; simp]
    have HO5 := Lib.hid (HO4.out.plus hO2)
    have R1' := Lib.hid (fun h : 0 < (placesP P).length => by
      obtain ⟨g, e, k, s⟩ := R1.out h
      exact (⟨g, e, Nat.lt_of_lt_of_le k hO2.size, rangeAt_only s hO2 k (by simp)⟩ : ∃ g, x1 = some ⟨g, 0, none⟩ ∧ g < W2.heap.size ∧ W2.rangeAt g 0 (natsV (placesP P))))
    have R2' := Lib.hid (fun h : 0 < (placesP P).length => by
      obtain ⟨g, e, k, s⟩ := R2.out h
      exact (⟨g, e, Nat.lt_of_lt_of_le k hO2.size, rangeAt_only s hO2 k (by simp)⟩ : ∃ g, x2 = some ⟨g, 0, none⟩ ∧ g < W2.heap.size ∧ W2.rangeAt g 0 (natsV (placesP P))))
    clear R1 R2 hO2 HSame Hcl l0 l1 l2 l3 m0 m1 m2 m3 HO4 hWW
    generalize placesP P = l at *
    go_wp2_with fail
    go_loopw [7] (fun iv wr => ∃ j : Nat, iv = .int .i64 j ∧ j ≤ l.length ∧ Only [] W2 wr) (fun iv _ => l.length - (intOf iv).toNat)
    case atStart => exact ⟨0, rfl, Nat.zero_le _, Only.refl _ _⟩
    case round =>
      obtain ⟨j, rfl, hj, hO⟩ := hrel
      have HO := Lib.hid hO
      clear hO
      by_cases hlt : j < l.length
      · have hlti : (j : Int) < (l.length : Int) := by omega
        have hj0 : (0 : Int) ≤ (j : Int) := by omega
        obtain ⟨g1, rfl, k1, s1⟩ := R1'.out (by omega)
        obtain ⟨g2, rfl, k2, s2⟩ := R2'.out (by omega)
        have hget : (natsV l)[j]? = some (.int .i64 (l[j] : Int)) := by simp [natsV, hlt]
        have q1 := s1 _ _ hget
        rw [Nat.zero_add] at q1
        have t1 := (HO.out.cell (p := ⟨g1, j, none⟩) k1 (by simp)).trans q1
        have q2 := s2 _ _ hget
        rw [Nat.zero_add] at q2
        have t2 := (HO.out.cell (p := ⟨g2, j, none⟩) k2 (by simp)).trans q2
        have u1 := Nat.lt_of_lt_of_le k1 HO.out.size
        have u2 := Nat.lt_of_lt_of_le k2 HO.out.size
        generalize l[j] = x at *
        clear s1 s2 hget k1 k2 q1 q2
        go_upto_region 7 with fail
        go_region
        have HO2 := Lib.hid HO.out.drew
        go_wp2
        go_roundw
        case rel => exact ⟨j + 1, by go_num, hlt, HO2.out⟩
        case measure => simp [intOf]; omega
      · have hlti : ¬ (j : Int) < (l.length : Int) := by omega
        go_wp2
        go_ret
        exact ⟨rfl, HO5.out.plus HO.out⟩

end Go.Proofs.YtildkedplmjdaaaGreatDoor
namespace Go.Proofs.YtildkedplmjdaaaGreatDoor
set_option maxRecDepth 100000
set_option linter.unusedVariables false
open Go.RowKit Go.Sort

theorem few7_cnt {r : RawM} (h : FewR r) : r.cnt ≤ 1000 := by have := few_cnt h; omega

set_option maxHeartbeats 16000000 in
theorem norder_walk (va vb : Value) (a b : RawM) (k : Int) (w : World) (ha : RawAt w va a) (hb : RawAt w vb b) (hg : ErrT w) :
    Calls Tryz.prog 5 #[va, vb, .int .i64 k] w fun e w' => e = .returned (.bool true) ∧ Only [] w w' := by
  have Ha := Lib.hid ha
  have Hb := Lib.hid hb
  obtain ⟨aa, ca, rfl, -⟩ := ha
  obtain ⟨ab, cb, rfl, -⟩ := hb
  go_enter Tryz.func5, Tryz.ntmps5
  go_wp2_with fail
  refine (known7_any _ hg).mono ?_
  rintro e w0 ⟨rfl, hO0⟩
  have HO0 := Lib.hid hO0
  have HG0 := Lib.hid (hg.only hO0 (by simp))
  clear hO0 hg
  go_wp2_with fail
  refine (few6_any a _ _ (Ha.out.more HO0.out)).mono ?_
  rintro e w1 ⟨rfl, hO1⟩
  have HO1 := Lib.hid (HO0.out.plus hO1)
  have HG1 := Lib.hid (HG0.out.only hO1 (by simp))
  clear hO1 HG0
  by_cases hfa : sizeM a 0 ≤ 40
  · rw [show decide (sizeM a 0 ≤ 40) = true from by simp [hfa]]
    have Hfa := Lib.hid hfa
    clear hfa
    go_wp2_with fail
    refine (few6_any b _ _ (Hb.out.more HO1.out)).mono ?_
    rintro e w2 ⟨rfl, hO2⟩
    have HO2 := Lib.hid (HO1.out.plus hO2)
    have HG2 := Lib.hid (HG1.out.only hO2 (by simp))
    clear hO2 HG1
    by_cases hfb : sizeM b 0 ≤ 40
    · rw [show decide (sizeM b 0 ≤ 40) = true from by simp [hfb]]
      have Hfb := Lib.hid hfb
      clear hfb
      go_upto_region 6 with fail
      generalize hxs : (⟨#[118, 97, 114, 32, 120, 32, 118, 97, 114, 32, 121, 32, 118, 97, 114, 32, 122, 32, 108, 111, 99, 107, 32, 108, 32, 108, 111, 99, 107, 32, 109, 32, 108, 111, 99, 107, 32, 110, 32, 102, 117, 110, 99, 32, 103, 32, 123, 32, 125, 32, 102, 117, 110, 99, 32, 104, 32, 123, 32, 125]⟩ : ByteArray) = xs at *
      have Hxs : Hid (xs = ⟨xT.toArray⟩) := Lib.hid hxs.symm
      clear hxs
      have hOx := (Only.refl [] w2).alloc (.cells #[.string ⟨#[120]⟩, .string xs] 46)
      have HBx := Lib.hid (IsBlk.made w2 (.cells #[.string ⟨#[120]⟩, .string xs] 46))
      have HO3 := Lib.hid (HO2.out.plus hOx)
      have HG3 := Lib.hid (HG2.out.only hOx (by simp))
      clear hOx HG2
      generalize hW3 : w2.alloc (.cells #[.string ⟨#[120]⟩, .string xs] 46) = w3 at *
      clear hW3
      go_wp2_with fail
      refine (blockR_any _ a (Nat.le_refl _) (by have := few7_cnt Hfa.out; omega) w3 _ (Ha.out.more HO3.out)).mono ?_
      rintro e w4 ⟨v, fp, rfl, hBk, -, hO4⟩
      obtain ⟨a1, c1, rfl, -⟩ := hBk.slice
      have Hbody := Lib.hid (rbody_any w4 (.string ⟨#[]⟩) (.int .i64 0) _ (blockR a) fp hBk (good_kok _ _ (few_good Hfa.out).1) (by have := few_words Hfa.out; omega))
      have HO4 := Lib.hid hO4
      clear hBk hO4
      go_wp2_with fail
      refine Hbody.out.mono ?_
      rintro e w5 ⟨rfl, hO5⟩
      have ha5 := HO4.out.plus hO5
      have HO5 := Lib.hid (HO3.out.plus ha5)
      have HB5 := Lib.hid (HBx.out.only ha5 (by simp))
      have HG5 := Lib.hid (HG3.out.only ha5 (by simp))
      clear hO5 ha5 HO4 Hbody HG3 HBx HO3
      have ey : (⟨#[32, 102, 117, 110, 99, 32, 109, 97, 105, 110, 32]⟩ : ByteArray) ++ ⟨(putM false (wordsB (blockR a))).toArray⟩ = ⟨(yT (blockR a)).toArray⟩ := by
        rw [yT_text, ← app7_list]
      have hyl : (putM false (wordsB (blockR a))).length ≤ 2000 := few_words Hfa.out
      have hyy : (yT (blockR a)).length ≤ 3000 := by rw [yT_text]; simp; omega
      unfold encStr
      go_upto_region 7 with fail
      have hOy := (Only.refl [] w5).alloc (.cells #[.string ⟨#[121]⟩, .string ⟨(yT (blockR a)).toArray⟩] 46)
      have HBy := Lib.hid (IsBlk.made w5 (.cells #[.string ⟨#[121]⟩, .string ⟨(yT (blockR a)).toArray⟩] 46))
      have HBx6 := Lib.hid (HB5.out.only hOy (by simp))
      have HO6 := Lib.hid (HO5.out.plus hOy)
      have HG6 := Lib.hid (HG5.out.only hOy (by simp))
      clear hOy HG5 HB5 HO5 ey
      generalize hW6 : w5.alloc (.cells #[.string ⟨#[121]⟩, .string ⟨(yT (blockR a)).toArray⟩] 46) = w6 at *
      clear hW6
      go_wp2_with fail
      refine (blockR_any _ b (Nat.le_refl _) (by have := few7_cnt Hfb.out; omega) w6 _ (Hb.out.more HO6.out)).mono ?_
      rintro e w7 ⟨v, fp, rfl, hBk, -, hO7⟩
      obtain ⟨a2, c2, rfl, -⟩ := hBk.slice
      have Hbody := Lib.hid (rbody_any w7 (.string ⟨#[]⟩) (.int .i64 0) _ (blockR b) fp hBk (good_kok _ _ (few_good Hfb.out).1) (by have := few_words Hfb.out; omega))
      have HO7 := Lib.hid hO7
      clear hBk hO7
      go_wp2_with fail
      refine Hbody.out.mono ?_
      rintro e w8 ⟨rfl, hO8⟩
      have ha8 := HO7.out.plus hO8
      have HO8 := Lib.hid (HO6.out.plus ha8)
      have HBx8 := Lib.hid (HBx6.out.only ha8 (by simp))
      have HBy8 := Lib.hid (HBy.out.only ha8 (by simp))
      have HG8 := Lib.hid (HG6.out.only ha8 (by simp))
      clear hO8 ha8 HO7 Hbody HG6 HBx6 HBy HO6
      have ez : (⟨#[32, 32, 102, 117, 110, 99, 32, 102, 32]⟩ : ByteArray) ++ ⟨(putM false (wordsB (blockR b))).toArray⟩ = ⟨(zT (blockR b)).toArray⟩ := by
        rw [zT_text, ← app7_list]
      have hzl : (putM false (wordsB (blockR b))).length ≤ 2000 := few_words Hfb.out
      have hzz : (zT (blockR b)).length ≤ 3000 := by rw [zT_text]; simp; omega
      have Hall := Lib.hid (ord_all a b Hfa.out Hfb.out)
      clear hyl
      unfold encStr
      go_upto_region 8 with fail
      clear ez hzl
      generalize yT (blockR a) = ty at *
      generalize zT (blockR b) = tz at *
      have hOz := (Only.refl [] w8).alloc (.cells #[.string ⟨#[122]⟩, .string ⟨tz.toArray⟩] 46)
      have HBz := Lib.hid (IsBlk.made w8 (.cells #[.string ⟨#[122]⟩, .string ⟨tz.toArray⟩] 46))
      have HBx9 := Lib.hid (HBx8.out.only hOz (by simp))
      have HBy9 := Lib.hid (HBy8.out.only hOz (by simp))
      have HO9 := Lib.hid (HO8.out.plus hOz)
      have HG9 := Lib.hid (HG8.out.only hOz (by simp))
      clear hOz HG8 HBx8 HBy8 HO8
      generalize hW9 : w8.alloc (.cells #[.string ⟨#[122]⟩, .string ⟨tz.toArray⟩] 46) = w9 at *
      clear hW9
      generalize w2.heap.size = gx at *
      generalize w5.heap.size = gy at *
      generalize w8.heap.size = gz at *
      have x0 := HBx9.out.cell 0
      have x1 := HBx9.out.cell 1
      have xl := HBx9.out.lt
      have y0 := HBy9.out.cell 0
      have y1 := HBy9.out.cell 1
      have yl := HBy9.out.lt
      have z0 := HBz.out.cell 0
      have z1 := HBz.out.cell 1
      have zl := HBz.out.lt
      by_cases hly : ty.length ≤ 2000
      · have hyi : ¬ (2000 : Int) < (ty.length : Int) := by omega
        by_cases hlz : tz.length ≤ 2000
        · have hzi : ¬ (2000 : Int) < (tz.length : Int) := by omega
          have q3 : ∀ (g : Nat) (o1 o2 o3 : Obj) (i : Nat) (v : Value), w9.cell? ⟨g, i, none⟩ = some v → g < w9.heap.size → (((w9.alloc o1).alloc o2).alloc o3).cell? ⟨g, i, none⟩ = some v := fun g o1 o2 o3 i v h hl => by
            have h0 := ((((Only.refl [] w9).alloc o1).alloc o2).alloc o3).cell (p := ⟨g, i, none⟩) hl (by simp)
            exact h0.trans h
          have x30 := fun o1 o2 o3 => q3 gx o1 o2 o3 0 _ x0 xl
          have x31 := fun o1 o2 o3 => q3 gx o1 o2 o3 1 _ x1 xl
          have y30 := fun o1 o2 o3 => q3 gy o1 o2 o3 0 _ y0 yl
          have y31 := fun o1 o2 o3 => q3 gy o1 o2 o3 1 _ y1 yl
          have z30 := fun o1 o2 o3 => q3 gz o1 o2 o3 0 _ z0 zl
          have z31 := fun o1 o2 o3 => q3 gz o1 o2 o3 1 _ z1 zl
          clear q3
          go_upto_region 11 with fail
          clear x30 x31 y30 y31 z30 z31 x0 x1 xl y0 y1 yl z0 z1 zl HBx9 HBy9 HBz
          obtain ⟨m0, m1, m2, m3, m4, hO10⟩ := five_made w9 (.cells #[.string ⟨#[120]⟩, .string xs, .string ⟨#[121]⟩, .string ⟨ty.toArray⟩, .string ⟨#[122]⟩, .string ⟨tz.toArray⟩] 46) (.cells #[.string ⟨#[122]⟩, .string ⟨tz.toArray⟩, .string ⟨#[121]⟩, .string ⟨ty.toArray⟩, .string ⟨#[120]⟩, .string xs] 46) (.cells #[.string ⟨#[121]⟩, .string ⟨ty.toArray⟩, .string ⟨#[122]⟩, .string ⟨tz.toArray⟩, .string ⟨#[120]⟩, .string xs] 46) (.cells #[.string ⟨#[122]⟩, .string ⟨tz.toArray⟩, .string ⟨#[120]⟩, .string xs, .string ⟨#[121]⟩, .string ⟨ty.toArray⟩] 46) (.cells #[.slice (some ⟨w9.heap.size, 0, none⟩) 3 3, .slice (some ⟨w9.heap.size + 1, 0, none⟩) 3 3, .slice (some ⟨w9.heap.size + 1 + 1, 0, none⟩) 3 3, .slice (some ⟨w9.heap.size + 1 + 1 + 1, 0, none⟩) 3 3] 43)
          have hT4 : w9.heap.size + 1 + 1 + 1 + 1 < (((((w9.alloc (.cells #[.string ⟨#[120]⟩, .string xs, .string ⟨#[121]⟩, .string ⟨ty.toArray⟩, .string ⟨#[122]⟩, .string ⟨tz.toArray⟩] 46)).alloc (.cells #[.string ⟨#[122]⟩, .string ⟨tz.toArray⟩, .string ⟨#[121]⟩, .string ⟨ty.toArray⟩, .string ⟨#[120]⟩, .string xs] 46)).alloc (.cells #[.string ⟨#[121]⟩, .string ⟨ty.toArray⟩, .string ⟨#[122]⟩, .string ⟨tz.toArray⟩, .string ⟨#[120]⟩, .string xs] 46)).alloc (.cells #[.string ⟨#[122]⟩, .string ⟨tz.toArray⟩, .string ⟨#[120]⟩, .string xs, .string ⟨#[121]⟩, .string ⟨ty.toArray⟩] 46)).alloc (.cells #[.slice (some ⟨w9.heap.size, 0, none⟩) 3 3, .slice (some ⟨w9.heap.size + 1, 0, none⟩) 3 3, .slice (some ⟨w9.heap.size + 1 + 1, 0, none⟩) 3 3, .slice (some ⟨w9.heap.size + 1 + 1 + 1, 0, none⟩) 3 3] 43)).heap.size := m4.lt
          have hGk : ∀ kk, kk < 4 → ∃ g, (((((w9.alloc (.cells #[.string ⟨#[120]⟩, .string xs, .string ⟨#[121]⟩, .string ⟨ty.toArray⟩, .string ⟨#[122]⟩, .string ⟨tz.toArray⟩] 46)).alloc (.cells #[.string ⟨#[122]⟩, .string ⟨tz.toArray⟩, .string ⟨#[121]⟩, .string ⟨ty.toArray⟩, .string ⟨#[120]⟩, .string xs] 46)).alloc (.cells #[.string ⟨#[121]⟩, .string ⟨ty.toArray⟩, .string ⟨#[122]⟩, .string ⟨tz.toArray⟩, .string ⟨#[120]⟩, .string xs] 46)).alloc (.cells #[.string ⟨#[122]⟩, .string ⟨tz.toArray⟩, .string ⟨#[120]⟩, .string xs, .string ⟨#[121]⟩, .string ⟨ty.toArray⟩] 46)).alloc (.cells #[.slice (some ⟨w9.heap.size, 0, none⟩) 3 3, .slice (some ⟨w9.heap.size + 1, 0, none⟩) 3 3, .slice (some ⟨w9.heap.size + 1 + 1, 0, none⟩) 3 3, .slice (some ⟨w9.heap.size + 1 + 1 + 1, 0, none⟩) 3 3] 43)).cell? ⟨w9.heap.size + 1 + 1 + 1 + 1, kk, none⟩ = some (.slice (some ⟨g, 0, none⟩) 3 3) ∧ FilAt (((((w9.alloc (.cells #[.string ⟨#[120]⟩, .string xs, .string ⟨#[121]⟩, .string ⟨ty.toArray⟩, .string ⟨#[122]⟩, .string ⟨tz.toArray⟩] 46)).alloc (.cells #[.string ⟨#[122]⟩, .string ⟨tz.toArray⟩, .string ⟨#[121]⟩, .string ⟨ty.toArray⟩, .string ⟨#[120]⟩, .string xs] 46)).alloc (.cells #[.string ⟨#[121]⟩, .string ⟨ty.toArray⟩, .string ⟨#[122]⟩, .string ⟨tz.toArray⟩, .string ⟨#[120]⟩, .string xs] 46)).alloc (.cells #[.string ⟨#[122]⟩, .string ⟨tz.toArray⟩, .string ⟨#[120]⟩, .string xs, .string ⟨#[121]⟩, .string ⟨ty.toArray⟩] 46)).alloc (.cells #[.slice (some ⟨w9.heap.size, 0, none⟩) 3 3, .slice (some ⟨w9.heap.size + 1, 0, none⟩) 3 3, .slice (some ⟨w9.heap.size + 1 + 1, 0, none⟩) 3 3, .slice (some ⟨w9.heap.size + 1 + 1 + 1, 0, none⟩) 3 3] 43)) (some ⟨g, 0, none⟩) (ord7 ty tz kk) := fun kk hkk => by
            rw [Hxs.out] at m0 m1 m2 m3 m4 ⊢
            rcases (show kk = 0 ∨ kk = 1 ∨ kk = 2 ∨ kk = 3 by omega) with rfl | rfl | rfl | rfl
            · exact ⟨_, m4.cell 0, FilAt.three m0⟩
            · exact ⟨_, m4.cell 1, FilAt.three m1⟩
            · exact ⟨_, m4.cell 2, FilAt.three m2⟩
            · exact ⟨_, m4.cell 3, FilAt.three m3⟩
          have HO10 := Lib.hid (HO9.out.plus hO10)
          have HG10 := Lib.hid (HG9.out.only hO10 (by simp))
          clear m0 m1 m2 m3 m4 hO10 HO9 HG9
          generalize hW10 : (((((w9.alloc (.cells #[.string ⟨#[120]⟩, .string xs, .string ⟨#[121]⟩, .string ⟨ty.toArray⟩, .string ⟨#[122]⟩, .string ⟨tz.toArray⟩] 46)).alloc (.cells #[.string ⟨#[122]⟩, .string ⟨tz.toArray⟩, .string ⟨#[121]⟩, .string ⟨ty.toArray⟩, .string ⟨#[120]⟩, .string xs] 46)).alloc (.cells #[.string ⟨#[121]⟩, .string ⟨ty.toArray⟩, .string ⟨#[122]⟩, .string ⟨tz.toArray⟩, .string ⟨#[120]⟩, .string xs] 46)).alloc (.cells #[.string ⟨#[122]⟩, .string ⟨tz.toArray⟩, .string ⟨#[120]⟩, .string xs, .string ⟨#[121]⟩, .string ⟨ty.toArray⟩] 46)).alloc (.cells #[.slice (some ⟨w9.heap.size, 0, none⟩) 3 3, .slice (some ⟨w9.heap.size + 1, 0, none⟩) 3 3, .slice (some ⟨w9.heap.size + 1 + 1, 0, none⟩) 3 3, .slice (some ⟨w9.heap.size + 1 + 1 + 1, 0, none⟩) 3 3] 43)) = w10 at *
          clear hW10
          generalize w9.heap.size + 1 + 1 + 1 + 1 = gt at *
          obtain ⟨g0, k0, f0⟩ := hGk 0 (by omega)
          have HGk := Lib.hid hGk
          have hj0 := join_any w10 (some ⟨g0, 0, none⟩) 3 (ord7 ty tz 0) f0 (Nat.le_refl _) (ord7_short ty tz 0) HG10.out
          rw [ord7_len] at hj0
          have Hj0 := Lib.hid hj0
          clear hGk f0 hj0
          go_wp2_with fail
          refine Hj0.out.mono ?_
          rintro e w11 ⟨X, hX, vv, vl, vf, rfl, hP, hO11⟩
          obtain ⟨b1, b2, hc1, hc2, hall⟩ := Hall.out hly hlz
          obtain rfl : X = (ordM b1 b2, 0, 0) := (ord7_join hly hlz hX).trans hall
          obtain ⟨av, cv, rfl⟩ : ∃ a c, vv = .slice a 3 c := by obtain ⟨a, c, e, -⟩ := hP.1; exact ⟨a, c, e⟩
          obtain ⟨al, cl, rfl⟩ : ∃ a c, vl = .slice a 3 c := by obtain ⟨a, c, e, -⟩ := hP.2.1; exact ⟨a, c, e⟩
          obtain ⟨af, cf, rfl⟩ : ∃ a c, vf = .slice a 4 c := by obtain ⟨a, c, e, -⟩ := hP.2.2; exact ⟨a, c, e⟩
          have hOp := (Only.refl [] w11).alloc (.cells #[.slice av 3 cv, .slice al 3 cl, .slice af 4 cf] 30)
          have HBp := Lib.hid (IsBlk.made w11 (.cells #[.slice av 3 cv, .slice al 3 cl, .slice af 4 cf] 30))
          have hO12 := hO11.plus hOp
          have HP := Lib.hid (hP.more hOp)
          have HO12 := Lib.hid (HO10.out.plus hO12)
          have HG12 := Lib.hid (HG10.out.only hO12 (by simp))
          have HGk2 : Hid (∀ kk, kk < 4 → ∃ g, w11.cell? ⟨gt, kk, none⟩ = some (.slice (some ⟨g, 0, none⟩) 3 3) ∧ FilAt w11 (some ⟨g, 0, none⟩) (ord7 ty tz kk)) := Lib.hid (fun kk hkk => by
            obtain ⟨g, h1, h2⟩ := HGk.out kk hkk
            exact ⟨g, (hO11.cell (p := ⟨gt, kk, none⟩) hT4 (by simp)).trans h1, h2.more hO11⟩)
          have hT12 : gt < w11.heap.size := Nat.lt_of_lt_of_le hT4 hO11.size
          clear hOp hP hO12 hX hO11 HGk HG10 HO10 Hj0 k0 Hall
          go_upto_region 12 with fail
          generalize hW12 : w11.alloc (.cells #[.slice av 3 cv, .slice al 3 cl, .slice af 4 cf] 30) = w12 at *
          have HGk3 : Hid (∀ kk, kk < 4 → ∃ g, w12.cell? ⟨gt, kk, none⟩ = some (.slice (some ⟨g, 0, none⟩) 3 3) ∧ FilAt w12 (some ⟨g, 0, none⟩) (ord7 ty tz kk)) := Lib.hid (fun kk hkk => by
            obtain ⟨g, h1, h2⟩ := HGk2.out kk hkk
            have hO := (Only.refl [] w11).alloc (.cells #[.slice av 3 cv, .slice al 3 cl, .slice af 4 cf] 30)
            rw [hW12] at hO
            exact ⟨g, (hO.cell (p := ⟨gt, kk, none⟩) hT12 (by simp)).trans h1, h2.more hO⟩)
          have hT13 : gt < w12.heap.size := by rw [← hW12]; simp; omega
          generalize w11.heap.size = gp at *
          clear hW12 HGk2 hT12
          go_wp2_with fail
          refine (within7_to w12 k 4 (by omega) (by omega)).mono ?_
          rintro e w' ⟨rfl, rfl⟩
          rw [show (4 : Int).toNat = 4 from rfl]
          have hkk := inM_lt k 4 (by omega)
          generalize inM k 4 = kk at *
          obtain ⟨g1, k1, f1⟩ := HGk3.out kk hkk
          have hkki : (kk : Int) < 4 := by omega
          have hj1 := join_any w12 (some ⟨g1, 0, none⟩) 3 (ord7 ty tz kk) f1 (Nat.le_of_eq (ord7_len ty tz kk)) (ord7_short ty tz kk) HG12.out
          rw [ord7_len] at hj1
          have Hj1 := Lib.hid hj1
          clear f1 hj1 HGk3
          go_wp2_with fail
          refine Hj1.out.mono ?_
          rintro e w13 ⟨X, hX, vv, vl, vf, rfl, hQ, hO13⟩
          obtain rfl : X = (ordM b1 b2, 0, 0) := (ord7_join hly hlz hX).trans hall
          obtain ⟨au, cu, rfl⟩ : ∃ a c, vv = .slice a 3 c := by obtain ⟨a, c, e, -⟩ := hQ.1; exact ⟨a, c, e⟩
          obtain ⟨ak, ck, rfl⟩ : ∃ a c, vl = .slice a 3 c := by obtain ⟨a, c, e, -⟩ := hQ.2.1; exact ⟨a, c, e⟩
          obtain ⟨ag, cg, rfl⟩ : ∃ a c, vf = .slice a 4 c := by obtain ⟨a, c, e, -⟩ := hQ.2.2; exact ⟨a, c, e⟩
          have hOq := (Only.refl [] w13).alloc (.cells #[.slice au 3 cu, .slice ak 3 ck, .slice ag 4 cg] 30)
          have HBq := Lib.hid (IsBlk.made w13 (.cells #[.slice au 3 cu, .slice ak 3 ck, .slice ag 4 cg] 30))
          have hO14 := hO13.plus hOq
          have HQ := Lib.hid (hQ.more hOq)
          have HP14 := Lib.hid (HP.out.more hO14)
          have HBp14 := Lib.hid (HBp.out.only hO14 (by simp))
          have HO14 := Lib.hid (HO12.out.plus hO14)
          clear hOq hQ hO14 hX hO13 HG12 HO12 Hj1 k1 hall HBp HP
          go_upto_region 13 with fail
          generalize hW14 : w13.alloc (.cells #[.slice au 3 cu, .slice ak 3 ck, .slice ag 4 cg] 30) = w14 at *
          clear hW14
          generalize w13.heap.size = gq at *
          have p0 := HBp14.out.cell 0
          have p1 := HBp14.out.cell 1
          have p2 := HBp14.out.cell 2
          have pl := HBp14.out.lt
          have q0 := HBq.out.cell 0
          have q1 := HBq.out.cell 1
          have q2 := HBq.out.cell 2
          have ql := HBq.out.lt
          obtain ⟨hn, hB⟩ := ord7_places hc1 hc2
          have Hs := Lib.hid (lsame_any w14 _ _ _ _ _ _ (ordM b1 b2) HP14.out HQ.out hn hB)
          clear hn hB
          go_wp2_with fail
          refine Hs.out.mono ?_
          rintro e w15 ⟨rfl, hO15⟩
          obtain ⟨gv, gl, gf, rfl, rfl, rfl, lv, ll, lf, c1', c2', c3', c4', c5', c6', c7'⟩ := ord7_cells (HP14.out.more hO15)
          have r0 := (HBp14.out.only hO15 (by simp)).cell 0
          have r1 := (HBp14.out.only hO15 (by simp)).cell 1
          have r2 := (HBp14.out.only hO15 (by simp)).cell 2
          have rl := (HBp14.out.only hO15 (by simp)).lt
          have HO15 := Lib.hid (HO14.out.plus hO15)
          clear hO15 HO14 p0 p1 p2 pl q0 q1 q2 ql Hs HBp14 HBq HP14 HQ
          go_upto_region 15 with fail
          go_wp2_with fail
          refine (count0_any w15 0).mono ?_
          rintro e w16 ⟨rfl, rfl⟩
          go_wp2
          go_ret
          exact ⟨rfl, HO15.out⟩
        · have hzi : (2000 : Int) < (tz.length : Int) := by omega
          go_wp2
          go_ret
          exact ⟨rfl, HO9.out⟩
      · have hyi : (2000 : Int) < (ty.length : Int) := by omega
        go_wp2
        go_ret
        exact ⟨rfl, HO9.out⟩
    · rw [show decide (sizeM b 0 ≤ 40) = false from by simp [hfb]]
      go_wp2
      go_ret
      exact ⟨rfl, HO2.out⟩
  · rw [show decide (sizeM a 0 ≤ 40) = false from by simp [hfa]]
    go_wp2
    go_ret
    exact ⟨rfl, HO1.out⟩

theorem norder_row (a0 : Option Addr) (len0 cap0 : Nat) (l0 : RawM) (a1 : Option Addr) (len1 cap1 : Nat) (l1 : RawM) (k : Int) (w : World) (h0 : RawAt w (.slice a0 len0 cap0) l0) (h1 : RawAt w (.slice a1 len1 cap1) l1) (hg : ErrT w) :
    Calls Tryz.prog 5 #[.slice a0 len0 cap0, .slice a1 len1 cap1, .int .i64 k] w fun e w' => e = .returned (.bool true) ∧ Only [] w w' := norder_walk _ _ l0 l1 k w h0 h1 hg

end Go.Proofs.YtildkedplmjdaaaGreatDoor
