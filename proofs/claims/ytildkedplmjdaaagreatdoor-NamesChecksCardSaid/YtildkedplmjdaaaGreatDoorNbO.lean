/-
  The document's Check.
-/
import Derived.Test.YtildkedplmjdaaaGreatDoorNbM
namespace Go.Proofs.YtildkedplmjdaaaGreatDoor
set_option maxRecDepth 100000
set_option linter.unusedVariables false
open Go.RowKit Go.Sort

set_option maxHeartbeats 16000000 in
theorem body_step (P : ProgM) (hPn : P.vars.length ≤ 1000000 ∧ P.locks.length ≤ 1000000 ∧ P.funcs.length ≤ 1000000) (N : Nat) (ih : ∀ b : Blk, b.cnt < N → ∀ (w : World) (vv vl vf v : Value), ProgAt w vv vl vf P → RdB w v b → Calls Tryz.prog 35 #[.agg #[vv, vl, vf], v] w fun e w' => e = .returned (.tuple #[.int .i64 (bodyX P b).1, .int .i64 (bodyX P b).2]) ∧ Only [] w w')
    (b : Blk) (hN : b.cnt ≤ N) (hN2 : N ≤ 1000000) (w : World) (vv vl vf v : Value) (hP : ProgAt w vv vl vf P) (h : RdB w v b) :
    Calls Tryz.prog 35 #[.agg #[vv, vl, vf], v] w fun e w' => e = .returned (.tuple #[.int .i64 (bodyX P b).1, .int .i64 (bodyX P b).2]) ∧ Only [] w w' := by
  have Ih := Lib.hid ih
  clear ih
  have HP := Lib.hid hP
  obtain ⟨⟨av, cv, rfl, -⟩, ⟨al, cl, rfl, -⟩, ⟨af, cf, rfl, -⟩⟩ := hP
  obtain ⟨a, c, xs, fq, rfl, hE, hr⟩ := h
  have HE0 := Lib.hid (And.intro hE hr)
  have hbl := b.len_cnt
  obtain ⟨X, hX⟩ : ∃ X, X = bodyX P b := ⟨_, rfl⟩
  rw [← hX]
  have HX := Lib.hid hX.symm
  clear hE hr hX
  have HB := Lib.hid (IsBlk.made w (.cells #[.slice av P.vars.length cv, .slice al P.locks.length cl, .slice af P.funcs.length cf] 30))
  have HOa := Lib.hid ((Only.refl [] w).alloc (.cells #[.slice av P.vars.length cv, .slice al P.locks.length cl, .slice af P.funcs.length cf] 30))
  go_enter Tryz.func35, Tryz.ntmps35
  go_wp2_with fail
  generalize hW1 : w.alloc (.cells #[.slice av P.vars.length cv, .slice al P.locks.length cl, .slice af P.funcs.length cf] 30) = w1 at *
  clear hW1
  go_loopw [6] (fun iv wr => ∃ (j : Nat) (rs : Blk) (xr : List Value) (fr : List Nat), iv = .int .i64 j ∧ j + rs.len = b.len ∧ rs.cnt ≤ N ∧ EncB w rs xr fr ∧
      (0 < rs.len → ∃ g, a = some ⟨g, 0, none⟩ ∧ g < w.heap.size ∧ w.rangeAt g (j * 5) xr) ∧ bodyX P rs = X ∧ Only [] w1 wr) (fun iv _ => b.len - (intOf iv).toNat)
  case atStart =>
    refine ⟨0, b, xs, fq, rfl, by omega, hN, HE0.out.1, fun h => ?_, HX.out, Only.refl _ _⟩
    obtain ⟨g, h1, h2, h3⟩ := HE0.out.2 h
    exact ⟨g, h1, h2, by rw [Nat.zero_mul]; exact h3⟩
  case round =>
    obtain ⟨j, rs, xr, fr, rfl, hjl, hrc, hE, hra, hs, hO⟩ := hrel
    have HO := Lib.hid hO
    have Hs := Lib.hid hs
    clear hO hs HX
    cases rs with
    | nil =>
      have hji : ¬ (j : Int) < (b.len : Int) := by simp only [Blk.len] at hjl; omega
      go_wp2_with fail
      go_ret2
      rw [← Hs.out]
      exact ⟨rfl, HOa.out.plus HO.out⟩
    | cons k p n A B rr =>
      have hji : (j : Int) < (b.len : Int) := by simp only [Blk.len] at hjl; omega
      obtain ⟨va, vb, fa, fb, fr', xr', rfl, rfl, hA, hB, hE'⟩ := hE
      obtain ⟨g, hag, hg, hrx⟩ := hra (by simp [Blk.len])
      have hA' : BlkAt w va A fa := hA
      have hB' : BlkAt w vb B fb := hB
      have HA := Lib.hid hA'
      have HBb := Lib.hid hB'
      obtain ⟨aa, ca, rfl, -⟩ := hA'.slice
      obtain ⟨ab, cb, rfl, -⟩ := hB'.slice
      have hcA : A.cnt + B.cnt < N ∧ rr.cnt ≤ N := by simp only [Blk.cnt] at hrc; omega
      have hOO := HOa.out.plus HO.out
      have s0 := (hOO.cell (p := ⟨g, j * 5, none⟩) hg (by simp)).trans (hrx 0 _ rfl)
      have s1 := (hOO.cell (p := ⟨g, j * 5 + 1, none⟩) hg (by simp)).trans (hrx 1 _ rfl)
      have s2 := (hOO.cell (p := ⟨g, j * 5 + 2, none⟩) hg (by simp)).trans (hrx 2 _ rfl)
      have s3 := (hOO.cell (p := ⟨g, j * 5 + 3, none⟩) hg (by simp)).trans (hrx 3 _ rfl)
      have s4 := (hOO.cell (p := ⟨g, j * 5 + 4, none⟩) hg (by simp)).trans (hrx 4 _ rfl)
      have hgr := Nat.lt_of_lt_of_le hg hOO.size
      have hrx2 := Lib.hid (fun i u (hu : xr'[i]? = some u) => hrx (i + 5) u hu)
      have HE := Lib.hid hE'
      have HPr := Lib.hid (HP.out.more hOO)
      have HOr := Lib.hid hOO
      have hBr := HB.out.only HO.out (by simp)
      clear hrx hE' hA' hB' hra hA hB hOO
      rw [hag]
      unfold encStr at s2
      have hsb := IsBlk.made wr (.cells #[.int .i64 k, .int .i64 p, .string ⟨n.toArray⟩, .slice aa A.len ca, .slice ab B.len cb] 85)
      have hOs := (Only.refl [] wr).alloc (.cells #[.int .i64 k, .int .i64 p, .string ⟨n.toArray⟩, .slice aa A.len ca, .slice ab B.len cb] 85)
      go_upto_region 6 with fail
      generalize hW2 : wr.alloc (.cells #[.int .i64 k, .int .i64 p, .string ⟨n.toArray⟩, .slice aa A.len ca, .slice ab B.len cb] 85) = w2 at *
      clear hW2
      have hO2 := HOr.out.plus hOs
      have HP2 := Lib.hid (HPr.out.more hOs)
      have hB2 := hBr.only hOs (by simp)
      have HO2 := Lib.hid hO2
      have HOl2 := Lib.hid (HO.out.plus hOs)
      have Hcl : Hid (∀ W, Only [] w2 W → W.cell? ⟨w.heap.size, 0, none⟩ = some (.slice av P.vars.length cv) ∧ W.cell? ⟨w.heap.size, 1, none⟩ = some (.slice al P.locks.length cl) ∧ W.cell? ⟨w.heap.size, 2, none⟩ = some (.slice af P.funcs.length cf) ∧ w.heap.size < W.heap.size ∧
          W.cell? ⟨wr.heap.size, 2, none⟩ = some (.string ⟨n.toArray⟩) ∧ W.cell? ⟨wr.heap.size, 3, none⟩ = some (.slice aa A.len ca) ∧ W.cell? ⟨wr.heap.size, 4, none⟩ = some (.slice ab B.len cb) ∧ wr.heap.size < W.heap.size) := Lib.hid (fun W hW =>
        ⟨(hB2.only hW (by simp)).cell 0, (hB2.only hW (by simp)).cell 1, (hB2.only hW (by simp)).cell 2, (hB2.only hW (by simp)).lt, (hsb.only hW (by simp)).cell 2, (hsb.only hW (by simp)).cell 3, (hsb.only hW (by simp)).cell 4, (hsb.only hW (by simp)).lt⟩)
      obtain ⟨d0, d1, d2, dl, d5, d6, d7, d8⟩ := Hcl.out w2 (Only.refl _ _)
      have e0 := hsb.cell 0
      have e1 := hsb.cell 1
      have HSB := Lib.hid hsb
      clear hO2 hOs HPr HOr hB2 hsb hBr s0 s1 s2 s3 s4
      generalize wr.heap.size = q at *
      go_upto_block 2 with fail
      go_cut [8] (fun s wx => s = .bool (isD P k n) ∧ Only [] w2 wx)
      case first =>
        rcases (show k = 1 ∨ k = 2 ∨ k = 3 ∨ k = 4 ∨ k = 5 ∨ k = 6 ∨ (k ≠ 1 ∧ k ≠ 2 ∧ k ≠ 3 ∧ k ≠ 4 ∧ k ≠ 5 ∧ k ≠ 6) by omega) with hk | hk | hk | hk | hk | hk | ⟨k1, k2, k3, k4, k5, k6⟩
        · subst hk
          have hI : isD P 1 n = P.vars.any (fun d => d.name == n) := by unfold isD; simp
          have HI := Lib.hid hI
          clear hI
          go_wp2_with fail
          refine (among_any w2 _ P.vars n HP2.out.1 hPn.1).mono ?_
          rintro e w' ⟨rfl, rfl⟩
          go_wp2_with fail
          go_meet
          exact ⟨by rw [HI.out], Only.refl _ _⟩
        · subst hk
          have hI : isD P 2 n = P.vars.any (fun d => d.name == n) := by unfold isD; simp
          have HI := Lib.hid hI
          clear hI
          go_wp2_with fail
          refine (among_any w2 _ P.vars n HP2.out.1 hPn.1).mono ?_
          rintro e w' ⟨rfl, rfl⟩
          go_wp2_with fail
          go_meet
          exact ⟨by rw [HI.out], Only.refl _ _⟩
        · subst hk
          have hI : isD P 3 n = P.locks.any (fun d => d.name == n) := by unfold isD; simp
          have HI := Lib.hid hI
          clear hI
          go_wp2_with fail
          refine (among_any w2 _ P.locks n HP2.out.2.1 hPn.2.1).mono ?_
          rintro e w' ⟨rfl, rfl⟩
          go_wp2_with fail
          go_meet
          exact ⟨by rw [HI.out], Only.refl _ _⟩
        · subst hk
          have hI : isD P 4 n = P.locks.any (fun d => d.name == n) := by unfold isD; simp
          have HI := Lib.hid hI
          clear hI
          go_wp2_with fail
          refine (among_any w2 _ P.locks n HP2.out.2.1 hPn.2.1).mono ?_
          rintro e w' ⟨rfl, rfl⟩
          go_wp2_with fail
          go_meet
          exact ⟨by rw [HI.out], Only.refl _ _⟩
        · subst hk
          have hI : isD P 5 n = (P.funcs.map fdM).any (fun d => d.name == n) := by unfold isD; simp
          have HI := Lib.hid hI
          clear hI
          go_upto_region 15 with fail
          have hdr : Only [] w2 w2.drew := (Only.refl [] w2).drew
          refine wp_region_stabL (P := Tryz.prog) 5 (by kernel_rfl) (by kernel_rfl) (Only []) (Only.refl _ _) (fun _ _ _ h k => h.then k [] (by simp) (by simp))
            [SP.is (.agg #[.slice av P.vars.length cv, .slice al P.locks.length cl, .slice af P.funcs.length cf]),
             ⟨fun v W => DeclsAt W v (P.funcs.map fdM), fun _ _ _ h hO => h.more hO⟩,
             SP.is (.pointer (some ⟨q, 2, none⟩)),
             SP.is (.string ⟨n.toArray⟩),
             SP.is (.bool ((P.funcs.map fdM).any (fun d => d.name == n)))] ?_ ?_
          · simp only [List.take_succ_cons, List.take_zero]
            refine StepsOK.cons ?_ (StepsOK.cons ?_ (StepsOK.cons ?_ (StepsOK.cons ?_ (StepsOK.cons ?_ StepsOK.nil))))
            · intro a W L N hR hold hφ hcl hkp hd K hK
              have e2 := hold 2 (by kernel_rfl)
              obtain ⟨l0, l1, l2, l3, l4, l5, l6, l7⟩ := Hcl.out W (Only.plus hdr hR)
              clear hold hφ hcl hkp hd
              rw [if_pos (by rfl)]
              go_simp
              exact hK _ _ (Only.refl _ _) rfl
            · intro a W L N hR hold hφ hcl hkp hd K hK
              have e42 := got hφ (hd 0 (by kernel_rfl)) rfl rfl rfl
              have hW := Only.plus hdr hR
              clear hold hφ hcl hkp hd
              rw [if_pos (by rfl)]
              go_simp
              refine (dfuncs_any W _ _ _ P (HP2.out.more hW) hPn.2.2).mono ?_
              rintro e w' ⟨v, rfl, h, hO'⟩
              exact hK _ _ hO' (owns_decls h)
            · intro a W L N hR hold hφ hcl hkp hd K hK
              have e7 := hold 7 (by kernel_rfl)
              clear hold hφ hcl hkp hd
              rw [if_pos (by rfl)]
              go_simp
              exact hK _ _ (Only.refl _ _) rfl
            · intro a W L N hR hold hφ hcl hkp hd K hK
              have e44 := got hφ (hd 2 (by kernel_rfl)) rfl rfl rfl
              obtain ⟨l0, l1, l2, l3, l4, l5, l6, l7⟩ := Hcl.out W (Only.plus hdr hR)
              clear hold hφ hcl hkp hd
              rw [if_pos (by rfl)]
              go_simp
              exact hK _ _ (Only.refl _ _) rfl
            · intro a W L N hR hold hφ hcl hkp hd K hK
              have e45 := got hφ (hd 3 (by kernel_rfl)) rfl rfl rfl
              obtain ⟨u43, e43, p43⟩ := gotP hφ (hd 1 (by kernel_rfl)) rfl rfl rfl
              have p43 : DeclsAt W u43 (P.funcs.map fdM) := p43
              clear hold hφ hcl hkp hd
              rw [if_pos (by rfl)]
              go_simp
              refine (among_any W u43 _ n p43 (by simpa using hPn.2.2)).mono ?_
              rintro e w' ⟨rfl, rfl⟩
              exact hK _ _ (Only.refl _ _) rfl
          · intro us W hO' hus
            have p4 : us 4 = .bool ((P.funcs.map fdM).any (fun d => d.name == n)) := hus 4 _ 46 (by omega) rfl rfl
            clear hus
            simp only [List.take_succ_cons, List.take_zero, List.drop_succ_cons, List.drop_zero, fillAct, Act.put, List.setIfInBounds_toArray, List.set_cons_zero, List.set_cons_succ, Nat.reduceAdd, p4]
            clear p4
            have hOW := Only.plus hdr hO'
            go_wp2_with fail
            go_meet
            exact ⟨by rw [HI.out], hOW⟩
        · subst hk
          have hI : isD P 6 n = (P.funcs.map fdM).any (fun d => d.name == n) := by unfold isD; simp
          have HI := Lib.hid hI
          clear hI
          go_upto_region 15 with fail
          have hdr : Only [] w2 w2.drew := (Only.refl [] w2).drew
          refine wp_region_stabL (P := Tryz.prog) 5 (by kernel_rfl) (by kernel_rfl) (Only []) (Only.refl _ _) (fun _ _ _ h k => h.then k [] (by simp) (by simp))
            [SP.is (.agg #[.slice av P.vars.length cv, .slice al P.locks.length cl, .slice af P.funcs.length cf]),
             ⟨fun v W => DeclsAt W v (P.funcs.map fdM), fun _ _ _ h hO => h.more hO⟩,
             SP.is (.pointer (some ⟨q, 2, none⟩)),
             SP.is (.string ⟨n.toArray⟩),
             SP.is (.bool ((P.funcs.map fdM).any (fun d => d.name == n)))] ?_ ?_
          · simp only [List.take_succ_cons, List.take_zero]
            refine StepsOK.cons ?_ (StepsOK.cons ?_ (StepsOK.cons ?_ (StepsOK.cons ?_ (StepsOK.cons ?_ StepsOK.nil))))
            · intro a W L N hR hold hφ hcl hkp hd K hK
              have e2 := hold 2 (by kernel_rfl)
              obtain ⟨l0, l1, l2, l3, l4, l5, l6, l7⟩ := Hcl.out W (Only.plus hdr hR)
              clear hold hφ hcl hkp hd
              rw [if_pos (by rfl)]
              go_simp
              exact hK _ _ (Only.refl _ _) rfl
            · intro a W L N hR hold hφ hcl hkp hd K hK
              have e42 := got hφ (hd 0 (by kernel_rfl)) rfl rfl rfl
              have hW := Only.plus hdr hR
              clear hold hφ hcl hkp hd
              rw [if_pos (by rfl)]
              go_simp
              refine (dfuncs_any W _ _ _ P (HP2.out.more hW) hPn.2.2).mono ?_
              rintro e w' ⟨v, rfl, h, hO'⟩
              exact hK _ _ hO' (owns_decls h)
            · intro a W L N hR hold hφ hcl hkp hd K hK
              have e7 := hold 7 (by kernel_rfl)
              clear hold hφ hcl hkp hd
              rw [if_pos (by rfl)]
              go_simp
              exact hK _ _ (Only.refl _ _) rfl
            · intro a W L N hR hold hφ hcl hkp hd K hK
              have e44 := got hφ (hd 2 (by kernel_rfl)) rfl rfl rfl
              obtain ⟨l0, l1, l2, l3, l4, l5, l6, l7⟩ := Hcl.out W (Only.plus hdr hR)
              clear hold hφ hcl hkp hd
              rw [if_pos (by rfl)]
              go_simp
              exact hK _ _ (Only.refl _ _) rfl
            · intro a W L N hR hold hφ hcl hkp hd K hK
              have e45 := got hφ (hd 3 (by kernel_rfl)) rfl rfl rfl
              obtain ⟨u43, e43, p43⟩ := gotP hφ (hd 1 (by kernel_rfl)) rfl rfl rfl
              have p43 : DeclsAt W u43 (P.funcs.map fdM) := p43
              clear hold hφ hcl hkp hd
              rw [if_pos (by rfl)]
              go_simp
              refine (among_any W u43 _ n p43 (by simpa using hPn.2.2)).mono ?_
              rintro e w' ⟨rfl, rfl⟩
              exact hK _ _ (Only.refl _ _) rfl
          · intro us W hO' hus
            have p4 : us 4 = .bool ((P.funcs.map fdM).any (fun d => d.name == n)) := hus 4 _ 46 (by omega) rfl rfl
            clear hus
            simp only [List.take_succ_cons, List.take_zero, List.drop_succ_cons, List.drop_zero, fillAct, Act.put, List.setIfInBounds_toArray, List.set_cons_zero, List.set_cons_succ, Nat.reduceAdd, p4]
            clear p4
            have hOW := Only.plus hdr hO'
            go_wp2_with fail
            go_meet
            exact ⟨by rw [HI.out], hOW⟩
        · have hI : isD P k n = true := by unfold isD; rw [if_neg (by omega), if_neg (by omega), if_neg (by omega)]
          have HI := Lib.hid hI
          clear hI
          have i1 : ((k : Int) == 1) = false := by simp; omega
          have i2 : ((k : Int) == 2) = false := by simp; omega
          have i3 : ((k : Int) == 3) = false := by simp; omega
          have i4 : ((k : Int) == 4) = false := by simp; omega
          have i5 : ((k : Int) == 5) = false := by simp; omega
          have i6 : ((k : Int) == 6) = false := by simp; omega
          clear k1 k2 k3 k4 k5 k6
          go_wp2_with fail
          go_meet
          exact ⟨by rw [HI.out], Only.refl _ _⟩
      case rest =>
      obtain ⟨rfl, hO3⟩ := hcut
      have HO3 := Lib.hid (HO2.out.plus hO3)
      have HOl3 := Lib.hid (HOl2.out.plus hO3)
      have t1 := (HSB.out.only hO3 (by simp)).cell 1
      have tl := (HSB.out.only hO3 (by simp)).lt
      cases hI : isD P k n with
      | false =>
        have HI := Lib.hid hI
        clear hI
        go_wp2_with fail
        go_ret2
        rw [← Hs.out, bodyX_no HI.out]
        exact ⟨rfl, HO3.out⟩
      | true =>
        have HI := Lib.hid hI
        have HfA : Hid (∀ i ∈ fa, i < wc.heap.size) := Lib.hid (fun i hi => Nat.lt_of_lt_of_le (HA.out.lt i hi) HO3.out.size)
        have HfB : Hid (∀ i ∈ fb, i < wc.heap.size) := Lib.hid (fun i hi => Nat.lt_of_lt_of_le (HBb.out.lt i hi) HO3.out.size)
        have hAl := A.len_cnt
        have hBl := B.len_cnt
        have HOw := HO3
        obtain ⟨Y, hY⟩ : ∃ Y, Y = bodyX P (A.app B) := ⟨_, rfl⟩
        have HYe := Lib.hid hY
        have HY : Hid (∀ W, Only [] wc W → ∀ v, RdB W v (A.app B) → Calls Tryz.prog 35 #[.agg #[.slice av P.vars.length cv, .slice al P.locks.length cl, .slice af P.funcs.length cf], v] W fun e w' => e = .returned (.tuple #[.int .i64 Y.1, .int .i64 Y.2]) ∧ Only [] W w') :=
          Lib.hid (fun W hW v hv => by rw [hY]; exact Ih.out (A.app B) (by rw [cnt_app]; omega) W _ _ _ v (HP.out.more (HO3.out.plus hW)) hv)
        clear hI hY
        go_upto_region 18 with fail
        have hOz := Lib.hid (((Only.refl [] wc).alloc (.cells #[] 85)).drew)
        have Hv0 : Hid (OwnS7 (wc.alloc (.cells #[] 85)).drew wc.heap.size (.slice (some ⟨wc.heap.size, 0, none⟩) 0 0) .nil) := Lib.hid (OwnS7.more (w := wc.alloc (.cells #[] 85)) ⟨[], [], ⟨rfl, .inr ⟨_, 0, #[], rfl, Nat.le_refl _, IsBlk.made wc _, Nat.le_refl _, by unfold maxLen; omega, rfl, rfl⟩⟩, ⟨rfl, rfl⟩, by simp⟩ ((Only.refl [] _).drew))
        have HSc : Hid (∀ W, Only [] wc W → W.cell? ⟨w.heap.size, 0, none⟩ = some (.slice av P.vars.length cv) ∧ W.cell? ⟨w.heap.size, 1, none⟩ = some (.slice al P.locks.length cl) ∧ W.cell? ⟨w.heap.size, 2, none⟩ = some (.slice af P.funcs.length cf) ∧ W.cell? ⟨q, 3, none⟩ = some (.slice aa A.len ca) ∧ W.cell? ⟨q, 4, none⟩ = some (.slice ab B.len cb)) := Lib.hid (fun W hW => by
          obtain ⟨l0, l1, l2, l3, l4, l5, l6, l7⟩ := Hcl.out W (hO3.plus hW)
          exact ⟨l0, l1, l2, l5, l6⟩)
        have hcd := HSc.out wc (Only.refl _ _)
        have hS0 := HSc.out _ ((Only.refl [] wc).drew)
        have hS1 := HSc.out _ hOz.out
        go_region_held3 (fun W => W.cell? ⟨w.heap.size, 0, none⟩ = some (.slice av P.vars.length cv) ∧ W.cell? ⟨w.heap.size, 1, none⟩ = some (.slice al P.locks.length cl) ∧ W.cell? ⟨w.heap.size, 2, none⟩ = some (.slice af P.funcs.length cf) ∧ W.cell? ⟨q, 3, none⟩ = some (.slice aa A.len ca) ∧ W.cell? ⟨q, 4, none⟩ = some (.slice ab B.len cb)) (first | exact hS0 | exact hS1 | assumption)
          (first
            | (go_at_call 35
               with_reducible refine (HY.out w6 hw6 v6 h6.rd).mono ?_
               rintro e w7 ⟨rfl, hO7⟩
               have hw7 : Only [] wc w7 := Only.plus hw6 hO7
               have hS7 := HSc.out w7 hw7)
            | (rw [if_pos (by rfl)]
               refine wp_append_b7 _ _ rfl wc.heap.size v5 (.slice ab B.len cb) A B fb rfl h5 rfl (HBb.out.more (HOw.out.plus hw5)) HfB.out (by omega) (by omega) hw5.size ?_
               intro v6 w6 S6 h6 hO6 hT6
               have hw6 : Only [] wc w6 := hw5.then hO6 [] (by simp) (fun i hi => .inr (hT6 i hi))
               have hS6 := HSc.out w6 hw6)
            | (rw [if_pos (by rfl)]
               refine wp_append_b7 _ _ rfl wc.heap.size (.slice (some ⟨wc.heap.size, 0, none⟩) 0 0) (.slice aa A.len ca) .nil A fa rfl Hv0.out rfl (HA.out.more (HOw.out.plus hOz.out)) HfA.out (by simp [Blk.len]) (by omega) hOz.out.size ?_
               intro v5 w5 S5 h5 hO5 hT5
               have hw5 : Only [] wc w5 := hOz.out.then hO5 [] (by simp) (fun i hi => .inr (hT5 i hi))
               have hS5 := HSc.out w5 hw5))
        have HOz := Lib.hid (HO3.out.plus hw7)
        have HOlz := Lib.hid (HOl3.out.plus hw7)
        have Hyes := Lib.hid (bodyX_yes (P := P) (k := k) (p := p) (n := n) (A := A) (B := B) (r := rr) HI.out)
        clear hS7 hw7 hO7 hS6 hw6 hS5 hw5 h5 h6 hO5 hO6 hT5 hT6 hS0 hS1 hcd
        by_cases hy0 : Y.2 = 0
        · have hyi : ((Y.2 : Int) != 0) = false := by simp [hy0]
          have Hnx : Hid (bodyX P rr = X) := Lib.hid (by rw [← Hs.out, Hyes.out, if_pos (by rw [← HYe.out]; exact hy0)])
          clear hy0
          go_wp2_with fail
          rw [← hag]
          go_roundw
          case rel =>
            refine ⟨j + 1, rr, xr', fr', by go_num, by simp only [Blk.len] at hjl; omega, hcA.2, HE.out, fun h => ⟨g, hag, hg, fun i u hu => ?_⟩, Hnx.out, HOlz.out⟩
            have := hrx2.out i u hu
            rw [show (j + 1) * 5 + i = j * 5 + (i + 5) by omega]
            exact this
          case measure => simp [intOf]; simp only [Blk.len] at hjl; omega
        · have hyi : ((Y.2 : Int) != 0) = true := by simp; omega
          have Hnx : Hid (Y = X) := Lib.hid (by rw [← Hs.out, Hyes.out, if_neg (by rw [← HYe.out]; exact hy0), HYe.out])
          clear hy0
          go_wp2_with fail
          go_ret2
          rw [← Hnx.out]
          exact ⟨rfl, HOz.out⟩

theorem dbody_any (P : ProgM) (hPn : P.vars.length ≤ 1000000 ∧ P.locks.length ≤ 1000000 ∧ P.funcs.length ≤ 1000000) : ∀ (N : Nat) (b : Blk), b.cnt ≤ N → N ≤ 1000000 → ∀ (w : World) (vv vl vf v : Value), ProgAt w vv vl vf P → RdB w v b → Calls Tryz.prog 35 #[.agg #[vv, vl, vf], v] w fun e w' => e = .returned (.tuple #[.int .i64 (bodyX P b).1, .int .i64 (bodyX P b).2]) ∧ Only [] w w'
  | 0, b, hN, h2, w, vv, vl, vf, v, hP, h => body_step P hPn 0 (fun b h => absurd h (by omega)) b hN h2 w vv vl vf v hP h
  | N + 1, b, hN, h2, w, vv, vl, vf, v, hP, h => body_step P hPn (N + 1) (fun b h => dbody_any P hPn N b (by omega) (by omega)) b hN h2 w vv vl vf v hP h

end Go.Proofs.YtildkedplmjdaaaGreatDoor
namespace Go.Proofs.YtildkedplmjdaaaGreatDoor
set_option maxRecDepth 100000
set_option linter.unusedVariables false
open Go.RowKit Go.Sort

def OwnD7 (w : World) (base : Nat) (v : Value) (l : List DeclM) : Prop := w.ownsRow base 59 2 v l.length (dcells l)
theorem OwnD7.more {w w' : World} {base : Nat} {v : Value} {l : List DeclM} (h : OwnD7 w base v l) (hO : Only [] w w') : OwnD7 w' base v l := owns_keep h hO (by simp)
theorem run_append_void7 {P : Program} (w : World) (t ty e : TypeId) (i : TypeInfo) (ht : P.underlying t = some (.slice e)) (hi : P.info? e = some i) (a : Option Addr) (n c c2 : Nat) (h : n ≤ c) :
    (Builtin.append_ #[t, t] ty #[.slice a n c, .slice none 0 c2]).run P w = .ok (.slice a n c) w := by
  cases a with
  | none => simp [Builtin.append_, run_underlying ht, sizeOf, typeInfo, hi, Builtin.lenOf, Builtin.firstCells, Result.andThen, h]
  | some a => simp [Builtin.append_, run_underlying ht, sizeOf, typeInfo, hi, Builtin.lenOf, Builtin.firstCells, Result.andThen, h, storeCells]
theorem wp_append_d7 {w : World} {o : Oper} {a : Act} {K : Act → World → Prop} {Q : Exit → Act → World → Prop} (s x : Operand)
    (ho : o.op = .call { callee := .builtin .append, args := #[s, x], argTypes := #[27, 27] })
    (base : Nat) (v u : Value) (A B : List DeclM) (hs : a.eval s = v) (hown : OwnD7 w base v A) (hx : a.eval x = u) (hB : DeclsAt w u B) (hA : A.length ≤ 1000000) (hBl : B.length ≤ 1000000) (hbase : base ≤ w.heap.size)
    (h : ∀ v' w' S, OwnD7 w' base v' (A ++ B) → Only S w w' → (∀ g ∈ S, base ≤ g) → K (a.put o.dst v') w') : o.wp Tryz.prog a w K Q := by
  obtain ⟨i0, hi, hz0, hz1, hz2⟩ := info_parts infoD
  have hlt := World.ownsRow.lt hown
  obtain ⟨au, cu, rfl, hc, hr⟩ := hB
  cases au with
  | none =>
    have hz : B.length = 0 := by
      rcases Nat.eq_zero_or_pos B.length with h0 | h0
      · exact h0
      · obtain ⟨g, e, -⟩ := hr h0; cases e
    obtain rfl := List.eq_nil_of_length_eq_zero hz
    have hown' : w.ownsRow base 59 2 v A.length (dcells A) := hown
    obtain ⟨av, cv, rfl⟩ := owns_slice hown'
    have hcv : A.length ≤ cv := by
      rcases hown'.2 with ⟨e1, e2⟩ | ⟨g, cap, cur, e1, -, -, hc, -⟩
      · injection e1 with _ _ e3; omega
      · injection e1 with _ _ e3; omega
    have hr := run_append_void7 (P := Tryz.prog) w 27 o.type 59 i0 Tryz.underlying27 hi av A.length cv cu hcv
    unfold Oper.wp execOp
    simp only [ho, resolve, invoke, builtin, Sem.run_bind, Sem.run_pure, Result.andThen_ok, List.map_toArray, List.map_cons, List.map_nil, hs, hx, List.length_nil, hr]
    refine h _ w [] ?_ (Only.refl _ _) (by simp)
    rw [List.append_nil]
    exact hown
  | some ad =>
    have hnews : ∀ j u, (dcells B)[j]? = some u → w.cell? (ad.add j) = some u := fun j u hu => by
      have h0 : 0 < B.length := by
        rcases Nat.eq_zero_or_pos B.length with h0 | h0
        · rw [List.eq_nil_of_length_eq_zero h0] at hu; simp [dcells] at hu
        · exact h0
      obtain ⟨g, e, hg, hrg⟩ := hr h0
      injection e with e
      subst e
      rw [Addr.add_mid]; exact hrg j u hu
    obtain ⟨v', w', hr', k2, k3, k4, k5⟩ := run_append_own_at (P := Tryz.prog) w base 27 o.type 59 i0 _ 2 24 Tryz.underlying27 hi hz0 hz1 hz2 rfl (by decide) v A.length (dcells A) hown ad B.length cu (dcells B) (length_dcells B) hnews (dcells_ones B) (by unfold maxLen; omega) (by omega) hbase
    unfold Oper.wp execOp
    simp only [ho, resolve, invoke, builtin, Sem.run_bind, Sem.run_pure, Result.andThen_ok, List.map_toArray, List.map_cons, List.map_nil, hs, hx, hr']
    have hO := grown_only k3
    exact h v' w' (ownL v) (by unfold OwnD7; rw [List.length_append, dcells_app]; exact k2) hO (fun k hk => (hlt k (mem_ownL.1 hk)).1)

end Go.Proofs.YtildkedplmjdaaaGreatDoor
