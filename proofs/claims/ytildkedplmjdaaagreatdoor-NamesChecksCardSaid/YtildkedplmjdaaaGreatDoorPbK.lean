/-
  The document's Stmts: two rows of statements, and all within them, held against each other.
-/
import Derived.Test.YtildkedplmjdaaaGreatDoorPbI
import Derived.Test.YtildkedplmjdaaaGreatDoorStab
namespace Go.Proofs.YtildkedplmjdaaaGreatDoor
set_option maxRecDepth 100000
set_option linter.unusedVariables false
open Go.RowKit Go.Sort

set_option maxHeartbeats 16000000 in
theorem rstmts_walk (N : Nat) (ih : ∀ X : Blk, X.cnt < N → ∀ (Y : Blk) (w : World) (va vb : Value) (fa fb : List Nat), BlkAt w va X fa → BlkAt w vb Y fb →
      Calls Tryz.prog 64 #[va, vb] w fun e w' => e = .returned (.bool (sameB X Y)) ∧ Only [] w w')
    (X Y : Blk) (hN : X.cnt ≤ N) (hN2 : N ≤ 100000) (w : World) (va vb : Value) (fa fb : List Nat) (ha : BlkAt w va X fa) (hb : BlkAt w vb Y fb) :
    Calls Tryz.prog 64 #[va, vb] w fun e w' => e = .returned (.bool (sameB X Y)) ∧ Only [] w w' := by
  have Ih := Lib.hid ih
  clear ih
  obtain ⟨a, c, rfl, -⟩ := ha.slice
  obtain ⟨a2, c2, rfl, -⟩ := hb.slice
  obtain ⟨xs, fq, hEA, hrA⟩ := blk_open ⟨_, ha⟩
  obtain ⟨ys, gq, hEB, hrB⟩ := blk_open ⟨_, hb⟩
  have HEA := Lib.hid (And.intro hEA hrA)
  have HEB := Lib.hid (And.intro hEB hrB)
  have hXl := X.len_cnt
  clear hEA hrA hEB hrB ha hb
  generalize hR0 : sameB X Y = R
  have HR := Lib.hid hR0
  clear hR0
  by_cases hll : X.len = Y.len
  · have Hll := Lib.hid hll
    have hnb : ((X.len : Int) != (Y.len : Int)) = false := by simp; omega
    clear hll
    go_enter Tryz.func64, Tryz.ntmps64
    go_wp2_with fail
    clear hnb
    go_loopg [5] 1000000 (fun gk iv wr => ∃ (j : Nat) (rs rs' : Blk) (xr yr : List Value) (fr gr : List Nat), iv = .int .i64 j ∧ rs.len ≤ gk ∧ j + rs.len = X.len ∧ rs'.len = rs.len ∧ rs.cnt ≤ N ∧ EncB w rs xr fr ∧ EncB w rs' yr gr ∧
      (0 < rs.len → ∃ gx, a = some ⟨gx, 0, none⟩ ∧ gx < w.heap.size ∧ w.rangeAt gx (j * 5) xr) ∧ (0 < rs.len → ∃ gy, a2 = some ⟨gy, 0, none⟩ ∧ gy < w.heap.size ∧ w.rangeAt gy (j * 5) yr) ∧ Hid (R = sameB rs rs') ∧ Only [] w wr)
    case atStart =>
      refine ⟨0, X, Y, xs, ys, fq, gq, rfl, by omega, by omega, Hll.out.symm, hN, HEA.out.1, HEB.out.1, fun h => ?_, fun h => ?_, Lib.hid HR.out.symm, Only.refl _ _⟩
      · obtain ⟨g, p1, p2, p3⟩ := HEA.out.2 h
        exact ⟨g, p1, p2, by rw [Nat.zero_mul]; exact p3⟩
      · obtain ⟨g, p1, p2, p3⟩ := HEB.out.2 (by have := Hll.out; omega)
        exact ⟨g, p1, p2, by rw [Nat.zero_mul]; exact p3⟩
    case round =>
      obtain ⟨j, rs, rs', xr, yr, fr, gr, rfl, hgk, hjl, hll2, hrc, hE, hF, hra, hrb, hRR, hO⟩ := hrel
      have HO := Lib.hid hO
      clear hO
      cases rs with
      | nil =>
        have hrs' := Blk.len_zero rs' (by rw [hll2]; rfl)
        subst hrs'
        have hji : ¬ (j : Int) < (X.len : Int) := by simp only [Blk.len] at hjl; omega
        go_wp2
        go_ret
        exact ⟨by rw [hRR.out]; rfl, HO.out⟩
      | cons kd pl nm A B rr =>
        cases rs' with
        | nil => simp [Blk.len] at hll2
        | cons kd' pl' nm' A' B' rr' =>
          obtain ⟨va, vb, fa', fb', fr', xr', rfl, rfl, hA, hB, hE'⟩ := hE
          obtain ⟨va', vb', ga', gb', gr', yr', rfl, rfl, hA', hB', hF'⟩ := hF
          have KA := Lib.hid (show BlkAt w va A fa' from hA)
          have KB := Lib.hid (show BlkAt w vb B fb' from hB)
          have KA' := Lib.hid (show BlkAt w va' A' ga' from hA')
          have KB' := Lib.hid (show BlkAt w vb' B' gb' from hB')
          obtain ⟨aa, ca, rfl, -⟩ := RowE.slice hA
          obtain ⟨ab, cb, rfl, -⟩ := RowE.slice hB
          obtain ⟨aa', ca', rfl, -⟩ := RowE.slice hA'
          obtain ⟨ab', cb', rfl, -⟩ := RowE.slice hB'
          obtain ⟨gx, hxa, hgx, hrx⟩ := hra (by simp [Blk.len])
          obtain ⟨gy, hxb, hgy, hry⟩ := hrb (by simp [Blk.len])
          subst hxa hxb
          have hcc : A.cnt < N ∧ B.cnt < N ∧ rr.cnt ≤ N := by simp only [Blk.cnt] at hrc; omega
          have hcl : ∀ W, Only [] wr W → W.cell? ⟨gx, j * 5, none⟩ = some (.int .i64 kd) ∧ W.cell? ⟨gx, j * 5 + 2, none⟩ = some (.string ⟨nm.toArray⟩) ∧ W.cell? ⟨gx, j * 5 + 3, none⟩ = some (.slice aa A.len ca) ∧ W.cell? ⟨gx, j * 5 + 4, none⟩ = some (.slice ab B.len cb) ∧ gx < W.heap.size ∧
              W.cell? ⟨gy, j * 5, none⟩ = some (.int .i64 kd') ∧ W.cell? ⟨gy, j * 5 + 2, none⟩ = some (.string ⟨nm'.toArray⟩) ∧ W.cell? ⟨gy, j * 5 + 3, none⟩ = some (.slice aa' A'.len ca') ∧ W.cell? ⟨gy, j * 5 + 4, none⟩ = some (.slice ab' B'.len cb') ∧ gy < W.heap.size := fun W hW =>
            ⟨((HO.out.plus hW).cell (p := ⟨gx, j * 5, none⟩) hgx (by simp)).trans (hrx 0 _ rfl), ((HO.out.plus hW).cell (p := ⟨gx, j * 5 + 2, none⟩) hgx (by simp)).trans (hrx 2 _ rfl), ((HO.out.plus hW).cell (p := ⟨gx, j * 5 + 3, none⟩) hgx (by simp)).trans (hrx 3 _ rfl), ((HO.out.plus hW).cell (p := ⟨gx, j * 5 + 4, none⟩) hgx (by simp)).trans (hrx 4 _ rfl), Nat.lt_of_lt_of_le hgx (HO.out.plus hW).size,
              ((HO.out.plus hW).cell (p := ⟨gy, j * 5, none⟩) hgy (by simp)).trans (hry 0 _ rfl), ((HO.out.plus hW).cell (p := ⟨gy, j * 5 + 2, none⟩) hgy (by simp)).trans (hry 2 _ rfl), ((HO.out.plus hW).cell (p := ⟨gy, j * 5 + 3, none⟩) hgy (by simp)).trans (hry 3 _ rfl), ((HO.out.plus hW).cell (p := ⟨gy, j * 5 + 4, none⟩) hgy (by simp)).trans (hry 4 _ rfl), Nat.lt_of_lt_of_le hgy (HO.out.plus hW).size⟩
          have Hcl := Lib.hid hcl
          have Hrx := Lib.hid (fun i u (hu : xr'[i]? = some u) => hrx (i + 5) u hu)
          have Hry := Lib.hid (fun i u (hu : yr'[i]? = some u) => hry (i + 5) u hu)
          have HEs := Lib.hid (And.intro hE' hF')
          have HRA : Hid (∀ W, Only [] wr W → Calls Tryz.prog 64 #[.slice aa A.len ca, .slice aa' A'.len ca'] W fun e w' => e = .returned (.bool (sameB A A')) ∧ Only [] W w') := Lib.hid (fun W hW => Ih.out A hcc.1 A' W _ _ _ _ (KA.out.more (HO.out.plus hW)) (KA'.out.more (HO.out.plus hW)))
          have HRB : Hid (∀ W, Only [] wr W → Calls Tryz.prog 64 #[.slice ab B.len cb, .slice ab' B'.len cb'] W fun e w' => e = .returned (.bool (sameB B B')) ∧ Only [] W w') := Lib.hid (fun W hW => Ih.out B hcc.2.1 B' W _ _ _ _ (KB.out.more (HO.out.plus hW)) (KB'.out.more (HO.out.plus hW)))
          have hji : (j : Int) < (X.len : Int) := by simp only [Blk.len] at hjl; omega
          have hjb : (j : Int) < (Y.len : Int) := by have := Hll.out; omega
          have hj0 : (0 : Int) ≤ (j : Int) := by omega
          have hjB : j < 1000000 := by omega
          have hdr : Only [] wr wr.drew := (Only.refl [] wr).drew
          clear hA hB hA' hB' hE' hF' hra hrb hrx hry hcl
          have hRv : R = (decide (kd = kd') && decide (nm = nm') && sameB A A' && sameB B B' && sameB rr rr') := hRR.out
          have HRv := Lib.hid hRv
          clear hRv hRR
          by_cases hk : kd = kd'
          · subst hk
            by_cases hn : nm = nm'
            · subst hn
              have hnn : (nm == nm) = true := beq_self_eq_true _
              have HR3 : Hid (R = (sameB A A' && (sameB B B' && sameB rr rr'))) := Lib.hid (by rw [HRv.out]; simp [Bool.and_assoc])
              clear HRv
              generalize hra : sameB A A' = ra at *
              generalize hrb : sameB B B' = rb at *
              have Hra := Lib.hid hra
              have Hrb := Lib.hid hrb
              clear hra hrb
              cases ra with
              | true =>
                go_upto_region 6 with fail
                refine wp_region_stabL (P := Tryz.prog) 52 (by kernel_rfl) (by kernel_rfl) (Only []) (Only.refl _ _) (fun _ _ _ h k => h.then k [] (by simp) (by simp))
                  [SP.is (.slice (some ⟨gx, 0, none⟩) X.len c),
                   SP.is (.int .i64 j),
                   SP.is (.pointer (some ⟨gx, j * 5, none⟩)),
                   SP.is (.pointer (some ⟨gx, j * 5, none⟩)),
                   SP.is (.int .i64 kd),
                   SP.is (.slice (some ⟨gy, 0, none⟩) Y.len c2),
                   SP.is (.int .i64 j),
                   SP.is (.pointer (some ⟨gy, j * 5, none⟩)),
                   SP.is (.pointer (some ⟨gy, j * 5, none⟩)),
                   SP.is (.int .i64 kd),
                   SP.is (.bool false),
                   SP.is (.bool false),
                   SP.is (.slice (some ⟨gx, 0, none⟩) X.len c),
                   SP.is (.int .i64 j),
                   SP.is (.pointer (some ⟨gx, j * 5, none⟩)),
                   SP.is (.pointer (some ⟨gx, j * 5 + 2, none⟩)),
                   SP.is (.string ⟨nm.toArray⟩),
                   SP.is (.slice (some ⟨gy, 0, none⟩) Y.len c2),
                   SP.is (.int .i64 j),
                   SP.is (.pointer (some ⟨gy, j * 5, none⟩)),
                   SP.is (.pointer (some ⟨gy, j * 5 + 2, none⟩)),
                   SP.is (.string ⟨nm.toArray⟩),
                   SP.is (.bool false),
                   SP.is (.bool false),
                   SP.is (.bool false),
                   SP.is (.slice (some ⟨gx, 0, none⟩) X.len c),
                   SP.is (.int .i64 j),
                   SP.is (.pointer (some ⟨gx, j * 5, none⟩)),
                   SP.is (.pointer (some ⟨gx, j * 5 + 3, none⟩)),
                   SP.is (.slice aa A.len ca),
                   SP.is (.slice (some ⟨gy, 0, none⟩) Y.len c2),
                   SP.is (.int .i64 j),
                   SP.is (.pointer (some ⟨gy, j * 5, none⟩)),
                   SP.is (.pointer (some ⟨gy, j * 5 + 3, none⟩)),
                   SP.is (.slice aa' A'.len ca'),
                   SP.is (.bool true),
                   SP.is (.bool false),
                   SP.is (.bool false),
                   SP.is (.bool false),
                   SP.is (.slice (some ⟨gx, 0, none⟩) X.len c),
                   SP.is (.int .i64 j),
                   SP.is (.pointer (some ⟨gx, j * 5, none⟩)),
                   SP.is (.pointer (some ⟨gx, j * 5 + 4, none⟩)),
                   SP.is (.slice ab B.len cb),
                   SP.is (.slice (some ⟨gy, 0, none⟩) Y.len c2),
                   SP.is (.int .i64 j),
                   SP.is (.pointer (some ⟨gy, j * 5, none⟩)),
                   SP.is (.pointer (some ⟨gy, j * 5 + 4, none⟩)),
                   SP.is (.slice ab' B'.len cb'),
                   SP.is (.bool rb),
                   SP.is (.bool (!rb)),
                   SP.is (.bool (!rb))] ?_ ?_
                · simp only [List.take_succ_cons, List.take_zero]
                  refine StepsOK.cons ?_ (StepsOK.cons ?_ (StepsOK.cons ?_ (StepsOK.cons ?_ (StepsOK.cons ?_ (StepsOK.cons ?_ (StepsOK.cons ?_ (StepsOK.cons ?_ (StepsOK.cons ?_ (StepsOK.cons ?_ (StepsOK.cons ?_ (StepsOK.cons ?_ (StepsOK.cons ?_ (StepsOK.cons ?_ (StepsOK.cons ?_ (StepsOK.cons ?_ (StepsOK.cons ?_ (StepsOK.cons ?_ (StepsOK.cons ?_ (StepsOK.cons ?_ (StepsOK.cons ?_ (StepsOK.cons ?_ (StepsOK.cons ?_ (StepsOK.cons ?_ (StepsOK.cons ?_ (StepsOK.cons ?_ (StepsOK.cons ?_ (StepsOK.cons ?_ (StepsOK.cons ?_ (StepsOK.cons ?_ (StepsOK.cons ?_ (StepsOK.cons ?_ (StepsOK.cons ?_ (StepsOK.cons ?_ (StepsOK.cons ?_ (StepsOK.cons ?_ (StepsOK.cons ?_ (StepsOK.cons ?_ (StepsOK.cons ?_ (StepsOK.cons ?_ (StepsOK.cons ?_ (StepsOK.cons ?_ (StepsOK.cons ?_ (StepsOK.cons ?_ (StepsOK.cons ?_ (StepsOK.cons ?_ (StepsOK.cons ?_ (StepsOK.cons ?_ (StepsOK.cons ?_ (StepsOK.cons ?_ (StepsOK.cons ?_ (StepsOK.cons ?_ StepsOK.nil)))))))))))))))))))))))))))))))))))))))))))))))))))
                  · intro a W L N hR hold hφ hcl hkp hd K hK
                    have e0 := hold 0 (by kernel_rfl)
                    clear hold hφ hcl hkp hd
                    rw [if_pos (by rfl)]
                    go_simp
                    exact hK _ _ (Only.refl _ _) rfl
                  · intro a W L N hR hold hφ hcl hkp hd K hK
                    have e5 := hold 5 (by kernel_rfl)
                    clear hold hφ hcl hkp hd
                    rw [if_pos (by rfl)]
                    go_simp
                    exact hK _ _ (Only.refl _ _) rfl
                  · intro a W L N hR hold hφ hcl hkp hd K hK
                    have e17 := got hφ (hd 0 (by kernel_rfl)) rfl rfl rfl
                    have e18 := got hφ (hd 1 (by kernel_rfl)) rfl rfl rfl
                    clear hold hφ hcl hkp hd
                    rw [if_pos (by rfl)]
                    go_simp
                    exact hK _ _ (Only.refl _ _) rfl
                  · intro a W L N hR hold hφ hcl hkp hd K hK
                    have e19 := got hφ (hd 2 (by kernel_rfl)) rfl rfl rfl
                    clear hold hφ hcl hkp hd
                    rw [if_pos (by rfl)]
                    go_simp
                    exact hK _ _ (Only.refl _ _) rfl
                  · intro a W L N hR hold hφ hcl hkp hd K hK
                    have e20 := got hφ (hd 3 (by kernel_rfl)) rfl rfl rfl
                    obtain ⟨x0, x2, x3, x4, xl, y0, y2, y3, y4, yl⟩ := Hcl.out W (Only.plus hdr hR)
                    clear hold hφ hcl hkp hd
                    rw [if_pos (by rfl)]
                    go_simp
                    exact hK _ _ (Only.refl _ _) rfl
                  · intro a W L N hR hold hφ hcl hkp hd K hK
                    have e1 := hold 1 (by kernel_rfl)
                    clear hold hφ hcl hkp hd
                    rw [if_pos (by rfl)]
                    go_simp
                    exact hK _ _ (Only.refl _ _) rfl
                  · intro a W L N hR hold hφ hcl hkp hd K hK
                    have e5 := hold 5 (by kernel_rfl)
                    clear hold hφ hcl hkp hd
                    rw [if_pos (by rfl)]
                    go_simp
                    exact hK _ _ (Only.refl _ _) rfl
                  · intro a W L N hR hold hφ hcl hkp hd K hK
                    have e22 := got hφ (hd 5 (by kernel_rfl)) rfl rfl rfl
                    have e23 := got hφ (hd 6 (by kernel_rfl)) rfl rfl rfl
                    clear hold hφ hcl hkp hd
                    rw [if_pos (by rfl)]
                    go_simp
                    exact hK _ _ (Only.refl _ _) rfl
                  · intro a W L N hR hold hφ hcl hkp hd K hK
                    have e24 := got hφ (hd 7 (by kernel_rfl)) rfl rfl rfl
                    clear hold hφ hcl hkp hd
                    rw [if_pos (by rfl)]
                    go_simp
                    exact hK _ _ (Only.refl _ _) rfl
                  · intro a W L N hR hold hφ hcl hkp hd K hK
                    have e25 := got hφ (hd 8 (by kernel_rfl)) rfl rfl rfl
                    obtain ⟨x0, x2, x3, x4, xl, y0, y2, y3, y4, yl⟩ := Hcl.out W (Only.plus hdr hR)
                    clear hold hφ hcl hkp hd
                    rw [if_pos (by rfl)]
                    go_simp
                    exact hK _ _ (Only.refl _ _) rfl
                  · intro a W L N hR hold hφ hcl hkp hd K hK
                    have e21 := got hφ (hd 4 (by kernel_rfl)) rfl rfl rfl
                    have e26 := got hφ (hd 9 (by kernel_rfl)) rfl rfl rfl
                    clear hold hφ hcl hkp hd
                    rw [if_pos (by rfl)]
                    go_simp
                    exact hK _ _ (Only.refl _ _) rfl
                  · intro a W L N hR hold hφ hcl hkp hd K hK
                    have e27 := got hφ (hd 10 (by kernel_rfl)) rfl rfl rfl
                    clear hold hφ hcl hkp hd
                    rw [if_pos (by rfl)]
                    go_simp
                    exact hK _ _ (Only.refl _ _) rfl
                  · intro a W L N hR hold hφ hcl hkp hd K hK
                    have e0 := hold 0 (by kernel_rfl)
                    have e28 := got hφ (hd 11 (by kernel_rfl)) rfl rfl rfl
                    clear hold hφ hcl hkp hd
                    rw [if_pos (by simp [Region.wanted, yielded, e28])]
                    go_simp
                    exact hK _ _ (Only.refl _ _) rfl
                  · intro a W L N hR hold hφ hcl hkp hd K hK
                    have e5 := hold 5 (by kernel_rfl)
                    have e28 := got hφ (hd 11 (by kernel_rfl)) rfl rfl rfl
                    clear hold hφ hcl hkp hd
                    rw [if_pos (by simp [Region.wanted, yielded, e28])]
                    go_simp
                    exact hK _ _ (Only.refl _ _) rfl
                  · intro a W L N hR hold hφ hcl hkp hd K hK
                    have e29 := got hφ (hd 12 (by kernel_rfl)) rfl rfl rfl
                    have e30 := got hφ (hd 13 (by kernel_rfl)) rfl rfl rfl
                    have e28 := got hφ (hd 11 (by kernel_rfl)) rfl rfl rfl
                    clear hold hφ hcl hkp hd
                    rw [if_pos (by simp [Region.wanted, yielded, e28])]
                    go_simp
                    exact hK _ _ (Only.refl _ _) rfl
                  · intro a W L N hR hold hφ hcl hkp hd K hK
                    have e31 := got hφ (hd 14 (by kernel_rfl)) rfl rfl rfl
                    have e28 := got hφ (hd 11 (by kernel_rfl)) rfl rfl rfl
                    clear hold hφ hcl hkp hd
                    rw [if_pos (by simp [Region.wanted, yielded, e28])]
                    go_simp
                    exact hK _ _ (Only.refl _ _) rfl
                  · intro a W L N hR hold hφ hcl hkp hd K hK
                    have e32 := got hφ (hd 15 (by kernel_rfl)) rfl rfl rfl
                    have e28 := got hφ (hd 11 (by kernel_rfl)) rfl rfl rfl
                    obtain ⟨x0, x2, x3, x4, xl, y0, y2, y3, y4, yl⟩ := Hcl.out W (Only.plus hdr hR)
                    clear hold hφ hcl hkp hd
                    rw [if_pos (by simp [Region.wanted, yielded, e28])]
                    go_simp
                    exact hK _ _ (Only.refl _ _) rfl
                  · intro a W L N hR hold hφ hcl hkp hd K hK
                    have e1 := hold 1 (by kernel_rfl)
                    have e28 := got hφ (hd 11 (by kernel_rfl)) rfl rfl rfl
                    clear hold hφ hcl hkp hd
                    rw [if_pos (by simp [Region.wanted, yielded, e28])]
                    go_simp
                    exact hK _ _ (Only.refl _ _) rfl
                  · intro a W L N hR hold hφ hcl hkp hd K hK
                    have e5 := hold 5 (by kernel_rfl)
                    have e28 := got hφ (hd 11 (by kernel_rfl)) rfl rfl rfl
                    clear hold hφ hcl hkp hd
                    rw [if_pos (by simp [Region.wanted, yielded, e28])]
                    go_simp
                    exact hK _ _ (Only.refl _ _) rfl
                  · intro a W L N hR hold hφ hcl hkp hd K hK
                    have e34 := got hφ (hd 17 (by kernel_rfl)) rfl rfl rfl
                    have e35 := got hφ (hd 18 (by kernel_rfl)) rfl rfl rfl
                    have e28 := got hφ (hd 11 (by kernel_rfl)) rfl rfl rfl
                    clear hold hφ hcl hkp hd
                    rw [if_pos (by simp [Region.wanted, yielded, e28])]
                    go_simp
                    exact hK _ _ (Only.refl _ _) rfl
                  · intro a W L N hR hold hφ hcl hkp hd K hK
                    have e36 := got hφ (hd 19 (by kernel_rfl)) rfl rfl rfl
                    have e28 := got hφ (hd 11 (by kernel_rfl)) rfl rfl rfl
                    clear hold hφ hcl hkp hd
                    rw [if_pos (by simp [Region.wanted, yielded, e28])]
                    go_simp
                    exact hK _ _ (Only.refl _ _) rfl
                  · intro a W L N hR hold hφ hcl hkp hd K hK
                    have e37 := got hφ (hd 20 (by kernel_rfl)) rfl rfl rfl
                    have e28 := got hφ (hd 11 (by kernel_rfl)) rfl rfl rfl
                    obtain ⟨x0, x2, x3, x4, xl, y0, y2, y3, y4, yl⟩ := Hcl.out W (Only.plus hdr hR)
                    clear hold hφ hcl hkp hd
                    rw [if_pos (by simp [Region.wanted, yielded, e28])]
                    go_simp
                    exact hK _ _ (Only.refl _ _) rfl
                  · intro a W L N hR hold hφ hcl hkp hd K hK
                    have e33 := got hφ (hd 16 (by kernel_rfl)) rfl rfl rfl
                    have e38 := got hφ (hd 21 (by kernel_rfl)) rfl rfl rfl
                    have e28 := got hφ (hd 11 (by kernel_rfl)) rfl rfl rfl
                    clear hold hφ hcl hkp hd
                    rw [if_pos (by simp [Region.wanted, yielded, e28])]
                    go_simp
                    exact hK _ _ (Only.refl _ _) rfl
                  · intro a W L N hR hold hφ hcl hkp hd K hK
                    have e28 := got hφ (hd 11 (by kernel_rfl)) rfl rfl rfl
                    have e39 := got hφ (hd 22 (by kernel_rfl)) rfl rfl rfl
                    clear hold hφ hcl hkp hd
                    rw [if_pos (by rfl)]
                    go_simp
                    exact hK _ _ (Only.refl _ _) rfl
                  · intro a W L N hR hold hφ hcl hkp hd K hK
                    have e40 := got hφ (hd 23 (by kernel_rfl)) rfl rfl rfl
                    clear hold hφ hcl hkp hd
                    rw [if_pos (by rfl)]
                    go_simp
                    exact hK _ _ (Only.refl _ _) rfl
                  · intro a W L N hR hold hφ hcl hkp hd K hK
                    have e0 := hold 0 (by kernel_rfl)
                    have e41 := got hφ (hd 24 (by kernel_rfl)) rfl rfl rfl
                    clear hold hφ hcl hkp hd
                    rw [if_pos (by simp [Region.wanted, yielded, e41])]
                    go_simp
                    exact hK _ _ (Only.refl _ _) rfl
                  · intro a W L N hR hold hφ hcl hkp hd K hK
                    have e5 := hold 5 (by kernel_rfl)
                    have e41 := got hφ (hd 24 (by kernel_rfl)) rfl rfl rfl
                    clear hold hφ hcl hkp hd
                    rw [if_pos (by simp [Region.wanted, yielded, e41])]
                    go_simp
                    exact hK _ _ (Only.refl _ _) rfl
                  · intro a W L N hR hold hφ hcl hkp hd K hK
                    have e42 := got hφ (hd 25 (by kernel_rfl)) rfl rfl rfl
                    have e43 := got hφ (hd 26 (by kernel_rfl)) rfl rfl rfl
                    have e41 := got hφ (hd 24 (by kernel_rfl)) rfl rfl rfl
                    clear hold hφ hcl hkp hd
                    rw [if_pos (by simp [Region.wanted, yielded, e41])]
                    go_simp
                    exact hK _ _ (Only.refl _ _) rfl
                  · intro a W L N hR hold hφ hcl hkp hd K hK
                    have e44 := got hφ (hd 27 (by kernel_rfl)) rfl rfl rfl
                    have e41 := got hφ (hd 24 (by kernel_rfl)) rfl rfl rfl
                    clear hold hφ hcl hkp hd
                    rw [if_pos (by simp [Region.wanted, yielded, e41])]
                    go_simp
                    exact hK _ _ (Only.refl _ _) rfl
                  · intro a W L N hR hold hφ hcl hkp hd K hK
                    have e45 := got hφ (hd 28 (by kernel_rfl)) rfl rfl rfl
                    have e41 := got hφ (hd 24 (by kernel_rfl)) rfl rfl rfl
                    obtain ⟨x0, x2, x3, x4, xl, y0, y2, y3, y4, yl⟩ := Hcl.out W (Only.plus hdr hR)
                    clear hold hφ hcl hkp hd
                    rw [if_pos (by simp [Region.wanted, yielded, e41])]
                    go_simp
                    exact hK _ _ (Only.refl _ _) rfl
                  · intro a W L N hR hold hφ hcl hkp hd K hK
                    have e1 := hold 1 (by kernel_rfl)
                    have e41 := got hφ (hd 24 (by kernel_rfl)) rfl rfl rfl
                    clear hold hφ hcl hkp hd
                    rw [if_pos (by simp [Region.wanted, yielded, e41])]
                    go_simp
                    exact hK _ _ (Only.refl _ _) rfl
                  · intro a W L N hR hold hφ hcl hkp hd K hK
                    have e5 := hold 5 (by kernel_rfl)
                    have e41 := got hφ (hd 24 (by kernel_rfl)) rfl rfl rfl
                    clear hold hφ hcl hkp hd
                    rw [if_pos (by simp [Region.wanted, yielded, e41])]
                    go_simp
                    exact hK _ _ (Only.refl _ _) rfl
                  · intro a W L N hR hold hφ hcl hkp hd K hK
                    have e47 := got hφ (hd 30 (by kernel_rfl)) rfl rfl rfl
                    have e48 := got hφ (hd 31 (by kernel_rfl)) rfl rfl rfl
                    have e41 := got hφ (hd 24 (by kernel_rfl)) rfl rfl rfl
                    clear hold hφ hcl hkp hd
                    rw [if_pos (by simp [Region.wanted, yielded, e41])]
                    go_simp
                    exact hK _ _ (Only.refl _ _) rfl
                  · intro a W L N hR hold hφ hcl hkp hd K hK
                    have e49 := got hφ (hd 32 (by kernel_rfl)) rfl rfl rfl
                    have e41 := got hφ (hd 24 (by kernel_rfl)) rfl rfl rfl
                    clear hold hφ hcl hkp hd
                    rw [if_pos (by simp [Region.wanted, yielded, e41])]
                    go_simp
                    exact hK _ _ (Only.refl _ _) rfl
                  · intro a W L N hR hold hφ hcl hkp hd K hK
                    have e50 := got hφ (hd 33 (by kernel_rfl)) rfl rfl rfl
                    have e41 := got hφ (hd 24 (by kernel_rfl)) rfl rfl rfl
                    obtain ⟨x0, x2, x3, x4, xl, y0, y2, y3, y4, yl⟩ := Hcl.out W (Only.plus hdr hR)
                    clear hold hφ hcl hkp hd
                    rw [if_pos (by simp [Region.wanted, yielded, e41])]
                    go_simp
                    exact hK _ _ (Only.refl _ _) rfl
                  · intro a W L N hR hold hφ hcl hkp hd K hK
                    have e46 := got hφ (hd 29 (by kernel_rfl)) rfl rfl rfl
                    have e51 := got hφ (hd 34 (by kernel_rfl)) rfl rfl rfl
                    have e41 := got hφ (hd 24 (by kernel_rfl)) rfl rfl rfl
                    have hW := Only.plus hdr hR
                    clear hold hφ hcl hkp hd
                    rw [if_pos (by simp [Region.wanted, yielded, e41])]
                    go_simp
                    refine (HRA.out W hW).mono ?_
                    rintro e w' ⟨rfl, hO'⟩
                    exact hK _ _ hO' rfl
                  · intro a W L N hR hold hφ hcl hkp hd K hK
                    have e52 := got hφ (hd 35 (by kernel_rfl)) rfl rfl rfl
                    have e41 := got hφ (hd 24 (by kernel_rfl)) rfl rfl rfl
                    clear hold hφ hcl hkp hd
                    rw [if_pos (by simp [Region.wanted, yielded, e41])]
                    go_simp
                    exact hK _ _ (Only.refl _ _) rfl
                  · intro a W L N hR hold hφ hcl hkp hd K hK
                    have e41 := got hφ (hd 24 (by kernel_rfl)) rfl rfl rfl
                    have e53 := got hφ (hd 36 (by kernel_rfl)) rfl rfl rfl
                    clear hold hφ hcl hkp hd
                    rw [if_pos (by rfl)]
                    go_simp
                    exact hK _ _ (Only.refl _ _) rfl
                  · intro a W L N hR hold hφ hcl hkp hd K hK
                    have e54 := got hφ (hd 37 (by kernel_rfl)) rfl rfl rfl
                    clear hold hφ hcl hkp hd
                    rw [if_pos (by rfl)]
                    go_simp
                    exact hK _ _ (Only.refl _ _) rfl
                  · intro a W L N hR hold hφ hcl hkp hd K hK
                    have e0 := hold 0 (by kernel_rfl)
                    have e55 := got hφ (hd 38 (by kernel_rfl)) rfl rfl rfl
                    clear hold hφ hcl hkp hd
                    rw [if_pos (by simp [Region.wanted, yielded, e55])]
                    go_simp
                    exact hK _ _ (Only.refl _ _) rfl
                  · intro a W L N hR hold hφ hcl hkp hd K hK
                    have e5 := hold 5 (by kernel_rfl)
                    have e55 := got hφ (hd 38 (by kernel_rfl)) rfl rfl rfl
                    clear hold hφ hcl hkp hd
                    rw [if_pos (by simp [Region.wanted, yielded, e55])]
                    go_simp
                    exact hK _ _ (Only.refl _ _) rfl
                  · intro a W L N hR hold hφ hcl hkp hd K hK
                    have e56 := got hφ (hd 39 (by kernel_rfl)) rfl rfl rfl
                    have e57 := got hφ (hd 40 (by kernel_rfl)) rfl rfl rfl
                    have e55 := got hφ (hd 38 (by kernel_rfl)) rfl rfl rfl
                    clear hold hφ hcl hkp hd
                    rw [if_pos (by simp [Region.wanted, yielded, e55])]
                    go_simp
                    exact hK _ _ (Only.refl _ _) rfl
                  · intro a W L N hR hold hφ hcl hkp hd K hK
                    have e58 := got hφ (hd 41 (by kernel_rfl)) rfl rfl rfl
                    have e55 := got hφ (hd 38 (by kernel_rfl)) rfl rfl rfl
                    clear hold hφ hcl hkp hd
                    rw [if_pos (by simp [Region.wanted, yielded, e55])]
                    go_simp
                    exact hK _ _ (Only.refl _ _) rfl
                  · intro a W L N hR hold hφ hcl hkp hd K hK
                    have e59 := got hφ (hd 42 (by kernel_rfl)) rfl rfl rfl
                    have e55 := got hφ (hd 38 (by kernel_rfl)) rfl rfl rfl
                    obtain ⟨x0, x2, x3, x4, xl, y0, y2, y3, y4, yl⟩ := Hcl.out W (Only.plus hdr hR)
                    clear hold hφ hcl hkp hd
                    rw [if_pos (by simp [Region.wanted, yielded, e55])]
                    go_simp
                    exact hK _ _ (Only.refl _ _) rfl
                  · intro a W L N hR hold hφ hcl hkp hd K hK
                    have e1 := hold 1 (by kernel_rfl)
                    have e55 := got hφ (hd 38 (by kernel_rfl)) rfl rfl rfl
                    clear hold hφ hcl hkp hd
                    rw [if_pos (by simp [Region.wanted, yielded, e55])]
                    go_simp
                    exact hK _ _ (Only.refl _ _) rfl
                  · intro a W L N hR hold hφ hcl hkp hd K hK
                    have e5 := hold 5 (by kernel_rfl)
                    have e55 := got hφ (hd 38 (by kernel_rfl)) rfl rfl rfl
                    clear hold hφ hcl hkp hd
                    rw [if_pos (by simp [Region.wanted, yielded, e55])]
                    go_simp
                    exact hK _ _ (Only.refl _ _) rfl
                  · intro a W L N hR hold hφ hcl hkp hd K hK
                    have e61 := got hφ (hd 44 (by kernel_rfl)) rfl rfl rfl
                    have e62 := got hφ (hd 45 (by kernel_rfl)) rfl rfl rfl
                    have e55 := got hφ (hd 38 (by kernel_rfl)) rfl rfl rfl
                    clear hold hφ hcl hkp hd
                    rw [if_pos (by simp [Region.wanted, yielded, e55])]
                    go_simp
                    exact hK _ _ (Only.refl _ _) rfl
                  · intro a W L N hR hold hφ hcl hkp hd K hK
                    have e63 := got hφ (hd 46 (by kernel_rfl)) rfl rfl rfl
                    have e55 := got hφ (hd 38 (by kernel_rfl)) rfl rfl rfl
                    clear hold hφ hcl hkp hd
                    rw [if_pos (by simp [Region.wanted, yielded, e55])]
                    go_simp
                    exact hK _ _ (Only.refl _ _) rfl
                  · intro a W L N hR hold hφ hcl hkp hd K hK
                    have e64 := got hφ (hd 47 (by kernel_rfl)) rfl rfl rfl
                    have e55 := got hφ (hd 38 (by kernel_rfl)) rfl rfl rfl
                    obtain ⟨x0, x2, x3, x4, xl, y0, y2, y3, y4, yl⟩ := Hcl.out W (Only.plus hdr hR)
                    clear hold hφ hcl hkp hd
                    rw [if_pos (by simp [Region.wanted, yielded, e55])]
                    go_simp
                    exact hK _ _ (Only.refl _ _) rfl
                  · intro a W L N hR hold hφ hcl hkp hd K hK
                    have e60 := got hφ (hd 43 (by kernel_rfl)) rfl rfl rfl
                    have e65 := got hφ (hd 48 (by kernel_rfl)) rfl rfl rfl
                    have e55 := got hφ (hd 38 (by kernel_rfl)) rfl rfl rfl
                    have hW := Only.plus hdr hR
                    clear hold hφ hcl hkp hd
                    rw [if_pos (by simp [Region.wanted, yielded, e55])]
                    go_simp
                    refine (HRB.out W hW).mono ?_
                    rintro e w' ⟨rfl, hO'⟩
                    exact hK _ _ hO' rfl
                  · intro a W L N hR hold hφ hcl hkp hd K hK
                    have e66 := got hφ (hd 49 (by kernel_rfl)) rfl rfl rfl
                    have e55 := got hφ (hd 38 (by kernel_rfl)) rfl rfl rfl
                    clear hold hφ hcl hkp hd
                    rw [if_pos (by simp [Region.wanted, yielded, e55])]
                    go_simp
                    exact hK _ _ (Only.refl _ _) rfl
                  · intro a W L N hR hold hφ hcl hkp hd K hK
                    have e55 := got hφ (hd 38 (by kernel_rfl)) rfl rfl rfl
                    have e67 := got hφ (hd 50 (by kernel_rfl)) rfl rfl rfl
                    clear hold hφ hcl hkp hd
                    rw [if_pos (by rfl)]
                    go_simp
                    exact hK _ _ (Only.refl _ _) rfl
                · intro us W hO' hus
                  have p51 : us 51 = .bool (!rb) := hus 51 _ 68 (by omega) rfl rfl
                  clear hus
                  simp only [List.take_succ_cons, List.take_zero, List.drop_succ_cons, List.drop_zero, fillAct, Act.put, List.setIfInBounds_toArray, List.set_cons_zero, List.set_cons_succ, Nat.reduceAdd, p51]
                  clear p51
                  have HO4 := Lib.hid (Only.plus (HO.out.plus hdr) hO')
                  clear hO'
                  cases rb with
                  | false =>
                    go_wp2
                    go_ret
                    exact ⟨by rw [HR3.out]; rfl, HO4.out⟩
                  | true =>
                    go_wp2
                    go_roundg rr.len
                    case measure => simp only [Blk.len] at hgk; omega
                    case rel =>
                      refine ⟨j + 1, rr, rr', xr', yr', fr', gr', by go_num, Nat.le_refl _, by simp only [Blk.len] at hjl; omega, by simp only [Blk.len] at hll2; omega, hcc.2.2, HEs.out.1, HEs.out.2, fun h => ⟨gx, rfl, hgx, fun i u hu => ?_⟩, fun h => ⟨gy, rfl, hgy, fun i u hu => ?_⟩, Lib.hid (by rw [HR3.out]; rfl), HO4.out⟩
                      · have := Hrx.out i u hu
                        rw [show (j + 1) * 5 + i = j * 5 + (i + 5) by omega]
                        exact this
                      · have := Hry.out i u hu
                        rw [show (j + 1) * 5 + i = j * 5 + (i + 5) by omega]
                        exact this
              | false =>
                go_upto_region 6 with fail
                refine wp_region_stabL (P := Tryz.prog) 52 (by kernel_rfl) (by kernel_rfl) (Only []) (Only.refl _ _) (fun _ _ _ h k => h.then k [] (by simp) (by simp))
                  [SP.is (.slice (some ⟨gx, 0, none⟩) X.len c),
                   SP.is (.int .i64 j),
                   SP.is (.pointer (some ⟨gx, j * 5, none⟩)),
                   SP.is (.pointer (some ⟨gx, j * 5, none⟩)),
                   SP.is (.int .i64 kd),
                   SP.is (.slice (some ⟨gy, 0, none⟩) Y.len c2),
                   SP.is (.int .i64 j),
                   SP.is (.pointer (some ⟨gy, j * 5, none⟩)),
                   SP.is (.pointer (some ⟨gy, j * 5, none⟩)),
                   SP.is (.int .i64 kd),
                   SP.is (.bool false),
                   SP.is (.bool false),
                   SP.is (.slice (some ⟨gx, 0, none⟩) X.len c),
                   SP.is (.int .i64 j),
                   SP.is (.pointer (some ⟨gx, j * 5, none⟩)),
                   SP.is (.pointer (some ⟨gx, j * 5 + 2, none⟩)),
                   SP.is (.string ⟨nm.toArray⟩),
                   SP.is (.slice (some ⟨gy, 0, none⟩) Y.len c2),
                   SP.is (.int .i64 j),
                   SP.is (.pointer (some ⟨gy, j * 5, none⟩)),
                   SP.is (.pointer (some ⟨gy, j * 5 + 2, none⟩)),
                   SP.is (.string ⟨nm.toArray⟩),
                   SP.is (.bool false),
                   SP.is (.bool false),
                   SP.is (.bool false),
                   SP.is (.slice (some ⟨gx, 0, none⟩) X.len c),
                   SP.is (.int .i64 j),
                   SP.is (.pointer (some ⟨gx, j * 5, none⟩)),
                   SP.is (.pointer (some ⟨gx, j * 5 + 3, none⟩)),
                   SP.is (.slice aa A.len ca),
                   SP.is (.slice (some ⟨gy, 0, none⟩) Y.len c2),
                   SP.is (.int .i64 j),
                   SP.is (.pointer (some ⟨gy, j * 5, none⟩)),
                   SP.is (.pointer (some ⟨gy, j * 5 + 3, none⟩)),
                   SP.is (.slice aa' A'.len ca'),
                   SP.is (.bool false),
                   SP.is (.bool true),
                   SP.is (.bool true),
                   SP.is (.bool true),
                   SP.is (undef),
                   SP.is (undef),
                   SP.is (undef),
                   SP.is (undef),
                   SP.is (undef),
                   SP.is (undef),
                   SP.is (undef),
                   SP.is (undef),
                   SP.is (undef),
                   SP.is (undef),
                   SP.is (undef),
                   SP.is (undef),
                   SP.is (.bool true)] ?_ ?_
                · simp only [List.take_succ_cons, List.take_zero]
                  refine StepsOK.cons ?_ (StepsOK.cons ?_ (StepsOK.cons ?_ (StepsOK.cons ?_ (StepsOK.cons ?_ (StepsOK.cons ?_ (StepsOK.cons ?_ (StepsOK.cons ?_ (StepsOK.cons ?_ (StepsOK.cons ?_ (StepsOK.cons ?_ (StepsOK.cons ?_ (StepsOK.cons ?_ (StepsOK.cons ?_ (StepsOK.cons ?_ (StepsOK.cons ?_ (StepsOK.cons ?_ (StepsOK.cons ?_ (StepsOK.cons ?_ (StepsOK.cons ?_ (StepsOK.cons ?_ (StepsOK.cons ?_ (StepsOK.cons ?_ (StepsOK.cons ?_ (StepsOK.cons ?_ (StepsOK.cons ?_ (StepsOK.cons ?_ (StepsOK.cons ?_ (StepsOK.cons ?_ (StepsOK.cons ?_ (StepsOK.cons ?_ (StepsOK.cons ?_ (StepsOK.cons ?_ (StepsOK.cons ?_ (StepsOK.cons ?_ (StepsOK.cons ?_ (StepsOK.cons ?_ (StepsOK.cons ?_ (StepsOK.cons ?_ (StepsOK.cons ?_ (StepsOK.cons ?_ (StepsOK.cons ?_ (StepsOK.cons ?_ (StepsOK.cons ?_ (StepsOK.cons ?_ (StepsOK.cons ?_ (StepsOK.cons ?_ (StepsOK.cons ?_ (StepsOK.cons ?_ (StepsOK.cons ?_ (StepsOK.cons ?_ (StepsOK.cons ?_ StepsOK.nil)))))))))))))))))))))))))))))))))))))))))))))))))))
                  · intro a W L N hR hold hφ hcl hkp hd K hK
                    have e0 := hold 0 (by kernel_rfl)
                    clear hold hφ hcl hkp hd
                    rw [if_pos (by rfl)]
                    go_simp
                    exact hK _ _ (Only.refl _ _) rfl
                  · intro a W L N hR hold hφ hcl hkp hd K hK
                    have e5 := hold 5 (by kernel_rfl)
                    clear hold hφ hcl hkp hd
                    rw [if_pos (by rfl)]
                    go_simp
                    exact hK _ _ (Only.refl _ _) rfl
                  · intro a W L N hR hold hφ hcl hkp hd K hK
                    have e17 := got hφ (hd 0 (by kernel_rfl)) rfl rfl rfl
                    have e18 := got hφ (hd 1 (by kernel_rfl)) rfl rfl rfl
                    clear hold hφ hcl hkp hd
                    rw [if_pos (by rfl)]
                    go_simp
                    exact hK _ _ (Only.refl _ _) rfl
                  · intro a W L N hR hold hφ hcl hkp hd K hK
                    have e19 := got hφ (hd 2 (by kernel_rfl)) rfl rfl rfl
                    clear hold hφ hcl hkp hd
                    rw [if_pos (by rfl)]
                    go_simp
                    exact hK _ _ (Only.refl _ _) rfl
                  · intro a W L N hR hold hφ hcl hkp hd K hK
                    have e20 := got hφ (hd 3 (by kernel_rfl)) rfl rfl rfl
                    obtain ⟨x0, x2, x3, x4, xl, y0, y2, y3, y4, yl⟩ := Hcl.out W (Only.plus hdr hR)
                    clear hold hφ hcl hkp hd
                    rw [if_pos (by rfl)]
                    go_simp
                    exact hK _ _ (Only.refl _ _) rfl
                  · intro a W L N hR hold hφ hcl hkp hd K hK
                    have e1 := hold 1 (by kernel_rfl)
                    clear hold hφ hcl hkp hd
                    rw [if_pos (by rfl)]
                    go_simp
                    exact hK _ _ (Only.refl _ _) rfl
                  · intro a W L N hR hold hφ hcl hkp hd K hK
                    have e5 := hold 5 (by kernel_rfl)
                    clear hold hφ hcl hkp hd
                    rw [if_pos (by rfl)]
                    go_simp
                    exact hK _ _ (Only.refl _ _) rfl
                  · intro a W L N hR hold hφ hcl hkp hd K hK
                    have e22 := got hφ (hd 5 (by kernel_rfl)) rfl rfl rfl
                    have e23 := got hφ (hd 6 (by kernel_rfl)) rfl rfl rfl
                    clear hold hφ hcl hkp hd
                    rw [if_pos (by rfl)]
                    go_simp
                    exact hK _ _ (Only.refl _ _) rfl
                  · intro a W L N hR hold hφ hcl hkp hd K hK
                    have e24 := got hφ (hd 7 (by kernel_rfl)) rfl rfl rfl
                    clear hold hφ hcl hkp hd
                    rw [if_pos (by rfl)]
                    go_simp
                    exact hK _ _ (Only.refl _ _) rfl
                  · intro a W L N hR hold hφ hcl hkp hd K hK
                    have e25 := got hφ (hd 8 (by kernel_rfl)) rfl rfl rfl
                    obtain ⟨x0, x2, x3, x4, xl, y0, y2, y3, y4, yl⟩ := Hcl.out W (Only.plus hdr hR)
                    clear hold hφ hcl hkp hd
                    rw [if_pos (by rfl)]
                    go_simp
                    exact hK _ _ (Only.refl _ _) rfl
                  · intro a W L N hR hold hφ hcl hkp hd K hK
                    have e21 := got hφ (hd 4 (by kernel_rfl)) rfl rfl rfl
                    have e26 := got hφ (hd 9 (by kernel_rfl)) rfl rfl rfl
                    clear hold hφ hcl hkp hd
                    rw [if_pos (by rfl)]
                    go_simp
                    exact hK _ _ (Only.refl _ _) rfl
                  · intro a W L N hR hold hφ hcl hkp hd K hK
                    have e27 := got hφ (hd 10 (by kernel_rfl)) rfl rfl rfl
                    clear hold hφ hcl hkp hd
                    rw [if_pos (by rfl)]
                    go_simp
                    exact hK _ _ (Only.refl _ _) rfl
                  · intro a W L N hR hold hφ hcl hkp hd K hK
                    have e0 := hold 0 (by kernel_rfl)
                    have e28 := got hφ (hd 11 (by kernel_rfl)) rfl rfl rfl
                    clear hold hφ hcl hkp hd
                    rw [if_pos (by simp [Region.wanted, yielded, e28])]
                    go_simp
                    exact hK _ _ (Only.refl _ _) rfl
                  · intro a W L N hR hold hφ hcl hkp hd K hK
                    have e5 := hold 5 (by kernel_rfl)
                    have e28 := got hφ (hd 11 (by kernel_rfl)) rfl rfl rfl
                    clear hold hφ hcl hkp hd
                    rw [if_pos (by simp [Region.wanted, yielded, e28])]
                    go_simp
                    exact hK _ _ (Only.refl _ _) rfl
                  · intro a W L N hR hold hφ hcl hkp hd K hK
                    have e29 := got hφ (hd 12 (by kernel_rfl)) rfl rfl rfl
                    have e30 := got hφ (hd 13 (by kernel_rfl)) rfl rfl rfl
                    have e28 := got hφ (hd 11 (by kernel_rfl)) rfl rfl rfl
                    clear hold hφ hcl hkp hd
                    rw [if_pos (by simp [Region.wanted, yielded, e28])]
                    go_simp
                    exact hK _ _ (Only.refl _ _) rfl
                  · intro a W L N hR hold hφ hcl hkp hd K hK
                    have e31 := got hφ (hd 14 (by kernel_rfl)) rfl rfl rfl
                    have e28 := got hφ (hd 11 (by kernel_rfl)) rfl rfl rfl
                    clear hold hφ hcl hkp hd
                    rw [if_pos (by simp [Region.wanted, yielded, e28])]
                    go_simp
                    exact hK _ _ (Only.refl _ _) rfl
                  · intro a W L N hR hold hφ hcl hkp hd K hK
                    have e32 := got hφ (hd 15 (by kernel_rfl)) rfl rfl rfl
                    have e28 := got hφ (hd 11 (by kernel_rfl)) rfl rfl rfl
                    obtain ⟨x0, x2, x3, x4, xl, y0, y2, y3, y4, yl⟩ := Hcl.out W (Only.plus hdr hR)
                    clear hold hφ hcl hkp hd
                    rw [if_pos (by simp [Region.wanted, yielded, e28])]
                    go_simp
                    exact hK _ _ (Only.refl _ _) rfl
                  · intro a W L N hR hold hφ hcl hkp hd K hK
                    have e1 := hold 1 (by kernel_rfl)
                    have e28 := got hφ (hd 11 (by kernel_rfl)) rfl rfl rfl
                    clear hold hφ hcl hkp hd
                    rw [if_pos (by simp [Region.wanted, yielded, e28])]
                    go_simp
                    exact hK _ _ (Only.refl _ _) rfl
                  · intro a W L N hR hold hφ hcl hkp hd K hK
                    have e5 := hold 5 (by kernel_rfl)
                    have e28 := got hφ (hd 11 (by kernel_rfl)) rfl rfl rfl
                    clear hold hφ hcl hkp hd
                    rw [if_pos (by simp [Region.wanted, yielded, e28])]
                    go_simp
                    exact hK _ _ (Only.refl _ _) rfl
                  · intro a W L N hR hold hφ hcl hkp hd K hK
                    have e34 := got hφ (hd 17 (by kernel_rfl)) rfl rfl rfl
                    have e35 := got hφ (hd 18 (by kernel_rfl)) rfl rfl rfl
                    have e28 := got hφ (hd 11 (by kernel_rfl)) rfl rfl rfl
                    clear hold hφ hcl hkp hd
                    rw [if_pos (by simp [Region.wanted, yielded, e28])]
                    go_simp
                    exact hK _ _ (Only.refl _ _) rfl
                  · intro a W L N hR hold hφ hcl hkp hd K hK
                    have e36 := got hφ (hd 19 (by kernel_rfl)) rfl rfl rfl
                    have e28 := got hφ (hd 11 (by kernel_rfl)) rfl rfl rfl
                    clear hold hφ hcl hkp hd
                    rw [if_pos (by simp [Region.wanted, yielded, e28])]
                    go_simp
                    exact hK _ _ (Only.refl _ _) rfl
                  · intro a W L N hR hold hφ hcl hkp hd K hK
                    have e37 := got hφ (hd 20 (by kernel_rfl)) rfl rfl rfl
                    have e28 := got hφ (hd 11 (by kernel_rfl)) rfl rfl rfl
                    obtain ⟨x0, x2, x3, x4, xl, y0, y2, y3, y4, yl⟩ := Hcl.out W (Only.plus hdr hR)
                    clear hold hφ hcl hkp hd
                    rw [if_pos (by simp [Region.wanted, yielded, e28])]
                    go_simp
                    exact hK _ _ (Only.refl _ _) rfl
                  · intro a W L N hR hold hφ hcl hkp hd K hK
                    have e33 := got hφ (hd 16 (by kernel_rfl)) rfl rfl rfl
                    have e38 := got hφ (hd 21 (by kernel_rfl)) rfl rfl rfl
                    have e28 := got hφ (hd 11 (by kernel_rfl)) rfl rfl rfl
                    clear hold hφ hcl hkp hd
                    rw [if_pos (by simp [Region.wanted, yielded, e28])]
                    go_simp
                    exact hK _ _ (Only.refl _ _) rfl
                  · intro a W L N hR hold hφ hcl hkp hd K hK
                    have e28 := got hφ (hd 11 (by kernel_rfl)) rfl rfl rfl
                    have e39 := got hφ (hd 22 (by kernel_rfl)) rfl rfl rfl
                    clear hold hφ hcl hkp hd
                    rw [if_pos (by rfl)]
                    go_simp
                    exact hK _ _ (Only.refl _ _) rfl
                  · intro a W L N hR hold hφ hcl hkp hd K hK
                    have e40 := got hφ (hd 23 (by kernel_rfl)) rfl rfl rfl
                    clear hold hφ hcl hkp hd
                    rw [if_pos (by rfl)]
                    go_simp
                    exact hK _ _ (Only.refl _ _) rfl
                  · intro a W L N hR hold hφ hcl hkp hd K hK
                    have e0 := hold 0 (by kernel_rfl)
                    have e41 := got hφ (hd 24 (by kernel_rfl)) rfl rfl rfl
                    clear hold hφ hcl hkp hd
                    rw [if_pos (by simp [Region.wanted, yielded, e41])]
                    go_simp
                    exact hK _ _ (Only.refl _ _) rfl
                  · intro a W L N hR hold hφ hcl hkp hd K hK
                    have e5 := hold 5 (by kernel_rfl)
                    have e41 := got hφ (hd 24 (by kernel_rfl)) rfl rfl rfl
                    clear hold hφ hcl hkp hd
                    rw [if_pos (by simp [Region.wanted, yielded, e41])]
                    go_simp
                    exact hK _ _ (Only.refl _ _) rfl
                  · intro a W L N hR hold hφ hcl hkp hd K hK
                    have e42 := got hφ (hd 25 (by kernel_rfl)) rfl rfl rfl
                    have e43 := got hφ (hd 26 (by kernel_rfl)) rfl rfl rfl
                    have e41 := got hφ (hd 24 (by kernel_rfl)) rfl rfl rfl
                    clear hold hφ hcl hkp hd
                    rw [if_pos (by simp [Region.wanted, yielded, e41])]
                    go_simp
                    exact hK _ _ (Only.refl _ _) rfl
                  · intro a W L N hR hold hφ hcl hkp hd K hK
                    have e44 := got hφ (hd 27 (by kernel_rfl)) rfl rfl rfl
                    have e41 := got hφ (hd 24 (by kernel_rfl)) rfl rfl rfl
                    clear hold hφ hcl hkp hd
                    rw [if_pos (by simp [Region.wanted, yielded, e41])]
                    go_simp
                    exact hK _ _ (Only.refl _ _) rfl
                  · intro a W L N hR hold hφ hcl hkp hd K hK
                    have e45 := got hφ (hd 28 (by kernel_rfl)) rfl rfl rfl
                    have e41 := got hφ (hd 24 (by kernel_rfl)) rfl rfl rfl
                    obtain ⟨x0, x2, x3, x4, xl, y0, y2, y3, y4, yl⟩ := Hcl.out W (Only.plus hdr hR)
                    clear hold hφ hcl hkp hd
                    rw [if_pos (by simp [Region.wanted, yielded, e41])]
                    go_simp
                    exact hK _ _ (Only.refl _ _) rfl
                  · intro a W L N hR hold hφ hcl hkp hd K hK
                    have e1 := hold 1 (by kernel_rfl)
                    have e41 := got hφ (hd 24 (by kernel_rfl)) rfl rfl rfl
                    clear hold hφ hcl hkp hd
                    rw [if_pos (by simp [Region.wanted, yielded, e41])]
                    go_simp
                    exact hK _ _ (Only.refl _ _) rfl
                  · intro a W L N hR hold hφ hcl hkp hd K hK
                    have e5 := hold 5 (by kernel_rfl)
                    have e41 := got hφ (hd 24 (by kernel_rfl)) rfl rfl rfl
                    clear hold hφ hcl hkp hd
                    rw [if_pos (by simp [Region.wanted, yielded, e41])]
                    go_simp
                    exact hK _ _ (Only.refl _ _) rfl
                  · intro a W L N hR hold hφ hcl hkp hd K hK
                    have e47 := got hφ (hd 30 (by kernel_rfl)) rfl rfl rfl
                    have e48 := got hφ (hd 31 (by kernel_rfl)) rfl rfl rfl
                    have e41 := got hφ (hd 24 (by kernel_rfl)) rfl rfl rfl
                    clear hold hφ hcl hkp hd
                    rw [if_pos (by simp [Region.wanted, yielded, e41])]
                    go_simp
                    exact hK _ _ (Only.refl _ _) rfl
                  · intro a W L N hR hold hφ hcl hkp hd K hK
                    have e49 := got hφ (hd 32 (by kernel_rfl)) rfl rfl rfl
                    have e41 := got hφ (hd 24 (by kernel_rfl)) rfl rfl rfl
                    clear hold hφ hcl hkp hd
                    rw [if_pos (by simp [Region.wanted, yielded, e41])]
                    go_simp
                    exact hK _ _ (Only.refl _ _) rfl
                  · intro a W L N hR hold hφ hcl hkp hd K hK
                    have e50 := got hφ (hd 33 (by kernel_rfl)) rfl rfl rfl
                    have e41 := got hφ (hd 24 (by kernel_rfl)) rfl rfl rfl
                    obtain ⟨x0, x2, x3, x4, xl, y0, y2, y3, y4, yl⟩ := Hcl.out W (Only.plus hdr hR)
                    clear hold hφ hcl hkp hd
                    rw [if_pos (by simp [Region.wanted, yielded, e41])]
                    go_simp
                    exact hK _ _ (Only.refl _ _) rfl
                  · intro a W L N hR hold hφ hcl hkp hd K hK
                    have e46 := got hφ (hd 29 (by kernel_rfl)) rfl rfl rfl
                    have e51 := got hφ (hd 34 (by kernel_rfl)) rfl rfl rfl
                    have e41 := got hφ (hd 24 (by kernel_rfl)) rfl rfl rfl
                    have hW := Only.plus hdr hR
                    clear hold hφ hcl hkp hd
                    rw [if_pos (by simp [Region.wanted, yielded, e41])]
                    go_simp
                    refine (HRA.out W hW).mono ?_
                    rintro e w' ⟨rfl, hO'⟩
                    exact hK _ _ hO' rfl
                  · intro a W L N hR hold hφ hcl hkp hd K hK
                    have e52 := got hφ (hd 35 (by kernel_rfl)) rfl rfl rfl
                    have e41 := got hφ (hd 24 (by kernel_rfl)) rfl rfl rfl
                    clear hold hφ hcl hkp hd
                    rw [if_pos (by simp [Region.wanted, yielded, e41])]
                    go_simp
                    exact hK _ _ (Only.refl _ _) rfl
                  · intro a W L N hR hold hφ hcl hkp hd K hK
                    have e41 := got hφ (hd 24 (by kernel_rfl)) rfl rfl rfl
                    have e53 := got hφ (hd 36 (by kernel_rfl)) rfl rfl rfl
                    clear hold hφ hcl hkp hd
                    rw [if_pos (by rfl)]
                    go_simp
                    exact hK _ _ (Only.refl _ _) rfl
                  · intro a W L N hR hold hφ hcl hkp hd K hK
                    have e54 := got hφ (hd 37 (by kernel_rfl)) rfl rfl rfl
                    clear hold hφ hcl hkp hd
                    rw [if_pos (by rfl)]
                    go_simp
                    exact hK _ _ (Only.refl _ _) rfl
                  · intro a W L N hR hold hφ hcl hkp hd K hK
                    have e0 := hold 0 (by kernel_rfl)
                    have e55 := got hφ (hd 38 (by kernel_rfl)) rfl rfl rfl
                    clear hold hφ hcl hkp hd
                    rw [if_neg (by simp [Region.wanted, yielded, e55])]
                    exact hK _ _ (Only.refl _ _) rfl
                  · intro a W L N hR hold hφ hcl hkp hd K hK
                    have e5 := hold 5 (by kernel_rfl)
                    have e55 := got hφ (hd 38 (by kernel_rfl)) rfl rfl rfl
                    clear hold hφ hcl hkp hd
                    rw [if_neg (by simp [Region.wanted, yielded, e55])]
                    exact hK _ _ (Only.refl _ _) rfl
                  · intro a W L N hR hold hφ hcl hkp hd K hK
                    have e56 := got hφ (hd 39 (by kernel_rfl)) rfl rfl rfl
                    have e57 := got hφ (hd 40 (by kernel_rfl)) rfl rfl rfl
                    have e55 := got hφ (hd 38 (by kernel_rfl)) rfl rfl rfl
                    clear hold hφ hcl hkp hd
                    rw [if_neg (by simp [Region.wanted, yielded, e55])]
                    exact hK _ _ (Only.refl _ _) rfl
                  · intro a W L N hR hold hφ hcl hkp hd K hK
                    have e58 := got hφ (hd 41 (by kernel_rfl)) rfl rfl rfl
                    have e55 := got hφ (hd 38 (by kernel_rfl)) rfl rfl rfl
                    clear hold hφ hcl hkp hd
                    rw [if_neg (by simp [Region.wanted, yielded, e55])]
                    exact hK _ _ (Only.refl _ _) rfl
                  · intro a W L N hR hold hφ hcl hkp hd K hK
                    have e59 := got hφ (hd 42 (by kernel_rfl)) rfl rfl rfl
                    have e55 := got hφ (hd 38 (by kernel_rfl)) rfl rfl rfl
                    clear hold hφ hcl hkp hd
                    rw [if_neg (by simp [Region.wanted, yielded, e55])]
                    exact hK _ _ (Only.refl _ _) rfl
                  · intro a W L N hR hold hφ hcl hkp hd K hK
                    have e1 := hold 1 (by kernel_rfl)
                    have e55 := got hφ (hd 38 (by kernel_rfl)) rfl rfl rfl
                    clear hold hφ hcl hkp hd
                    rw [if_neg (by simp [Region.wanted, yielded, e55])]
                    exact hK _ _ (Only.refl _ _) rfl
                  · intro a W L N hR hold hφ hcl hkp hd K hK
                    have e5 := hold 5 (by kernel_rfl)
                    have e55 := got hφ (hd 38 (by kernel_rfl)) rfl rfl rfl
                    clear hold hφ hcl hkp hd
                    rw [if_neg (by simp [Region.wanted, yielded, e55])]
                    exact hK _ _ (Only.refl _ _) rfl
                  · intro a W L N hR hold hφ hcl hkp hd K hK
                    have e61 := got hφ (hd 44 (by kernel_rfl)) rfl rfl rfl
                    have e62 := got hφ (hd 45 (by kernel_rfl)) rfl rfl rfl
                    have e55 := got hφ (hd 38 (by kernel_rfl)) rfl rfl rfl
                    clear hold hφ hcl hkp hd
                    rw [if_neg (by simp [Region.wanted, yielded, e55])]
                    exact hK _ _ (Only.refl _ _) rfl
                  · intro a W L N hR hold hφ hcl hkp hd K hK
                    have e63 := got hφ (hd 46 (by kernel_rfl)) rfl rfl rfl
                    have e55 := got hφ (hd 38 (by kernel_rfl)) rfl rfl rfl
                    clear hold hφ hcl hkp hd
                    rw [if_neg (by simp [Region.wanted, yielded, e55])]
                    exact hK _ _ (Only.refl _ _) rfl
                  · intro a W L N hR hold hφ hcl hkp hd K hK
                    have e64 := got hφ (hd 47 (by kernel_rfl)) rfl rfl rfl
                    have e55 := got hφ (hd 38 (by kernel_rfl)) rfl rfl rfl
                    clear hold hφ hcl hkp hd
                    rw [if_neg (by simp [Region.wanted, yielded, e55])]
                    exact hK _ _ (Only.refl _ _) rfl
                  · intro a W L N hR hold hφ hcl hkp hd K hK
                    have e60 := got hφ (hd 43 (by kernel_rfl)) rfl rfl rfl
                    have e65 := got hφ (hd 48 (by kernel_rfl)) rfl rfl rfl
                    have e55 := got hφ (hd 38 (by kernel_rfl)) rfl rfl rfl
                    clear hold hφ hcl hkp hd
                    rw [if_neg (by simp [Region.wanted, yielded, e55])]
                    exact hK _ _ (Only.refl _ _) rfl
                  · intro a W L N hR hold hφ hcl hkp hd K hK
                    have e66 := got hφ (hd 49 (by kernel_rfl)) rfl rfl rfl
                    have e55 := got hφ (hd 38 (by kernel_rfl)) rfl rfl rfl
                    clear hold hφ hcl hkp hd
                    rw [if_neg (by simp [Region.wanted, yielded, e55])]
                    exact hK _ _ (Only.refl _ _) rfl
                  · intro a W L N hR hold hφ hcl hkp hd K hK
                    have e55 := got hφ (hd 38 (by kernel_rfl)) rfl rfl rfl
                    have e67 := got hφ (hd 50 (by kernel_rfl)) rfl rfl rfl
                    clear hold hφ hcl hkp hd
                    rw [if_pos (by rfl)]
                    go_simp
                    exact hK _ _ (Only.refl _ _) rfl
                · intro us W hO' hus
                  have p51 : us 51 = .bool true := hus 51 _ 68 (by omega) rfl rfl
                  clear hus
                  simp only [List.take_succ_cons, List.take_zero, List.drop_succ_cons, List.drop_zero, fillAct, Act.put, List.setIfInBounds_toArray, List.set_cons_zero, List.set_cons_succ, Nat.reduceAdd, p51]
                  clear p51
                  have HO4 := Lib.hid (Only.plus (HO.out.plus hdr) hO')
                  clear hO'
                  go_wp2
                  go_ret
                  exact ⟨by rw [HR3.out]; rfl, HO4.out⟩
            · have hnn : (nm == nm') = false := by simp [hn]
              have HR2 : Hid (R = false) := Lib.hid (by rw [HRv.out]; simp [hn])
              go_upto_region 6 with fail
              refine wp_region_stabL (P := Tryz.prog) 52 (by kernel_rfl) (by kernel_rfl) (Only []) (Only.refl _ _) (fun _ _ _ h k => h.then k [] (by simp) (by simp))
                [SP.is (.slice (some ⟨gx, 0, none⟩) X.len c),
                 SP.is (.int .i64 j),
                 SP.is (.pointer (some ⟨gx, j * 5, none⟩)),
                 SP.is (.pointer (some ⟨gx, j * 5, none⟩)),
                 SP.is (.int .i64 kd),
                 SP.is (.slice (some ⟨gy, 0, none⟩) Y.len c2),
                 SP.is (.int .i64 j),
                 SP.is (.pointer (some ⟨gy, j * 5, none⟩)),
                 SP.is (.pointer (some ⟨gy, j * 5, none⟩)),
                 SP.is (.int .i64 kd),
                 SP.is (.bool false),
                 SP.is (.bool false),
                 SP.is (.slice (some ⟨gx, 0, none⟩) X.len c),
                 SP.is (.int .i64 j),
                 SP.is (.pointer (some ⟨gx, j * 5, none⟩)),
                 SP.is (.pointer (some ⟨gx, j * 5 + 2, none⟩)),
                 SP.is (.string ⟨nm.toArray⟩),
                 SP.is (.slice (some ⟨gy, 0, none⟩) Y.len c2),
                 SP.is (.int .i64 j),
                 SP.is (.pointer (some ⟨gy, j * 5, none⟩)),
                 SP.is (.pointer (some ⟨gy, j * 5 + 2, none⟩)),
                 SP.is (.string ⟨nm'.toArray⟩),
                 SP.is (.bool true),
                 SP.is (.bool true),
                 SP.is (.bool true),
                 SP.is (undef),
                 SP.is (undef),
                 SP.is (undef),
                 SP.is (undef),
                 SP.is (undef),
                 SP.is (undef),
                 SP.is (undef),
                 SP.is (undef),
                 SP.is (undef),
                 SP.is (undef),
                 SP.is (undef),
                 SP.is (undef),
                 SP.is (.bool true),
                 SP.is (.bool true),
                 SP.is (undef),
                 SP.is (undef),
                 SP.is (undef),
                 SP.is (undef),
                 SP.is (undef),
                 SP.is (undef),
                 SP.is (undef),
                 SP.is (undef),
                 SP.is (undef),
                 SP.is (undef),
                 SP.is (undef),
                 SP.is (undef),
                 SP.is (.bool true)] ?_ ?_
              · simp only [List.take_succ_cons, List.take_zero]
                refine StepsOK.cons ?_ (StepsOK.cons ?_ (StepsOK.cons ?_ (StepsOK.cons ?_ (StepsOK.cons ?_ (StepsOK.cons ?_ (StepsOK.cons ?_ (StepsOK.cons ?_ (StepsOK.cons ?_ (StepsOK.cons ?_ (StepsOK.cons ?_ (StepsOK.cons ?_ (StepsOK.cons ?_ (StepsOK.cons ?_ (StepsOK.cons ?_ (StepsOK.cons ?_ (StepsOK.cons ?_ (StepsOK.cons ?_ (StepsOK.cons ?_ (StepsOK.cons ?_ (StepsOK.cons ?_ (StepsOK.cons ?_ (StepsOK.cons ?_ (StepsOK.cons ?_ (StepsOK.cons ?_ (StepsOK.cons ?_ (StepsOK.cons ?_ (StepsOK.cons ?_ (StepsOK.cons ?_ (StepsOK.cons ?_ (StepsOK.cons ?_ (StepsOK.cons ?_ (StepsOK.cons ?_ (StepsOK.cons ?_ (StepsOK.cons ?_ (StepsOK.cons ?_ (StepsOK.cons ?_ (StepsOK.cons ?_ (StepsOK.cons ?_ (StepsOK.cons ?_ (StepsOK.cons ?_ (StepsOK.cons ?_ (StepsOK.cons ?_ (StepsOK.cons ?_ (StepsOK.cons ?_ (StepsOK.cons ?_ (StepsOK.cons ?_ (StepsOK.cons ?_ (StepsOK.cons ?_ (StepsOK.cons ?_ (StepsOK.cons ?_ (StepsOK.cons ?_ StepsOK.nil)))))))))))))))))))))))))))))))))))))))))))))))))))
                · intro a W L N hR hold hφ hcl hkp hd K hK
                  have e0 := hold 0 (by kernel_rfl)
                  clear hold hφ hcl hkp hd
                  rw [if_pos (by rfl)]
                  go_simp
                  exact hK _ _ (Only.refl _ _) rfl
                · intro a W L N hR hold hφ hcl hkp hd K hK
                  have e5 := hold 5 (by kernel_rfl)
                  clear hold hφ hcl hkp hd
                  rw [if_pos (by rfl)]
                  go_simp
                  exact hK _ _ (Only.refl _ _) rfl
                · intro a W L N hR hold hφ hcl hkp hd K hK
                  have e17 := got hφ (hd 0 (by kernel_rfl)) rfl rfl rfl
                  have e18 := got hφ (hd 1 (by kernel_rfl)) rfl rfl rfl
                  clear hold hφ hcl hkp hd
                  rw [if_pos (by rfl)]
                  go_simp
                  exact hK _ _ (Only.refl _ _) rfl
                · intro a W L N hR hold hφ hcl hkp hd K hK
                  have e19 := got hφ (hd 2 (by kernel_rfl)) rfl rfl rfl
                  clear hold hφ hcl hkp hd
                  rw [if_pos (by rfl)]
                  go_simp
                  exact hK _ _ (Only.refl _ _) rfl
                · intro a W L N hR hold hφ hcl hkp hd K hK
                  have e20 := got hφ (hd 3 (by kernel_rfl)) rfl rfl rfl
                  obtain ⟨x0, x2, x3, x4, xl, y0, y2, y3, y4, yl⟩ := Hcl.out W (Only.plus hdr hR)
                  clear hold hφ hcl hkp hd
                  rw [if_pos (by rfl)]
                  go_simp
                  exact hK _ _ (Only.refl _ _) rfl
                · intro a W L N hR hold hφ hcl hkp hd K hK
                  have e1 := hold 1 (by kernel_rfl)
                  clear hold hφ hcl hkp hd
                  rw [if_pos (by rfl)]
                  go_simp
                  exact hK _ _ (Only.refl _ _) rfl
                · intro a W L N hR hold hφ hcl hkp hd K hK
                  have e5 := hold 5 (by kernel_rfl)
                  clear hold hφ hcl hkp hd
                  rw [if_pos (by rfl)]
                  go_simp
                  exact hK _ _ (Only.refl _ _) rfl
                · intro a W L N hR hold hφ hcl hkp hd K hK
                  have e22 := got hφ (hd 5 (by kernel_rfl)) rfl rfl rfl
                  have e23 := got hφ (hd 6 (by kernel_rfl)) rfl rfl rfl
                  clear hold hφ hcl hkp hd
                  rw [if_pos (by rfl)]
                  go_simp
                  exact hK _ _ (Only.refl _ _) rfl
                · intro a W L N hR hold hφ hcl hkp hd K hK
                  have e24 := got hφ (hd 7 (by kernel_rfl)) rfl rfl rfl
                  clear hold hφ hcl hkp hd
                  rw [if_pos (by rfl)]
                  go_simp
                  exact hK _ _ (Only.refl _ _) rfl
                · intro a W L N hR hold hφ hcl hkp hd K hK
                  have e25 := got hφ (hd 8 (by kernel_rfl)) rfl rfl rfl
                  obtain ⟨x0, x2, x3, x4, xl, y0, y2, y3, y4, yl⟩ := Hcl.out W (Only.plus hdr hR)
                  clear hold hφ hcl hkp hd
                  rw [if_pos (by rfl)]
                  go_simp
                  exact hK _ _ (Only.refl _ _) rfl
                · intro a W L N hR hold hφ hcl hkp hd K hK
                  have e21 := got hφ (hd 4 (by kernel_rfl)) rfl rfl rfl
                  have e26 := got hφ (hd 9 (by kernel_rfl)) rfl rfl rfl
                  clear hold hφ hcl hkp hd
                  rw [if_pos (by rfl)]
                  go_simp
                  exact hK _ _ (Only.refl _ _) rfl
                · intro a W L N hR hold hφ hcl hkp hd K hK
                  have e27 := got hφ (hd 10 (by kernel_rfl)) rfl rfl rfl
                  clear hold hφ hcl hkp hd
                  rw [if_pos (by rfl)]
                  go_simp
                  exact hK _ _ (Only.refl _ _) rfl
                · intro a W L N hR hold hφ hcl hkp hd K hK
                  have e0 := hold 0 (by kernel_rfl)
                  have e28 := got hφ (hd 11 (by kernel_rfl)) rfl rfl rfl
                  clear hold hφ hcl hkp hd
                  rw [if_pos (by simp [Region.wanted, yielded, e28])]
                  go_simp
                  exact hK _ _ (Only.refl _ _) rfl
                · intro a W L N hR hold hφ hcl hkp hd K hK
                  have e5 := hold 5 (by kernel_rfl)
                  have e28 := got hφ (hd 11 (by kernel_rfl)) rfl rfl rfl
                  clear hold hφ hcl hkp hd
                  rw [if_pos (by simp [Region.wanted, yielded, e28])]
                  go_simp
                  exact hK _ _ (Only.refl _ _) rfl
                · intro a W L N hR hold hφ hcl hkp hd K hK
                  have e29 := got hφ (hd 12 (by kernel_rfl)) rfl rfl rfl
                  have e30 := got hφ (hd 13 (by kernel_rfl)) rfl rfl rfl
                  have e28 := got hφ (hd 11 (by kernel_rfl)) rfl rfl rfl
                  clear hold hφ hcl hkp hd
                  rw [if_pos (by simp [Region.wanted, yielded, e28])]
                  go_simp
                  exact hK _ _ (Only.refl _ _) rfl
                · intro a W L N hR hold hφ hcl hkp hd K hK
                  have e31 := got hφ (hd 14 (by kernel_rfl)) rfl rfl rfl
                  have e28 := got hφ (hd 11 (by kernel_rfl)) rfl rfl rfl
                  clear hold hφ hcl hkp hd
                  rw [if_pos (by simp [Region.wanted, yielded, e28])]
                  go_simp
                  exact hK _ _ (Only.refl _ _) rfl
                · intro a W L N hR hold hφ hcl hkp hd K hK
                  have e32 := got hφ (hd 15 (by kernel_rfl)) rfl rfl rfl
                  have e28 := got hφ (hd 11 (by kernel_rfl)) rfl rfl rfl
                  obtain ⟨x0, x2, x3, x4, xl, y0, y2, y3, y4, yl⟩ := Hcl.out W (Only.plus hdr hR)
                  clear hold hφ hcl hkp hd
                  rw [if_pos (by simp [Region.wanted, yielded, e28])]
                  go_simp
                  exact hK _ _ (Only.refl _ _) rfl
                · intro a W L N hR hold hφ hcl hkp hd K hK
                  have e1 := hold 1 (by kernel_rfl)
                  have e28 := got hφ (hd 11 (by kernel_rfl)) rfl rfl rfl
                  clear hold hφ hcl hkp hd
                  rw [if_pos (by simp [Region.wanted, yielded, e28])]
                  go_simp
                  exact hK _ _ (Only.refl _ _) rfl
                · intro a W L N hR hold hφ hcl hkp hd K hK
                  have e5 := hold 5 (by kernel_rfl)
                  have e28 := got hφ (hd 11 (by kernel_rfl)) rfl rfl rfl
                  clear hold hφ hcl hkp hd
                  rw [if_pos (by simp [Region.wanted, yielded, e28])]
                  go_simp
                  exact hK _ _ (Only.refl _ _) rfl
                · intro a W L N hR hold hφ hcl hkp hd K hK
                  have e34 := got hφ (hd 17 (by kernel_rfl)) rfl rfl rfl
                  have e35 := got hφ (hd 18 (by kernel_rfl)) rfl rfl rfl
                  have e28 := got hφ (hd 11 (by kernel_rfl)) rfl rfl rfl
                  clear hold hφ hcl hkp hd
                  rw [if_pos (by simp [Region.wanted, yielded, e28])]
                  go_simp
                  exact hK _ _ (Only.refl _ _) rfl
                · intro a W L N hR hold hφ hcl hkp hd K hK
                  have e36 := got hφ (hd 19 (by kernel_rfl)) rfl rfl rfl
                  have e28 := got hφ (hd 11 (by kernel_rfl)) rfl rfl rfl
                  clear hold hφ hcl hkp hd
                  rw [if_pos (by simp [Region.wanted, yielded, e28])]
                  go_simp
                  exact hK _ _ (Only.refl _ _) rfl
                · intro a W L N hR hold hφ hcl hkp hd K hK
                  have e37 := got hφ (hd 20 (by kernel_rfl)) rfl rfl rfl
                  have e28 := got hφ (hd 11 (by kernel_rfl)) rfl rfl rfl
                  obtain ⟨x0, x2, x3, x4, xl, y0, y2, y3, y4, yl⟩ := Hcl.out W (Only.plus hdr hR)
                  clear hold hφ hcl hkp hd
                  rw [if_pos (by simp [Region.wanted, yielded, e28])]
                  go_simp
                  exact hK _ _ (Only.refl _ _) rfl
                · intro a W L N hR hold hφ hcl hkp hd K hK
                  have e33 := got hφ (hd 16 (by kernel_rfl)) rfl rfl rfl
                  have e38 := got hφ (hd 21 (by kernel_rfl)) rfl rfl rfl
                  have e28 := got hφ (hd 11 (by kernel_rfl)) rfl rfl rfl
                  clear hold hφ hcl hkp hd
                  rw [if_pos (by simp [Region.wanted, yielded, e28])]
                  go_simp
                  exact hK _ _ (Only.refl _ _) rfl
                · intro a W L N hR hold hφ hcl hkp hd K hK
                  have e28 := got hφ (hd 11 (by kernel_rfl)) rfl rfl rfl
                  have e39 := got hφ (hd 22 (by kernel_rfl)) rfl rfl rfl
                  clear hold hφ hcl hkp hd
                  rw [if_pos (by rfl)]
                  go_simp
                  exact hK _ _ (Only.refl _ _) rfl
                · intro a W L N hR hold hφ hcl hkp hd K hK
                  have e40 := got hφ (hd 23 (by kernel_rfl)) rfl rfl rfl
                  clear hold hφ hcl hkp hd
                  rw [if_pos (by rfl)]
                  go_simp
                  exact hK _ _ (Only.refl _ _) rfl
                · intro a W L N hR hold hφ hcl hkp hd K hK
                  have e0 := hold 0 (by kernel_rfl)
                  have e41 := got hφ (hd 24 (by kernel_rfl)) rfl rfl rfl
                  clear hold hφ hcl hkp hd
                  rw [if_neg (by simp [Region.wanted, yielded, e41])]
                  exact hK _ _ (Only.refl _ _) rfl
                · intro a W L N hR hold hφ hcl hkp hd K hK
                  have e5 := hold 5 (by kernel_rfl)
                  have e41 := got hφ (hd 24 (by kernel_rfl)) rfl rfl rfl
                  clear hold hφ hcl hkp hd
                  rw [if_neg (by simp [Region.wanted, yielded, e41])]
                  exact hK _ _ (Only.refl _ _) rfl
                · intro a W L N hR hold hφ hcl hkp hd K hK
                  have e42 := got hφ (hd 25 (by kernel_rfl)) rfl rfl rfl
                  have e43 := got hφ (hd 26 (by kernel_rfl)) rfl rfl rfl
                  have e41 := got hφ (hd 24 (by kernel_rfl)) rfl rfl rfl
                  clear hold hφ hcl hkp hd
                  rw [if_neg (by simp [Region.wanted, yielded, e41])]
                  exact hK _ _ (Only.refl _ _) rfl
                · intro a W L N hR hold hφ hcl hkp hd K hK
                  have e44 := got hφ (hd 27 (by kernel_rfl)) rfl rfl rfl
                  have e41 := got hφ (hd 24 (by kernel_rfl)) rfl rfl rfl
                  clear hold hφ hcl hkp hd
                  rw [if_neg (by simp [Region.wanted, yielded, e41])]
                  exact hK _ _ (Only.refl _ _) rfl
                · intro a W L N hR hold hφ hcl hkp hd K hK
                  have e45 := got hφ (hd 28 (by kernel_rfl)) rfl rfl rfl
                  have e41 := got hφ (hd 24 (by kernel_rfl)) rfl rfl rfl
                  clear hold hφ hcl hkp hd
                  rw [if_neg (by simp [Region.wanted, yielded, e41])]
                  exact hK _ _ (Only.refl _ _) rfl
                · intro a W L N hR hold hφ hcl hkp hd K hK
                  have e1 := hold 1 (by kernel_rfl)
                  have e41 := got hφ (hd 24 (by kernel_rfl)) rfl rfl rfl
                  clear hold hφ hcl hkp hd
                  rw [if_neg (by simp [Region.wanted, yielded, e41])]
                  exact hK _ _ (Only.refl _ _) rfl
                · intro a W L N hR hold hφ hcl hkp hd K hK
                  have e5 := hold 5 (by kernel_rfl)
                  have e41 := got hφ (hd 24 (by kernel_rfl)) rfl rfl rfl
                  clear hold hφ hcl hkp hd
                  rw [if_neg (by simp [Region.wanted, yielded, e41])]
                  exact hK _ _ (Only.refl _ _) rfl
                · intro a W L N hR hold hφ hcl hkp hd K hK
                  have e47 := got hφ (hd 30 (by kernel_rfl)) rfl rfl rfl
                  have e48 := got hφ (hd 31 (by kernel_rfl)) rfl rfl rfl
                  have e41 := got hφ (hd 24 (by kernel_rfl)) rfl rfl rfl
                  clear hold hφ hcl hkp hd
                  rw [if_neg (by simp [Region.wanted, yielded, e41])]
                  exact hK _ _ (Only.refl _ _) rfl
                · intro a W L N hR hold hφ hcl hkp hd K hK
                  have e49 := got hφ (hd 32 (by kernel_rfl)) rfl rfl rfl
                  have e41 := got hφ (hd 24 (by kernel_rfl)) rfl rfl rfl
                  clear hold hφ hcl hkp hd
                  rw [if_neg (by simp [Region.wanted, yielded, e41])]
                  exact hK _ _ (Only.refl _ _) rfl
                · intro a W L N hR hold hφ hcl hkp hd K hK
                  have e50 := got hφ (hd 33 (by kernel_rfl)) rfl rfl rfl
                  have e41 := got hφ (hd 24 (by kernel_rfl)) rfl rfl rfl
                  clear hold hφ hcl hkp hd
                  rw [if_neg (by simp [Region.wanted, yielded, e41])]
                  exact hK _ _ (Only.refl _ _) rfl
                · intro a W L N hR hold hφ hcl hkp hd K hK
                  have e46 := got hφ (hd 29 (by kernel_rfl)) rfl rfl rfl
                  have e51 := got hφ (hd 34 (by kernel_rfl)) rfl rfl rfl
                  have e41 := got hφ (hd 24 (by kernel_rfl)) rfl rfl rfl
                  clear hold hφ hcl hkp hd
                  rw [if_neg (by simp [Region.wanted, yielded, e41])]
                  exact hK _ _ (Only.refl _ _) rfl
                · intro a W L N hR hold hφ hcl hkp hd K hK
                  have e52 := got hφ (hd 35 (by kernel_rfl)) rfl rfl rfl
                  have e41 := got hφ (hd 24 (by kernel_rfl)) rfl rfl rfl
                  clear hold hφ hcl hkp hd
                  rw [if_neg (by simp [Region.wanted, yielded, e41])]
                  exact hK _ _ (Only.refl _ _) rfl
                · intro a W L N hR hold hφ hcl hkp hd K hK
                  have e41 := got hφ (hd 24 (by kernel_rfl)) rfl rfl rfl
                  have e53 := got hφ (hd 36 (by kernel_rfl)) rfl rfl rfl
                  clear hold hφ hcl hkp hd
                  rw [if_pos (by rfl)]
                  go_simp
                  exact hK _ _ (Only.refl _ _) rfl
                · intro a W L N hR hold hφ hcl hkp hd K hK
                  have e54 := got hφ (hd 37 (by kernel_rfl)) rfl rfl rfl
                  clear hold hφ hcl hkp hd
                  rw [if_pos (by rfl)]
                  go_simp
                  exact hK _ _ (Only.refl _ _) rfl
                · intro a W L N hR hold hφ hcl hkp hd K hK
                  have e0 := hold 0 (by kernel_rfl)
                  have e55 := got hφ (hd 38 (by kernel_rfl)) rfl rfl rfl
                  clear hold hφ hcl hkp hd
                  rw [if_neg (by simp [Region.wanted, yielded, e55])]
                  exact hK _ _ (Only.refl _ _) rfl
                · intro a W L N hR hold hφ hcl hkp hd K hK
                  have e5 := hold 5 (by kernel_rfl)
                  have e55 := got hφ (hd 38 (by kernel_rfl)) rfl rfl rfl
                  clear hold hφ hcl hkp hd
                  rw [if_neg (by simp [Region.wanted, yielded, e55])]
                  exact hK _ _ (Only.refl _ _) rfl
                · intro a W L N hR hold hφ hcl hkp hd K hK
                  have e56 := got hφ (hd 39 (by kernel_rfl)) rfl rfl rfl
                  have e57 := got hφ (hd 40 (by kernel_rfl)) rfl rfl rfl
                  have e55 := got hφ (hd 38 (by kernel_rfl)) rfl rfl rfl
                  clear hold hφ hcl hkp hd
                  rw [if_neg (by simp [Region.wanted, yielded, e55])]
                  exact hK _ _ (Only.refl _ _) rfl
                · intro a W L N hR hold hφ hcl hkp hd K hK
                  have e58 := got hφ (hd 41 (by kernel_rfl)) rfl rfl rfl
                  have e55 := got hφ (hd 38 (by kernel_rfl)) rfl rfl rfl
                  clear hold hφ hcl hkp hd
                  rw [if_neg (by simp [Region.wanted, yielded, e55])]
                  exact hK _ _ (Only.refl _ _) rfl
                · intro a W L N hR hold hφ hcl hkp hd K hK
                  have e59 := got hφ (hd 42 (by kernel_rfl)) rfl rfl rfl
                  have e55 := got hφ (hd 38 (by kernel_rfl)) rfl rfl rfl
                  clear hold hφ hcl hkp hd
                  rw [if_neg (by simp [Region.wanted, yielded, e55])]
                  exact hK _ _ (Only.refl _ _) rfl
                · intro a W L N hR hold hφ hcl hkp hd K hK
                  have e1 := hold 1 (by kernel_rfl)
                  have e55 := got hφ (hd 38 (by kernel_rfl)) rfl rfl rfl
                  clear hold hφ hcl hkp hd
                  rw [if_neg (by simp [Region.wanted, yielded, e55])]
                  exact hK _ _ (Only.refl _ _) rfl
                · intro a W L N hR hold hφ hcl hkp hd K hK
                  have e5 := hold 5 (by kernel_rfl)
                  have e55 := got hφ (hd 38 (by kernel_rfl)) rfl rfl rfl
                  clear hold hφ hcl hkp hd
                  rw [if_neg (by simp [Region.wanted, yielded, e55])]
                  exact hK _ _ (Only.refl _ _) rfl
                · intro a W L N hR hold hφ hcl hkp hd K hK
                  have e61 := got hφ (hd 44 (by kernel_rfl)) rfl rfl rfl
                  have e62 := got hφ (hd 45 (by kernel_rfl)) rfl rfl rfl
                  have e55 := got hφ (hd 38 (by kernel_rfl)) rfl rfl rfl
                  clear hold hφ hcl hkp hd
                  rw [if_neg (by simp [Region.wanted, yielded, e55])]
                  exact hK _ _ (Only.refl _ _) rfl
                · intro a W L N hR hold hφ hcl hkp hd K hK
                  have e63 := got hφ (hd 46 (by kernel_rfl)) rfl rfl rfl
                  have e55 := got hφ (hd 38 (by kernel_rfl)) rfl rfl rfl
                  clear hold hφ hcl hkp hd
                  rw [if_neg (by simp [Region.wanted, yielded, e55])]
                  exact hK _ _ (Only.refl _ _) rfl
                · intro a W L N hR hold hφ hcl hkp hd K hK
                  have e64 := got hφ (hd 47 (by kernel_rfl)) rfl rfl rfl
                  have e55 := got hφ (hd 38 (by kernel_rfl)) rfl rfl rfl
                  clear hold hφ hcl hkp hd
                  rw [if_neg (by simp [Region.wanted, yielded, e55])]
                  exact hK _ _ (Only.refl _ _) rfl
                · intro a W L N hR hold hφ hcl hkp hd K hK
                  have e60 := got hφ (hd 43 (by kernel_rfl)) rfl rfl rfl
                  have e65 := got hφ (hd 48 (by kernel_rfl)) rfl rfl rfl
                  have e55 := got hφ (hd 38 (by kernel_rfl)) rfl rfl rfl
                  clear hold hφ hcl hkp hd
                  rw [if_neg (by simp [Region.wanted, yielded, e55])]
                  exact hK _ _ (Only.refl _ _) rfl
                · intro a W L N hR hold hφ hcl hkp hd K hK
                  have e66 := got hφ (hd 49 (by kernel_rfl)) rfl rfl rfl
                  have e55 := got hφ (hd 38 (by kernel_rfl)) rfl rfl rfl
                  clear hold hφ hcl hkp hd
                  rw [if_neg (by simp [Region.wanted, yielded, e55])]
                  exact hK _ _ (Only.refl _ _) rfl
                · intro a W L N hR hold hφ hcl hkp hd K hK
                  have e55 := got hφ (hd 38 (by kernel_rfl)) rfl rfl rfl
                  have e67 := got hφ (hd 50 (by kernel_rfl)) rfl rfl rfl
                  clear hold hφ hcl hkp hd
                  rw [if_pos (by rfl)]
                  go_simp
                  exact hK _ _ (Only.refl _ _) rfl
              · intro us W hO' hus
                have p51 : us 51 = .bool true := hus 51 _ 68 (by omega) rfl rfl
                clear hus
                simp only [List.take_succ_cons, List.take_zero, List.drop_succ_cons, List.drop_zero, fillAct, Act.put, List.setIfInBounds_toArray, List.set_cons_zero, List.set_cons_succ, Nat.reduceAdd, p51]
                clear p51
                have HO4 := Lib.hid (Only.plus (HO.out.plus hdr) hO')
                clear hO'
                go_wp2
                go_ret
                exact ⟨by rw [HR2.out]; rfl, HO4.out⟩
          · have hki : ((kd : Int) == (kd' : Int)) = false := by simp; omega
            have hki2 : (kd == kd') = false := by simp [hk]
            have hki3 : ((kd : Int) != (kd' : Int)) = true := by simp; omega
            have hki4 : (kd != kd') = true := by simp [hk]
            have hki5 : ¬ (kd : Int) = (kd' : Int) := by omega
            have HR2 : Hid (R = false) := Lib.hid (by rw [HRv.out]; simp [hk])
            go_upto_region 6 with fail
            refine wp_region_stabL (P := Tryz.prog) 52 (by kernel_rfl) (by kernel_rfl) (Only []) (Only.refl _ _) (fun _ _ _ h k => h.then k [] (by simp) (by simp))
              [SP.is (.slice (some ⟨gx, 0, none⟩) X.len c),
               SP.is (.int .i64 j),
               SP.is (.pointer (some ⟨gx, j * 5, none⟩)),
               SP.is (.pointer (some ⟨gx, j * 5, none⟩)),
               SP.is (.int .i64 kd),
               SP.is (.slice (some ⟨gy, 0, none⟩) Y.len c2),
               SP.is (.int .i64 j),
               SP.is (.pointer (some ⟨gy, j * 5, none⟩)),
               SP.is (.pointer (some ⟨gy, j * 5, none⟩)),
               SP.is (.int .i64 kd'),
               SP.is (.bool true),
               SP.is (.bool true),
               SP.is (undef),
               SP.is (undef),
               SP.is (undef),
               SP.is (undef),
               SP.is (undef),
               SP.is (undef),
               SP.is (undef),
               SP.is (undef),
               SP.is (undef),
               SP.is (undef),
               SP.is (undef),
               SP.is (.bool true),
               SP.is (.bool true),
               SP.is (undef),
               SP.is (undef),
               SP.is (undef),
               SP.is (undef),
               SP.is (undef),
               SP.is (undef),
               SP.is (undef),
               SP.is (undef),
               SP.is (undef),
               SP.is (undef),
               SP.is (undef),
               SP.is (undef),
               SP.is (.bool true),
               SP.is (.bool true),
               SP.is (undef),
               SP.is (undef),
               SP.is (undef),
               SP.is (undef),
               SP.is (undef),
               SP.is (undef),
               SP.is (undef),
               SP.is (undef),
               SP.is (undef),
               SP.is (undef),
               SP.is (undef),
               SP.is (undef),
               SP.is (.bool true)] ?_ ?_
            · simp only [List.take_succ_cons, List.take_zero]
              refine StepsOK.cons ?_ (StepsOK.cons ?_ (StepsOK.cons ?_ (StepsOK.cons ?_ (StepsOK.cons ?_ (StepsOK.cons ?_ (StepsOK.cons ?_ (StepsOK.cons ?_ (StepsOK.cons ?_ (StepsOK.cons ?_ (StepsOK.cons ?_ (StepsOK.cons ?_ (StepsOK.cons ?_ (StepsOK.cons ?_ (StepsOK.cons ?_ (StepsOK.cons ?_ (StepsOK.cons ?_ (StepsOK.cons ?_ (StepsOK.cons ?_ (StepsOK.cons ?_ (StepsOK.cons ?_ (StepsOK.cons ?_ (StepsOK.cons ?_ (StepsOK.cons ?_ (StepsOK.cons ?_ (StepsOK.cons ?_ (StepsOK.cons ?_ (StepsOK.cons ?_ (StepsOK.cons ?_ (StepsOK.cons ?_ (StepsOK.cons ?_ (StepsOK.cons ?_ (StepsOK.cons ?_ (StepsOK.cons ?_ (StepsOK.cons ?_ (StepsOK.cons ?_ (StepsOK.cons ?_ (StepsOK.cons ?_ (StepsOK.cons ?_ (StepsOK.cons ?_ (StepsOK.cons ?_ (StepsOK.cons ?_ (StepsOK.cons ?_ (StepsOK.cons ?_ (StepsOK.cons ?_ (StepsOK.cons ?_ (StepsOK.cons ?_ (StepsOK.cons ?_ (StepsOK.cons ?_ (StepsOK.cons ?_ (StepsOK.cons ?_ (StepsOK.cons ?_ StepsOK.nil)))))))))))))))))))))))))))))))))))))))))))))))))))
              · intro a W L N hR hold hφ hcl hkp hd K hK
                have e0 := hold 0 (by kernel_rfl)
                clear hold hφ hcl hkp hd
                rw [if_pos (by rfl)]
                go_simp
                exact hK _ _ (Only.refl _ _) rfl
              · intro a W L N hR hold hφ hcl hkp hd K hK
                have e5 := hold 5 (by kernel_rfl)
                clear hold hφ hcl hkp hd
                rw [if_pos (by rfl)]
                go_simp
                exact hK _ _ (Only.refl _ _) rfl
              · intro a W L N hR hold hφ hcl hkp hd K hK
                have e17 := got hφ (hd 0 (by kernel_rfl)) rfl rfl rfl
                have e18 := got hφ (hd 1 (by kernel_rfl)) rfl rfl rfl
                clear hold hφ hcl hkp hd
                rw [if_pos (by rfl)]
                go_simp
                exact hK _ _ (Only.refl _ _) rfl
              · intro a W L N hR hold hφ hcl hkp hd K hK
                have e19 := got hφ (hd 2 (by kernel_rfl)) rfl rfl rfl
                clear hold hφ hcl hkp hd
                rw [if_pos (by rfl)]
                go_simp
                exact hK _ _ (Only.refl _ _) rfl
              · intro a W L N hR hold hφ hcl hkp hd K hK
                have e20 := got hφ (hd 3 (by kernel_rfl)) rfl rfl rfl
                obtain ⟨x0, x2, x3, x4, xl, y0, y2, y3, y4, yl⟩ := Hcl.out W (Only.plus hdr hR)
                clear hold hφ hcl hkp hd
                rw [if_pos (by rfl)]
                go_simp
                exact hK _ _ (Only.refl _ _) rfl
              · intro a W L N hR hold hφ hcl hkp hd K hK
                have e1 := hold 1 (by kernel_rfl)
                clear hold hφ hcl hkp hd
                rw [if_pos (by rfl)]
                go_simp
                exact hK _ _ (Only.refl _ _) rfl
              · intro a W L N hR hold hφ hcl hkp hd K hK
                have e5 := hold 5 (by kernel_rfl)
                clear hold hφ hcl hkp hd
                rw [if_pos (by rfl)]
                go_simp
                exact hK _ _ (Only.refl _ _) rfl
              · intro a W L N hR hold hφ hcl hkp hd K hK
                have e22 := got hφ (hd 5 (by kernel_rfl)) rfl rfl rfl
                have e23 := got hφ (hd 6 (by kernel_rfl)) rfl rfl rfl
                clear hold hφ hcl hkp hd
                rw [if_pos (by rfl)]
                go_simp
                exact hK _ _ (Only.refl _ _) rfl
              · intro a W L N hR hold hφ hcl hkp hd K hK
                have e24 := got hφ (hd 7 (by kernel_rfl)) rfl rfl rfl
                clear hold hφ hcl hkp hd
                rw [if_pos (by rfl)]
                go_simp
                exact hK _ _ (Only.refl _ _) rfl
              · intro a W L N hR hold hφ hcl hkp hd K hK
                have e25 := got hφ (hd 8 (by kernel_rfl)) rfl rfl rfl
                obtain ⟨x0, x2, x3, x4, xl, y0, y2, y3, y4, yl⟩ := Hcl.out W (Only.plus hdr hR)
                clear hold hφ hcl hkp hd
                rw [if_pos (by rfl)]
                go_simp
                exact hK _ _ (Only.refl _ _) rfl
              · intro a W L N hR hold hφ hcl hkp hd K hK
                have e21 := got hφ (hd 4 (by kernel_rfl)) rfl rfl rfl
                have e26 := got hφ (hd 9 (by kernel_rfl)) rfl rfl rfl
                clear hold hφ hcl hkp hd
                rw [if_pos (by rfl)]
                go_simp
                exact hK _ _ (Only.refl _ _) rfl
              · intro a W L N hR hold hφ hcl hkp hd K hK
                have e27 := got hφ (hd 10 (by kernel_rfl)) rfl rfl rfl
                clear hold hφ hcl hkp hd
                rw [if_pos (by rfl)]
                go_simp
                exact hK _ _ (Only.refl _ _) rfl
              · intro a W L N hR hold hφ hcl hkp hd K hK
                have e0 := hold 0 (by kernel_rfl)
                have e28 := got hφ (hd 11 (by kernel_rfl)) rfl rfl rfl
                clear hold hφ hcl hkp hd
                rw [if_neg (by simp [Region.wanted, yielded, e28])]
                exact hK _ _ (Only.refl _ _) rfl
              · intro a W L N hR hold hφ hcl hkp hd K hK
                have e5 := hold 5 (by kernel_rfl)
                have e28 := got hφ (hd 11 (by kernel_rfl)) rfl rfl rfl
                clear hold hφ hcl hkp hd
                rw [if_neg (by simp [Region.wanted, yielded, e28])]
                exact hK _ _ (Only.refl _ _) rfl
              · intro a W L N hR hold hφ hcl hkp hd K hK
                have e29 := got hφ (hd 12 (by kernel_rfl)) rfl rfl rfl
                have e30 := got hφ (hd 13 (by kernel_rfl)) rfl rfl rfl
                have e28 := got hφ (hd 11 (by kernel_rfl)) rfl rfl rfl
                clear hold hφ hcl hkp hd
                rw [if_neg (by simp [Region.wanted, yielded, e28])]
                exact hK _ _ (Only.refl _ _) rfl
              · intro a W L N hR hold hφ hcl hkp hd K hK
                have e31 := got hφ (hd 14 (by kernel_rfl)) rfl rfl rfl
                have e28 := got hφ (hd 11 (by kernel_rfl)) rfl rfl rfl
                clear hold hφ hcl hkp hd
                rw [if_neg (by simp [Region.wanted, yielded, e28])]
                exact hK _ _ (Only.refl _ _) rfl
              · intro a W L N hR hold hφ hcl hkp hd K hK
                have e32 := got hφ (hd 15 (by kernel_rfl)) rfl rfl rfl
                have e28 := got hφ (hd 11 (by kernel_rfl)) rfl rfl rfl
                clear hold hφ hcl hkp hd
                rw [if_neg (by simp [Region.wanted, yielded, e28])]
                exact hK _ _ (Only.refl _ _) rfl
              · intro a W L N hR hold hφ hcl hkp hd K hK
                have e1 := hold 1 (by kernel_rfl)
                have e28 := got hφ (hd 11 (by kernel_rfl)) rfl rfl rfl
                clear hold hφ hcl hkp hd
                rw [if_neg (by simp [Region.wanted, yielded, e28])]
                exact hK _ _ (Only.refl _ _) rfl
              · intro a W L N hR hold hφ hcl hkp hd K hK
                have e5 := hold 5 (by kernel_rfl)
                have e28 := got hφ (hd 11 (by kernel_rfl)) rfl rfl rfl
                clear hold hφ hcl hkp hd
                rw [if_neg (by simp [Region.wanted, yielded, e28])]
                exact hK _ _ (Only.refl _ _) rfl
              · intro a W L N hR hold hφ hcl hkp hd K hK
                have e34 := got hφ (hd 17 (by kernel_rfl)) rfl rfl rfl
                have e35 := got hφ (hd 18 (by kernel_rfl)) rfl rfl rfl
                have e28 := got hφ (hd 11 (by kernel_rfl)) rfl rfl rfl
                clear hold hφ hcl hkp hd
                rw [if_neg (by simp [Region.wanted, yielded, e28])]
                exact hK _ _ (Only.refl _ _) rfl
              · intro a W L N hR hold hφ hcl hkp hd K hK
                have e36 := got hφ (hd 19 (by kernel_rfl)) rfl rfl rfl
                have e28 := got hφ (hd 11 (by kernel_rfl)) rfl rfl rfl
                clear hold hφ hcl hkp hd
                rw [if_neg (by simp [Region.wanted, yielded, e28])]
                exact hK _ _ (Only.refl _ _) rfl
              · intro a W L N hR hold hφ hcl hkp hd K hK
                have e37 := got hφ (hd 20 (by kernel_rfl)) rfl rfl rfl
                have e28 := got hφ (hd 11 (by kernel_rfl)) rfl rfl rfl
                clear hold hφ hcl hkp hd
                rw [if_neg (by simp [Region.wanted, yielded, e28])]
                exact hK _ _ (Only.refl _ _) rfl
              · intro a W L N hR hold hφ hcl hkp hd K hK
                have e33 := got hφ (hd 16 (by kernel_rfl)) rfl rfl rfl
                have e38 := got hφ (hd 21 (by kernel_rfl)) rfl rfl rfl
                have e28 := got hφ (hd 11 (by kernel_rfl)) rfl rfl rfl
                clear hold hφ hcl hkp hd
                rw [if_neg (by simp [Region.wanted, yielded, e28])]
                exact hK _ _ (Only.refl _ _) rfl
              · intro a W L N hR hold hφ hcl hkp hd K hK
                have e28 := got hφ (hd 11 (by kernel_rfl)) rfl rfl rfl
                have e39 := got hφ (hd 22 (by kernel_rfl)) rfl rfl rfl
                clear hold hφ hcl hkp hd
                rw [if_pos (by rfl)]
                go_simp
                exact hK _ _ (Only.refl _ _) rfl
              · intro a W L N hR hold hφ hcl hkp hd K hK
                have e40 := got hφ (hd 23 (by kernel_rfl)) rfl rfl rfl
                clear hold hφ hcl hkp hd
                rw [if_pos (by rfl)]
                go_simp
                exact hK _ _ (Only.refl _ _) rfl
              · intro a W L N hR hold hφ hcl hkp hd K hK
                have e0 := hold 0 (by kernel_rfl)
                have e41 := got hφ (hd 24 (by kernel_rfl)) rfl rfl rfl
                clear hold hφ hcl hkp hd
                rw [if_neg (by simp [Region.wanted, yielded, e41])]
                exact hK _ _ (Only.refl _ _) rfl
              · intro a W L N hR hold hφ hcl hkp hd K hK
                have e5 := hold 5 (by kernel_rfl)
                have e41 := got hφ (hd 24 (by kernel_rfl)) rfl rfl rfl
                clear hold hφ hcl hkp hd
                rw [if_neg (by simp [Region.wanted, yielded, e41])]
                exact hK _ _ (Only.refl _ _) rfl
              · intro a W L N hR hold hφ hcl hkp hd K hK
                have e42 := got hφ (hd 25 (by kernel_rfl)) rfl rfl rfl
                have e43 := got hφ (hd 26 (by kernel_rfl)) rfl rfl rfl
                have e41 := got hφ (hd 24 (by kernel_rfl)) rfl rfl rfl
                clear hold hφ hcl hkp hd
                rw [if_neg (by simp [Region.wanted, yielded, e41])]
                exact hK _ _ (Only.refl _ _) rfl
              · intro a W L N hR hold hφ hcl hkp hd K hK
                have e44 := got hφ (hd 27 (by kernel_rfl)) rfl rfl rfl
                have e41 := got hφ (hd 24 (by kernel_rfl)) rfl rfl rfl
                clear hold hφ hcl hkp hd
                rw [if_neg (by simp [Region.wanted, yielded, e41])]
                exact hK _ _ (Only.refl _ _) rfl
              · intro a W L N hR hold hφ hcl hkp hd K hK
                have e45 := got hφ (hd 28 (by kernel_rfl)) rfl rfl rfl
                have e41 := got hφ (hd 24 (by kernel_rfl)) rfl rfl rfl
                clear hold hφ hcl hkp hd
                rw [if_neg (by simp [Region.wanted, yielded, e41])]
                exact hK _ _ (Only.refl _ _) rfl
              · intro a W L N hR hold hφ hcl hkp hd K hK
                have e1 := hold 1 (by kernel_rfl)
                have e41 := got hφ (hd 24 (by kernel_rfl)) rfl rfl rfl
                clear hold hφ hcl hkp hd
                rw [if_neg (by simp [Region.wanted, yielded, e41])]
                exact hK _ _ (Only.refl _ _) rfl
              · intro a W L N hR hold hφ hcl hkp hd K hK
                have e5 := hold 5 (by kernel_rfl)
                have e41 := got hφ (hd 24 (by kernel_rfl)) rfl rfl rfl
                clear hold hφ hcl hkp hd
                rw [if_neg (by simp [Region.wanted, yielded, e41])]
                exact hK _ _ (Only.refl _ _) rfl
              · intro a W L N hR hold hφ hcl hkp hd K hK
                have e47 := got hφ (hd 30 (by kernel_rfl)) rfl rfl rfl
                have e48 := got hφ (hd 31 (by kernel_rfl)) rfl rfl rfl
                have e41 := got hφ (hd 24 (by kernel_rfl)) rfl rfl rfl
                clear hold hφ hcl hkp hd
                rw [if_neg (by simp [Region.wanted, yielded, e41])]
                exact hK _ _ (Only.refl _ _) rfl
              · intro a W L N hR hold hφ hcl hkp hd K hK
                have e49 := got hφ (hd 32 (by kernel_rfl)) rfl rfl rfl
                have e41 := got hφ (hd 24 (by kernel_rfl)) rfl rfl rfl
                clear hold hφ hcl hkp hd
                rw [if_neg (by simp [Region.wanted, yielded, e41])]
                exact hK _ _ (Only.refl _ _) rfl
              · intro a W L N hR hold hφ hcl hkp hd K hK
                have e50 := got hφ (hd 33 (by kernel_rfl)) rfl rfl rfl
                have e41 := got hφ (hd 24 (by kernel_rfl)) rfl rfl rfl
                clear hold hφ hcl hkp hd
                rw [if_neg (by simp [Region.wanted, yielded, e41])]
                exact hK _ _ (Only.refl _ _) rfl
              · intro a W L N hR hold hφ hcl hkp hd K hK
                have e46 := got hφ (hd 29 (by kernel_rfl)) rfl rfl rfl
                have e51 := got hφ (hd 34 (by kernel_rfl)) rfl rfl rfl
                have e41 := got hφ (hd 24 (by kernel_rfl)) rfl rfl rfl
                clear hold hφ hcl hkp hd
                rw [if_neg (by simp [Region.wanted, yielded, e41])]
                exact hK _ _ (Only.refl _ _) rfl
              · intro a W L N hR hold hφ hcl hkp hd K hK
                have e52 := got hφ (hd 35 (by kernel_rfl)) rfl rfl rfl
                have e41 := got hφ (hd 24 (by kernel_rfl)) rfl rfl rfl
                clear hold hφ hcl hkp hd
                rw [if_neg (by simp [Region.wanted, yielded, e41])]
                exact hK _ _ (Only.refl _ _) rfl
              · intro a W L N hR hold hφ hcl hkp hd K hK
                have e41 := got hφ (hd 24 (by kernel_rfl)) rfl rfl rfl
                have e53 := got hφ (hd 36 (by kernel_rfl)) rfl rfl rfl
                clear hold hφ hcl hkp hd
                rw [if_pos (by rfl)]
                go_simp
                exact hK _ _ (Only.refl _ _) rfl
              · intro a W L N hR hold hφ hcl hkp hd K hK
                have e54 := got hφ (hd 37 (by kernel_rfl)) rfl rfl rfl
                clear hold hφ hcl hkp hd
                rw [if_pos (by rfl)]
                go_simp
                exact hK _ _ (Only.refl _ _) rfl
              · intro a W L N hR hold hφ hcl hkp hd K hK
                have e0 := hold 0 (by kernel_rfl)
                have e55 := got hφ (hd 38 (by kernel_rfl)) rfl rfl rfl
                clear hold hφ hcl hkp hd
                rw [if_neg (by simp [Region.wanted, yielded, e55])]
                exact hK _ _ (Only.refl _ _) rfl
              · intro a W L N hR hold hφ hcl hkp hd K hK
                have e5 := hold 5 (by kernel_rfl)
                have e55 := got hφ (hd 38 (by kernel_rfl)) rfl rfl rfl
                clear hold hφ hcl hkp hd
                rw [if_neg (by simp [Region.wanted, yielded, e55])]
                exact hK _ _ (Only.refl _ _) rfl
              · intro a W L N hR hold hφ hcl hkp hd K hK
                have e56 := got hφ (hd 39 (by kernel_rfl)) rfl rfl rfl
                have e57 := got hφ (hd 40 (by kernel_rfl)) rfl rfl rfl
                have e55 := got hφ (hd 38 (by kernel_rfl)) rfl rfl rfl
                clear hold hφ hcl hkp hd
                rw [if_neg (by simp [Region.wanted, yielded, e55])]
                exact hK _ _ (Only.refl _ _) rfl
              · intro a W L N hR hold hφ hcl hkp hd K hK
                have e58 := got hφ (hd 41 (by kernel_rfl)) rfl rfl rfl
                have e55 := got hφ (hd 38 (by kernel_rfl)) rfl rfl rfl
                clear hold hφ hcl hkp hd
                rw [if_neg (by simp [Region.wanted, yielded, e55])]
                exact hK _ _ (Only.refl _ _) rfl
              · intro a W L N hR hold hφ hcl hkp hd K hK
                have e59 := got hφ (hd 42 (by kernel_rfl)) rfl rfl rfl
                have e55 := got hφ (hd 38 (by kernel_rfl)) rfl rfl rfl
                clear hold hφ hcl hkp hd
                rw [if_neg (by simp [Region.wanted, yielded, e55])]
                exact hK _ _ (Only.refl _ _) rfl
              · intro a W L N hR hold hφ hcl hkp hd K hK
                have e1 := hold 1 (by kernel_rfl)
                have e55 := got hφ (hd 38 (by kernel_rfl)) rfl rfl rfl
                clear hold hφ hcl hkp hd
                rw [if_neg (by simp [Region.wanted, yielded, e55])]
                exact hK _ _ (Only.refl _ _) rfl
              · intro a W L N hR hold hφ hcl hkp hd K hK
                have e5 := hold 5 (by kernel_rfl)
                have e55 := got hφ (hd 38 (by kernel_rfl)) rfl rfl rfl
                clear hold hφ hcl hkp hd
                rw [if_neg (by simp [Region.wanted, yielded, e55])]
                exact hK _ _ (Only.refl _ _) rfl
              · intro a W L N hR hold hφ hcl hkp hd K hK
                have e61 := got hφ (hd 44 (by kernel_rfl)) rfl rfl rfl
                have e62 := got hφ (hd 45 (by kernel_rfl)) rfl rfl rfl
                have e55 := got hφ (hd 38 (by kernel_rfl)) rfl rfl rfl
                clear hold hφ hcl hkp hd
                rw [if_neg (by simp [Region.wanted, yielded, e55])]
                exact hK _ _ (Only.refl _ _) rfl
              · intro a W L N hR hold hφ hcl hkp hd K hK
                have e63 := got hφ (hd 46 (by kernel_rfl)) rfl rfl rfl
                have e55 := got hφ (hd 38 (by kernel_rfl)) rfl rfl rfl
                clear hold hφ hcl hkp hd
                rw [if_neg (by simp [Region.wanted, yielded, e55])]
                exact hK _ _ (Only.refl _ _) rfl
              · intro a W L N hR hold hφ hcl hkp hd K hK
                have e64 := got hφ (hd 47 (by kernel_rfl)) rfl rfl rfl
                have e55 := got hφ (hd 38 (by kernel_rfl)) rfl rfl rfl
                clear hold hφ hcl hkp hd
                rw [if_neg (by simp [Region.wanted, yielded, e55])]
                exact hK _ _ (Only.refl _ _) rfl
              · intro a W L N hR hold hφ hcl hkp hd K hK
                have e60 := got hφ (hd 43 (by kernel_rfl)) rfl rfl rfl
                have e65 := got hφ (hd 48 (by kernel_rfl)) rfl rfl rfl
                have e55 := got hφ (hd 38 (by kernel_rfl)) rfl rfl rfl
                clear hold hφ hcl hkp hd
                rw [if_neg (by simp [Region.wanted, yielded, e55])]
                exact hK _ _ (Only.refl _ _) rfl
              · intro a W L N hR hold hφ hcl hkp hd K hK
                have e66 := got hφ (hd 49 (by kernel_rfl)) rfl rfl rfl
                have e55 := got hφ (hd 38 (by kernel_rfl)) rfl rfl rfl
                clear hold hφ hcl hkp hd
                rw [if_neg (by simp [Region.wanted, yielded, e55])]
                exact hK _ _ (Only.refl _ _) rfl
              · intro a W L N hR hold hφ hcl hkp hd K hK
                have e55 := got hφ (hd 38 (by kernel_rfl)) rfl rfl rfl
                have e67 := got hφ (hd 50 (by kernel_rfl)) rfl rfl rfl
                clear hold hφ hcl hkp hd
                rw [if_pos (by rfl)]
                go_simp
                exact hK _ _ (Only.refl _ _) rfl
            · intro us W hO' hus
              have p51 : us 51 = .bool true := hus 51 _ 68 (by omega) rfl rfl
              clear hus
              simp only [List.take_succ_cons, List.take_zero, List.drop_succ_cons, List.drop_zero, fillAct, Act.put, List.setIfInBounds_toArray, List.set_cons_zero, List.set_cons_succ, Nat.reduceAdd, p51]
              clear p51
              have HO4 := Lib.hid (Only.plus (HO.out.plus hdr) hO')
              clear hO'
              go_wp2
              go_ret
              exact ⟨by rw [HR2.out]; rfl, HO4.out⟩
  · have hnb : ((X.len : Int) != (Y.len : Int)) = true := by simp; omega
    have HR2 : Hid (R = false) := Lib.hid (by rw [← HR.out, sameB_len _ _ hll])
    clear hll
    go_enter Tryz.func64, Tryz.ntmps64
    go_wp2
    go_ret
    exact ⟨by rw [HR2.out]; rfl, Only.refl _ _⟩

theorem rstmts_any : ∀ (N : Nat) (X : Blk), X.cnt ≤ N → N ≤ 100000 → ∀ (Y : Blk) (w : World) (va vb : Value) (fa fb : List Nat), BlkAt w va X fa → BlkAt w vb Y fb →
      Calls Tryz.prog 64 #[va, vb] w fun e w' => e = .returned (.bool (sameB X Y)) ∧ Only [] w w'
  | 0, X, hN, h2, Y, w, va, vb, fa, fb, ha, hb => rstmts_walk 0 (fun X h => absurd h (by omega)) X Y hN h2 w va vb fa fb ha hb
  | N + 1, X, hN, h2, Y, w, va, vb, fa, fb, ha, hb => rstmts_walk (N + 1) (fun X h Y => rstmts_any N X (by omega) (by omega) Y) X Y hN h2 w va vb fa fb ha hb

end Go.Proofs.YtildkedplmjdaaaGreatDoor
