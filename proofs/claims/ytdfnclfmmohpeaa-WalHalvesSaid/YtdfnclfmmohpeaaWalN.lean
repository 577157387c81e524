/-
  The walk of the law WalHalves: it returns true, whatever its two numbers are, and turns nothing that was there.
-/
import Derived.Test.YtdfnclfmmohpeaaWalM
import Derived.Test.YtdfnclfmmohpeaaStab
import Derived.Deep.DeepCutAuto
import Derived.Deep.CutBlock
namespace Go.Proofs.Ytdfnclfmmohpeaa
set_option maxRecDepth 100000
open Go.RowKit

/-- A log that was begun anew so many times. -/
def Turned (w : World) (lp pd bl bm M j : Nat) : Prop :=
  (j = 0 ∧ WN w lp pd bl bm M) ∨ (1 ≤ j ∧ ∃ D, WL w lp pd bl bm D ⟨M, j, j, (j - 1) % 2, 1, 1⟩ [[UInt8.ofNat (j - 1)]] (2 * j))
theorem Turned.more {w w' : World} {lp pd bl bm M j : Nat} (h : Turned w lp pd bl bm M j) (hO : Only [] w w') : Turned w' lp pd bl bm M j :=
  h.elim (fun ⟨a, b⟩ => .inl ⟨a, b.more hO⟩) (fun ⟨a, D, b⟩ => .inr ⟨a, D, b.more hO⟩)

theorem turn_on (w : World) (lp pd bl bm M j : Nat) (a : Option Addr) (cap : Nat) (h : Turned w lp pd bl bm M j) (hs : Src w a 1 [UInt8.ofNat j]) (hj : j < 100) (hM : 4 ≤ M) :
    Calls Try.prog 22 #[.pointer (some ⟨lp, 0, none⟩), .slice a 1 cap] w fun e w' => e = .returned (.int .i64 0) ∧ (∃ D, WL w' lp pd bl bm D ⟨M, (j + 1 : Nat), (j + 1 : Nat), j % 2, 1, 1⟩ [[UInt8.ofNat j]] (2 * (j + 1 : Nat))) ∧ Only [lp, pd, bl, bm] w w' := by
  have hp1 : partsN [UInt8.ofNat j].length = 1 := by simp [partsN]
  have hp2 : partsN 1 = 1 := rfl
  rcases h with ⟨rfl, hN⟩ | ⟨hj1, D, hW⟩
  · refine (freshened_new w lp pd bl bm M a cap [UInt8.ofNat 0] hN hs (by rw [hp1]; omega) (by rw [hp1]; omega)).mono ?_
    rintro e w' ⟨rfl, D', hW, hO⟩
    exact ⟨rfl, ⟨D', by simpa [hp2] using hW⟩, hO⟩
  · refine (freshened w lp pd bl bm D _ _ _ a cap [UInt8.ofNat j] hW hs (by rw [hp1]; omega) (by rw [hp1]; show 1 ≤ M; omega) (by show (j : Int) < _; omega) (by omega) (by omega)).mono ?_
    rintro e w' ⟨rfl, D', hW', hO⟩
    refine ⟨rfl, ⟨D', ?_⟩, hO⟩
    have e1 : 1 - (j - 1) % 2 = j % 2 := by omega
    simp only [hp1, e1] at hW'
    have e2 : (2 * (j : Int) + ((1 : Nat) : Int) + 1) = 2 * ((j + 1 : Nat) : Int) := by omega
    have e3 : (j : Int) + 1 = ((j + 1 : Nat) : Int) := by omega
    rw [e2, e3] at hW'
    exact hW'

set_option maxHeartbeats 4000000 in
theorem halves_walk (n sectors : Int) (w : World) :
    Calls Try.prog 6 #[.int .i64 n, .int .i64 sectors] w fun e w' => e = .returned (.bool true) ∧ Only [] w w' := by
  go_enter Try.func6, Try.ntmps6
  go_wp2_with fail
  refine (known_any _).mono ?_
  rintro e w0 ⟨rfl, hO0⟩
  go_wp2_with fail
  refine (both_any _ sectors).mono ?_
  rintro e w1 ⟨pd, bl, bm, R, B, M, rfl, hD, -, -, hM4, hM16, hp1, hp2, hp3, -, -, -, -, hO1⟩
  have hsz0 := hO0.size
  have hsz1 := hO1.size
  have HO1 := Lib.hid (hO0.plus hO1)
  have Hsz := Lib.hid (show w.heap.size ≤ pd ∧ w.heap.size ≤ bl ∧ w.heap.size ≤ bm by omega)
  clear hO0 hO1 hp1 hp2 hp3
  go_wp2_with fail
  refine (opened_new _ pd bl bm M hD).mono ?_
  rintro e w2 ⟨lp0, a, cap, rfl, hN, hlp, hO2⟩
  have HN := Lib.hid hN
  have HO2 := Lib.hid (HO1.out.plus hO2)
  have hlpw : Hid (w.heap.size ≤ lp0) := Lib.hid (by omega)
  clear hN hO2 HO1 hD hlp hsz0 hsz1
  go_wp2_with fail
  go_loopw [7, 10] (fun l i wr => ∃ (j lp : Nat), l = .pointer (some ⟨lp, 0, none⟩) ∧ i = .int .i64 j ∧ w.heap.size ≤ lp ∧ Turned wr lp pd bl bm M j ∧ j ≤ 20 ∧ Only [] w wr) (fun _ i _ => 20 - (intOf i).toNat)
  case atStart => exact ⟨0, lp0, rfl, rfl, hlpw.out, .inl ⟨rfl, HN.out⟩, by omega, HO2.out⟩
  case round =>
    obtain ⟨j, lp, rfl, rfl, hlp, hT, hj20, hO⟩ := hrel
    have HT := Lib.hid hT
    have HO := Lib.hid hO
    clear hT hO HN HO2
    go_wp2_with fail
    refine (within_to _ n 20 (by omega) (by omega)).mono ?_
    rintro e w' ⟨m, rfl, hm, -, rfl⟩
    by_cases hlt : j < m
    · have hlti : (j : Int) < (m : Int) := by omega
      have hw8 : IntKind.u8.wrap (j : Int) = (j : Int) := by rw [IntKind.wrap_u8]; omega
      go_wp2_with fail
      refine (turn_on _ lp pd bl bm M j _ 1 (HT.out.more ((Only.refl [] wr).alloc _)) (src_one wr j j (by simp; omega) 5) (by omega) hM4).mono ?_
      rintro e w3 ⟨rfl, ⟨D, hW⟩, hO3⟩
      have HW := Lib.hid hW
      have HO3 := Lib.hid ((HO.out.plus ((Only.refl [] wr).alloc (.cells #[.int .u8 j] 5))).then hO3 [] (by simp) (by have := Hsz.out; simp; omega))
      clear hW hO3 HT HO hw8
      go_wp2_with fail
      refine (state_any _ lp pd _ HW.out.log).mono ?_
      rintro e w4 ⟨rfl, hO4⟩
      simp only
      have HW4 := Lib.hid (HW.out.more hO4)
      have HO4 := Lib.hid (HO3.out.plus hO4)
      clear hO4 HW HO3
      by_cases hm3 : j % 3 = 2
      · have hm3i : ((j : Int) % 3 == 2) = true := by simp; omega
        go_wp2_with fail
        have hblk : DBlk w4 pd bl D.n bm D.fuse D.dead (2 * ((j + 1 : Nat) : Int)) := by have := HW4.out.disk.blk; rwa [HW4.out.live.ops] at this
        refine (ops_any _ pd bl _ bm _ _ _ hblk).mono ?_
        rintro e w' ⟨rfl, rfl⟩
        clear hblk
        go_wp2_with fail
        refine (opened _ lp pd bl bm D _ _ _ HW4.out).mono ?_
        rintro e w5 ⟨lp', ra, rc, rfl, hW5, hB5, hlp5, hO5⟩
        have hsz5 := HO4.out.size
        have HO5 := Lib.hid (HO4.out.plus hO5)
        have HW5 := Lib.hid hW5
        obtain ⟨rb, ro, rfl, hrb, hrr⟩ := hB5.2 (by simp)
        obtain ⟨dx, cx, hcx, hsx⟩ := hrr 0 [UInt8.ofNat j] rfl
        simp only [Nat.add_zero, List.length_cons, List.length_nil, Nat.zero_add] at hcx hsx
        have Hsx := Lib.hid hsx
        clear hB5 hrr hO5 hW5 hsx HW4 HO4
        have hw8 : IntKind.u8.wrap (j : Int) = (j : Int) := by rw [IntKind.wrap_u8]; omega
        have hblk : DBlk w5 pd bl D.n bm D.fuse D.dead (2 * ((j + 1 : Nat) : Int)) := by have := HW5.out.disk.blk; rwa [HW5.out.live.ops] at this
        have Hblk := Lib.hid hblk
        clear hblk hw8
        go_wp2_with fail
        refine wp_region_stabL (P := Try.prog) 23 (by kernel_rfl) (by kernel_rfl) (Only []) (Only.refl _ _) (fun _ _ _ h k => h.then k [] (by simp) (by simp))
          [SP.is (.pointer (some ⟨lp', 0, none⟩)),
           SP.is (.bool false),
           SP.is (.bool false),
           SP.is (.slice (some ⟨rb, ro, none⟩) 1 rc),
           SP.is (.int .i64 1),
           SP.is (.bool false),
           SP.is (.bool false),
           SP.is (.bool false),
           SP.is (.slice (some ⟨rb, ro, none⟩) 1 rc),
           SP.is (.pointer (some ⟨rb, ro, none⟩)),
           SP.is (.slice dx 1 cx),
           SP.is (.string (strB [UInt8.ofNat j])),
           SP.is (.int .i64 j),
           SP.is (.int .u8 j),
           ⟨fun v W => ∃ g, v = .slice (some ⟨g, 0, none⟩) 1 1 ∧ Src W (some ⟨g, 0, none⟩) 1 [UInt8.ofNat j], fun _ _ _ ⟨g, e, h⟩ hO => ⟨g, e, h.more hO⟩⟩,
           SP.is (.string (strB [UInt8.ofNat j])),
           SP.is (.bool false),
           SP.is (.bool false),
           SP.is (.bool false),
           SP.is (.pointer (some ⟨pd, 0, none⟩)),
           SP.is (.int .i64 (2 * ((j : Int) + 1))),
           SP.is (.int .i64 (2 * ((j : Int) + 1))),
           SP.is (.bool false)] ?_ ?_
        · simp only [List.take_succ_cons, List.take_zero]
          refine StepsOK.cons ?_ (StepsOK.cons ?_ (StepsOK.cons ?_ (StepsOK.cons ?_ (StepsOK.cons ?_ (StepsOK.cons ?_ (StepsOK.cons ?_ (StepsOK.cons ?_ (StepsOK.cons ?_ (StepsOK.cons ?_ (StepsOK.cons ?_ (StepsOK.cons ?_ (StepsOK.cons ?_ (StepsOK.cons ?_ (StepsOK.cons ?_ (StepsOK.cons ?_ (StepsOK.cons ?_ (StepsOK.cons ?_ (StepsOK.cons ?_ (StepsOK.cons ?_ (StepsOK.cons ?_ (StepsOK.cons ?_ (StepsOK.cons ?_ StepsOK.nil))))))))))))))))))))))
          · intro a W L N hR hold hφ hcl hkp hd K hK
            have e7 := hold 7 (by kernel_rfl)
            clear hold hφ hcl hkp hd
            rw [if_pos (by rfl)]
            go_simp
            exact hK _ _ (Only.refl _ _) rfl
          · intro a W L N hR hold hφ hcl hkp hd K hK
            have e82 := got hφ (hd 0 (by kernel_rfl)) rfl rfl rfl
            clear hold hφ hcl hkp hd
            rw [if_pos (by rfl)]
            go_simp
            exact hK _ _ (Only.refl _ _) rfl
          · intro a W L N hR hold hφ hcl hkp hd K hK
            have e83 := got hφ (hd 1 (by kernel_rfl)) rfl rfl rfl
            clear hold hφ hcl hkp hd
            rw [if_pos (by rfl)]
            go_simp
            exact hK _ _ (Only.refl _ _) rfl
          · intro a W L N hR hold hφ hcl hkp hd K hK
            have e16 := hold 16 (by kernel_rfl)
            have e84 := got hφ (hd 2 (by kernel_rfl)) rfl rfl rfl
            clear hold hφ hcl hkp hd
            rw [if_pos (by simp [Region.wanted, yielded, e84])]
            go_simp
            exact hK _ _ (Only.refl _ _) rfl
          · intro a W L N hR hold hφ hcl hkp hd K hK
            have e85 := got hφ (hd 3 (by kernel_rfl)) rfl rfl rfl
            have e84 := got hφ (hd 2 (by kernel_rfl)) rfl rfl rfl
            clear hold hφ hcl hkp hd
            rw [if_pos (by simp [Region.wanted, yielded, e84])]
            go_simp
            exact hK _ _ (Only.refl _ _) rfl
          · intro a W L N hR hold hφ hcl hkp hd K hK
            have e86 := got hφ (hd 4 (by kernel_rfl)) rfl rfl rfl
            have e84 := got hφ (hd 2 (by kernel_rfl)) rfl rfl rfl
            clear hold hφ hcl hkp hd
            rw [if_pos (by simp [Region.wanted, yielded, e84])]
            go_simp
            exact hK _ _ (Only.refl _ _) rfl
          · intro a W L N hR hold hφ hcl hkp hd K hK
            have e84 := got hφ (hd 2 (by kernel_rfl)) rfl rfl rfl
            have e87 := got hφ (hd 5 (by kernel_rfl)) rfl rfl rfl
            clear hold hφ hcl hkp hd
            rw [if_pos (by rfl)]
            go_simp
            exact hK _ _ (Only.refl _ _) rfl
          · intro a W L N hR hold hφ hcl hkp hd K hK
            have e88 := got hφ (hd 6 (by kernel_rfl)) rfl rfl rfl
            clear hold hφ hcl hkp hd
            rw [if_pos (by rfl)]
            go_simp
            exact hK _ _ (Only.refl _ _) rfl
          · intro a W L N hR hold hφ hcl hkp hd K hK
            have e16 := hold 16 (by kernel_rfl)
            have e89 := got hφ (hd 7 (by kernel_rfl)) rfl rfl rfl
            clear hold hφ hcl hkp hd
            rw [if_pos (by simp [Region.wanted, yielded, e89])]
            go_simp
            exact hK _ _ (Only.refl _ _) rfl
          · intro a W L N hR hold hφ hcl hkp hd K hK
            have e90 := got hφ (hd 8 (by kernel_rfl)) rfl rfl rfl
            have e89 := got hφ (hd 7 (by kernel_rfl)) rfl rfl rfl
            clear hold hφ hcl hkp hd
            rw [if_pos (by simp [Region.wanted, yielded, e89])]
            go_simp
            exact hK _ _ (Only.refl _ _) rfl
          · intro a W L N hR hold hφ hcl hkp hd K hK
            have e91 := got hφ (hd 9 (by kernel_rfl)) rfl rfl rfl
            have e89 := got hφ (hd 7 (by kernel_rfl)) rfl rfl rfl
            clear hold hφ hcl hkp hd
            rw [if_pos (by simp [Region.wanted, yielded, e89])]
            have hc := (((Only.refl [] w5).drew.plus hR).cell (p := ⟨rb, ro, none⟩) hrb (by simp)).trans hcx
            go_simp
            exact hK _ _ (Only.refl _ _) rfl
          · intro a W L N hR hold hφ hcl hkp hd K hK
            have e92 := got hφ (hd 10 (by kernel_rfl)) rfl rfl rfl
            have e89 := got hφ (hd 7 (by kernel_rfl)) rfl rfl rfl
            clear hold hφ hcl hkp hd
            rw [if_pos (by simp [Region.wanted, yielded, e89])]
            have hcv := conv_src W dx 1 cx _ (Hsx.out.more ((Only.refl [] w5).drew.plus hR))
            go_simp
            exact hK _ _ (Only.refl _ _) rfl
          · intro a W L N hR hold hφ hcl hkp hd K hK
            have e10 := hold 10 (by kernel_rfl)
            have e89 := got hφ (hd 7 (by kernel_rfl)) rfl rfl rfl
            clear hold hφ hcl hkp hd
            rw [if_pos (by simp [Region.wanted, yielded, e89])]
            go_simp
            exact hK _ _ (Only.refl _ _) rfl
          · intro a W L N hR hold hφ hcl hkp hd K hK
            have e94 := got hφ (hd 12 (by kernel_rfl)) rfl rfl rfl
            have e89 := got hφ (hd 7 (by kernel_rfl)) rfl rfl rfl
            clear hold hφ hcl hkp hd
            rw [if_pos (by simp [Region.wanted, yielded, e89])]
            have hw8 : IntKind.u8.wrap (j : Int) = (j : Int) := by rw [IntKind.wrap_u8]; omega
            go_simp
            exact hK _ _ (Only.refl _ _) rfl
          · intro a W L N hR hold hφ hcl hkp hd K hK
            have e95 := got hφ (hd 13 (by kernel_rfl)) rfl rfl rfl
            have e89 := got hφ (hd 7 (by kernel_rfl)) rfl rfl rfl
            clear hold hφ hcl hkp hd
            rw [if_pos (by simp [Region.wanted, yielded, e89])]
            go_simp
            exact hK _ _ ((Only.refl _ _).alloc _) ⟨_, rfl, src_one W j j (by simp; omega) 5⟩
          · intro a W L N hR hold hφ hcl hkp hd K hK
            have e89 := got hφ (hd 7 (by kernel_rfl)) rfl rfl rfl
            obtain ⟨u96, e96, g96, p96, s96⟩ := gotP hφ (hd 14 (by kernel_rfl)) rfl rfl rfl
            have p96 : u96 = .slice (some ⟨g96, 0, none⟩) 1 1 := p96
            subst p96
            clear hold hφ hcl hkp hd
            rw [if_pos (by simp [Region.wanted, yielded, e89])]
            have hcv := conv_src W _ 1 1 _ s96
            go_simp
            exact hK _ _ (Only.refl _ _) rfl
          · intro a W L N hR hold hφ hcl hkp hd K hK
            have e93 := got hφ (hd 11 (by kernel_rfl)) rfl rfl rfl
            have e97 := got hφ (hd 15 (by kernel_rfl)) rfl rfl rfl
            have e89 := got hφ (hd 7 (by kernel_rfl)) rfl rfl rfl
            clear hold hφ hcl hkp hd
            rw [if_pos (by simp [Region.wanted, yielded, e89])]
            have hst : (!(strB [UInt8.ofNat j]).toList == (strB [UInt8.ofNat j]).toList) = false := by simp
            go_simp
            exact hK _ _ (Only.refl _ _) rfl
          · intro a W L N hR hold hφ hcl hkp hd K hK
            have e89 := got hφ (hd 7 (by kernel_rfl)) rfl rfl rfl
            have e98 := got hφ (hd 16 (by kernel_rfl)) rfl rfl rfl
            clear hold hφ hcl hkp hd
            rw [if_pos (by rfl)]
            go_simp
            exact hK _ _ (Only.refl _ _) rfl
          · intro a W L N hR hold hφ hcl hkp hd K hK
            have e99 := got hφ (hd 17 (by kernel_rfl)) rfl rfl rfl
            clear hold hφ hcl hkp hd
            rw [if_pos (by rfl)]
            go_simp
            exact hK _ _ (Only.refl _ _) rfl
          · intro a W L N hR hold hφ hcl hkp hd K hK
            have e5 := hold 5 (by kernel_rfl)
            have e100 := got hφ (hd 18 (by kernel_rfl)) rfl rfl rfl
            clear hold hφ hcl hkp hd
            rw [if_pos (by simp [Region.wanted, yielded, e100])]
            go_simp
            exact hK _ _ (Only.refl _ _) rfl
          · intro a W L N hR hold hφ hcl hkp hd K hK
            have e101 := got hφ (hd 19 (by kernel_rfl)) rfl rfl rfl
            have e100 := got hφ (hd 18 (by kernel_rfl)) rfl rfl rfl
            clear hold hφ hcl hkp hd
            rw [if_pos (by simp [Region.wanted, yielded, e100])]
            go_simp
            refine (ops_any _ pd bl _ bm _ _ _ (IsBlk.only Hblk.out ((Only.refl [] w5).drew.plus hR) (by simp))).mono ?_
            rintro e w' ⟨rfl, rfl⟩
            exact hK _ _ (Only.refl _ _) (show Value.int .i64 (2 * ((j + 1 : Nat) : Int)) = .int .i64 (2 * ((j : Int) + 1)) from by rw [show ((j + 1 : Nat) : Int) = (j : Int) + 1 by omega])
          · intro a W L N hR hold hφ hcl hkp hd K hK
            have e15 := hold 15 (by kernel_rfl)
            have e100 := got hφ (hd 18 (by kernel_rfl)) rfl rfl rfl
            clear hold hφ hcl hkp hd
            rw [if_pos (by simp [Region.wanted, yielded, e100])]
            go_simp
            exact hK _ _ (Only.refl _ _) rfl
          · intro a W L N hR hold hφ hcl hkp hd K hK
            have e102 := got hφ (hd 20 (by kernel_rfl)) rfl rfl rfl
            have e103 := got hφ (hd 21 (by kernel_rfl)) rfl rfl rfl
            have e100 := got hφ (hd 18 (by kernel_rfl)) rfl rfl rfl
            clear hold hφ hcl hkp hd
            rw [if_pos (by simp [Region.wanted, yielded, e100])]
            go_simp
            exact hK _ _ (Only.refl _ _) rfl
        · intro us W hO' hus
          have p100 : us 18 = .bool false := hus 18 _ 100 (by omega) rfl rfl
          have p104 : us 22 = .bool false := hus 22 _ 104 (by omega) rfl rfl
          clear hus
          simp only [List.take_succ_cons, List.take_zero, List.drop_succ_cons, List.drop_zero, fillAct, Act.put, List.setIfInBounds_toArray, List.set_cons_zero, List.set_cons_succ, Nat.reduceAdd, p100, p104]
          have hA := (Only.refl [] w5).drew.plus hO'
          clear p100 p104
          go_wp2_with fail
          go_roundw
          case rel => exact ⟨j + 1, lp', rfl, by go_num, by omega, .inr ⟨by omega, D, HW5.out.more hA⟩, by omega, HO5.out.plus hA⟩
          case measure => simp [intOf]; omega
      · have hm3i : ((j : Int) % 3 == 2) = false := by simp; omega
        go_wp2_with fail
        go_roundw
        case rel => exact ⟨j + 1, lp, rfl, by go_num, hlp, .inr ⟨by omega, D, HW4.out⟩, by omega, HO4.out⟩
        case measure => simp [intOf]; omega
    · have hge : ¬ (j : Int) < (m : Int) := by omega
      go_wp2
      go_ret
      exact ⟨rfl, HO.out⟩

end Go.Proofs.Ytdfnclfmmohpeaa
