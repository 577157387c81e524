/-
  The document's parser: a name.
-/
import Derived.Test.YtildkedplmjdaaaGreatDoorPcE
namespace Go.Proofs.YtildkedplmjdaaaGreatDoor
set_option maxRecDepth 100000
set_option linter.unusedVariables false
open Go.RowKit Go.Sort

theorem nameM_nil : nameM [] = false := by decide
theorem okT_drop {L : List Tok} (hok : ∀ t ∈ L, OkT t) (i : Nat) : ∀ t ∈ L.drop i, OkT t := fun t ht => hok t (List.mem_of_mem_drop ht)
theorem name_bad1 {L : List Tok} {i : Nat} (e : Nat) (hok : ∀ t ∈ L, OkT t) (h : isM L i 0 1 = false) : nameF e (L.drop i) = .error ((nextT (L.drop i) e).at_, 7) := by
  have hk := isM_no e h (by omega)
  have ho := okT_drop hok i
  generalize L.drop i = l at *
  cases l with
  | nil => rfl
  | cons t r =>
    rcases ho t (by simp) with ⟨h1, -⟩ | ⟨-, h1⟩
    · exact absurd h1 hk
    · rw [nameF, h1, nameM_nil]; rfl
theorem name_bad2 {L : List Tok} {i : Nat} (e : Nat) (h : isM L i 0 1 = true) (hn : nameM (nextT (L.drop i) e).s = false) : nameF e (L.drop i) = .error ((nextT (L.drop i) e).at_, 7) := by
  obtain ⟨h1, h2, h3, h4⟩ := isM_yes e h
  rw [h3] at hn ⊢
  simp only [nextT] at hn ⊢
  rw [nameF, hn]; rfl
theorem name_good {L : List Tok} {i : Nat} (e : Nat) (h : isM L i 0 1 = true) (hn : nameM (nextT (L.drop i) e).s = true) : nameF e (L.drop i) = .ok ((nextT (L.drop i) e).s, L.drop (i + 1)) := by
  obtain ⟨h1, h2, h3, h4⟩ := isM_yes e h
  rw [h3] at hn ⊢
  simp only [nextT] at hn ⊢
  rw [nameF, hn]; rfl

/-- What name leaves. -/
def DNameTo (w : World) (p : Nat) (L : List Tok) (i e : Nat) (X : PR (List UInt8 × List Tok)) (r : Ending) (w' : World) : Prop := match X with
  | .ok (n, rest) => r = .returned (encStr n) ∧ L.drop (i + 1) = rest ∧ i < L.length ∧ PrAt w' p L (i + 1) e 0 0 ∧ Only [p] w w'
  | .error (a, k) => r = .returned (encStr []) ∧ k = 7 ∧ PrAt w' p L i e k a ∧ Only [p] w w'

set_option maxHeartbeats 8000000 in
theorem dname_any (w : World) (p : Nat) (L : List Tok) (i e : Nat) (hok : ∀ t ∈ L, OkT t) (h : PrAt w p L i e 0 0) :
    Calls Tryz.prog 28 #[.pointer (some ⟨p, 0, none⟩)] w (DNameTo w p L i e (nameF e (L.drop i))) := by
  have HI0 : Hid (∀ W, Only [] w W → Calls Tryz.prog 46 #[.pointer (some ⟨p, 0, none⟩), .int .i64 1] W fun r w' => r = .returned (.bool (isM L i 0 1)) ∧ Only [] W w') := Lib.hid (fun W hW => ris_any W p L i e 0 0 1 (h.more hW))
  have H := Lib.hid h
  have hp := h.lt
  have hdr : Only [] w w.drew := (Only.refl [] w).drew
  clear h
  cases hz : isM L i 0 1 with
  | false =>
    have hM := name_bad1 e hok hz
    rw [hM]
    have HIs := HI0.out
    rw [hz] at HIs
    have HIs := Lib.hid HIs
    clear HI0 hz hM hok
    go_enter Tryz.func28, Tryz.ntmps28
    go_upto_region 1 with fail
    refine wp_region_stabL (P := Tryz.prog) 18 (by kernel_rfl) (by kernel_rfl) (Only []) (Only.refl _ _) (fun _ _ _ h k => h.then k [] (by simp) (by simp))
      [SP.is (.pointer (some ⟨p, 0, none⟩)),
       SP.is (.bool false),
       SP.is (.bool true),
       SP.is (.bool true),
       SP.is (undef),
       SP.is (undef),
       SP.is (undef),
       SP.is (undef),
       SP.is (undef),
       SP.is (undef),
       SP.is (undef),
       SP.is (undef),
       SP.is (undef),
       SP.is (undef),
       SP.is (undef),
       SP.is (undef),
       SP.is (undef),
       SP.is (.bool true)] ?_ ?_
    · simp only [List.take_succ_cons, List.take_zero]
      refine StepsOK.cons ?_ (StepsOK.cons ?_ (StepsOK.cons ?_ (StepsOK.cons ?_ (StepsOK.cons ?_ (StepsOK.cons ?_ (StepsOK.cons ?_ (StepsOK.cons ?_ (StepsOK.cons ?_ (StepsOK.cons ?_ (StepsOK.cons ?_ (StepsOK.cons ?_ (StepsOK.cons ?_ (StepsOK.cons ?_ (StepsOK.cons ?_ (StepsOK.cons ?_ (StepsOK.cons ?_ (StepsOK.cons ?_ StepsOK.nil)))))))))))))))))
      · intro a W L N hR hold hφ hcl hkp hd K hK
        have e0 := hold 0 (by kernel_rfl)
        clear hold hφ hcl hkp hd
        rw [if_pos (by rfl)]
        go_simp
        exact hK _ _ (Only.refl _ _) rfl
      · intro a W L N hR hold hφ hcl hkp hd K hK
        have e3 := got hφ (hd 0 (by kernel_rfl)) rfl rfl rfl
        have hW := Only.plus hdr hR
        clear hold hφ hcl hkp hd
        rw [if_pos (by rfl)]
        go_simp
        refine (HIs.out W hW).mono ?_
        rintro e w' ⟨rfl, hO'⟩
        exact hK _ _ hO' rfl
      · intro a W L N hR hold hφ hcl hkp hd K hK
        have e4 := got hφ (hd 1 (by kernel_rfl)) rfl rfl rfl
        clear hold hφ hcl hkp hd
        rw [if_pos (by rfl)]
        go_simp
        exact hK _ _ (Only.refl _ _) rfl
      · intro a W L N hR hold hφ hcl hkp hd K hK
        have e5 := got hφ (hd 2 (by kernel_rfl)) rfl rfl rfl
        clear hold hφ hcl hkp hd
        rw [if_pos (by rfl)]
        go_simp
        exact hK _ _ (Only.refl _ _) rfl
      · intro a W L N hR hold hφ hcl hkp hd K hK
        have e0 := hold 0 (by kernel_rfl)
        have e6 := got hφ (hd 3 (by kernel_rfl)) rfl rfl rfl
        clear hold hφ hcl hkp hd
        rw [if_neg (by simp [Region.wanted, yielded, e6])]
        exact hK _ _ (Only.refl _ _) rfl
      · intro a W L N hR hold hφ hcl hkp hd K hK
        have e7 := got hφ (hd 4 (by kernel_rfl)) rfl rfl rfl
        have e6 := got hφ (hd 3 (by kernel_rfl)) rfl rfl rfl
        clear hold hφ hcl hkp hd
        rw [if_neg (by simp [Region.wanted, yielded, e6])]
        exact hK _ _ (Only.refl _ _) rfl
      · intro a W L N hR hold hφ hcl hkp hd K hK
        have e8 := got hφ (hd 5 (by kernel_rfl)) rfl rfl rfl
        have e6 := got hφ (hd 3 (by kernel_rfl)) rfl rfl rfl
        clear hold hφ hcl hkp hd
        rw [if_neg (by simp [Region.wanted, yielded, e6])]
        exact hK _ _ (Only.refl _ _) rfl
      · intro a W L N hR hold hφ hcl hkp hd K hK
        have e9 := got hφ (hd 6 (by kernel_rfl)) rfl rfl rfl
        have e6 := got hφ (hd 3 (by kernel_rfl)) rfl rfl rfl
        clear hold hφ hcl hkp hd
        rw [if_neg (by simp [Region.wanted, yielded, e6])]
        exact hK _ _ (Only.refl _ _) rfl
      · intro a W L N hR hold hφ hcl hkp hd K hK
        have e0 := hold 0 (by kernel_rfl)
        have e6 := got hφ (hd 3 (by kernel_rfl)) rfl rfl rfl
        clear hold hφ hcl hkp hd
        rw [if_neg (by simp [Region.wanted, yielded, e6])]
        exact hK _ _ (Only.refl _ _) rfl
      · intro a W L N hR hold hφ hcl hkp hd K hK
        have e11 := got hφ (hd 8 (by kernel_rfl)) rfl rfl rfl
        have e6 := got hφ (hd 3 (by kernel_rfl)) rfl rfl rfl
        clear hold hφ hcl hkp hd
        rw [if_neg (by simp [Region.wanted, yielded, e6])]
        exact hK _ _ (Only.refl _ _) rfl
      · intro a W L N hR hold hφ hcl hkp hd K hK
        have e12 := got hφ (hd 9 (by kernel_rfl)) rfl rfl rfl
        have e6 := got hφ (hd 3 (by kernel_rfl)) rfl rfl rfl
        clear hold hφ hcl hkp hd
        rw [if_neg (by simp [Region.wanted, yielded, e6])]
        exact hK _ _ (Only.refl _ _) rfl
      · intro a W L N hR hold hφ hcl hkp hd K hK
        have e13 := got hφ (hd 10 (by kernel_rfl)) rfl rfl rfl
        have e6 := got hφ (hd 3 (by kernel_rfl)) rfl rfl rfl
        clear hold hφ hcl hkp hd
        rw [if_neg (by simp [Region.wanted, yielded, e6])]
        exact hK _ _ (Only.refl _ _) rfl
      · intro a W L N hR hold hφ hcl hkp hd K hK
        have e10 := got hφ (hd 7 (by kernel_rfl)) rfl rfl rfl
        have e14 := got hφ (hd 11 (by kernel_rfl)) rfl rfl rfl
        have e6 := got hφ (hd 3 (by kernel_rfl)) rfl rfl rfl
        clear hold hφ hcl hkp hd
        rw [if_neg (by simp [Region.wanted, yielded, e6])]
        exact hK _ _ (Only.refl _ _) rfl
      · intro a W L N hR hold hφ hcl hkp hd K hK
        have e15 := got hφ (hd 12 (by kernel_rfl)) rfl rfl rfl
        have e6 := got hφ (hd 3 (by kernel_rfl)) rfl rfl rfl
        clear hold hφ hcl hkp hd
        rw [if_neg (by simp [Region.wanted, yielded, e6])]
        exact hK _ _ (Only.refl _ _) rfl
      · intro a W L N hR hold hφ hcl hkp hd K hK
        have e16 := got hφ (hd 13 (by kernel_rfl)) rfl rfl rfl
        have e6 := got hφ (hd 3 (by kernel_rfl)) rfl rfl rfl
        clear hold hφ hcl hkp hd
        rw [if_neg (by simp [Region.wanted, yielded, e6])]
        exact hK _ _ (Only.refl _ _) rfl
      · intro a W L N hR hold hφ hcl hkp hd K hK
        have e17 := got hφ (hd 14 (by kernel_rfl)) rfl rfl rfl
        have e6 := got hφ (hd 3 (by kernel_rfl)) rfl rfl rfl
        clear hold hφ hcl hkp hd
        rw [if_neg (by simp [Region.wanted, yielded, e6])]
        exact hK _ _ (Only.refl _ _) rfl
      · intro a W L N hR hold hφ hcl hkp hd K hK
        have e18 := got hφ (hd 15 (by kernel_rfl)) rfl rfl rfl
        have e6 := got hφ (hd 3 (by kernel_rfl)) rfl rfl rfl
        clear hold hφ hcl hkp hd
        rw [if_neg (by simp [Region.wanted, yielded, e6])]
        exact hK _ _ (Only.refl _ _) rfl
      · intro a W L N hR hold hφ hcl hkp hd K hK
        have e6 := got hφ (hd 3 (by kernel_rfl)) rfl rfl rfl
        have e19 := got hφ (hd 16 (by kernel_rfl)) rfl rfl rfl
        clear hold hφ hcl hkp hd
        rw [if_pos (by rfl)]
        go_simp
        exact hK _ _ (Only.refl _ _) rfl
    · intro us W hO' hus
      have p17 : us 17 = .bool true := hus 17 _ 20 (by omega) rfl rfl
      clear hus
      simp only [List.take_succ_cons, List.take_zero, List.drop_succ_cons, List.drop_zero, fillAct, Act.put, List.setIfInBounds_toArray, List.set_cons_zero, List.set_cons_succ, Nat.reduceAdd, p17]
      clear p17
      have HO4 := Lib.hid (Only.plus hdr hO')
      clear hO'
      have HF := Lib.hid (rfail_any W p L i e 0 0 7 (H.out.more HO4.out))
      go_wp2_with fail
      refine HF.out.mono ?_
      rintro r w5 ⟨rfl, hP, hO5⟩
      have HP := Lib.hid hP
      have HO5 := Lib.hid (HO4.out.then hO5 [p] (by simp) (by simp))
      clear hP hO5 HF
      go_wp2
      go_ret
      exact ⟨rfl, rfl, HP.out, HO5.out⟩
  | true =>
    obtain ⟨hlt, hk1, hdrop, hget⟩ := isM_yes e hz
    have hb2 := name_bad2 e hz
    have hgd := name_good e hz
    have hsl : (nextT (L.drop i) e).s.length ≤ 100000 := by
      rcases hok _ (List.mem_of_getElem? hget) with ⟨-, h1⟩ | ⟨h1, -⟩
      · exact h1
      · exact absurd hk1 h1
    have HNm := Lib.hid (fun W => rname_any W (nextT (L.drop i) e).s hsl)
    have HIs := HI0.out
    rw [hz] at HIs
    have HIs := Lib.hid HIs
    obtain ⟨g, c, l0, hg, k0, k1, k2⟩ := H.out.tok i hget
    obtain ⟨l1, -⟩ := H.out.open
    have hgw : g < w.heap.size := by omega
    have hcl : ∀ W, Only [] w W → W.cell? ⟨p, 0, none⟩ = some (.slice (some ⟨g, 0, none⟩) L.length c) ∧ W.cell? ⟨p, 1, none⟩ = some (.int .i64 i) ∧ W.cell? ⟨g, i * 3 + 2, none⟩ = some (.string ⟨(nextT (L.drop i) e).s.toArray⟩) ∧ p < W.heap.size ∧ g < W.heap.size := fun W hW =>
      ⟨(hW.cell (p := ⟨p, 0, none⟩) hp (by simp)).trans l0, (hW.cell (p := ⟨p, 1, none⟩) hp (by simp)).trans l1, (hW.cell (p := ⟨g, i * 3 + 2, none⟩) hgw (by simp)).trans k2, Nat.lt_of_lt_of_le hp hW.size, Nat.lt_of_lt_of_le hgw hW.size⟩
    have Hcl := Lib.hid hcl
    have Hget := Lib.hid hget
    have Hb2 := Lib.hid hb2
    have Hgd := Lib.hid hgd
    have Hnx := Lib.hid (rfl : nextT (L.drop i) e = nextT (L.drop i) e)
    clear HI0 hz hget hdrop hk1 hok hsl hcl k0 k1 k2 l0 l1 hb2 hgd
    have HnB : Hid (∀ W, PrAt W p L i e 0 0 → Calls Tryz.prog 30 #[.pointer (some ⟨p, 0, none⟩), .int .i64 7] W fun r w' => r = .returned (.tuple #[]) ∧ PrAt w' p L i e 7 (nextT (L.drop i) e).at_ ∧ Only [p] W w') := Lib.hid (fun W hW => rfail_any W p L i e 0 0 7 hW)
    generalize hnf : nameF e (L.drop i) = X at *
    clear hnf
    generalize nextT (L.drop i) e = t at *
    have hlti : (i : Int) < (L.length : Int) := by omega
    have hi0 : (0 : Int) ≤ (i : Int) := by omega
    clear Hnx
    go_enter Tryz.func28, Tryz.ntmps28
    go_upto_region 1 with fail
    cases hy : nameM t.s with
    | false =>
      have HX := Lib.hid (Hb2.out hy)
      rw [hy] at HNm
      clear Hb2 Hgd hy
      refine wp_region_stabL (P := Tryz.prog) 18 (by kernel_rfl) (by kernel_rfl) (Only []) (Only.refl _ _) (fun _ _ _ h k => h.then k [] (by simp) (by simp))
        [SP.is (.pointer (some ⟨p, 0, none⟩)),
         SP.is (.bool true),
         SP.is (.bool false),
         SP.is (.bool false),
         SP.is (.pointer (some ⟨p, 0, none⟩)),
         SP.is (.pointer (some ⟨p, 0, none⟩)),
         SP.is (.pointer (some ⟨p, 0, none⟩)),
         SP.is (.slice (some ⟨g, 0, none⟩) L.length c),
         SP.is (.pointer (some ⟨p, 0, none⟩)),
         SP.is (.pointer (some ⟨p, 0, none⟩)),
         SP.is (.pointer (some ⟨p, 1, none⟩)),
         SP.is (.int .i64 i),
         SP.is (.pointer (some ⟨g, i * 3, none⟩)),
         SP.is (.pointer (some ⟨g, i * 3 + 2, none⟩)),
         SP.is (.string ⟨t.s.toArray⟩),
         SP.is (.bool false),
         SP.is (.bool true),
         SP.is (.bool true)] ?_ ?_
      · simp only [List.take_succ_cons, List.take_zero]
        refine StepsOK.cons ?_ (StepsOK.cons ?_ (StepsOK.cons ?_ (StepsOK.cons ?_ (StepsOK.cons ?_ (StepsOK.cons ?_ (StepsOK.cons ?_ (StepsOK.cons ?_ (StepsOK.cons ?_ (StepsOK.cons ?_ (StepsOK.cons ?_ (StepsOK.cons ?_ (StepsOK.cons ?_ (StepsOK.cons ?_ (StepsOK.cons ?_ (StepsOK.cons ?_ (StepsOK.cons ?_ (StepsOK.cons ?_ StepsOK.nil)))))))))))))))))
        · intro a W L N hR hold hφ hcl hkp hd K hK
          have e0 := hold 0 (by kernel_rfl)
          clear hold hφ hcl hkp hd
          rw [if_pos (by rfl)]
          go_simp
          exact hK _ _ (Only.refl _ _) rfl
        · intro a W L N hR hold hφ hcl hkp hd K hK
          have e3 := got hφ (hd 0 (by kernel_rfl)) rfl rfl rfl
          have hW := Only.plus hdr hR
          clear hold hφ hcl hkp hd
          rw [if_pos (by rfl)]
          go_simp
          refine (HIs.out W hW).mono ?_
          rintro e w' ⟨rfl, hO'⟩
          exact hK _ _ hO' rfl
        · intro a W L N hR hold hφ hcl hkp hd K hK
          have e4 := got hφ (hd 1 (by kernel_rfl)) rfl rfl rfl
          clear hold hφ hcl hkp hd
          rw [if_pos (by rfl)]
          go_simp
          exact hK _ _ (Only.refl _ _) rfl
        · intro a W L N hR hold hφ hcl hkp hd K hK
          have e5 := got hφ (hd 2 (by kernel_rfl)) rfl rfl rfl
          clear hold hφ hcl hkp hd
          rw [if_pos (by rfl)]
          go_simp
          exact hK _ _ (Only.refl _ _) rfl
        · intro a W L N hR hold hφ hcl hkp hd K hK
          have e0 := hold 0 (by kernel_rfl)
          have e6 := got hφ (hd 3 (by kernel_rfl)) rfl rfl rfl
          clear hold hφ hcl hkp hd
          rw [if_pos (by simp [Region.wanted, yielded, e6])]
          go_simp
          exact hK _ _ (Only.refl _ _) rfl
        · intro a W L N hR hold hφ hcl hkp hd K hK
          have e7 := got hφ (hd 4 (by kernel_rfl)) rfl rfl rfl
          have e6 := got hφ (hd 3 (by kernel_rfl)) rfl rfl rfl
          obtain ⟨l0, l1, l2, l3, l4⟩ := Hcl.out W (Only.plus hdr hR)
          clear hold hφ hcl hkp hd
          rw [if_pos (by simp [Region.wanted, yielded, e6])]
          go_simp
          exact hK _ _ (Only.refl _ _) rfl
        · intro a W L N hR hold hφ hcl hkp hd K hK
          have e8 := got hφ (hd 5 (by kernel_rfl)) rfl rfl rfl
          have e6 := got hφ (hd 3 (by kernel_rfl)) rfl rfl rfl
          clear hold hφ hcl hkp hd
          rw [if_pos (by simp [Region.wanted, yielded, e6])]
          go_simp
          exact hK _ _ (Only.refl _ _) rfl
        · intro a W L N hR hold hφ hcl hkp hd K hK
          have e9 := got hφ (hd 6 (by kernel_rfl)) rfl rfl rfl
          have e6 := got hφ (hd 3 (by kernel_rfl)) rfl rfl rfl
          obtain ⟨l0, l1, l2, l3, l4⟩ := Hcl.out W (Only.plus hdr hR)
          clear hold hφ hcl hkp hd
          rw [if_pos (by simp [Region.wanted, yielded, e6])]
          go_simp
          exact hK _ _ (Only.refl _ _) rfl
        · intro a W L N hR hold hφ hcl hkp hd K hK
          have e0 := hold 0 (by kernel_rfl)
          have e6 := got hφ (hd 3 (by kernel_rfl)) rfl rfl rfl
          clear hold hφ hcl hkp hd
          rw [if_pos (by simp [Region.wanted, yielded, e6])]
          go_simp
          exact hK _ _ (Only.refl _ _) rfl
        · intro a W L N hR hold hφ hcl hkp hd K hK
          have e11 := got hφ (hd 8 (by kernel_rfl)) rfl rfl rfl
          have e6 := got hφ (hd 3 (by kernel_rfl)) rfl rfl rfl
          obtain ⟨l0, l1, l2, l3, l4⟩ := Hcl.out W (Only.plus hdr hR)
          clear hold hφ hcl hkp hd
          rw [if_pos (by simp [Region.wanted, yielded, e6])]
          go_simp
          exact hK _ _ (Only.refl _ _) rfl
        · intro a W L N hR hold hφ hcl hkp hd K hK
          have e12 := got hφ (hd 9 (by kernel_rfl)) rfl rfl rfl
          have e6 := got hφ (hd 3 (by kernel_rfl)) rfl rfl rfl
          clear hold hφ hcl hkp hd
          rw [if_pos (by simp [Region.wanted, yielded, e6])]
          go_simp
          exact hK _ _ (Only.refl _ _) rfl
        · intro a W L N hR hold hφ hcl hkp hd K hK
          have e13 := got hφ (hd 10 (by kernel_rfl)) rfl rfl rfl
          have e6 := got hφ (hd 3 (by kernel_rfl)) rfl rfl rfl
          obtain ⟨l0, l1, l2, l3, l4⟩ := Hcl.out W (Only.plus hdr hR)
          clear hold hφ hcl hkp hd
          rw [if_pos (by simp [Region.wanted, yielded, e6])]
          go_simp
          exact hK _ _ (Only.refl _ _) rfl
        · intro a W L N hR hold hφ hcl hkp hd K hK
          have e10 := got hφ (hd 7 (by kernel_rfl)) rfl rfl rfl
          have e14 := got hφ (hd 11 (by kernel_rfl)) rfl rfl rfl
          have e6 := got hφ (hd 3 (by kernel_rfl)) rfl rfl rfl
          clear hold hφ hcl hkp hd
          rw [if_pos (by simp [Region.wanted, yielded, e6])]
          go_simp
          exact hK _ _ (Only.refl _ _) rfl
        · intro a W L N hR hold hφ hcl hkp hd K hK
          have e15 := got hφ (hd 12 (by kernel_rfl)) rfl rfl rfl
          have e6 := got hφ (hd 3 (by kernel_rfl)) rfl rfl rfl
          clear hold hφ hcl hkp hd
          rw [if_pos (by simp [Region.wanted, yielded, e6])]
          go_simp
          exact hK _ _ (Only.refl _ _) rfl
        · intro a W L N hR hold hφ hcl hkp hd K hK
          have e16 := got hφ (hd 13 (by kernel_rfl)) rfl rfl rfl
          have e6 := got hφ (hd 3 (by kernel_rfl)) rfl rfl rfl
          obtain ⟨l0, l1, l2, l3, l4⟩ := Hcl.out W (Only.plus hdr hR)
          clear hold hφ hcl hkp hd
          rw [if_pos (by simp [Region.wanted, yielded, e6])]
          go_simp
          exact hK _ _ (Only.refl _ _) rfl
        · intro a W L N hR hold hφ hcl hkp hd K hK
          have e17 := got hφ (hd 14 (by kernel_rfl)) rfl rfl rfl
          have e6 := got hφ (hd 3 (by kernel_rfl)) rfl rfl rfl
          have hW := Only.plus hdr hR
          clear hold hφ hcl hkp hd
          rw [if_pos (by simp [Region.wanted, yielded, e6])]
          go_simp
          refine (HNm.out W).mono ?_
          rintro e w' ⟨rfl, hO'⟩
          exact hK _ _ hO' rfl
        · intro a W L N hR hold hφ hcl hkp hd K hK
          have e18 := got hφ (hd 15 (by kernel_rfl)) rfl rfl rfl
          have e6 := got hφ (hd 3 (by kernel_rfl)) rfl rfl rfl
          clear hold hφ hcl hkp hd
          rw [if_pos (by simp [Region.wanted, yielded, e6])]
          go_simp
          exact hK _ _ (Only.refl _ _) rfl
        · intro a W L N hR hold hφ hcl hkp hd K hK
          have e6 := got hφ (hd 3 (by kernel_rfl)) rfl rfl rfl
          have e19 := got hφ (hd 16 (by kernel_rfl)) rfl rfl rfl
          clear hold hφ hcl hkp hd
          rw [if_pos (by rfl)]
          go_simp
          exact hK _ _ (Only.refl _ _) rfl
      · intro us W hO' hus
        have p17 : us 17 = .bool true := hus 17 _ 20 (by omega) rfl rfl
        clear hus
        simp only [List.take_succ_cons, List.take_zero, List.drop_succ_cons, List.drop_zero, fillAct, Act.put, List.setIfInBounds_toArray, List.set_cons_zero, List.set_cons_succ, Nat.reduceAdd, p17]
        clear p17
        have HO4 := Lib.hid (Only.plus hdr hO')
        clear hO'
        have HF := Lib.hid (HnB.out W (H.out.more HO4.out))
        go_wp2_with fail
        refine HF.out.mono ?_
        rintro r w5 ⟨rfl, hP, hO5⟩
        have HP := Lib.hid hP
        have HO5 := Lib.hid (HO4.out.then hO5 [p] (by simp) (by simp))
        clear hP hO5 HF
        go_wp2
        go_ret
        rw [HX.out]
        exact ⟨rfl, rfl, HP.out, HO5.out⟩
    | true =>
      have HX := Lib.hid (Hgd.out hy)
      rw [hy] at HNm
      clear Hb2 Hgd hy HnB
      refine wp_region_stabL (P := Tryz.prog) 18 (by kernel_rfl) (by kernel_rfl) (Only []) (Only.refl _ _) (fun _ _ _ h k => h.then k [] (by simp) (by simp))
        [SP.is (.pointer (some ⟨p, 0, none⟩)),
         SP.is (.bool true),
         SP.is (.bool false),
         SP.is (.bool false),
         SP.is (.pointer (some ⟨p, 0, none⟩)),
         SP.is (.pointer (some ⟨p, 0, none⟩)),
         SP.is (.pointer (some ⟨p, 0, none⟩)),
         SP.is (.slice (some ⟨g, 0, none⟩) L.length c),
         SP.is (.pointer (some ⟨p, 0, none⟩)),
         SP.is (.pointer (some ⟨p, 0, none⟩)),
         SP.is (.pointer (some ⟨p, 1, none⟩)),
         SP.is (.int .i64 i),
         SP.is (.pointer (some ⟨g, i * 3, none⟩)),
         SP.is (.pointer (some ⟨g, i * 3 + 2, none⟩)),
         SP.is (.string ⟨t.s.toArray⟩),
         SP.is (.bool true),
         SP.is (.bool false),
         SP.is (.bool false)] ?_ ?_
      · simp only [List.take_succ_cons, List.take_zero]
        refine StepsOK.cons ?_ (StepsOK.cons ?_ (StepsOK.cons ?_ (StepsOK.cons ?_ (StepsOK.cons ?_ (StepsOK.cons ?_ (StepsOK.cons ?_ (StepsOK.cons ?_ (StepsOK.cons ?_ (StepsOK.cons ?_ (StepsOK.cons ?_ (StepsOK.cons ?_ (StepsOK.cons ?_ (StepsOK.cons ?_ (StepsOK.cons ?_ (StepsOK.cons ?_ (StepsOK.cons ?_ (StepsOK.cons ?_ StepsOK.nil)))))))))))))))))
        · intro a W L N hR hold hφ hcl hkp hd K hK
          have e0 := hold 0 (by kernel_rfl)
          clear hold hφ hcl hkp hd
          rw [if_pos (by rfl)]
          go_simp
          exact hK _ _ (Only.refl _ _) rfl
        · intro a W L N hR hold hφ hcl hkp hd K hK
          have e3 := got hφ (hd 0 (by kernel_rfl)) rfl rfl rfl
          have hW := Only.plus hdr hR
          clear hold hφ hcl hkp hd
          rw [if_pos (by rfl)]
          go_simp
          refine (HIs.out W hW).mono ?_
          rintro e w' ⟨rfl, hO'⟩
          exact hK _ _ hO' rfl
        · intro a W L N hR hold hφ hcl hkp hd K hK
          have e4 := got hφ (hd 1 (by kernel_rfl)) rfl rfl rfl
          clear hold hφ hcl hkp hd
          rw [if_pos (by rfl)]
          go_simp
          exact hK _ _ (Only.refl _ _) rfl
        · intro a W L N hR hold hφ hcl hkp hd K hK
          have e5 := got hφ (hd 2 (by kernel_rfl)) rfl rfl rfl
          clear hold hφ hcl hkp hd
          rw [if_pos (by rfl)]
          go_simp
          exact hK _ _ (Only.refl _ _) rfl
        · intro a W L N hR hold hφ hcl hkp hd K hK
          have e0 := hold 0 (by kernel_rfl)
          have e6 := got hφ (hd 3 (by kernel_rfl)) rfl rfl rfl
          clear hold hφ hcl hkp hd
          rw [if_pos (by simp [Region.wanted, yielded, e6])]
          go_simp
          exact hK _ _ (Only.refl _ _) rfl
        · intro a W L N hR hold hφ hcl hkp hd K hK
          have e7 := got hφ (hd 4 (by kernel_rfl)) rfl rfl rfl
          have e6 := got hφ (hd 3 (by kernel_rfl)) rfl rfl rfl
          obtain ⟨l0, l1, l2, l3, l4⟩ := Hcl.out W (Only.plus hdr hR)
          clear hold hφ hcl hkp hd
          rw [if_pos (by simp [Region.wanted, yielded, e6])]
          go_simp
          exact hK _ _ (Only.refl _ _) rfl
        · intro a W L N hR hold hφ hcl hkp hd K hK
          have e8 := got hφ (hd 5 (by kernel_rfl)) rfl rfl rfl
          have e6 := got hφ (hd 3 (by kernel_rfl)) rfl rfl rfl
          clear hold hφ hcl hkp hd
          rw [if_pos (by simp [Region.wanted, yielded, e6])]
          go_simp
          exact hK _ _ (Only.refl _ _) rfl
        · intro a W L N hR hold hφ hcl hkp hd K hK
          have e9 := got hφ (hd 6 (by kernel_rfl)) rfl rfl rfl
          have e6 := got hφ (hd 3 (by kernel_rfl)) rfl rfl rfl
          obtain ⟨l0, l1, l2, l3, l4⟩ := Hcl.out W (Only.plus hdr hR)
          clear hold hφ hcl hkp hd
          rw [if_pos (by simp [Region.wanted, yielded, e6])]
          go_simp
          exact hK _ _ (Only.refl _ _) rfl
        · intro a W L N hR hold hφ hcl hkp hd K hK
          have e0 := hold 0 (by kernel_rfl)
          have e6 := got hφ (hd 3 (by kernel_rfl)) rfl rfl rfl
          clear hold hφ hcl hkp hd
          rw [if_pos (by simp [Region.wanted, yielded, e6])]
          go_simp
          exact hK _ _ (Only.refl _ _) rfl
        · intro a W L N hR hold hφ hcl hkp hd K hK
          have e11 := got hφ (hd 8 (by kernel_rfl)) rfl rfl rfl
          have e6 := got hφ (hd 3 (by kernel_rfl)) rfl rfl rfl
          obtain ⟨l0, l1, l2, l3, l4⟩ := Hcl.out W (Only.plus hdr hR)
          clear hold hφ hcl hkp hd
          rw [if_pos (by simp [Region.wanted, yielded, e6])]
          go_simp
          exact hK _ _ (Only.refl _ _) rfl
        · intro a W L N hR hold hφ hcl hkp hd K hK
          have e12 := got hφ (hd 9 (by kernel_rfl)) rfl rfl rfl
          have e6 := got hφ (hd 3 (by kernel_rfl)) rfl rfl rfl
          clear hold hφ hcl hkp hd
          rw [if_pos (by simp [Region.wanted, yielded, e6])]
          go_simp
          exact hK _ _ (Only.refl _ _) rfl
        · intro a W L N hR hold hφ hcl hkp hd K hK
          have e13 := got hφ (hd 10 (by kernel_rfl)) rfl rfl rfl
          have e6 := got hφ (hd 3 (by kernel_rfl)) rfl rfl rfl
          obtain ⟨l0, l1, l2, l3, l4⟩ := Hcl.out W (Only.plus hdr hR)
          clear hold hφ hcl hkp hd
          rw [if_pos (by simp [Region.wanted, yielded, e6])]
          go_simp
          exact hK _ _ (Only.refl _ _) rfl
        · intro a W L N hR hold hφ hcl hkp hd K hK
          have e10 := got hφ (hd 7 (by kernel_rfl)) rfl rfl rfl
          have e14 := got hφ (hd 11 (by kernel_rfl)) rfl rfl rfl
          have e6 := got hφ (hd 3 (by kernel_rfl)) rfl rfl rfl
          clear hold hφ hcl hkp hd
          rw [if_pos (by simp [Region.wanted, yielded, e6])]
          go_simp
          exact hK _ _ (Only.refl _ _) rfl
        · intro a W L N hR hold hφ hcl hkp hd K hK
          have e15 := got hφ (hd 12 (by kernel_rfl)) rfl rfl rfl
          have e6 := got hφ (hd 3 (by kernel_rfl)) rfl rfl rfl
          clear hold hφ hcl hkp hd
          rw [if_pos (by simp [Region.wanted, yielded, e6])]
          go_simp
          exact hK _ _ (Only.refl _ _) rfl
        · intro a W L N hR hold hφ hcl hkp hd K hK
          have e16 := got hφ (hd 13 (by kernel_rfl)) rfl rfl rfl
          have e6 := got hφ (hd 3 (by kernel_rfl)) rfl rfl rfl
          obtain ⟨l0, l1, l2, l3, l4⟩ := Hcl.out W (Only.plus hdr hR)
          clear hold hφ hcl hkp hd
          rw [if_pos (by simp [Region.wanted, yielded, e6])]
          go_simp
          exact hK _ _ (Only.refl _ _) rfl
        · intro a W L N hR hold hφ hcl hkp hd K hK
          have e17 := got hφ (hd 14 (by kernel_rfl)) rfl rfl rfl
          have e6 := got hφ (hd 3 (by kernel_rfl)) rfl rfl rfl
          have hW := Only.plus hdr hR
          clear hold hφ hcl hkp hd
          rw [if_pos (by simp [Region.wanted, yielded, e6])]
          go_simp
          refine (HNm.out W).mono ?_
          rintro e w' ⟨rfl, hO'⟩
          exact hK _ _ hO' rfl
        · intro a W L N hR hold hφ hcl hkp hd K hK
          have e18 := got hφ (hd 15 (by kernel_rfl)) rfl rfl rfl
          have e6 := got hφ (hd 3 (by kernel_rfl)) rfl rfl rfl
          clear hold hφ hcl hkp hd
          rw [if_pos (by simp [Region.wanted, yielded, e6])]
          go_simp
          exact hK _ _ (Only.refl _ _) rfl
        · intro a W L N hR hold hφ hcl hkp hd K hK
          have e6 := got hφ (hd 3 (by kernel_rfl)) rfl rfl rfl
          have e19 := got hφ (hd 16 (by kernel_rfl)) rfl rfl rfl
          clear hold hφ hcl hkp hd
          rw [if_pos (by rfl)]
          go_simp
          exact hK _ _ (Only.refl _ _) rfl
      · intro us W hO' hus
        have p17 : us 17 = .bool false := hus 17 _ 20 (by omega) rfl rfl
        clear hus
        simp only [List.take_succ_cons, List.take_zero, List.drop_succ_cons, List.drop_zero, fillAct, Act.put, List.setIfInBounds_toArray, List.set_cons_zero, List.set_cons_succ, Nat.reduceAdd, p17]
        clear p17
        have HO4 := Lib.hid (Only.plus hdr hO')
        clear hO'
        have hP := H.out.more HO4.out
        obtain ⟨c1, -, -, f1, hpW, -, hml⟩ := hP.open
        have hw1 : IntKind.i64.wrap ((i : Int) + 1) = (i : Int) + 1 := Go.IntWalk.i64_in _ (by omega)
        have hw2 : IntKind.i64.wrap ((i : Int) + 1 - 1) = (i : Int) := by rw [Go.IntWalk.i64_in _ (by omega)]; omega
        obtain ⟨hP2, hO2⟩ := hP.step hlt
        have HP2 := Lib.hid hP2
        have HO5 := Lib.hid (HO4.out.then hO2 [p] (by simp) (by simp))
        obtain ⟨d1, -, -, -, hpW2, -⟩ := hP2.open
        rw [show ((i + 1 : Nat) : Int) = (i : Int) + 1 from rfl] at d1
        obtain ⟨g', c', d0, hg', -, -, d2⟩ := hP2.tok i Hget.out
        have hgW2 : g' < (W.setCell ⟨p, 1, none⟩ (.int .i64 ((i : Int) + 1))).heap.size := by omega
        clear hP hP2 hO2 Hcl hg HIs HNm
        go_upto_region 5 with fail
        generalize hW6 : W.setCell ⟨p, 1, none⟩ (.int .i64 ((i : Int) + 1)) = w6 at *
        clear hW6 c1 f1
        go_region
        go_wp2
        go_ret
        rw [HX.out]
        exact ⟨rfl, rfl, hlt, HP2.out.more ((Only.refl _ _).drew), HO5.out.drew⟩

end Go.Proofs.YtildkedplmjdaaaGreatDoor
