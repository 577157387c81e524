/-
  The document's parser: is the next token that word?
-/
import Derived.Test.YtildkedplmjdaaaGreatDoorPbE
import Derived.Test.YtildkedplmjdaaaGreatDoorStab
namespace Go.Proofs.YtildkedplmjdaaaGreatDoor
set_option maxRecDepth 100000
set_option linter.unusedVariables false
open Go.RowKit Go.Sort

/-- A parser: the tokens, how many are read, where the text ends, its error and place. -/
def PrAt (w : World) (p : Nat) (L : List Tok) (i e er wh : Nat) : Prop :=
  ∃ a c, IsBlk w p (.cells #[.slice a L.length c, .int .i64 i, .int .i64 e, .int .i64 er, .int .i64 wh] 68) ∧ i ≤ L.length ∧ L.length ≤ 1000000 ∧ (0 < L.length → ∃ g, a = some ⟨g, 0, none⟩ ∧ g < p ∧ w.rangeAt g 0 (lcellsT L))
theorem lcells_get : ∀ (L : List Tok) (i : Nat) (t : Tok), L[i]? = some t → (lcellsT L)[i * 3]? = some (.int .i64 t.kind) ∧ (lcellsT L)[i * 3 + 1]? = some (.int .i64 t.at_) ∧ (lcellsT L)[i * 3 + 2]? = some (encStr t.s)
  | [], i, t, h => by simp at h
  | x :: L, 0, t, h => by
    simp only [List.getElem?_cons_zero, Option.some.injEq] at h
    subst h
    simp [lcellsT, tcells]
  | x :: L, i + 1, t, h => by
    have h' : L[i]? = some t := by simpa using h
    obtain ⟨h1, h2, h3⟩ := lcells_get L i t h'
    have e : lcellsT (x :: L) = .int .i64 x.kind :: .int .i64 x.at_ :: encStr x.s :: lcellsT L := by simp [lcellsT, tcells]
    rw [e, show (i + 1) * 3 = i * 3 + 3 by omega]
    exact ⟨h1, h2, h3⟩

set_option maxHeartbeats 4000000 in
theorem rat_any (w : World) (p : Nat) (L : List Tok) (i e er wh : Nat) (h : PrAt w p L i e er wh) :
    Calls Tryz.prog 26 #[.pointer (some ⟨p, 0, none⟩)] w fun r w' => r = .returned (.int .i64 (nextT (L.drop i) e).at_) ∧ Only [] w w' := by
  obtain ⟨a, c, hb, hi, hm, hr⟩ := h
  have c0 := hb.cell 0
  have c1 := hb.cell 1
  have c2 := hb.cell 2
  have hp := hb.lt
  by_cases hlt : i < L.length
  · have hget : L[i]? = some L[i] := List.getElem?_eq_getElem hlt
    obtain ⟨g, rfl, hg, hra⟩ := hr (by omega)
    obtain ⟨e1, e2, e3⟩ := lcells_get L i _ hget
    have k1 := hra _ _ e2
    rw [Nat.zero_add] at k1
    have hnx : nextT (L.drop i) e = L[i] := by rw [List.drop_eq_getElem_cons hlt]; rfl
    rw [hnx]
    generalize L[i] = t at *
    have hlti : (i : Int) < (L.length : Int) := by omega
    have hi0 : (0 : Int) ≤ (i : Int) := by omega
    have hgw : g < w.heap.size := by omega
    clear hb hr hra e1 e2 e3 hget hnx
    go_enter Tryz.func26, Tryz.ntmps26
    go_upto_region 1 with fail
    go_region
    go_upto_region 2 with fail
    go_region
    go_wp2
    go_ret
    exact ⟨rfl, (Only.refl _ _).drew.drew⟩
  · have hlti : ¬ (i : Int) < (L.length : Int) := by omega
    rw [List.drop_of_length_le (by omega)]
    clear hb hr
    go_enter Tryz.func26, Tryz.ntmps26
    go_upto_region 1 with fail
    go_region
    go_wp2
    go_ret
    exact ⟨rfl, (Only.refl _ _).drew⟩

end Go.Proofs.YtildkedplmjdaaaGreatDoor
namespace Go.Proofs.YtildkedplmjdaaaGreatDoor
set_option maxRecDepth 100000
set_option linter.unusedVariables false
open Go.RowKit Go.Sort

def isM (L : List Tok) (i er k : Nat) : Bool := decide (er = 0) && (match L[i]? with | some t => decide (t.kind = k) | none => false)

set_option maxHeartbeats 8000000 in
theorem ris_any (w : World) (p : Nat) (L : List Tok) (i e er wh k : Nat) (h : PrAt w p L i e er wh) :
    Calls Tryz.prog 46 #[.pointer (some ⟨p, 0, none⟩), .int .i64 k] w fun r w' => r = .returned (.bool (isM L i er k)) ∧ Only [] w w' := by
  obtain ⟨a, c, hb, hi, hm, hr⟩ := h
  have c0 := hb.cell 0
  have c1 := hb.cell 1
  have c3 := hb.cell 3
  have hp := hb.lt
  by_cases her : er = 0
  · subst her
    by_cases hlt : i < L.length
    · have hget : L[i]? = some L[i] := List.getElem?_eq_getElem hlt
      obtain ⟨g, rfl, hg, hra⟩ := hr (by omega)
      obtain ⟨e1, e2, e3⟩ := lcells_get L i _ hget
      have k1 := hra _ _ e1
      rw [Nat.zero_add] at k1
      have hM : isM L i 0 k = decide (L[i].kind = k) := by unfold isM; rw [hget]; simp
      rw [hM]
      generalize L[i] = t at *
      have hlti : (i : Int) < (L.length : Int) := by omega
      have hi0 : (0 : Int) ≤ (i : Int) := by omega
      have hgw : g < w.heap.size := by omega
      clear hb hr hra e1 e2 e3 hget hM
      by_cases hk : t.kind = k
      · have hkb : ((t.kind : Int) == (k : Int)) = true := by simp; omega
        have hd : decide (t.kind = k) = true := by simp [hk]
        rw [hd]
        clear hk hd
        go_enter Tryz.func46, Tryz.ntmps46
        go_upto_region 1 with fail
        go_region
        go_wp2
        go_ret
        exact ⟨rfl, (Only.refl _ _).drew⟩
      · have hkb : ((t.kind : Int) == (k : Int)) = false := by simp; omega
        have hd : decide (t.kind = k) = false := by simp [hk]
        rw [hd]
        clear hk hd
        go_enter Tryz.func46, Tryz.ntmps46
        go_upto_region 1 with fail
        go_region
        go_wp2
        go_ret
        exact ⟨rfl, (Only.refl _ _).drew⟩
    · have hM : isM L i 0 k = false := by unfold isM; rw [List.getElem?_eq_none (by omega)]; simp
      have hlti : ¬ (i : Int) < (L.length : Int) := by omega
      rw [hM]
      clear hb hr hM
      go_enter Tryz.func46, Tryz.ntmps46
      go_upto_region 1 with fail
      go_region
      go_wp2
      go_ret
      exact ⟨rfl, (Only.refl _ _).drew⟩
  · have hM : isM L i er k = false := by unfold isM; simp [her]
    have heb : ((er : Int) == 0) = false := by simp; omega
    rw [hM]
    clear hb hr hM her
    go_enter Tryz.func46, Tryz.ntmps46
    go_upto_region 1 with fail
    go_region
    go_wp2
    go_ret
    exact ⟨rfl, (Only.refl _ _).drew⟩

end Go.Proofs.YtildkedplmjdaaaGreatDoor
namespace Go.Proofs.YtildkedplmjdaaaGreatDoor
set_option maxRecDepth 100000
set_option linter.unusedVariables false
open Go.RowKit Go.Sort

/-- The error and its place, once it has failed. -/
def failM (L : List Tok) (i e er wh k : Nat) : Nat × Nat := if er = 0 then (k, (nextT (L.drop i) e).at_) else (er, wh)

set_option maxHeartbeats 8000000 in
theorem rfail_any (w : World) (p : Nat) (L : List Tok) (i e er wh k : Nat) (h : PrAt w p L i e er wh) :
    Calls Tryz.prog 30 #[.pointer (some ⟨p, 0, none⟩), .int .i64 k] w fun r w' => r = .returned (.tuple #[]) ∧ PrAt w' p L i e (failM L i e er wh k).1 (failM L i e er wh k).2 ∧ Only [p] w w' := by
  have H := Lib.hid h
  obtain ⟨a, c, hb, hi, hm, hr⟩ := h
  have Hb := Lib.hid hb
  have Hr := Lib.hid hr
  have c3 := hb.cell 3
  have hp := hb.lt
  clear hb hr
  by_cases her : er = 0
  · subst her
    have hF : failM L i e 0 wh k = (k, (nextT (L.drop i) e).at_) := by unfold failM; rw [if_pos rfl]
    rw [hF]
    have HA := Lib.hid (rat_any w p L i e 0 wh H.out)
    generalize (nextT (L.drop i) e).at_ = at_ at *
    clear hF
    go_enter Tryz.func30, Tryz.ntmps30
    go_wp2_with fail
    refine HA.out.mono ?_
    rintro r w1 ⟨rfl, hO⟩
    have hb1 := Hb.out.only hO (by simp)
    have HO := Lib.hid hO
    have d3 := hb1.cell 3
    have d4 := hb1.cell 4
    have hp1 := hb1.lt
    have f3 := hb1.notFrozen 3
    have f4 := hb1.notFrozen 4
    have Hb1 := Lib.hid hb1
    clear hb1 hO c3
    go_wp2
    go_end0
    have hS : Only [p] w1 ((w1.setCell ⟨p, 3, none⟩ (.int .i64 k)).setCell ⟨p, 4, none⟩ (.int .i64 at_)) := ((Only.refl [p] w1).setCell (p := ⟨p, 3, none⟩) (.inl (by simp)) _).setCell (p := ⟨p, 4, none⟩) (.inl (by simp)) _
    refine ⟨rfl, ⟨a, c, IsBlk.put (IsBlk.put Hb1.out 3 _) 4 _, hi, hm, fun h0 => ?_⟩, HO.out.then hS [p] (by simp) (by simp)⟩
    obtain ⟨g, h1, h2, h3⟩ := Hr.out h0
    exact ⟨g, h1, h2, rangeAt_only (rangeAt_only h3 HO.out (by omega) (by simp)) hS (by omega) (by simp; omega)⟩
  · have hF : failM L i e er wh k = (er, wh) := by unfold failM; rw [if_neg her]
    rw [hF]
    have heb : ((er : Int) == 0) = false := by simp; omega
    clear hF her
    go_enter Tryz.func30, Tryz.ntmps30
    go_wp2
    go_end0
    exact ⟨rfl, H.out, Only.refl _ _⟩

end Go.Proofs.YtildkedplmjdaaaGreatDoor
namespace Go.Proofs.YtildkedplmjdaaaGreatDoor
set_option maxRecDepth 100000
set_option linter.unusedVariables false
open Go.RowKit Go.Sort

theorem PrAt.more {w w' : World} {p : Nat} {L : List Tok} {i e er wh : Nat} (h : PrAt w p L i e er wh) (hO : Only [] w w') : PrAt w' p L i e er wh := by
  obtain ⟨a, c, hb, hi, hm, hr⟩ := h
  refine ⟨a, c, hb.only hO (by simp), hi, hm, fun h0 => ?_⟩
  obtain ⟨g, h1, h2, h3⟩ := hr h0
  exact ⟨g, h1, h2, rangeAt_only h3 hO (Nat.lt_trans h2 hb.lt) (by simp)⟩
def wordF (L : List Tok) (i er : Nat) (s : List UInt8) : Bool := isM L i er 1 && (match L[i]? with | some t => decide (t.s = s) | none => false)

set_option maxHeartbeats 8000000 in
theorem dword_any (w : World) (p : Nat) (L : List Tok) (i e er wh : Nat) (s : List UInt8) (h : PrAt w p L i e er wh) :
    Calls Tryz.prog 27 #[.pointer (some ⟨p, 0, none⟩), encStr s] w fun r w' => r = .returned (.bool (wordF L i er s)) ∧ Only [] w w' := by
  have HI0 : Hid (∀ W, Only [] w W → Calls Tryz.prog 46 #[.pointer (some ⟨p, 0, none⟩), .int .i64 1] W fun r w' => r = .returned (.bool (isM L i er 1)) ∧ Only [] W w') := Lib.hid (fun W hW => ris_any W p L i e er wh 1 (h.more hW))
  obtain ⟨a, c, hb, hi, hm, hr⟩ := h
  have Hb := Lib.hid hb
  have Hr := Lib.hid hr
  have hp := hb.lt
  have hdr : Only [] w w.drew := (Only.refl [] w).drew
  clear hb hr
  unfold encStr
  cases hz : isM L i er 1 with
  | false =>
    have hM : wordF L i er s = false := by unfold wordF; rw [hz, Bool.false_and]
    rw [hM]
    have HIs := HI0.out
    rw [hz] at HIs
    have HIs := Lib.hid HIs
    clear HI0 hz hM
    go_enter Tryz.func27, Tryz.ntmps27
    go_upto_region 1 with fail
    refine wp_region_stabL (P := Tryz.prog) 17 (by kernel_rfl) (by kernel_rfl) (Only []) (Only.refl _ _) (fun _ _ _ h k => h.then k [] (by simp) (by simp))
      [SP.is (.pointer (some ⟨p, 0, none⟩)),
       SP.is (.bool false),
       SP.is (.bool false),
       SP.is (undef),
       SP.is (undef),
       SP.is (undef),
       SP.is (undef),
       SP.is (undef),
       SP.is (undef),
       SP.is (undef),
       SP.is (undef),
       SP.is (undef),
       SP.is (undef),
       SP.is (undef),
       SP.is (undef),
       SP.is (undef),
       SP.is (.bool false)] ?_ ?_
    · simp only [List.take_succ_cons, List.take_zero]
      refine StepsOK.cons ?_ (StepsOK.cons ?_ (StepsOK.cons ?_ (StepsOK.cons ?_ (StepsOK.cons ?_ (StepsOK.cons ?_ (StepsOK.cons ?_ (StepsOK.cons ?_ (StepsOK.cons ?_ (StepsOK.cons ?_ (StepsOK.cons ?_ (StepsOK.cons ?_ (StepsOK.cons ?_ (StepsOK.cons ?_ (StepsOK.cons ?_ (StepsOK.cons ?_ (StepsOK.cons ?_ StepsOK.nil))))))))))))))))
      · intro a W L N hR hold hφ hcl hkp hd K hK
        have e0 := hold 0 (by kernel_rfl)
        clear hold hφ hcl hkp hd
        rw [if_pos (by rfl)]
        go_simp
        exact hK _ _ (Only.refl _ _) rfl
      · intro a W L N hR hold hφ hcl hkp hd K hK
        have e5 := got hφ (hd 0 (by kernel_rfl)) rfl rfl rfl
        have hW := Only.plus hdr hR
        clear hold hφ hcl hkp hd
        rw [if_pos (by rfl)]
        go_simp
        refine (HIs.out W hW).mono ?_
        rintro e w' ⟨rfl, hO'⟩
        exact hK _ _ hO' rfl
      · intro a W L N hR hold hφ hcl hkp hd K hK
        have e6 := got hφ (hd 1 (by kernel_rfl)) rfl rfl rfl
        clear hold hφ hcl hkp hd
        rw [if_pos (by rfl)]
        go_simp
        exact hK _ _ (Only.refl _ _) rfl
      · intro a W L N hR hold hφ hcl hkp hd K hK
        have e0 := hold 0 (by kernel_rfl)
        have e7 := got hφ (hd 2 (by kernel_rfl)) rfl rfl rfl
        clear hold hφ hcl hkp hd
        rw [if_neg (by simp [Region.wanted, yielded, e7])]
        exact hK _ _ (Only.refl _ _) rfl
      · intro a W L N hR hold hφ hcl hkp hd K hK
        have e8 := got hφ (hd 3 (by kernel_rfl)) rfl rfl rfl
        have e7 := got hφ (hd 2 (by kernel_rfl)) rfl rfl rfl
        clear hold hφ hcl hkp hd
        rw [if_neg (by simp [Region.wanted, yielded, e7])]
        exact hK _ _ (Only.refl _ _) rfl
      · intro a W L N hR hold hφ hcl hkp hd K hK
        have e9 := got hφ (hd 4 (by kernel_rfl)) rfl rfl rfl
        have e7 := got hφ (hd 2 (by kernel_rfl)) rfl rfl rfl
        clear hold hφ hcl hkp hd
        rw [if_neg (by simp [Region.wanted, yielded, e7])]
        exact hK _ _ (Only.refl _ _) rfl
      · intro a W L N hR hold hφ hcl hkp hd K hK
        have e10 := got hφ (hd 5 (by kernel_rfl)) rfl rfl rfl
        have e7 := got hφ (hd 2 (by kernel_rfl)) rfl rfl rfl
        clear hold hφ hcl hkp hd
        rw [if_neg (by simp [Region.wanted, yielded, e7])]
        exact hK _ _ (Only.refl _ _) rfl
      · intro a W L N hR hold hφ hcl hkp hd K hK
        have e0 := hold 0 (by kernel_rfl)
        have e7 := got hφ (hd 2 (by kernel_rfl)) rfl rfl rfl
        clear hold hφ hcl hkp hd
        rw [if_neg (by simp [Region.wanted, yielded, e7])]
        exact hK _ _ (Only.refl _ _) rfl
      · intro a W L N hR hold hφ hcl hkp hd K hK
        have e12 := got hφ (hd 7 (by kernel_rfl)) rfl rfl rfl
        have e7 := got hφ (hd 2 (by kernel_rfl)) rfl rfl rfl
        clear hold hφ hcl hkp hd
        rw [if_neg (by simp [Region.wanted, yielded, e7])]
        exact hK _ _ (Only.refl _ _) rfl
      · intro a W L N hR hold hφ hcl hkp hd K hK
        have e13 := got hφ (hd 8 (by kernel_rfl)) rfl rfl rfl
        have e7 := got hφ (hd 2 (by kernel_rfl)) rfl rfl rfl
        clear hold hφ hcl hkp hd
        rw [if_neg (by simp [Region.wanted, yielded, e7])]
        exact hK _ _ (Only.refl _ _) rfl
      · intro a W L N hR hold hφ hcl hkp hd K hK
        have e14 := got hφ (hd 9 (by kernel_rfl)) rfl rfl rfl
        have e7 := got hφ (hd 2 (by kernel_rfl)) rfl rfl rfl
        clear hold hφ hcl hkp hd
        rw [if_neg (by simp [Region.wanted, yielded, e7])]
        exact hK _ _ (Only.refl _ _) rfl
      · intro a W L N hR hold hφ hcl hkp hd K hK
        have e11 := got hφ (hd 6 (by kernel_rfl)) rfl rfl rfl
        have e15 := got hφ (hd 10 (by kernel_rfl)) rfl rfl rfl
        have e7 := got hφ (hd 2 (by kernel_rfl)) rfl rfl rfl
        clear hold hφ hcl hkp hd
        rw [if_neg (by simp [Region.wanted, yielded, e7])]
        exact hK _ _ (Only.refl _ _) rfl
      · intro a W L N hR hold hφ hcl hkp hd K hK
        have e16 := got hφ (hd 11 (by kernel_rfl)) rfl rfl rfl
        have e7 := got hφ (hd 2 (by kernel_rfl)) rfl rfl rfl
        clear hold hφ hcl hkp hd
        rw [if_neg (by simp [Region.wanted, yielded, e7])]
        exact hK _ _ (Only.refl _ _) rfl
      · intro a W L N hR hold hφ hcl hkp hd K hK
        have e17 := got hφ (hd 12 (by kernel_rfl)) rfl rfl rfl
        have e7 := got hφ (hd 2 (by kernel_rfl)) rfl rfl rfl
        clear hold hφ hcl hkp hd
        rw [if_neg (by simp [Region.wanted, yielded, e7])]
        exact hK _ _ (Only.refl _ _) rfl
      · intro a W L N hR hold hφ hcl hkp hd K hK
        have e1 := hold 1 (by kernel_rfl)
        have e7 := got hφ (hd 2 (by kernel_rfl)) rfl rfl rfl
        clear hold hφ hcl hkp hd
        rw [if_neg (by simp [Region.wanted, yielded, e7])]
        exact hK _ _ (Only.refl _ _) rfl
      · intro a W L N hR hold hφ hcl hkp hd K hK
        have e18 := got hφ (hd 13 (by kernel_rfl)) rfl rfl rfl
        have e19 := got hφ (hd 14 (by kernel_rfl)) rfl rfl rfl
        have e7 := got hφ (hd 2 (by kernel_rfl)) rfl rfl rfl
        clear hold hφ hcl hkp hd
        rw [if_neg (by simp [Region.wanted, yielded, e7])]
        exact hK _ _ (Only.refl _ _) rfl
      · intro a W L N hR hold hφ hcl hkp hd K hK
        have e7 := got hφ (hd 2 (by kernel_rfl)) rfl rfl rfl
        have e20 := got hφ (hd 15 (by kernel_rfl)) rfl rfl rfl
        clear hold hφ hcl hkp hd
        rw [if_pos (by rfl)]
        go_simp
        exact hK _ _ (Only.refl _ _) rfl
    · intro us W hO' hus
      have p16 : us 16 = .bool false := hus 16 _ 21 (by omega) rfl rfl
      clear hus
      simp only [List.take_succ_cons, List.take_zero, List.drop_succ_cons, List.drop_zero, fillAct, Act.put, List.setIfInBounds_toArray, List.set_cons_zero, List.set_cons_succ, Nat.reduceAdd, p16]
      clear p16
      have HO4 := Lib.hid (Only.plus hdr hO')
      clear hO'
      go_wp2
      go_ret
      exact ⟨rfl, HO4.out⟩
  | true =>
    have hlt : i < L.length := by
      rcases Nat.lt_or_ge i L.length with h | h
      · exact h
      · unfold isM at hz; rw [List.getElem?_eq_none h] at hz; simp at hz
    have hget : L[i]? = some L[i] := List.getElem?_eq_getElem hlt
    have hM : wordF L i er s = decide (L[i].s = s) := by unfold wordF; rw [hz, hget, Bool.true_and]
    rw [hM]
    have HIs := HI0.out
    rw [hz] at HIs
    have HIs := Lib.hid HIs
    obtain ⟨g, rfl, hg, hra⟩ := Hr.out (by omega)
    obtain ⟨e1, e2, e3⟩ := lcells_get L i _ hget
    have k1 := hra _ _ e3
    rw [Nat.zero_add] at k1
    generalize L[i] = t at *
    have hlti : (i : Int) < (L.length : Int) := by omega
    have hi0 : (0 : Int) ≤ (i : Int) := by omega
    have hgw : g < w.heap.size := by omega
    have hcl : ∀ W, Only [] w W → W.cell? ⟨p, 0, none⟩ = some (.slice (some ⟨g, 0, none⟩) L.length c) ∧ W.cell? ⟨p, 1, none⟩ = some (.int .i64 i) ∧ W.cell? ⟨g, i * 3 + 2, none⟩ = some (.string ⟨t.s.toArray⟩) ∧ p < W.heap.size ∧ g < W.heap.size := fun W hW =>
      ⟨(Hb.out.only hW (by simp)).cell 0, (Hb.out.only hW (by simp)).cell 1, (hW.cell (p := ⟨g, i * 3 + 2, none⟩) hgw (by simp)).trans k1, (Hb.out.only hW (by simp)).lt, Nat.lt_of_lt_of_le hgw hW.size⟩
    have Hcl := Lib.hid hcl
    have hys : (t.s == s) = decide (t.s = s) := by by_cases h : t.s = s <;> simp [h]
    clear hcl HI0 hz hM hget e1 e2 e3 k1 hra
    generalize decide (t.s = s) = y at *
    go_enter Tryz.func27, Tryz.ntmps27
    go_upto_region 1 with fail
    refine wp_region_stabL (P := Tryz.prog) 17 (by kernel_rfl) (by kernel_rfl) (Only []) (Only.refl _ _) (fun _ _ _ h k => h.then k [] (by simp) (by simp))
      [SP.is (.pointer (some ⟨p, 0, none⟩)),
       SP.is (.bool true),
       SP.is (.bool true),
       SP.is (.pointer (some ⟨p, 0, none⟩)),
       SP.is (.pointer (some ⟨p, 0, none⟩)),
       SP.is (.pointer (some ⟨p, 0, none⟩)),
       SP.is (.slice (some ⟨g, 0, none⟩) L.length c),
       SP.is (.pointer (some ⟨p, 0, none⟩)),
       SP.is (.pointer (some ⟨p, 0, none⟩)),
       SP.is (.pointer (some ⟨p, 1, none⟩)),
       SP.is (.int .i64 i),
       SP.is (.pointer (some ⟨g, i * 3, none⟩)),
       SP.is (.pointer (some ⟨g, i * 3 + 2, none⟩)),
       SP.is (.string ⟨t.s.toArray⟩),
       SP.is (.string ⟨s.toArray⟩),
       SP.is (.bool y),
       SP.is (.bool y)] ?_ ?_
    · simp only [List.take_succ_cons, List.take_zero]
      refine StepsOK.cons ?_ (StepsOK.cons ?_ (StepsOK.cons ?_ (StepsOK.cons ?_ (StepsOK.cons ?_ (StepsOK.cons ?_ (StepsOK.cons ?_ (StepsOK.cons ?_ (StepsOK.cons ?_ (StepsOK.cons ?_ (StepsOK.cons ?_ (StepsOK.cons ?_ (StepsOK.cons ?_ (StepsOK.cons ?_ (StepsOK.cons ?_ (StepsOK.cons ?_ (StepsOK.cons ?_ StepsOK.nil))))))))))))))))
      · intro a W L N hR hold hφ hcl hkp hd K hK
        have e0 := hold 0 (by kernel_rfl)
        clear hold hφ hcl hkp hd
        rw [if_pos (by rfl)]
        go_simp
        exact hK _ _ (Only.refl _ _) rfl
      · intro a W L N hR hold hφ hcl hkp hd K hK
        have e5 := got hφ (hd 0 (by kernel_rfl)) rfl rfl rfl
        have hW := Only.plus hdr hR
        clear hold hφ hcl hkp hd
        rw [if_pos (by rfl)]
        go_simp
        refine (HIs.out W hW).mono ?_
        rintro e w' ⟨rfl, hO'⟩
        exact hK _ _ hO' rfl
      · intro a W L N hR hold hφ hcl hkp hd K hK
        have e6 := got hφ (hd 1 (by kernel_rfl)) rfl rfl rfl
        clear hold hφ hcl hkp hd
        rw [if_pos (by rfl)]
        go_simp
        exact hK _ _ (Only.refl _ _) rfl
      · intro a W L N hR hold hφ hcl hkp hd K hK
        have e0 := hold 0 (by kernel_rfl)
        have e7 := got hφ (hd 2 (by kernel_rfl)) rfl rfl rfl
        clear hold hφ hcl hkp hd
        rw [if_pos (by simp [Region.wanted, yielded, e7])]
        go_simp
        exact hK _ _ (Only.refl _ _) rfl
      · intro a W L N hR hold hφ hcl hkp hd K hK
        have e8 := got hφ (hd 3 (by kernel_rfl)) rfl rfl rfl
        have e7 := got hφ (hd 2 (by kernel_rfl)) rfl rfl rfl
        obtain ⟨l0, l1, l2, l3, l4⟩ := Hcl.out W (Only.plus hdr hR)
        clear hold hφ hcl hkp hd
        rw [if_pos (by simp [Region.wanted, yielded, e7])]
        go_simp
        exact hK _ _ (Only.refl _ _) rfl
      · intro a W L N hR hold hφ hcl hkp hd K hK
        have e9 := got hφ (hd 4 (by kernel_rfl)) rfl rfl rfl
        have e7 := got hφ (hd 2 (by kernel_rfl)) rfl rfl rfl
        clear hold hφ hcl hkp hd
        rw [if_pos (by simp [Region.wanted, yielded, e7])]
        go_simp
        exact hK _ _ (Only.refl _ _) rfl
      · intro a W L N hR hold hφ hcl hkp hd K hK
        have e10 := got hφ (hd 5 (by kernel_rfl)) rfl rfl rfl
        have e7 := got hφ (hd 2 (by kernel_rfl)) rfl rfl rfl
        obtain ⟨l0, l1, l2, l3, l4⟩ := Hcl.out W (Only.plus hdr hR)
        clear hold hφ hcl hkp hd
        rw [if_pos (by simp [Region.wanted, yielded, e7])]
        go_simp
        exact hK _ _ (Only.refl _ _) rfl
      · intro a W L N hR hold hφ hcl hkp hd K hK
        have e0 := hold 0 (by kernel_rfl)
        have e7 := got hφ (hd 2 (by kernel_rfl)) rfl rfl rfl
        clear hold hφ hcl hkp hd
        rw [if_pos (by simp [Region.wanted, yielded, e7])]
        go_simp
        exact hK _ _ (Only.refl _ _) rfl
      · intro a W L N hR hold hφ hcl hkp hd K hK
        have e12 := got hφ (hd 7 (by kernel_rfl)) rfl rfl rfl
        have e7 := got hφ (hd 2 (by kernel_rfl)) rfl rfl rfl
        obtain ⟨l0, l1, l2, l3, l4⟩ := Hcl.out W (Only.plus hdr hR)
        clear hold hφ hcl hkp hd
        rw [if_pos (by simp [Region.wanted, yielded, e7])]
        go_simp
        exact hK _ _ (Only.refl _ _) rfl
      · intro a W L N hR hold hφ hcl hkp hd K hK
        have e13 := got hφ (hd 8 (by kernel_rfl)) rfl rfl rfl
        have e7 := got hφ (hd 2 (by kernel_rfl)) rfl rfl rfl
        clear hold hφ hcl hkp hd
        rw [if_pos (by simp [Region.wanted, yielded, e7])]
        go_simp
        exact hK _ _ (Only.refl _ _) rfl
      · intro a W L N hR hold hφ hcl hkp hd K hK
        have e14 := got hφ (hd 9 (by kernel_rfl)) rfl rfl rfl
        have e7 := got hφ (hd 2 (by kernel_rfl)) rfl rfl rfl
        obtain ⟨l0, l1, l2, l3, l4⟩ := Hcl.out W (Only.plus hdr hR)
        clear hold hφ hcl hkp hd
        rw [if_pos (by simp [Region.wanted, yielded, e7])]
        go_simp
        exact hK _ _ (Only.refl _ _) rfl
      · intro a W L N hR hold hφ hcl hkp hd K hK
        have e11 := got hφ (hd 6 (by kernel_rfl)) rfl rfl rfl
        have e15 := got hφ (hd 10 (by kernel_rfl)) rfl rfl rfl
        have e7 := got hφ (hd 2 (by kernel_rfl)) rfl rfl rfl
        clear hold hφ hcl hkp hd
        rw [if_pos (by simp [Region.wanted, yielded, e7])]
        go_simp
        exact hK _ _ (Only.refl _ _) rfl
      · intro a W L N hR hold hφ hcl hkp hd K hK
        have e16 := got hφ (hd 11 (by kernel_rfl)) rfl rfl rfl
        have e7 := got hφ (hd 2 (by kernel_rfl)) rfl rfl rfl
        clear hold hφ hcl hkp hd
        rw [if_pos (by simp [Region.wanted, yielded, e7])]
        go_simp
        exact hK _ _ (Only.refl _ _) rfl
      · intro a W L N hR hold hφ hcl hkp hd K hK
        have e17 := got hφ (hd 12 (by kernel_rfl)) rfl rfl rfl
        have e7 := got hφ (hd 2 (by kernel_rfl)) rfl rfl rfl
        obtain ⟨l0, l1, l2, l3, l4⟩ := Hcl.out W (Only.plus hdr hR)
        clear hold hφ hcl hkp hd
        rw [if_pos (by simp [Region.wanted, yielded, e7])]
        go_simp
        exact hK _ _ (Only.refl _ _) rfl
      · intro a W L N hR hold hφ hcl hkp hd K hK
        have e1 := hold 1 (by kernel_rfl)
        have e7 := got hφ (hd 2 (by kernel_rfl)) rfl rfl rfl
        clear hold hφ hcl hkp hd
        rw [if_pos (by simp [Region.wanted, yielded, e7])]
        go_simp
        exact hK _ _ (Only.refl _ _) rfl
      · intro a W L N hR hold hφ hcl hkp hd K hK
        have e18 := got hφ (hd 13 (by kernel_rfl)) rfl rfl rfl
        have e19 := got hφ (hd 14 (by kernel_rfl)) rfl rfl rfl
        have e7 := got hφ (hd 2 (by kernel_rfl)) rfl rfl rfl
        clear hold hφ hcl hkp hd
        rw [if_pos (by simp [Region.wanted, yielded, e7])]
        go_simp
        exact hK _ _ (Only.refl _ _) rfl
      · intro a W L N hR hold hφ hcl hkp hd K hK
        have e7 := got hφ (hd 2 (by kernel_rfl)) rfl rfl rfl
        have e20 := got hφ (hd 15 (by kernel_rfl)) rfl rfl rfl
        clear hold hφ hcl hkp hd
        rw [if_pos (by rfl)]
        go_simp
        exact hK _ _ (Only.refl _ _) rfl
    · intro us W hO' hus
      have p16 : us 16 = .bool y := hus 16 _ 21 (by omega) rfl rfl
      clear hus
      simp only [List.take_succ_cons, List.take_zero, List.drop_succ_cons, List.drop_zero, fillAct, Act.put, List.setIfInBounds_toArray, List.set_cons_zero, List.set_cons_succ, Nat.reduceAdd, p16]
      clear p16
      have HO4 := Lib.hid (Only.plus hdr hO')
      clear hO'
      go_wp2
      go_ret
      exact ⟨rfl, HO4.out⟩

end Go.Proofs.YtildkedplmjdaaaGreatDoor
