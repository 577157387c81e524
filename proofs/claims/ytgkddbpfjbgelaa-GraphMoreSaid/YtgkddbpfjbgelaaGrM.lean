/-
  tellAll and Parts of the package graph.
-/
import Derived.Test.YtgkddbpfjbgelaaGrL
namespace Go.Proofs.Ytgkddbpfjbgelaa
set_option maxRecDepth 100000
set_option linter.unusedVariables false
open Go.RowKit Go.Sort Go.Maps

/-- Rows of names of one's own. -/
def RowsN (w : World) (base : Nat) (v : Value) (P : List (List Nam)) : Prop :=
  ∃ cs, w.ownsRow base 24 1 v P.length cs ∧ ∀ (i : Nat) (p : List Nam), P[i]? = some p → ∃ u, cs[i]? = some u ∧ OwnN w base u p
/-- Rows of numbers, to be read. -/
def NumssAt (w : World) (v : Value) (P : List (List Nat)) : Prop :=
  ∃ a c, v = .slice a P.length c ∧ ∀ (i : Nat) (p : List Nat), P[i]? = some p → ∃ g u, a = some ⟨g, 0, none⟩ ∧ g < w.heap.size ∧ w.cell? ⟨g, i, none⟩ = some u ∧ NumsAt w u p
theorem NumssAt.more {w w' : World} {v : Value} {P : List (List Nat)} (h : NumssAt w v P) (hO : Only [] w w') : NumssAt w' v P := by
  obtain ⟨a, c, e, h⟩ := h
  refine ⟨a, c, e, fun i p hp => ?_⟩
  obtain ⟨g, u, e, hg, hc, hu⟩ := h i p hp
  exact ⟨g, u, e, Nat.lt_of_lt_of_le hg hO.size, (hO.cell (p := ⟨g, i, none⟩) hg (by simp)).trans hc, hu.more hO⟩
theorem numss_of {w : World} {base : Nat} {v : Value} {P : List (List Nat)} {cs : List Value} (h : w.ownsRow base 22 1 v P.length cs) (hp : ∀ (i : Nat) (p : List Nat), P[i]? = some p → ∃ u, cs[i]? = some u ∧ RowI w base u p) : NumssAt w v P := by
  have hh := h
  obtain ⟨a, c, rfl⟩ := owns_slice h
  refine ⟨a, c, rfl, fun i p hi => ?_⟩
  obtain ⟨u, hu, hr⟩ := hp i p hi
  have hlt := (List.getElem?_eq_some_iff.1 hi).1
  rcases h.2 with ⟨e1, e2⟩ | ⟨g, cap, cur, e1, hb, hg, hc, -⟩
  · omega
  · injection e1 with e1 e2 e3
    subst e1
    have := World.ownsRow.cells hh (g := g) rfl i u hu
    rw [Addr.add_mid, Nat.zero_add] at this
    exact ⟨g, u, rfl, IsBlk.lt hg, this, hr.nums⟩

def TellAllTo (w : World) (N : List Nam) (P : List (List Nat)) (r : Ending) (w' : World) : Prop := ∃ v, r = .returned v ∧ RowsN w' w.heap.size v (P.map (tellM N)) ∧ Only [] w w'

theorem nam_types {W : World} {B B' n : Nat} {u v : Value} {l : List Nam} {xs : List Value} (h : OwnN W B u l) (k : W.ownsRow B' 24 1 v n xs) : ∀ b, u.ownBlock = some b → v.ownBlock ≠ some b := by
  intro b hb hb'
  rcases h.2 with ⟨rfl, _⟩ | ⟨g, cap, cur, rfl, -, hg, -⟩
  · cases hb
  · rcases k.2 with ⟨rfl, _⟩ | ⟨g', cap', cur', rfl, -, hg', -⟩
    · cases hb'
    · simp only [Value.ownBlock, Option.some.injEq] at hb hb'
      subst hb
      subst hb'
      rw [hg] at hg'
      injection hg' with hg'
      injection hg' with _ h2
      revert h2
      decide

set_option maxHeartbeats 8000000 in
theorem tellAll_any (w : World) (vN vm vn vb v : Value) (N : List Nam) (P : List (List Nat)) (hN : NamsAt w vN N) (hl : NumssAt w v P) (hs : ∀ s ∈ N, s.length ≤ 100000) (hn : P.length ≤ 100000) (hpl : ∀ p ∈ P, p.length ≤ 100000) (hlt : ∀ p ∈ P, ∀ k ∈ p, k < N.length) (hv : vm.oneCell' = true ∧ vn.oneCell' = true ∧ vb.oneCell' = true) :
    Calls Try.prog 30 #[.agg #[vN, vm, vn, vb], v] w (TellAllTo w N P) := by
  have hv' := hv
  obtain ⟨v1, v2, v3⟩ := hv
  have HNw := Lib.hid hN
  obtain ⟨aN, cN, rfl, hN'⟩ := hN
  obtain ⟨a, c, rfl, hl'⟩ := hl
  have HL := Lib.hid hl'
  clear hN' hl'
  have hmk := make_strss P.length hn
  have HO1 := Lib.hid ((Only.refl [] w).alloc (.cells #[.slice aN N.length cN, vm, vn, vb] 67))
  have HB1 := Lib.hid (IsBlk.made w (.cells #[.slice aN N.length cN, vm, vn, vb] 67))
  have hln : (0 : Int) ≤ (P.length : Int) := by omega
  go_enter Try.func30, Try.ntmps30
  go_upto_region 2 with fail
  generalize hW1 : w.alloc (.cells #[.slice aN N.length cN, vm, vn, vb] 67) = w1 at *
  have hs1 : w1.heap.size = w.heap.size + 1 := by rw [← hW1]; simp
  clear hW1
  have hO2 : Only [] w1 (w1.alloc (.cells (Array.replicate P.length (.slice none 0 0)) 24)) := (Only.refl _ _).alloc _
  have hr2 : (w1.alloc (.cells (Array.replicate P.length (.slice none 0 0)) 24)).ownsRow w1.heap.size 24 1 (.slice (some ⟨w1.heap.size, 0, none⟩) 0 P.length) 0 [] := World.ownsRow_made w1 _ P.length (Nat.le_refl _) (by unfold maxLen; omega) (by simp)
  generalize hW2 : w1.alloc (.cells (Array.replicate P.length (.slice none 0 0)) 24) = w2 at *
  clear hW2
  have HO12 := Lib.hid hO2
  have Hr2 := Lib.hid hr2
  clear hO2 hr2 hmk
  go_wp2_with fail
  go_loopw [5, 13] (fun sv i wr => ∃ k : Nat, k ≤ P.length ∧ i = .int .i64 k ∧ RowsN wr w1.heap.size sv ((P.take k).map (tellM N)) ∧ Only [] w1 wr) (fun _ i _ => P.length - (intOf i).toNat)
  case atStart => exact ⟨0, Nat.zero_le _, rfl, ⟨[], by rw [← hs1]; exact Hr2.out, by simp⟩, HO12.out⟩
  case round =>
    obtain ⟨k, hk, rfl, how, hOr⟩ := hrel
    obtain ⟨cs, how1, how2⟩ := how
    have How := Lib.hid how1
    have Hown := Lib.hid how2
    have HOr := Lib.hid hOr
    have cN0 := (HB1.out.only hOr (by simp)).cell 0
    have cN1 := (HB1.out.only hOr (by simp)).cell 1
    have cN2 := (HB1.out.only hOr (by simp)).cell 2
    have cN3 := (HB1.out.only hOr (by simp)).cell 3
    have lb := (HB1.out.only hOr (by simp)).lt
    clear how1 how2 hOr
    by_cases hlt' : k < P.length
    · have hki : (k : Int) < (P.length : Int) := by omega
      have hk0 : (0 : Int) ≤ (k : Int) := by omega
      obtain ⟨p, hp⟩ : ∃ p, P[k]? = some p := ⟨P[k], by simp [hlt']⟩
      obtain ⟨g, u, rfl, hg, hcg, hu⟩ := HL.out k p hp
      have hpP := List.mem_of_getElem? hp
      have hOw := HO1.out.plus HOr.out
      have c1 := (hOw.cell (p := ⟨g, k, none⟩) hg (by simp)).trans hcg
      have hu' := hu.more hOw
      have Hu := Lib.hid hu'
      obtain ⟨au, cu, rfl, -⟩ := hu
      have Htk : Hid ((P.take (k + 1)).map (tellM N) = (P.take k).map (tellM N) ++ [tellM N p]) := Lib.hid (by rw [List.take_add_one, hp, List.map_append]; rfl)
      have htl : ((P.take k).map (tellM N)).length ≤ 1000000 := by simp; omega
      have hpl' := hpl p hpP
      have hltp := hlt p hpP
      clear hcg hp hu'
      go_wp2_with fail
      refine (tell_any wr (.slice aN N.length cN) vm vn vb _ N p (HNw.out.more hOw) Hu.out hs hpl' hltp hv').mono ?_
      rintro e w3 ⟨v5, rfl, hv5, hO3⟩
      have HO3 := Lib.hid hO3
      have Hv5 := Lib.hid hv5
      obtain ⟨a5, c5, e5⟩ := hv5.slice
      have hs3 := HOr.out.size
      have hs3' := HO3.out.size
      clear hO3 hv5
      subst e5
      have hOl : Only [] w3 (w3.alloc (.cells #[.slice a5 (tellM N p).length c5] 24)) := (Only.refl _ _).alloc _
      go_wp2_with (at_builtin; refine wpList_append_18 rfl _ _ 30 24 rfl Try.underlying30 (.slice none 0 0) 24 infoN8 rfl (by decide) w1.heap.size u5 ((P.take k).map (tellM N)).length cs rfl (owns_off (owns_off How.out HO3.out (by simp)) hOl (by simp)) w3.heap.size 1 (.slice a5 (tellM N p).length c5) rfl ((IsBlk.made w3 _).cell 0) rfl htl (by simp; omega) ?_; intro v' w4 k1 k2 k3)
      go_roundw
      case rel =>
        have hrow3 := owns_off (owns_off How.out HO3.out (by simp)) hOl (by simp)
        refine ⟨k + 1, by omega, by go_num, ⟨cs ++ [.slice a5 (tellM N p).length c5], by rw [Htk.out, List.length_append]; exact k1, fun i q hq => ?_⟩, ((HOr.out.plus HO3.out).plus hOl).then k2 [] (by simp) (fun i hi => .inr (World.ownsRow.lt How.out i (mem_ownL.1 hi)).1)⟩
        rw [Htk.out] at hq
        have hcl : cs.length = ((P.take k).map (tellM N)).length := by have := How.out.1; omega
        by_cases hi : i < ((P.take k).map (tellM N)).length
        · rw [List.getElem?_append_left hi] at hq
          obtain ⟨u, h1, h2⟩ := Hown.out i q hq
          have h3 := (h2.off HO3.out (by simp)).off hOl (by simp)
          exact ⟨u, by rw [List.getElem?_append_left (by omega)]; exact h1, h3.off k2 (fun b hb hm => nam_types h3 hrow3 b hb (mem_ownL.1 hm))⟩
        · have hie : i = ((P.take k).map (tellM N)).length := by
            have := (List.getElem?_eq_some_iff.1 hq).1; rw [List.length_append] at this; simp only [List.length_singleton] at this; omega
          subst hie
          rw [List.getElem?_append_right (Nat.le_refl _), Nat.sub_self] at hq
          injection hq with hq
          subst hq
          have h3 := Hv5.out.off hOl (by simp)
          exact ⟨_, by rw [List.getElem?_append_right (by omega), hcl, Nat.sub_self]; rfl, owns_base (h3.off k2 (fun b hb hm => nam_types h3 hrow3 b hb (mem_ownL.1 hm))) hs3⟩
      case measure => simp [intOf]; omega
    · obtain rfl : k = P.length := by omega
      have hki : ¬ (P.length : Int) < (P.length : Int) := by omega
      go_wp2
      go_ret
      have how := How.out
      have hown := Hown.out
      rw [List.take_length] at how hown
      exact ⟨_, rfl, ⟨cs, owns_base how (by omega), fun i p hp => by
        obtain ⟨u, h1, h2⟩ := hown i p hp
        exact ⟨u, h1, owns_base h2 (by omega)⟩⟩, HO1.out.plus HOr.out⟩

end Go.Proofs.Ytgkddbpfjbgelaa
