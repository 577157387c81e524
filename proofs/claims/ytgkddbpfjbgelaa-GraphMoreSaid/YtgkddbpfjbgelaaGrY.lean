/-
  Parts with an edge more, and with all edges turned. No walk is here.
-/
import Derived.Test.YtgkddbpfjbgelaaGrX
namespace Go.Proofs.Ytgkddbpfjbgelaa
set_option maxRecDepth 100000
set_option linter.unusedVariables false
open Go.RowKit Go.Sort Go.Maps

theorem RchN.mono {E F : List (Nam × Nam)} (h : ∀ e ∈ E, e ∈ F) {a b : Nam} (k : RchN E a b) : RchN F a b := by
  induction k with
  | refl => exact .refl _
  | step h1 _ ih => exact .step (h _ h1) ih
theorem SmN.mono {E F : List (Nam × Nam)} (h : ∀ e ∈ E, e ∈ F) {a b : Nam} (k : SmN E a b) : SmN F a b := ⟨k.1.mono h, k.2.mono h⟩
def turnE (E : List (Nam × Nam)) : List (Nam × Nam) := E.map (fun e => (e.2, e.1))
theorem RchN.turn {E : List (Nam × Nam)} {a b : Nam} (h : RchN E a b) : RchN (turnE E) b a := by
  induction h with
  | refl => exact .refl _
  | step h1 _ ih => exact ih.snoc (List.mem_map.2 ⟨_, h1, rfl⟩)
theorem turn_turn (E : List (Nam × Nam)) : turnE (turnE E) = E := by
  unfold turnE
  rw [List.map_map]
  conv => rhs; rw [← List.map_id E]
  rfl
theorem SmN.turn {E : List (Nam × Nam)} {a b : Nam} (h : SmN E a b) : SmN (turnE E) a b := ⟨h.2.turn, h.1.turn⟩
theorem allE_turn (N : List Nam) (E : List (Nam × Nam)) : allE N (turnE E) = turnE (allE N E) := by
  unfold allE turnE
  rw [List.filter_map]
  congr 1
  apply List.filter_congr
  intro e _
  simp only [Function.comp, inNN]
  rw [Bool.and_comm]
theorem outR_congr {N : List Nam} {E F : List (Nam × Nam)} (h : ∀ a b, SmN E a b ↔ SmN F a b) (i : Nat) : outR N E i = outR N F i := by
  have hh : SmN E = SmN F := by
    funext a b
    exact propext (h a b)
  have e1 : ∀ a, partR N E a = partR N F a := by
    intro a
    unfold partR
    rw [hh]
  have e2 : firstR N E = firstR N F := by
    funext j
    unfold firstR
    rw [hh]
  unfold outR
  rw [e2]
  simp only [e1]
theorem outR_turn (N : List Nam) (E : List (Nam × Nam)) (i : Nat) : outR N (allE N (turnE E)) i = outR N (allE N E) i := by
  apply outR_congr
  intro a b
  rw [allE_turn]
  constructor
  · intro h
    have := h.turn
    rwa [turn_turn] at this
  · exact SmN.turn
theorem allE_more {N : List Nam} {E : List (Nam × Nam)} (e : Nam × Nam) : ∀ x ∈ allE N E, x ∈ allE N (E ++ [e]) := by
  intro x hx
  unfold allE at *
  rw [List.mem_filter] at *
  exact ⟨List.mem_append_left _ hx.1, hx.2⟩
theorem outR_fewer {N : List Nam} {E F : List (Nam × Nam)} (h : ∀ e ∈ E, e ∈ F) (i : Nat) : (outR N F i).length ≤ (outR N E i).length := by
  unfold outR
  rw [List.length_map, List.length_map, ← List.countP_eq_length_filter, ← List.countP_eq_length_filter]
  apply List.countP_mono_left
  intro j _ hj
  unfold firstR at *
  classical
  rw [decide_eq_true_eq] at *
  intro k hk hs
  exact hj k hk (hs.mono h)
theorem outR_has {N : List Nam} {E : List (Nam × Nam)} {t : Nam} (ht : t ∈ N) : ∃ q ∈ outR N E N.length, t ∈ q := by
  obtain ⟨i, hi⟩ := List.mem_iff_getElem?.1 ht
  have hil := (List.getElem?_eq_some_iff.1 hi).1
  have hit : nm8 N i = t := by
    rw [nm8_get hil] at hi
    injection hi
  have key : ∀ k, k < N.length → SmN E (nm8 N k) t → ∃ j, j < N.length ∧ firstR N E j = true ∧ SmN E (nm8 N j) t := by
    intro k
    induction k using Nat.strongRecOn with
    | _ k ih =>
      intro hk hs
      classical
      by_cases hex : ∃ j, j < k ∧ SmN E (nm8 N k) (nm8 N j)
      · obtain ⟨j, hj, h2⟩ := hex
        exact ih j hj (by omega) (h2.symm.trans hs)
      · refine ⟨k, hk, ?_, hs⟩
        unfold firstR
        exact decide_eq_true (fun j hj h2 => hex ⟨j, hj, h2⟩)
  obtain ⟨j, hj, hf, hs⟩ := key i hil (by rw [hit]; exact SmN.refl _ _)
  refine ⟨partR N E (nm8 N j), ?_, ?_⟩
  · unfold outR
    rw [List.mem_map]
    exact ⟨j, List.mem_filter.2 ⟨List.mem_range.2 hj, hf⟩, rfl⟩
  · unfold partR
    rw [List.mem_filter]
    exact ⟨ht, by simpa using hs⟩
theorem outR_mem {N : List Nam} {E : List (Nam × Nam)} {i : Nat} (hi : i ≤ N.length) {p : List Nam} (hp : p ∈ outR N E i) : ∃ a ∈ N, ∀ t, t ∈ p ↔ t ∈ N ∧ SmN E a t := by
  unfold outR at hp
  obtain ⟨j, hj, rfl⟩ := List.mem_map.1 hp
  have hj := List.mem_range.1 (List.mem_filter.1 hj).1
  refine ⟨nm8 N j, nm8_mem (by omega), fun t => ?_⟩
  unfold partR
  rw [List.mem_filter]
  simp
/-- Each row has a first name, and a row of the others that has it has them all. -/
def JoinP (P Q : List (List Nam)) : Prop := ∀ p ∈ P, ∃ h, p[0]? = some h ∧ (∃ q ∈ Q, h ∈ q) ∧ ∀ q ∈ Q, h ∈ q → ∀ t ∈ p, t ∈ q
theorem outR_join {N : List Nam} {E F : List (Nam × Nam)} (h : ∀ e ∈ E, e ∈ F) : JoinP (outR N E N.length) (outR N F N.length) := by
  intro p hp
  obtain ⟨a, ha, hpa⟩ := outR_mem (Nat.le_refl _) hp
  have hm : a ∈ p := (hpa a).2 ⟨ha, SmN.refl _ _⟩
  cases p with
  | nil => cases hm
  | cons x r =>
    have hx := (hpa x).1 (by simp)
    refine ⟨x, rfl, outR_has hx.1, fun q hq hxq t ht => ?_⟩
    obtain ⟨b, hb, hqb⟩ := outR_mem (Nat.le_refl _) hq
    have ht := (hpa t).1 ht
    rw [hqb] at hxq ⊢
    exact ⟨ht.1, hxq.2.trans ((hx.2.symm.trans ht.2).mono h)⟩

end Go.Proofs.Ytgkddbpfjbgelaa
