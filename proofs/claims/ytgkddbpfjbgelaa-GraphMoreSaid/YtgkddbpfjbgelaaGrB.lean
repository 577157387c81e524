/-
  Parts in order: they are told by what leads to what alone. No walk is here.
-/
import Derived.Test.YtgkddbpfjbgelaaGrA
namespace Go.Proofs.Ytgkddbpfjbgelaa
set_option maxRecDepth 100000
set_option linter.unusedVariables false

/-! ### Parts in order -/
open Classical in
/-- The parts by themselves: each place that is the first of its part, with all that are in it. -/
noncomputable def partsF (n : Nat) (E : Nat → Nat → Prop) : List (List Nat) :=
  ((List.range n).filter (fun i => decide (∀ j, j < i → ¬ E i j))).map (fun i => (List.range n).filter (fun j => decide (E i j)))

theorem rising_ext : ∀ {l m : List Nat}, l.Pairwise (· < ·) → m.Pairwise (· < ·) → (∀ x, x ∈ l ↔ x ∈ m) → l = m
  | [], [], _, _, _ => rfl
  | [], b :: m, _, _, h => by have := (h b).2 (by simp); cases this
  | a :: l, [], _, _, h => by have := (h a).1 (by simp); cases this
  | a :: l, b :: m, hl, hm, h => by
    have h1 := List.pairwise_cons.1 hl
    have h2 := List.pairwise_cons.1 hm
    have e : a = b := by
      rcases List.mem_cons.1 ((h a).1 (by simp)) with e | e
      · exact e
      · rcases List.mem_cons.1 ((h b).2 (by simp)) with e' | e'
        · exact e'.symm
        · have := h1.1 b e'; have := h2.1 a e; omega
    subst e
    rw [rising_ext h1.2 h2.2 (fun x => ?_)]
    constructor
    · intro hx
      rcases List.mem_cons.1 ((h x).1 (by simp [hx])) with e | e
      · subst e; have := h1.1 x hx; omega
      · exact e
    · intro hx
      rcases List.mem_cons.1 ((h x).2 (by simp [hx])) with e | e
      · subst e; have := h2.1 x hx; omega
      · exact e

/-- Rows that are the parts, in order. -/
structure IsParts (n : Nat) (E : Nat → Nat → Prop) (ps : List (List Nat)) : Prop where
  rise : ∀ p ∈ ps, p ≠ [] ∧ p.Pairwise (· < ·)
  mem : ∀ p ∈ ps, ∀ a ∈ p, a < n ∧ ∀ b, b ∈ p ↔ b < n ∧ E a b
  all : ∀ a, a < n → ∃ p ∈ ps, a ∈ p
  ord : (ps.map (fun p => p.headD 0)).Pairwise (· < ·)

theorem head_least {p : List Nat} (h : p.Pairwise (· < ·)) : ∀ x ∈ p, p.headD 0 ≤ x := by
  cases p with
  | nil => simp
  | cons a r =>
    intro x hx
    rcases List.mem_cons.1 hx with rfl | hx
    · exact Nat.le_refl _
    · exact Nat.le_of_lt ((List.pairwise_cons.1 h).1 x hx)
theorem head_mem {p : List Nat} (h : p ≠ []) : p.headD 0 ∈ p := by
  cases p with
  | nil => exact absurd rfl h
  | cons a r => simp

theorem IsParts.eq {n : Nat} {E : Nat → Nat → Prop} (hr : ∀ a, E a a) {ps : List (List Nat)} (h : IsParts n E ps) : ps = partsF n E := by
  classical
  have e1 : ps.map (fun p => p.headD 0) = (List.range n).filter (fun i => decide (∀ j, j < i → ¬ E i j)) := by
    apply rising_ext h.ord
    · exact List.Pairwise.filter _ List.pairwise_lt_range
    · intro x
      simp only [List.mem_map, List.mem_filter, List.mem_range, decide_eq_true_eq]
      constructor
      · rintro ⟨p, hp, rfl⟩
        have hm := head_mem (h.rise p hp).1
        refine ⟨(h.mem p hp _ hm).1, fun j hj hE => ?_⟩
        have : j ∈ p := ((h.mem p hp _ hm).2 j).2 ⟨by have := (h.mem p hp _ hm).1; omega, hE⟩
        have := head_least (h.rise p hp).2 j this
        omega
      · rintro ⟨hx, hmin⟩
        obtain ⟨p, hp, hxp⟩ := h.all x hx
        refine ⟨p, hp, ?_⟩
        have hm := head_mem (h.rise p hp).1
        have h1 := head_least (h.rise p hp).2 x hxp
        have h2 := ((h.mem p hp x hxp).2 _).1 hm
        rcases Nat.lt_or_ge (p.headD 0) x with h3 | h3
        · exact absurd h2.2 (hmin _ h3)
        · omega
  unfold partsF
  rw [← e1, List.map_map]
  conv => lhs; rw [← List.map_id ps]
  apply List.map_congr_left
  intro p hp
  simp only [id, Function.comp]
  have hm := head_mem (h.rise p hp).1
  apply rising_ext (h.rise p hp).2 (List.Pairwise.filter _ List.pairwise_lt_range)
  intro x
  rw [(h.mem p hp _ hm).2 x]
  simp

theorem partsF_is {n : Nat} {E : Nat → Nat → Prop} (hr : ∀ a, E a a) (hs : ∀ a b, E a b → E b a) (ht : ∀ a b c, E a b → E b c → E a c) : IsParts n E (partsF n E) := by
  classical
  have hmin : ∀ a, a < n → ∃ i, i < n ∧ E i a ∧ ∀ j, j < i → ¬ E i j := by
    intro a
    induction a using Nat.strongRecOn with
    | _ a ih =>
      intro ha
      by_cases hex : ∃ j, j < a ∧ E a j
      · obtain ⟨j, hj, hE⟩ := hex
        obtain ⟨i, hi, h1, h2⟩ := ih j hj (by omega)
        exact ⟨i, hi, ht _ _ _ h1 (hs _ _ hE), h2⟩
      · exact ⟨a, ha, hr a, fun j hj hE => hex ⟨j, hj, hE⟩⟩
  have hfirst : ∀ i, i < n → (∀ j, j < i → ¬ E i j) → ((List.range n).filter (fun j => decide (E i j))).headD 0 = i := by
    intro i hi h
    have hmem : i ∈ (List.range n).filter (fun j => decide (E i j)) := by simp [hi, hr i]
    have hp : ((List.range n).filter (fun j => decide (E i j))).Pairwise (· < ·) := List.Pairwise.filter _ List.pairwise_lt_range
    have h1 := head_least hp i hmem
    have h2 := head_mem (p := (List.range n).filter (fun j => decide (E i j))) (fun e => by rw [e] at hmem; cases hmem)
    simp only [List.mem_filter, List.mem_range, decide_eq_true_eq] at h2
    rcases Nat.lt_or_ge (((List.range n).filter (fun j => decide (E i j))).headD 0) i with h3 | h3
    · exact absurd h2.2 (h _ h3)
    · omega
  refine ⟨?_, ?_, ?_, ?_⟩
  · intro p hp
    simp only [partsF, List.mem_map, List.mem_filter, List.mem_range, decide_eq_true_eq] at hp
    obtain ⟨i, ⟨hi, -⟩, rfl⟩ := hp
    refine ⟨fun e => ?_, List.Pairwise.filter _ List.pairwise_lt_range⟩
    have hmem : i ∈ (List.range n).filter (fun j => decide (E i j)) := by simp [hi, hr i]
    rw [e] at hmem; cases hmem
  · intro p hp a ha
    simp only [partsF, List.mem_map, List.mem_filter, List.mem_range, decide_eq_true_eq] at hp
    obtain ⟨i, ⟨hi, -⟩, rfl⟩ := hp
    simp only [List.mem_filter, List.mem_range, decide_eq_true_eq] at ha ⊢
    exact ⟨ha.1, fun b => ⟨fun hb => ⟨hb.1, ht _ _ _ (hs _ _ ha.2) hb.2⟩, fun hb => ⟨hb.1, ht _ _ _ ha.2 hb.2⟩⟩⟩
  · intro a ha
    obtain ⟨i, hi, h1, h2⟩ := hmin a ha
    refine ⟨(List.range n).filter (fun j => decide (E i j)), ?_, by simp [ha, h1]⟩
    simp only [partsF, List.mem_map, List.mem_filter, List.mem_range, decide_eq_true_eq]
    exact ⟨i, ⟨hi, h2⟩, rfl⟩
  · unfold partsF
    rw [List.map_map]
    have : (List.filter (fun i => decide (∀ j, j < i → ¬ E i j)) (List.range n)).map ((fun p => p.headD 0) ∘ fun i => (List.range n).filter (fun j => decide (E i j))) = (List.filter (fun i => decide (∀ j, j < i → ¬ E i j)) (List.range n)).map id := by
      apply List.map_congr_left
      intro i hi
      simp only [List.mem_filter, List.mem_range, decide_eq_true_eq] at hi
      exact hfirst i hi.1 hi.2
    rw [this, List.map_id]
    exact List.Pairwise.filter _ List.pairwise_lt_range

theorem partsF_congr {n : Nat} {E F : Nat → Nat → Prop} (hE : ∀ a, E a a) (h : ∀ a b, a < n → (E a b ↔ F a b)) : partsF n E = partsF n F := by
  classical
  unfold partsF
  have e1 : (List.range n).filter (fun i => decide (∀ j, j < i → ¬ E i j)) = (List.range n).filter (fun i => decide (∀ j, j < i → ¬ F i j)) := by
    apply List.filter_congr
    intro i hi
    simp only [List.mem_range] at hi
    simp only [decide_eq_decide]
    exact ⟨fun g j hj hF => g j hj ((h i j hi).2 hF), fun g j hj hF => g j hj ((h i j hi).1 hF)⟩
  rw [e1]
  apply List.map_congr_left
  intro i hi
  have hi := (List.mem_filter.1 hi).1
  simp only [List.mem_range] at hi
  apply List.filter_congr
  intro j _
  simp only [decide_eq_decide]
  exact h i j hi

/-- What the second pass comes to, each row in order, and they by their first places. -/
theorem Pass2.parts {nx : Nat → List Nat} {n : Nat} {l : List Nat} {bn : Nat → Bool} {ps qs : List (List Nat)} (h : Pass2 nx l 0 bn ps) (hl : ∀ i, i ∈ l ↔ i < n) (hr : ∀ p ∈ ps, p.Pairwise (· < ·)) (hp : qs.Perm ps)
    (hq : qs.Pairwise (fun p q => ¬ q.headD 0 < p.headD 0)) : qs = partsF n (Same nx) := by
  refine IsParts.eq (Same.refl nx) ⟨fun p hp' => ⟨(h.each p (hp.mem_iff.1 hp')).1, hr p (hp.mem_iff.1 hp')⟩, fun p hp' a ha => ?_, fun a ha => ?_, ?_⟩
  · have h1 := h.each p (hp.mem_iff.1 hp')
    have hin : ∀ b, b ∈ p → b < n := fun b hb => (hl b).1 (h.inl b ((h.mem b).2 ⟨p, hp.mem_iff.1 hp', hb⟩))
    exact ⟨hin a ha, fun b => ⟨fun hb => ⟨hin b hb, (h1.2.2 a ha b).1 hb⟩, fun hb => (h1.2.2 a ha b).2 hb.2⟩⟩
  · obtain ⟨k, hk⟩ := List.mem_iff_getElem?.1 ((hl a).2 ha)
    obtain ⟨p, hp1, hp2⟩ := (h.mem a).1 (h.here k a (Nat.zero_le _) hk)
    exact ⟨p, hp.mem_iff.2 hp1, hp2⟩
  · rw [List.pairwise_map]
    have hap : qs.Pairwise (fun p q => ∀ a ∈ p, a ∉ q) := by
      refine (List.Perm.pairwise_iff (fun {p q} hpq => ?_) hp).2 h.apart
      exact fun a ha hb => hpq a hb ha
    have := hap.and hq
    refine (List.Pairwise.imp_of_mem ?_ this)
    intro p q hpm hqm ⟨h1, h2⟩
    have h3 := head_mem (h.each p (hp.mem_iff.1 hpm)).1
    have h4 := head_mem (h.each q (hp.mem_iff.1 hqm)).1
    have : p.headD 0 ≠ q.headD 0 := fun e => h1 _ h3 (e ▸ h4)
    omega

end Go.Proofs.Ytgkddbpfjbgelaa
