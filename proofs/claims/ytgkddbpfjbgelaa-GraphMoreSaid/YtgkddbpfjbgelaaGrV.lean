/-
  The document's Parts, by itself, and that they are what the package graph's Parts answers. No walk is here.
-/
import Derived.Test.YtgkddbpfjbgelaaGrU
namespace Go.Proofs.Ytgkddbpfjbgelaa
set_option maxRecDepth 100000
set_option linter.unusedVariables false
open Go.RowKit Go.Sort Go.Maps

theorem RchN.trans {E : List (Nam × Nam)} {a b c : Nam} (h : RchN E a b) (k : RchN E b c) : RchN E a c := by
  induction h with
  | refl => exact k
  | step h1 _ ih => exact .step h1 (ih k)
/-- Each leads to the other one. -/
def SmN (E : List (Nam × Nam)) (a b : Nam) : Prop := RchN E a b ∧ RchN E b a
theorem SmN.refl (E : List (Nam × Nam)) (a : Nam) : SmN E a a := ⟨.refl a, .refl a⟩
theorem SmN.symm {E : List (Nam × Nam)} {a b : Nam} (h : SmN E a b) : SmN E b a := ⟨h.2, h.1⟩
theorem SmN.trans {E : List (Nam × Nam)} {a b c : Nam} (h : SmN E a b) (k : SmN E b c) : SmN E a c := ⟨h.1.trans k.1, k.2.trans h.2⟩
def nm8 (N : List Nam) (i : Nat) : Nam := N.getD i []
theorem nm8_get {N : List Nam} {i : Nat} (h : i < N.length) : N[i]? = some (nm8 N i) := by
  unfold nm8; rw [List.getD_eq_getElem?_getD, List.getElem?_eq_getElem h]; rfl
theorem nm8_mem {N : List Nam} {i : Nat} (h : i < N.length) : nm8 N i ∈ N := List.mem_of_getElem? (nm8_get h)
theorem range_nm8 (N : List Nam) : (List.range N.length).map (nm8 N) = N := by
  apply List.ext_getElem?
  intro i
  by_cases h : i < N.length
  · rw [nm8_get h]; simp [h]
  · rw [List.getElem?_eq_none (by simp; omega), List.getElem?_eq_none (by omega)]
def inNN (N : List Nam) (e : Nam × Nam) : Bool := decide (e.1 ∈ N) && decide (e.2 ∈ N)
/-- The edges between names of the set. -/
def allE (N : List Nam) (E : List (Nam × Nam)) : List (Nam × Nam) := E.filter (inNN N)
open Classical in
noncomputable def partR (N : List Nam) (E : List (Nam × Nam)) (a : Nam) : List Nam := N.filter (fun t => decide (SmN E a t))
open Classical in
noncomputable def firstR (N : List Nam) (E : List (Nam × Nam)) (i : Nat) : Bool := decide (∀ j, j < i → ¬ SmN E (nm8 N i) (nm8 N j))
noncomputable def outR (N : List Nam) (E : List (Nam × Nam)) (i : Nat) : List (List Nam) := ((List.range i).filter (firstR N E)).map (fun j => partR N E (nm8 N j))
theorem outR_yes {N : List Nam} {E : List (Nam × Nam)} {i : Nat} (h : firstR N E i = true) : outR N E (i + 1) = outR N E i ++ [partR N E (nm8 N i)] := by
  unfold outR
  rw [List.range_succ, List.filter_append, List.map_append]
  simp [h]
theorem outR_no {N : List Nam} {E : List (Nam × Nam)} {i : Nat} (h : firstR N E i = false) : outR N E (i + 1) = outR N E i := by
  unfold outR
  rw [List.range_succ, List.filter_append, List.map_append]
  simp [h]
theorem outR_len (N : List Nam) (E : List (Nam × Nam)) (i : Nat) : (outR N E i).length ≤ i := by
  unfold outR
  rw [List.length_map]
  have := List.length_filter_le (firstR N E) (List.range i)
  simpa using this
theorem partR_len (N : List Nam) (E : List (Nam × Nam)) (a : Nam) : (partR N E a).length ≤ N.length := List.length_filter_le _ _

/-- What is done. -/
structure DoneI (N : List Nam) (E : List (Nam × Nam)) (i : Nat) (D : List Nam) : Prop where
  iff : ∀ t ∈ N, t ∈ D ↔ ∃ j, j < i ∧ SmN E (nm8 N j) t
  len : D.length ≤ i * N.length
theorem DoneI.skip {N : List Nam} {E : List (Nam × Nam)} {i : Nat} {D : List Nam} (h : DoneI N E i D) (hi : i < N.length) (hm : nm8 N i ∈ D) : firstR N E i = false ∧ DoneI N E (i + 1) D := by
  obtain ⟨j, hj, hs⟩ := (h.iff _ (nm8_mem hi)).1 hm
  refine ⟨?_, ⟨fun t ht => ?_, ?_⟩⟩
  · unfold firstR
    classical
    exact decide_eq_false (fun hn => hn j hj hs.symm)
  · rw [h.iff t ht]
    constructor
    · rintro ⟨k, hk, hks⟩; exact ⟨k, by omega, hks⟩
    · rintro ⟨k, hk, hks⟩
      by_cases e : k = i
      · subst e; exact ⟨j, hj, hs.trans hks⟩
      · exact ⟨k, by omega, hks⟩
  · have := h.len; rw [Nat.add_mul]; omega
theorem DoneI.go {N : List Nam} {E : List (Nam × Nam)} {i : Nat} {D : List Nam} (h : DoneI N E i D) (hi : i < N.length) (hm : nm8 N i ∉ D) : firstR N E i = true ∧ DoneI N E (i + 1) (D ++ partR N E (nm8 N i)) := by
  refine ⟨?_, ⟨fun t ht => ?_, ?_⟩⟩
  · unfold firstR
    classical
    exact decide_eq_true (fun j hj hs => hm ((h.iff _ (nm8_mem hi)).2 ⟨j, hj, hs.symm⟩))
  · rw [List.mem_append, h.iff t ht]
    unfold partR
    rw [List.mem_filter]
    simp only [decide_eq_true_eq]
    constructor
    · rintro (⟨k, hk, hks⟩ | ⟨-, hs⟩)
      · exact ⟨k, by omega, hks⟩
      · exact ⟨i, by omega, hs⟩
    · rintro ⟨k, hk, hks⟩
      by_cases e : k = i
      · subst e; exact .inr ⟨ht, hks⟩
      · exact .inl ⟨k, by omega, hks⟩
  · have := h.len
    have := partR_len N E (nm8 N i)
    rw [List.length_append, Nat.add_mul]
    omega

theorem partsF_congr2 {n : Nat} {E F : Nat → Nat → Prop} (h : ∀ a b, a < n → b < n → (E a b ↔ F a b)) : partsF n E = partsF n F := by
  classical
  unfold partsF
  have e1 : (List.range n).filter (fun i => decide (∀ j, j < i → ¬ E i j)) = (List.range n).filter (fun i => decide (∀ j, j < i → ¬ F i j)) := by
    apply List.filter_congr
    intro i hi
    simp only [List.mem_range] at hi
    have : (∀ j, j < i → ¬ E i j) ↔ (∀ j, j < i → ¬ F i j) := by
      constructor
      · intro k j hj; rw [← h i j hi (by omega)]; exact k j hj
      · intro k j hj; rw [h i j hi (by omega)]; exact k j hj
    simp only [this]
  rw [e1]
  apply List.map_congr_left
  intro i hi
  have hi' : i < n := by have := (List.mem_filter.1 hi).1; simpa using this
  apply List.filter_congr
  intro j hj
  simp only [List.mem_range] at hj
  simp only [h i j hi' hj]
theorem partsF_outR (N : List Nam) (E : List (Nam × Nam)) : (partsF N.length (fun a b => SmN E (nm8 N a) (nm8 N b))).map (tellM N) = outR N E N.length := by
  classical
  unfold partsF outR
  rw [List.map_map]
  have e1 : (List.range N.length).filter (fun i => decide (∀ j, j < i → ¬ SmN E (nm8 N i) (nm8 N j))) = (List.range N.length).filter (firstR N E) := by
    apply List.filter_congr
    intro i hi
    unfold firstR
    congr
  rw [e1]
  apply List.map_congr_left
  intro i hi
  simp only [Function.comp]
  have key : ∀ a : Nam, partR N E a = ((List.range N.length).filter (fun j => decide (SmN E a (nm8 N j)))).map (nm8 N) := by
    intro a
    unfold partR
    conv => lhs; rw [← range_nm8 N, List.filter_map]
    rfl
  rw [key]
  rfl

theorem rch_nm {N : List Nam} {E : List (Nam × Nam)} {a b : Nat} (ha : a < N.length) (h : Rch (nxF (nxOf N.length (esOf N E))) a b) : RchN (allE N E) (nm8 N a) (nm8 N b) := by
  induction h with
  | refl => exact .refl _
  | @step a b c h1 _ ih =>
    have hb : (nxOf N.length (esOf N E))[a]? = some (nxF (nxOf N.length (esOf N E)) a) := nxF_get (by rw [nxOf_len]; exact ha)
    rw [nxOf_get _ _ ha] at hb
    injection hb with hb
    rw [← hb, List.mem_map] at h1
    obtain ⟨e, he, rfl⟩ := h1
    rw [List.mem_filter] at he
    obtain ⟨he, hea⟩ := he
    have hea : e.1 = a := by simpa using hea
    have hin := esOf_in N E e he
    unfold esOf at he
    rw [List.mem_flatMap] at he
    obtain ⟨x, hx, hxe⟩ := he
    unfold edgeI at hxe
    split at hxe
    · rename_i i j h1 h2
      simp at hxe
      subst hxe
      simp only at hea hin ⊢
      subst hea
      have k1 := (idxN_some h1).2
      have k2 := (idxN_some h2).2
      rw [nm8_get hin.1] at k1
      rw [nm8_get hin.2] at k2
      injection k1 with k1
      injection k2 with k2
      refine .step ?_ (ih hin.2)
      unfold allE
      rw [List.mem_filter]
      rw [k1, k2]
      refine ⟨hx, ?_⟩
      unfold inNN
      rw [← k1, ← k2]
      simp [nm8_mem hin.1, nm8_mem hin.2]
    · simp at hxe
theorem rch_mn {N : List Nam} {E : List (Nam × Nam)} (hnd : N.Nodup) {x y : Nam} (h : RchN (allE N E) x y) : ∀ a b, a < N.length → b < N.length → nm8 N a = x → nm8 N b = y → Rch (nxF (nxOf N.length (esOf N E))) a b := by
  have inj : ∀ a b, a < N.length → b < N.length → nm8 N a = nm8 N b → a = b := by
    intro a b ha hb e
    have h1 := nm8_get ha
    have h2 := nm8_get hb
    rw [e, ← h2] at h1
    exact (List.getElem?_inj ha hnd).1 h1
  induction h with
  | refl =>
    intro a b ha hb e1 e2
    have := inj a b ha hb (by rw [e1, e2])
    subst this
    exact .refl _
  | @step x z y h1 _ ih =>
    intro a b ha hb e1 e2
    unfold allE at h1
    rw [List.mem_filter] at h1
    obtain ⟨hm, hin⟩ := h1
    unfold inNN at hin
    simp only [Bool.and_eq_true, decide_eq_true_eq] at hin
    obtain ⟨c, hc⟩ := List.mem_iff_getElem?.1 hin.2
    have hcl := (List.getElem?_eq_some_iff.1 hc).1
    have hcz : nm8 N c = z := by
      rw [nm8_get hcl] at hc
      injection hc
    refine .step ?_ (ih c b hcl hb hcz e2)
    have hb2 : (nxOf N.length (esOf N E))[a]? = some (nxF (nxOf N.length (esOf N E)) a) := nxF_get (by rw [nxOf_len]; exact ha)
    rw [nxOf_get _ _ ha] at hb2
    injection hb2 with hb2
    rw [← hb2, List.mem_map]
    refine ⟨(a, c), ?_, rfl⟩
    rw [List.mem_filter]
    refine ⟨?_, by simp⟩
    unfold esOf
    rw [List.mem_flatMap]
    refine ⟨(x, z), hm, ?_⟩
    have i1 : idxN N x = some a := by
      cases h : idxN N x with
      | none => exact absurd hin.1 (idxN_none h)
      | some k =>
        obtain ⟨h1, h2⟩ := idxN_some h
        rw [nm8_get h1] at h2
        injection h2 with h2
        rw [inj k a h1 ha (by rw [h2, e1])]
    have i2 : idxN N z = some c := by
      cases h : idxN N z with
      | none => exact absurd hin.2 (idxN_none h)
      | some k =>
        obtain ⟨h1, h2⟩ := idxN_some h
        rw [nm8_get h1] at h2
        injection h2 with h2
        rw [inj k c h1 hcl (by rw [h2, hcz])]
    unfold edgeI
    simp only [i1, i2, List.mem_singleton]
theorem partsM_outR (N : List Nam) (E : List (Nam × Nam)) (hs : N.Pairwise (· < ·)) : partsM N E = outR N (allE N E) N.length := by
  have hnd : N.Nodup := hs.imp (fun h e => by subst e; exact List.lt_irrefl _ h)
  unfold partsM
  rw [sortS_rising hs, ← partsF_outR]
  congr 1
  apply partsF_congr2
  intro a b ha hb
  unfold samE Same SmN
  constructor
  · rintro ⟨h1, h2⟩; exact ⟨rch_nm ha h1, rch_nm hb h2⟩
  · rintro ⟨h1, h2⟩; exact ⟨rch_mn hnd h1 a b ha hb rfl rfl, rch_mn hnd h2 b a hb ha rfl rfl⟩

/-! ### The parts that there are, beside what is done -/
def OutN (w : World) (base : Nat) (v : Value) (P : List (List Nam)) (D : Value) : Prop :=
  ∃ cs, w.ownsRow base 24 1 v P.length cs ∧ ∀ (i : Nat) (p : List Nam), P[i]? = some p → ∃ u, cs[i]? = some u ∧ OwnN w base u p ∧ ∀ b, u.ownBlock = some b → D.ownBlock ≠ some b
theorem OutN.rows {w : World} {base : Nat} {v D : Value} {P : List (List Nam)} (h : OutN w base v P D) : RowsN w base v P := by
  obtain ⟨cs, h1, h2⟩ := h
  refine ⟨cs, h1, fun i p hp => ?_⟩
  obtain ⟨u, k1, k2, -⟩ := h2 i p hp
  exact ⟨u, k1, k2⟩
theorem OutN.nil (w : World) (base : Nat) (D : Value) : OutN w base (.slice none 0 0) [] D := ⟨[], World.ownsRow_nil _ _ _ _, fun i p h => by simp at h⟩
theorem OutN.keep {w w' : World} {base : Nat} {v D : Value} {P : List (List Nam)} (h : OutN w base v P D) (hO : Only [] w w') : OutN w' base v P D := by
  obtain ⟨cs, h1, h2⟩ := h
  refine ⟨cs, owns_off h1 hO (by simp), fun i p hp => ?_⟩
  obtain ⟨u, k1, k2, k3⟩ := h2 i p hp
  exact ⟨u, k1, k2.off hO (by simp), k3⟩
theorem OutN.done {w w' : World} {base : Nat} {v D D' : Value} {P : List (List Nam)} {L : List Nam} (h : OutN w base v P D) (hD : OwnN w base D L) (hO : Only (ownL D) w w') (hD' : D'.ownBlock = D.ownBlock ∨ D'.ownBlock = some w.heap.size) : OutN w' base v P D' := by
  obtain ⟨cs, h1, h2⟩ := h
  refine ⟨cs, owns_off h1 hO (fun k hk hm => nam_types hD h1 k (mem_ownL.1 hm) hk), fun i p hp => ?_⟩
  obtain ⟨u, k1, k2, k3⟩ := h2 i p hp
  refine ⟨u, k1, k2.off hO (fun k hk hm => k3 k hk (mem_ownL.1 hm)), fun b hb => ?_⟩
  rcases hD' with e | e
  · rw [e]; exact k3 b hb
  · rw [e]
    intro hx
    have := (World.ownsRow.lt k2 b hb).2
    injection hx with hx
    omega
theorem OutN.snoc {w w' : World} {base : Nat} {v v' D u : Value} {P : List (List Nam)} {p : List Nam} {cs : List Value} (h1 : w.ownsRow base 24 1 v P.length cs)
    (h2 : ∀ (i : Nat) (q : List Nam), P[i]? = some q → ∃ u, cs[i]? = some u ∧ OwnN w base u q ∧ ∀ b, u.ownBlock = some b → D.ownBlock ≠ some b)
    (k : w'.ownsRow base 24 1 v' (P.length + 1) (cs ++ [u])) (hO : Only (ownL v) w w') (hu : OwnN w base u p) (hap : ∀ b, u.ownBlock = some b → D.ownBlock ≠ some b) : OutN w' base v' (P ++ [p]) D := by
  have hcl : cs.length = P.length := by have := h1.1; simpa using this
  refine ⟨cs ++ [u], by rw [List.length_append]; exact k, fun i q hq => ?_⟩
  by_cases hi : i < P.length
  · rw [List.getElem?_append_left hi] at hq
    obtain ⟨u', k1, k2, k3⟩ := h2 i q hq
    exact ⟨u', by rw [List.getElem?_append_left (by omega)]; exact k1, k2.off hO (fun b hb hm => nam_types k2 h1 b hb (mem_ownL.1 hm)), k3⟩
  · rw [List.getElem?_append_right (by omega)] at hq
    have hz : i - P.length = 0 := by
      rcases Nat.eq_zero_or_pos (i - P.length) with h | h
      · exact h
      · rw [List.getElem?_eq_none (by simp; omega)] at hq; cases hq
    rw [hz] at hq
    simp at hq
    subst hq
    have : i = P.length := by omega
    subst this
    refine ⟨u, by rw [← hcl]; simp, hu.off hO (fun b hb hm => nam_types hu h1 b hb (mem_ownL.1 hm)), hap⟩

end Go.Proofs.Ytgkddbpfjbgelaa
