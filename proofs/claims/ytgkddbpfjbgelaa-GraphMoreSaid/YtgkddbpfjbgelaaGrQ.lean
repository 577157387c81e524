/-
  What Parts answers of letters; the law's known.
-/
import Derived.Test.YtgkddbpfjbgelaaGrP
namespace Go.Proofs.Ytgkddbpfjbgelaa
set_option maxRecDepth 100000
set_option linter.unusedVariables false
open Go.RowKit Go.Sort Go.Maps

theorem sortS_rising {l : List Nam} (h : l.Pairwise (· < ·)) : sortS l = l := by
  unfold sortS
  apply List.mergeSort_of_pairwise
  exact h.imp (fun hab => by simp only [decide_eq_true_eq]; exact List.le_of_lt hab)
theorem let8_lt {i j : Nat} (h : i < j) (hj : j ≤ 20) : let8 i < let8 j := by
  unfold let8
  rw [List.cons_lt_cons_iff]
  refine .inl ?_
  rw [UInt8.lt_iff_toNat_lt, byte8_nat i (by omega), byte8_nat j hj]
  omega
theorem let8_inj {i j : Nat} (hi : i ≤ 20) (hj : j ≤ 20) (h : let8 i = let8 j) : i = j := by
  unfold let8 at h
  injection h with h
  have := congrArg UInt8.toNat h
  rw [byte8_nat i hi, byte8_nat j hj] at this
  omega
theorem abc8_rise (n : Nat) (hn : n ≤ 20) : (abc8 n).Pairwise (· < ·) := by
  unfold abc8
  rw [List.pairwise_map]
  refine List.pairwise_lt_range.imp_of_mem ?_
  intro a b ha hb hab
  exact let8_lt hab (by have := List.mem_range.1 hb; omega)
theorem abc8_nodup (n : Nat) (hn : n ≤ 20) : (abc8 n).Nodup := (abc8_rise n hn).imp (fun h e => by subst e; exact List.lt_irrefl _ h)
theorem abc8_sort (n : Nat) (hn : n ≤ 20) : sortS (abc8 n) = abc8 n := sortS_rising (abc8_rise n hn)
theorem abc8_get (n i : Nat) (h : i < n) : (abc8 n)[i]? = some (let8 i) := by simp [abc8, h]
theorem abc8_idx (n i : Nat) (hn : n ≤ 20) (hi : i ≤ 20) : idxN (abc8 n) (let8 i) = if i < n then some i else none := by
  cases h : idxN (abc8 n) (let8 i) with
  | none =>
    split
    · rename_i h2
      exact absurd (List.mem_of_getElem? (abc8_get n i h2)) (idxN_none h)
    · rfl
  | some k =>
    obtain ⟨h1, h2⟩ := idxN_some h
    rw [abc8_len] at h1
    rw [abc8_get n k h1] at h2
    injection h2 with h2
    have := let8_inj (by omega) hi h2
    subst this
    rw [if_pos h1]

/-- Letters' edges, between places. -/
def nat8 (n : Nat) (x : Int) : Nat × Nat := (inM x (n + 2), inM (IntKind.i64.wrap (x.tdiv 16)) (n + 2))
def in8 (n : Nat) (e : Nat × Nat) : Bool := decide (e.1 < n) && decide (e.2 < n)
def places8 (n : Nat) (ns : List Int) : List Edg := ((ns.take 40).map (nat8 n)).filter (in8 n)
theorem edgeI_abc (n : Nat) (hn : n ≤ 18) (x : Int) : edgeI (abc8 n) (edge8 n x) = if in8 n (nat8 n x) then [nat8 n x] else [] := by
  have h1 := inM_lt x (n + 2) (by omega)
  have h2 := inM_lt (IntKind.i64.wrap (x.tdiv 16)) (n + 2) (by omega)
  unfold edgeI edge8
  simp only
  rw [abc8_idx n _ (by omega) (by omega), abc8_idx n _ (by omega) (by omega)]
  unfold in8 nat8
  simp only
  by_cases ha : inM x (n + 2) < n
  · by_cases hb : inM (IntKind.i64.wrap (x.tdiv 16)) (n + 2) < n
    · simp [ha, hb]
    · simp [ha, hb]
  · simp [ha]
theorem esOf_edges (n : Nat) (hn : n ≤ 18) (ns : List Int) : esOf (abc8 n) (edges8 n ns) = places8 n ns := by
  unfold esOf edges8 places8
  generalize ns.take 40 = l
  induction l with
  | nil => rfl
  | cons x r ih =>
    rw [List.map_cons, List.flatMap_cons, ih, edgeI_abc n hn, List.map_cons, List.filter_cons]
    split <;> simp

theorem partsM_abc (n : Nat) (hn : n ≤ 12) (E : List (Nam × Nam)) : partsM (abc8 n) E = (partsF n (Same (nxF (nxOf n (esOf (abc8 n) E))))).map (fun p => p.map let8) := by
  unfold partsM samE
  rw [abc8_sort n (by omega), abc8_len]
  apply List.map_congr_left
  intro p hp
  unfold tellM
  apply List.map_congr_left
  intro k hk
  have := (partsF_lt _ _ p hp).2 k hk
  rw [List.getD_eq_getElem?_getD, abc8_get n k this]
  rfl

/-! ### The example -/
theorem nam_a : ([97] : Nam) = let8 0 := rfl
theorem kn_same : partsF 3 (Same (nxF (nxOf 3 [(0, 1), (1, 0)]))) = [[0, 1], [2]] := by
  have h01 : Rch (nxF (nxOf 3 [(0, 1), (1, 0)])) 0 1 := Rch.one (by decide)
  have h10 : Rch (nxF (nxOf 3 [(0, 1), (1, 0)])) 1 0 := Rch.one (by decide)
  have hcl : ∀ {a b : Nat}, Rch (nxF (nxOf 3 [(0, 1), (1, 0)])) a b → a < 2 → b < 2 := by
    intro a b h
    induction h with
    | refl => exact id
    | @step a b c hab _ ih =>
      intro ha
      refine ih ?_
      have : a = 0 ∨ a = 1 := by omega
      rcases this with rfl | rfl
      · have : b = 1 := by revert hab; unfold nxF nxOf; simp
        omega
      · have : b = 0 := by revert hab; unfold nxF nxOf; simp
        omega
  have hs : ∀ b, b < 3 → (Same (nxF (nxOf 3 [(0, 1), (1, 0)])) 0 b ↔ b < 2) := fun b hb => by
    constructor
    · intro h; exact hcl h.1 (by omega)
    · intro h
      have : b = 0 ∨ b = 1 := by omega
      rcases this with rfl | rfl
      · exact Same.refl _ _
      · exact ⟨h01, h10⟩
  have hs1 : ∀ b, b < 3 → (Same (nxF (nxOf 3 [(0, 1), (1, 0)])) 1 b ↔ b < 2) := fun b hb => by
    rw [← hs b hb]
    exact ⟨fun h => Same.trans ⟨h01, h10⟩ h, fun h => Same.trans ⟨h10, h01⟩ h⟩
  have hs2 : ∀ b, b < 3 → (Same (nxF (nxOf 3 [(0, 1), (1, 0)])) 2 b ↔ b = 2) := fun b hb => by
    constructor
    · intro h
      have : ¬ b < 2 := fun h2 => by have := hcl h.2 h2; omega
      omega
    · rintro rfl; exact Same.refl _ _
  symm
  refine IsParts.eq (Same.refl _) ⟨by simp, fun p hp a ha => ?_, fun a ha => ?_, by simp⟩
  · simp only [List.mem_cons, List.not_mem_nil, or_false] at hp
    rcases hp with rfl | rfl
    · simp only [List.mem_cons, List.not_mem_nil, or_false] at ha
      rcases ha with rfl | rfl
      · refine ⟨by omega, fun b => ⟨fun h => ?_, fun h => ?_⟩⟩
        · have : b < 2 := by simp at h; omega
          exact ⟨by omega, (hs b (by omega)).2 this⟩
        · have := (hs b h.1).1 h.2; simp; omega
      · refine ⟨by omega, fun b => ⟨fun h => ?_, fun h => ?_⟩⟩
        · have : b < 2 := by simp at h; omega
          exact ⟨by omega, (hs1 b (by omega)).2 this⟩
        · have := (hs1 b h.1).1 h.2; simp; omega
    · simp only [List.mem_cons, List.not_mem_nil, or_false] at ha
      subst ha
      refine ⟨by omega, fun b => ⟨fun h => ?_, fun h => ?_⟩⟩
      · have : b = 2 := by simpa using h
        exact ⟨by omega, (hs2 b (by omega)).2 this⟩
      · have := (hs2 b h.1).1 h.2; simp [this]
  · have : a = 0 ∨ a = 1 ∨ a = 2 := by omega
    rcases this with rfl | rfl | rfl <;> simp

def knE : List (Nam × Nam) := [([97], [98]), ([98], [97])]
theorem kn_abc : ([[97], [98], [99]] : List Nam) = abc8 3 := by decide +kernel
theorem kn_parts : partsM [[97], [98], [99]] knE = [[[97], [98]], [[99]]] := by
  rw [kn_abc, partsM_abc 3 (by omega)]
  have : esOf (abc8 3) knE = [(0, 1), (1, 0)] := by decide +kernel
  rw [this, kn_same]
  decide +kernel
theorem kn_none : partsM [] [] = [] := by
  have e : sortS [] = [] := by simp [sortS]
  have := partsF_len 0 (samE [] [])
  unfold partsM
  rw [e]
  have h2 : partsF 0 (samE [] []) = [] := List.eq_nil_of_length_eq_zero (by omega)
  rw [List.length_nil, h2]
  rfl

end Go.Proofs.Ytgkddbpfjbgelaa
