/-
  Tokens.
-/
import Derived.Test.YtgkddbpfjbgelaaLxC
namespace Go.Proofs.Ytgkddbpfjbgelaa
set_option maxRecDepth 100000
set_option linter.unusedVariables false
open Go.RowKit Go.Sort

/-- Where a walk over a text stands: p is where the next token may begin, acc what has been found. -/
def Stand (s : List UInt8) (p f : Nat) (acc : List Tok) : Prop :=
  p ≤ s.length ∧ s.length ≤ p + f ∧ acc.length ≤ p ∧ tokF s.length 0 s = (acc ++ (tokF f p (s.drop p)).1, (tokF f p (s.drop p)).2)

theorem Stand.start (s : List UInt8) : Stand s 0 s.length [] := ⟨Nat.zero_le _, by omega, by simp, by simp⟩
theorem Stand.done {s : List UInt8} {p f : Nat} {acc : List Tok} (h : Stand s p f acc) (hp : ¬ p < s.length) : tokF s.length 0 s = (acc, none) := by
  have e : s.drop p = [] := List.drop_eq_nil_of_le (by omega)
  rw [h.2.2.2, e]
  cases f <;> simp [tokF]
section
variable {s : List UInt8} {p f : Nat} {acc : List Tok}
theorem Stand.succ (h : Stand s p f acc) (hp : p < s.length) : ∃ f', f = f' + 1 := ⟨f - 1, by have := h.2.1; omega⟩
theorem Stand.blank (h : Stand s p (f + 1) acc) (hp : p < s.length) (h1 : letB s[p] = false) (h2 : ¬ s[p].toNat = 123) (h3 : ¬ s[p].toNat = 125) (h4 : blankB s[p] = true) : Stand s (p + 1) f acc := by
  refine ⟨by omega, by have := h.2.1; omega, by have := h.2.2.1; omega, ?_⟩
  rw [h.2.2.2, List.drop_eq_getElem_cons hp, tokF, if_neg (by rw [h1]; simp), if_neg h2, if_neg h3, if_pos h4]
theorem Stand.open_ (h : Stand s p (f + 1) acc) (hp : p < s.length) (h1 : letB s[p] = false) (h2 : s[p].toNat = 123) : Stand s (p + 1) f (acc ++ [⟨2, p, []⟩]) := by
  refine ⟨by omega, by have := h.2.1; omega, by have := h.2.2.1; simp; omega, ?_⟩
  rw [h.2.2.2, List.drop_eq_getElem_cons hp, tokF, if_neg (by rw [h1]; simp), if_pos h2]
  simp
theorem Stand.close (h : Stand s p (f + 1) acc) (hp : p < s.length) (h1 : letB s[p] = false) (h2 : ¬ s[p].toNat = 123) (h3 : s[p].toNat = 125) : Stand s (p + 1) f (acc ++ [⟨3, p, []⟩]) := by
  refine ⟨by omega, by have := h.2.1; omega, by have := h.2.2.1; simp; omega, ?_⟩
  rw [h.2.2.2, List.drop_eq_getElem_cons hp, tokF, if_neg (by rw [h1]; simp), if_neg h2, if_pos h3]
  simp
theorem Stand.row (h : Stand s p (f + 1) acc) (hp : p < s.length) (h1 : letB s[p] = true) : Stand s (p + (rowM (s.drop p)).length) f (acc ++ [⟨1, p, rowM (s.drop p)⟩]) ∧ 0 < (rowM (s.drop p)).length ∧ p + (rowM (s.drop p)).length ≤ s.length := by
  have h0 : 0 < (rowM (s.drop p)).length := by rw [List.drop_eq_getElem_cons hp]; exact row_pos h1
  have h2 : p + (rowM (s.drop p)).length ≤ s.length := by have := (row_pre (s.drop p)).2; rw [List.length_drop] at this; omega
  refine ⟨⟨h2, by have := h.2.1; omega, by have := h.2.2.1; simp; omega, ?_⟩, h0, h2⟩
  rw [h.2.2.2]
  have e : ∀ q, tokF (f + 1) q (s.drop p) = (⟨1, q, rowM (s.drop p)⟩ :: (tokF f (q + (rowM (s.drop p)).length) ((s.drop p).drop (rowM (s.drop p)).length)).1, (tokF f (q + (rowM (s.drop p)).length) ((s.drop p).drop (rowM (s.drop p)).length)).2) := fun q => by
    rw [List.drop_eq_getElem_cons hp, tokF, if_pos h1]
  rw [e, List.drop_drop]
  simp
theorem Stand.bad (h : Stand s p (f + 1) acc) (hp : p < s.length) (h1 : letB s[p] = false) (h2 : ¬ s[p].toNat = 123) (h3 : ¬ s[p].toNat = 125) (h4 : blankB s[p] = false) : tokF s.length 0 s = (acc, some p) := by
  rw [h.2.2.2, List.drop_eq_getElem_cons hp, tokF, if_neg (by rw [h1]; simp), if_neg h2, if_neg h3, if_neg (by rw [h4]; simp)]
  simp
/-- Within a row: what stands between is ASCII. -/
theorem row_in (hp : p < s.length) {q : Nat} (hq : p ≤ q) (hq2 : q < p + (rowM (s.drop p)).length) (hqs : q < s.length) : s[q].toNat < 128 := by
  obtain ⟨e, hl⟩ := row_pre (s.drop p)
  have h1 : q - p < (rowM (s.drop p)).length := by omega
  have h2 : (rowM (s.drop p))[q - p] = s[q] := by
    have h3 : q - p < (s.drop p).length := by omega
    have h4 : (rowM (s.drop p))[q - p]? = ((s.drop p).take (rowM (s.drop p)).length)[q - p]? := by rw [← e]
    rw [List.getElem?_eq_getElem h1, List.getElem?_take, if_pos h1, List.getElem?_drop, show p + (q - p) = q by omega, List.getElem?_eq_getElem hqs] at h4
    injection h4
  rw [← h2]
  exact aln_ascii (row_all (s.drop p) _ (List.getElem_mem h1))
end

theorem tokF_len : ∀ (f i : Nat) (s : List UInt8), (tokF f i s).1.length ≤ s.length
  | 0, i, s => by simp [tokF]
  | f + 1, i, [] => by simp [tokF]
  | f + 1, i, c :: r => by
    have h1 := tokF_len f (i + 1) r
    have h2 := tokF_len f (i + (rowM (c :: r)).length) ((c :: r).drop (rowM (c :: r)).length)
    rw [tokF]
    split
    · rename_i hl
      have h3 := row_pos (r := r) hl
      have h4 := (row_pre (c :: r)).2
      rw [List.length_drop] at h2
      simp only [List.length_cons] at *
      omega
    · split
      · simp only [List.length_cons]; omega
      · split
        · simp only [List.length_cons]; omega
        · split
          · simp only [List.length_cons]; omega
          · simp
theorem tokM_len (s : List UInt8) : (tokM s).1.length ≤ s.length := by
  have h := tokF_len s.length 0 s
  unfold tokM
  split
  · simp
  · generalize tokF s.length 0 s = x at *
    obtain ⟨l, o⟩ := x
    cases o <;> simp_all

theorem tokM_ok {s : List UInt8} {l : List Tok} (hs : ¬ 2000 < s.length) (h : tokF s.length 0 s = (l, none)) : tokM s = (l, 0, 0) := by
  unfold tokM; rw [if_neg hs, h]
theorem tokM_bad {s : List UInt8} {l : List Tok} {i : Nat} (hs : ¬ 2000 < s.length) (h : tokF s.length 0 s = (l, some i)) : tokM s = ([], i, 6) := by
  unfold tokM; rw [if_neg hs, h]
theorem tokM_long {s : List UInt8} (hs : 2000 < s.length) : tokM s = ([], 0, 2) := by
  unfold tokM; rw [if_pos hs]

end Go.Proofs.Ytgkddbpfjbgelaa
