/-
  The document's own tokens (deadboltref5).
-/
import Derived.Test.YtgkddbpfjbgelaaLxD
namespace Go.Proofs.Ytgkddbpfjbgelaa
set_option maxRecDepth 100000
set_option linter.unusedVariables false
open Go.RowKit Go.Sort

/-- The row that begins at p ends at k. -/
theorem row_to (s : List UInt8) (p k : Nat) (hp : p < s.length) (hk : p + 1 ≤ k) (hks : k ≤ s.length) (h0 : letB s[p] = true) (ha : ∀ (j : Nat) (hj : j < s.length), p + 1 ≤ j → j < k → alnB s[j] = true) (hb : ∀ h : k < s.length, alnB s[k] = false) : rowM (s.drop p) = (s.drop p).take (k - p) := by
  refine row_take (s.drop p) (k - p) (by rw [List.length_drop]; omega) (fun j hj hjk => ?_) (fun h => ?_)
  · rw [List.length_drop] at hj
    rw [List.getElem_drop]
    by_cases hj0 : j = 0
    · subst hj0
      simp only [Nat.add_zero, h0, Bool.true_or]
    · have := ha (p + j) (by omega) (by omega) (by omega)
      simpa [alnB, Nat.pos_of_ne_zero hj0] using this
  · rw [List.length_drop] at h
    rw [List.getElem_drop]
    have := hb (by omega)
    have e : p + (k - p) = k := by omega
    have h0' : 0 < k - p := by omega
    simp only [e]
    simpa [alnB, h0'] using this

end Go.Proofs.Ytgkddbpfjbgelaa
