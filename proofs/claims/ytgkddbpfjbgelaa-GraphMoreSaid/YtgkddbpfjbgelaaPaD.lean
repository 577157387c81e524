/-
  The words of statements: wordOf, kindOf of the package parse.
-/
import Derived.Test.YtgkddbpfjbgelaaPaC
namespace Go.Proofs.Ytgkddbpfjbgelaa
set_option maxRecDepth 100000
set_option linter.unusedVariables false
open Go.RowKit Go.Sort

def stmtW : List UInt8 := [117, 115, 101, 32, 115, 101, 116, 32, 108, 111, 99, 107, 32, 117, 110, 108, 111, 99, 107, 32, 99, 97, 108, 108, 32, 115, 112, 97, 119, 110, 32, 105, 102, 32, 108, 111, 111, 112, 32]
/-- How many blanks stand ahead of a place, and where the word begins that stands there. -/
def blanksM (k : Nat) : Nat := ((stmtW.take k).filter (· == 32)).length
def fromM : Nat → Nat
  | 0 => 0
  | k + 1 => if stmtW[k]? = some 32 then k + 1 else fromM k
theorem word_at : ∀ k < 39, stmtW[k]? = some 32 → fromM k ≤ k ∧ (stmtW.drop (fromM k)).take (k - fromM k) = verbM (blanksM k + 1) := by decide
theorem step_at : ∀ k < 39, (stmtW[k]? = some 32 → blanksM (k + 1) = blanksM k + 1 ∧ fromM (k + 1) = k + 1) ∧ (stmtW[k]? ≠ some 32 → blanksM (k + 1) = blanksM k ∧ fromM (k + 1) = fromM k) := by decide
theorem byte_at : ∀ k < 39, ∃ c, stmtW[k]? = some c ∧ c.toNat < 128 := by decide
theorem verb_far (k : Nat) (h : 8 < k) : verbM k = [] := by
  unfold verbM
  rw [if_neg (by omega), List.getElem?_eq_none (by simp [verbsM]; omega)]
  rfl

theorem verb_kind : ∀ k < 9, 0 < k → kindM (verbM k) = k := by decide
theorem kind_verb (s : List UInt8) (h : kindM s ≠ 0) : verbM (kindM s) = s ∧ kindM s < 9 := by
  unfold kindM at h ⊢
  repeat' split
  all_goals first
    | (rename_i hx; subst hx; exact ⟨rfl, by omega⟩)
    | simp_all

end Go.Proofs.Ytgkddbpfjbgelaa
