/-
  Declarations of two texts, one behind the other, by chapter 6 itself. No walk is here.
-/
import Derived.Test.YtonpfmhdefhhmaaPbO
namespace Go.Proofs.Ytonpfmhdefhhmaa
set_option maxRecDepth 100000
set_option linter.unusedVariables false
open Go.RowKit Go.Sort

/-- A program's declarations, and another's behind them. -/
def joinP (P Q : ProgM) : ProgM := ⟨P.vars ++ Q.vars, P.locks ++ Q.locks, P.funcs ++ Q.funcs⟩
theorem join_erase (P Q : ProgM) : eraseP (joinP P Q) = joinP (eraseP P) (eraseP Q) := by simp [joinP, eraseP, eraseD, eraseF]
theorem join_parse (P Q : ProgM) (hP : ∀ x ∈ itemsP P, GoodI x) (hQ : ∀ x ∈ itemsP Q, GoodI x) (hl : (progT P ++ progT Q).length ≤ 2000) :
    ∃ R, parseM (progT P ++ progT Q) = (R, 0, 0) ∧ eraseP R = eraseP (joinP P Q) := by
  have e : progT P ++ progT Q = (itemsP P ++ itemsP Q).flatMap lineI := by rw [List.flatMap_append, ← text_items, ← text_items]
  rw [e] at hl ⊢
  refine ⟨_, parse_items (itemsP P ++ itemsP Q) (fun x hx => ?_) hl, ?_⟩
  · rcases List.mem_append.1 hx with h | h
    · exact hP x h
    · exact hQ x h
  · have h1 := progI_items P
    have h2 := progI_items Q
    rw [erase_new, progI_append, join_erase, ← h1, ← h2]
    rfl

end Go.Proofs.Ytonpfmhdefhhmaa
