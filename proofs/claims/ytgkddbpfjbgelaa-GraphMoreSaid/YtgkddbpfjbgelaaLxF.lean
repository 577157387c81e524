/-
  The laws' helpers: within, known, same.
-/
import Derived.Test.YtgkddbpfjbgelaaLxE
import Derived.Laws.StructEq
import Derived.Sort.BigQuietIn
namespace Go.Proofs.Ytgkddbpfjbgelaa
set_option maxRecDepth 100000
set_option linter.unusedVariables false
open Go.RowKit Go.Sort

theorem tmod_bounds (x : Int) (n : Nat) (hn0 : 0 < n) : -(n : Int) < x.tmod n ∧ x.tmod n < n ∧ (0 ≤ x.tmod n → x.tmod n = x % n) ∧ (x.tmod n < 0 → x.tmod n + n = x % n) := by
  have h1 := Int.tmod_lt_of_pos x (show (0 : Int) < n by omega)
  have h2 := Int.lt_tmod_of_pos x (show (0 : Int) < n by omega)
  have h3 : (x.tmod n) % (n : Int) = x % n := by rw [Int.tmod_eq_emod]; split <;> simp
  refine ⟨h2, h1, fun h => ?_, fun h => ?_⟩
  · rw [← h3]; exact (Int.emod_eq_of_lt h h1).symm
  · rw [← h3, ← Int.add_emod_right]; exact (Int.emod_eq_of_lt (by omega) (by omega)).symm

/-- A number within n. -/
def inM (x : Int) (n : Nat) : Nat := (x % n).toNat
theorem inM_lt (x : Int) (n : Nat) (hn0 : 0 < n) : inM x n < n := by
  have h2 := Int.emod_lt_of_pos x (show (0 : Int) < n by omega)
  unfold inM
  omega
theorem known_tok : tokM [120, 32, 123] = ([⟨1, 0, [120]⟩, ⟨2, 2, []⟩], 0, 0) := by decide
theorem known_name : nameM [97] = true := by decide

theorem tok_ext {a b : Tok} (h1 : a.kind = b.kind) (h2 : a.at_ = b.at_) (h3 : a.s = b.s) : a = b := by
  cases a; cases b; simp_all

end Go.Proofs.Ytgkddbpfjbgelaa
