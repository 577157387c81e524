/-
  The laws' helpers: within, known, same.
-/
import Derived.Test.YtonpfmhdefhhmaaLxE
import Derived.Laws.StructEq
import Derived.Sort.BigQuietIn
namespace Go.Proofs.Ytonpfmhdefhhmaa
set_option maxRecDepth 100000
set_option linter.unusedVariables false
open Go.RowKit Go.Sort

theorem tmod_bounds (x : Int) (n : Nat) (hn0 : 0 < n) : -(n : Int) < x.tmod n ∧ x.tmod n < n ∧ (0 ≤ x.tmod n → x.tmod n = x % n) ∧ (x.tmod n < 0 → x.tmod n + n = x % n) := by
  have h1 := Int.tmod_lt_of_pos x (show (0 : Int) < n by omega)
  have h2 := Int.lt_tmod_of_pos x (show (0 : Int) < n by omega)
  have h3 : (x.tmod n) % (n : Int) = x % n := by rw [Int.tmod_eq_emod]; split <;> simp
  refine ⟨h2, h1, fun h => ?_, fun h => ?_⟩
  · rw [← h3]; exact (Int.emod_eq_of_lt h h1).symm
  · rw [← h3, ← Int.add_emod_right]; exact (Int.emod_eq_of_lt (by omega) (by omega)).symm

set_option maxHeartbeats 400000 in
theorem within5_nat (w : World) (x : Int) (n : Nat) (hn0 : 0 < n) (hn : n < 1000000) :
    Calls Try.prog 30 #[.int .i64 x, .int .i64 n] w fun e w' => e = .returned (.int .i64 (x % n)) ∧ w = w' := by
  obtain ⟨h1, h2, h3, h4⟩ := tmod_bounds x n hn0
  have H3 := Lib.hid h3
  have H4 := Lib.hid h4
  clear h3 h4
  have hnz : ((n : Int) == 0) = false := by simp; omega
  by_cases hs : x.tmod n < 0
  · have e1 := H4.out hs
    rw [← e1]
    clear H3 H4 e1
    go_enter Try.func30, Try.ntmps30
    go_wp2
    go_ret
    exact ⟨rfl, rfl⟩
  · have e1 := H3.out (by omega)
    rw [← e1]
    clear H3 H4 e1
    go_enter Try.func30, Try.ntmps30
    go_wp2
    go_ret
    exact ⟨rfl, rfl⟩
/-- A number within n. -/
def inM (x : Int) (n : Nat) : Nat := (x % n).toNat
theorem inM_lt (x : Int) (n : Nat) (hn0 : 0 < n) : inM x n < n := by
  have h2 := Int.emod_lt_of_pos x (show (0 : Int) < n by omega)
  unfold inM
  omega
theorem within5_to (w : World) (x n : Int) (hn0 : 0 < n) (hn : n < 1000000) :
    Calls Try.prog 30 #[.int .i64 x, .int .i64 n] w fun e w' => e = .returned (.int .i64 (inM x n.toNat)) ∧ w = w' := by
  obtain ⟨k, rfl⟩ := Int.eq_ofNat_of_zero_le (show 0 ≤ n by omega)
  refine (within5_nat w x k (by omega) (by omega)).mono ?_
  rintro e w' ⟨rfl, rfl⟩
  have h1 := Int.emod_nonneg x (show (k : Int) ≠ 0 by omega)
  exact ⟨by unfold inM; rw [Int.toNat_natCast, Int.toNat_of_nonneg h1], rfl⟩

theorem known_tok : tokM [120, 32, 123] = ([⟨1, 0, [120]⟩, ⟨2, 2, []⟩], 0, 0) := by decide
theorem known_name : nameM [97] = true := by decide

theorem tok_ext {a b : Tok} (h1 : a.kind = b.kind) (h2 : a.at_ = b.at_) (h3 : a.s = b.s) : a = b := by
  cases a; cases b; simp_all

end Go.Proofs.Ytonpfmhdefhhmaa
