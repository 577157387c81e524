/-
  The reference's Bytes where it refuses; the laws' helper same, where two Parts are alike.
-/
import Derived.Test.YtijhllgogmmgfaaSectP
namespace Go.Proofs.Ytijhllgogmmgfaa
set_option linter.unusedVariables false
set_option maxRecDepth 100000
open Go.RowKit

set_option maxHeartbeats 8000000 in
theorem refbytes_bad (w : World) (g r n o : Int) (a : Option Addr) (k cap : Nat) (d : List UInt8) (hd : d.length = k) (hm : okB ⟨g, r, n, o, d⟩ = false) :
    Calls Try.prog 24 #[.agg #[.int .i64 g, .int .i64 r, .int .i64 n, .int .i64 o, .slice a k cap]] w fun e w' => e = .returned (.tuple #[.slice none 0 0, .int .i64 1]) ∧ Only [] w w' := by
  have hno : ¬ ((1 ≤ g ∧ g ≤ 4294967295 ∧ 0 ≤ r ∧ r ≤ 65535) ∧ 1 ≤ o ∧ o ≤ 255 ∧ 0 ≤ n ∧ n < o ∧ k = 52) := fun h => by
    have := okB_iff.2 (show _ from (by simpa [hd] using h) : (1 ≤ (PartM.mk g r n o d).g ∧ (PartM.mk g r n o d).g ≤ 4294967295 ∧ 0 ≤ (PartM.mk g r n o d).r ∧ (PartM.mk g r n o d).r ≤ 65535) ∧ 1 ≤ (PartM.mk g r n o d).o ∧ (PartM.mk g r n o d).o ≤ 255 ∧ 0 ≤ (PartM.mk g r n o d).n ∧ (PartM.mk g r n o d).n < (PartM.mk g r n o d).o ∧ (PartM.mk g r n o d).d.length = 52)
    rw [hm] at this; cases this
  have Hno := Lib.hid hno
  clear hno hm hd
  by_cases hg1 : g < 1
  · go_enter Try.func24, Try.ntmps24
    go_wp2
    go_ret2
    exact ⟨rfl, (Only.refl _ _).alloc _⟩
  · skip
    by_cases hg2 : 4294967295 < g
    · go_enter Try.func24, Try.ntmps24
      go_wp2
      go_ret2
      exact ⟨rfl, (Only.refl _ _).alloc _⟩
    · skip
      by_cases hr1 : r < 0
      · go_enter Try.func24, Try.ntmps24
        go_wp2
        go_ret2
        exact ⟨rfl, (Only.refl _ _).alloc _⟩
      · skip
        by_cases hr2 : 65535 < r
        · go_enter Try.func24, Try.ntmps24
          go_wp2
          go_ret2
          exact ⟨rfl, (Only.refl _ _).alloc _⟩
        · skip
          by_cases ho1 : o < 1
          · go_enter Try.func24, Try.ntmps24
            go_wp2
            go_ret2
            exact ⟨rfl, (Only.refl _ _).alloc _⟩
          · skip
            by_cases ho2 : 255 < o
            · go_enter Try.func24, Try.ntmps24
              go_wp2
              go_ret2
              exact ⟨rfl, (Only.refl _ _).alloc _⟩
            · skip
              by_cases hn1 : n < 0
              · go_enter Try.func24, Try.ntmps24
                go_wp2
                go_ret2
                exact ⟨rfl, (Only.refl _ _).alloc _⟩
              · skip
                by_cases hn2 : o ≤ n
                · go_enter Try.func24, Try.ntmps24
                  go_wp2
                  go_ret2
                  exact ⟨rfl, (Only.refl _ _).alloc _⟩
                · skip
                  by_cases hl : k = 52
                  · exact absurd ⟨⟨by omega, by omega, by omega, by omega⟩, by omega, by omega, by omega, by omega, hl⟩ Hno.out
                  · have hl' : ((k : Int) != 52) = true := by simp; omega
                    go_enter Try.func24, Try.ntmps24
                    go_wp2
                    go_ret2
                    exact ⟨rfl, (Only.refl _ _).alloc _⟩

end Go.Proofs.Ytijhllgogmmgfaa
