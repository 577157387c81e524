/-
  strings.Clone by the library's contract.
-/
import Derived.Test.YtonpfmhdefhhmaaLxB
import Derived.Test.YtonpfmhdefhhmaaShelf
namespace Go.Proofs.Ytonpfmhdefhhmaa
set_option maxRecDepth 100000
set_option linter.unusedVariables false
open Go.RowKit Go.Sort

theorem clone_any (w : World) (s : List UInt8) (hs : s.length ≤ 100000) : Calls Try.prog 57 #[encStr s] w fun e w' => e = .returned (encStr s) ∧ Only [] w w' := by
  unfold encStr
  have hlim : (⟨s.toArray⟩ : ByteArray).size ≤ 281474976710656 := by simp [ByteArray.size]; omega
  go_enter Try.func57, Try.ntmps57
  go_wp2_with fail
  refine (Try.stringslite_Clone _ _ hlim).mono ?_
  rintro e w1 ⟨rfl, hB⟩
  go_wp2
  go_ret
  exact ⟨rfl, Below.toOnly hB⟩

end Go.Proofs.Ytonpfmhdefhhmaa
