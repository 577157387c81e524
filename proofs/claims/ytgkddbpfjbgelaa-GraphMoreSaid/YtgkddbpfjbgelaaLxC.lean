/-
  strings.Clone by the library's contract.
-/
import Derived.Test.YtgkddbpfjbgelaaLxB
import Derived.Test.YtgkddbpfjbgelaaShelf
namespace Go.Proofs.Ytgkddbpfjbgelaa
set_option maxRecDepth 100000
set_option linter.unusedVariables false
open Go.RowKit Go.Sort

theorem clone_any (w : World) (s : List UInt8) (hs : s.length ≤ 100000) : Calls Try.prog 65 #[encStr s] w fun e w' => e = .returned (encStr s) ∧ Only [] w w' := by
  unfold encStr
  have hlim : (⟨s.toArray⟩ : ByteArray).size ≤ 281474976710656 := by simp [ByteArray.size]; omega
  go_enter Try.func65, Try.ntmps65
  go_wp2_with fail
  refine (Try.stringslite_Clone _ _ hlim).mono ?_
  rintro e w1 ⟨rfl, hB⟩
  go_wp2
  go_ret
  exact ⟨rfl, Below.toOnly hB⟩

end Go.Proofs.Ytgkddbpfjbgelaa
