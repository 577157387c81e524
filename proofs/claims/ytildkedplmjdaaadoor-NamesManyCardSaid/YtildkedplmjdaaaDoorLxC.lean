/-
  strings.Clone by the library's contract.
-/
import Derived.Test.YtildkedplmjdaaaDoorLxB
import Derived.Test.YtildkedplmjdaaaDoorShelf
namespace Go.Proofs.YtildkedplmjdaaaDoor
set_option maxRecDepth 100000
set_option linter.unusedVariables false
open Go.RowKit Go.Sort

theorem clone_any (w : World) (s : List UInt8) (hs : s.length ≤ 100000) : Calls Tryd.prog 55 #[encStr s] w fun e w' => e = .returned (encStr s) ∧ Only [] w w' := by
  unfold encStr
  have hlim : (⟨s.toArray⟩ : ByteArray).size ≤ 281474976710656 := by simp [ByteArray.size]; omega
  go_enter Tryd.func55, Tryd.ntmps55
  go_wp2_with fail
  refine (Tryd.stringslite_Clone _ _ hlim).mono ?_
  rintro e w1 ⟨rfl, hB⟩
  go_wp2
  go_ret
  exact ⟨rfl, Below.toOnly hB⟩

end Go.Proofs.YtildkedplmjdaaaDoor
