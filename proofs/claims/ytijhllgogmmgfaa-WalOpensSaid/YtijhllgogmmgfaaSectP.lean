/-
  The laws' helper Make, by a contract.
-/
import Derived.Test.YtijhllgogmmgfaaSectO
namespace Go.Proofs.Ytijhllgogmmgfaa
set_option linter.unusedVariables false
set_option maxRecDepth 100000
open Go.RowKit

theorem sizeRef : (Try.prog.info? 63).map (·.size) = some 5 := by kernel_rfl
theorem load_ref (w : World) (g : Nat) (cs : Array Value) (hg : IsBlk w g (.cells cs 63)) (h5 : cs.size = 5) : (loadVar 63 ⟨g, 0, none⟩).run Try.prog w = .ok (.agg cs) w :=
  run_loadVar_row w g 63 63 cs (0, 0) _ hg Try.underlying63 rfl (by rw [h5]; exact sizeRef)
theorem results_c {P : Program} {fn : Func} {p : Tmp} {ty : TypeId} (h : fn.results = #[.cell p ty]) (tmps : Array Value) (w : World) (g : Nat) (cs : Array Value)
    (hp : tmps.getD p undef = .pointer (some ⟨g, 0, none⟩)) (hl : (loadVar ty ⟨g, 0, none⟩).run P w = .ok (.agg cs) w) : (results fn tmps).run P w = .ok (.agg cs) w := by
  have hp' : tmps[p]?.getD undef = .pointer (some ⟨g, 0, none⟩) := by simpa using hp
  simp [results, h, hp', asAddr, hl]

end Go.Proofs.Ytijhllgogmmgfaa
