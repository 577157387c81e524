/-
  The document's own disk: Read and Write by their contracts.
-/
import Derived.Test.YtfampoblcielpaaGreatRefA
namespace Go.Proofs.YtfampoblcielpaaGreat
set_option linter.unusedVariables false
set_option maxRecDepth 100000
open Go.RowKit

theorem cell_far {w : World} {k b i j : Nat} (v : Value) (h : k ≠ b) : (w.setCell ⟨b, i, none⟩ v).cell? ⟨k, j, none⟩ = w.cell? ⟨k, j, none⟩ :=
  World.cell?_setCell_other _ _ _ _ (fun e => h (by injection e with e1; exact e1.symm))
/-- A copy of a sector in new memory. -/
def RMade (w : World) (b : List UInt8) (x : Int) (e : Ending) (w' : World) : Prop :=
  ∃ g c, e = .returned (.tuple #[.slice (some ⟨g, 0, none⟩) 64 c, .int .i64 x]) ∧ w'.rangeAt g 0 (bv b) ∧ w.heap.size ≤ g ∧ g < w'.heap.size ∧ Only [] w w'

theorem empty_bytes (w : World) : (Instr.buildSlice 37 0 #[]).run Tryz.prog w = .ok (.slice (some ⟨w.heap.size, 0, none⟩) 0 0) (w.alloc (.cells #[] 5)) := by kernel_rfl

/-- What a write leaves. -/
def RS.put (D : RS) (l k : Int) (x : Nat) (b : List UInt8) : RS := { D with left := l, ops := k, now := fun i => if i = x then b else D.now i, new := fun i => if i = x then true else D.new i }

end Go.Proofs.YtfampoblcielpaaGreat
