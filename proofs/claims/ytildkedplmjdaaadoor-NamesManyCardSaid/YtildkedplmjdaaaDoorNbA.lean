/-
  NamesKinds: the texts, and what they are. No walk is here.
-/
import Derived.Test.YtildkedplmjdaaaDoorNaY
namespace Go.Proofs.YtildkedplmjdaaaDoor
set_option maxRecDepth 100000
set_option linter.unusedVariables false
open Go.RowKit Go.Sort

theorem table7_cell {w : World} {g : Nat} {t : TypeId} (T : List (List UInt8)) (h : IsBlk w g (.cells (T.map encStr).toArray t)) (i : Nat) (hi : i < T.length) : w.cell? ⟨g, i, none⟩ = some (.string ⟨(T.getD i []).toArray⟩) := by
  rw [h.cell]
  simp [hi]
theorem append7_list (a b : List UInt8) : (⟨a.toArray⟩ : ByteArray) ++ ⟨b.toArray⟩ = ⟨(a ++ b).toArray⟩ := by
  apply ByteArray.ext
  simp

def kdV : List (List UInt8) := [[117, 115, 101], [115, 101, 116], [108, 111, 99, 107], [117, 110, 108, 111, 99, 107], [99, 97, 108, 108], [115, 112, 97, 119, 110]]
def kdN : List (List UInt8) := [[120], [108], [102], [110, 111, 110, 101]]
def kdA : List UInt8 := [118, 97, 114, 32, 120, 32, 108, 111, 99, 107, 32, 108, 32, 102, 117, 110, 99, 32, 102, 32, 123, 32, 125, 32, 102, 117, 110, 99, 32, 109, 97, 105, 110, 32, 123, 32]
def aheadK (d : Nat) : List UInt8 := kdA ++ (List.replicate d [108, 111, 111, 112, 32, 123, 32]).flatten
def textJ (k n d e : Nat) : List UInt8 := aheadK d ++ (kdV.getD k [] ++ ([32] ++ kdN.getD n [])) ++ (List.replicate e [32, 125]).flatten
theorem kinds_all : ∀ k, k < 6 → ∀ n, n < 4 → ∀ d, d < 15 → (allM [textJ k n d (d + 1)]).2 = if n = k / 2 then (0, 0) else ((aheadK d).length, 10) := by decide +kernel
theorem ahead_succ (d : Nat) : aheadK (d + 1) = aheadK d ++ [108, 111, 111, 112, 32, 123, 32] := by
  unfold aheadK
  rw [List.replicate_succ', List.flatten_append, List.append_assoc]; simp
theorem textJ_succ (k n d e : Nat) : textJ k n d (e + 1) = textJ k n d e ++ [32, 125] := by
  unfold textJ
  rw [List.replicate_succ', List.flatten_append, ← List.append_assoc]; simp

end Go.Proofs.YtildkedplmjdaaaDoor
