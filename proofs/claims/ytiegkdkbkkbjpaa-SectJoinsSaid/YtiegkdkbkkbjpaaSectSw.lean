/-
  The switch of the law SectJoins, taken out of the program's text.
-/
import Derived.Test.YtiegkdkbkkbjpaaSectAD
namespace Go.Proofs.Ytiegkdkbkkbjpaa
open Go.RowKit

def firstBlock : Code → Option Code
  | .block n c => some (.block n c)
  | .seq a b => match firstBlock a with
    | some c => some c
    | none => firstBlock b
  | .cond _ a b => match firstBlock a with
    | some c => some c
    | none => firstBlock b
  | .scope c => firstBlock c
  | .loop c => firstBlock c
  | _ => none
noncomputable def swBlock : Code := ((Try.f7.body.bind firstBlock).getD .skip)

end Go.Proofs.Ytiegkdkbkkbjpaa
