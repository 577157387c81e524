/-
  The document's own disk: Flush by its contract.
-/
import Derived.Test.YtfampoblcielpaaGreatRefB
namespace Go.Proofs.YtfampoblcielpaaGreat
set_option linter.unusedVariables false
set_option maxRecDepth 100000
open Go.RowKit

/-- Flushed up to sector k. -/
def RS.flushTo (D : RS) (k : Nat) : RS := { D with last := fun i => if i < k then D.now i else D.last i, new := fun i => if i < k then false else D.new i }
theorem rflush_zero (D : RS) : D.flushTo 0 = D := by simp [RS.flushTo]
theorem rflush_succ (D : RS) (k : Nat) : ({ D.flushTo k with last := fun i => if i = k then D.now k else (D.flushTo k).last i, new := fun i => if i = k then false else (D.flushTo k).new i } : RS) = D.flushTo (k + 1) := by
  have h1 : (fun i => if i = k then D.now k else (D.flushTo k).last i) = fun i => if i < k + 1 then D.now i else D.last i := by
    funext i
    by_cases e : i = k
    · subst e; simp
    · by_cases l : i < k
      · have : i < k + 1 := by omega
        simp [RS.flushTo, e, l, this]
      · have : ¬ i < k + 1 := by omega
        simp [RS.flushTo, e, l, this]
  have h2 : (fun i => if i = k then false else (D.flushTo k).new i) = fun i => if i < k + 1 then false else D.new i := by
    funext i
    by_cases e : i = k
    · subst e; simp
    · by_cases l : i < k
      · have : i < k + 1 := by omega
        simp [RS.flushTo, e, l, this]
      · have : ¬ i < k + 1 := by omega
        simp [RS.flushTo, e, l, this]
  rw [h1, h2]; rfl
/-- Flushed whole. -/
def RS.flushed (D : RS) : RS := { D with last := D.now, new := fun _ => false }
theorem rflushed_at {w : World} {B : Nat} {R : RefP} {D : RS} (h : RefAt w B R (D.flushTo D.n)) : RefAt w B R D.flushed where
  blk := h.blk
  now := h.now
  last i hi := by have := h.last i hi; simpa [RS.flushTo, RS.flushed, show i < D.n from hi] using this
  new i hi := by have := h.new i hi; simpa [RS.flushTo, RS.flushed, show i < D.n from hi] using this
  fN := h.fN
  fL := h.fL
  fB := h.fB
  gq := h.gq
  gN := h.gN
  gL := h.gL
  gB := h.gB
  lN := h.lN
  lL := h.lL
  lB := h.lB
  qN := h.qN
  qL := h.qL
  qB := h.qB
  NL := h.NL
  NB_ := h.NB_
  LB := h.LB
  pos := h.pos
  small := h.small

end Go.Proofs.YtfampoblcielpaaGreat
