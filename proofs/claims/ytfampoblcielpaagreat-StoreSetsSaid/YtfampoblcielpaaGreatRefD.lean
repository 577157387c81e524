/-
  The document's own disk: Crash by its contract.
-/
import Derived.Test.YtfampoblcielpaaGreatRefC
namespace Go.Proofs.YtfampoblcielpaaGreat
set_option linter.unusedVariables false
set_option maxRecDepth 100000
open Go.RowKit

/-- How many of the first k sectors were written. -/
def cntN (new : Nat → Bool) : Nat → Nat
  | 0 => 0
  | k + 1 => cntN new k + if new k then 1 else 0
theorem cntN_le (new : Nat → Bool) : ∀ k, cntN new k ≤ k
  | 0 => Nat.le_refl _
  | k + 1 => by have := cntN_le new k; simp only [cntN]; split <;> omega

/-- A sector behind a crash. -/
def RS.kept (D : RS) (l : List UInt8) (i : Nat) : List UInt8 := if D.new i = true ∧ pickB l (cntN D.new i) = true then D.now i else D.last i
/-- Crashed up to sector k. -/
def RS.crashTo (D : RS) (l : List UInt8) (k : Nat) : RS :=
  { D with last := fun i => if i < k then D.kept l i else D.last i, now := fun i => if i < k ∧ D.new i = true then D.kept l i else D.now i, new := fun i => if i < k then false else D.new i }
theorem rcrash_zero (D : RS) (l : List UInt8) : D.crashTo l 0 = D := by simp [RS.crashTo]

theorem rs_ext {D E : RS} (h1 : D.n = E.n) (h2 : D.now = E.now) (h3 : D.last = E.last) (h4 : D.new = E.new) (h5 : D.dead = E.dead) (h6 : D.left = E.left) (h7 : D.ops = E.ops) : D = E := by
  cases D; cases E; simp_all

/-- A sector that was not written. -/
theorem rcrash_skip (D : RS) (l : List UInt8) (k : Nat) (h : D.new k = false) : D.crashTo l k = D.crashTo l (k + 1) := by
  refine rs_ext rfl (funext fun i => ?_) (funext fun i => ?_) (funext fun i => ?_) rfl rfl rfl
  all_goals
    by_cases e : i = k
    · subst e; simp [RS.crashTo, RS.kept, h]
    · by_cases lt : i < k
      · have : i < k + 1 := by omega
        simp [RS.crashTo, lt, this]
      · have : ¬ i < k + 1 := by omega
        simp [RS.crashTo, lt, this]
/-- One that was, and is kept. -/
theorem rcrash_keep (D : RS) (l : List UInt8) (k : Nat) (h : D.new k = true) (hp : pickB l (cntN D.new k) = true) :
    ({ D.crashTo l k with last := fun i => if i = k then D.now k else (D.crashTo l k).last i, now := fun i => if i = k then D.now k else (D.crashTo l k).now i, new := fun i => if i = k then false else (D.crashTo l k).new i } : RS) = D.crashTo l (k + 1) := by
  refine rs_ext rfl (funext fun i => ?_) (funext fun i => ?_) (funext fun i => ?_) rfl rfl rfl
  all_goals
    by_cases e : i = k
    · subst e; simp [RS.crashTo, RS.kept, h, hp]
    · by_cases lt : i < k
      · have : i < k + 1 := by omega
        simp [RS.crashTo, lt, this, e]
      · have : ¬ i < k + 1 := by omega
        simp [RS.crashTo, lt, this, e]
/-- One that was, and is lost. -/
theorem rcrash_lose (D : RS) (l : List UInt8) (k : Nat) (h : D.new k = true) (hp : pickB l (cntN D.new k) = false) :
    ({ D.crashTo l k with now := fun i => if i = k then D.last k else (D.crashTo l k).now i, new := fun i => if i = k then false else (D.crashTo l k).new i } : RS) = D.crashTo l (k + 1) := by
  refine rs_ext rfl (funext fun i => ?_) (funext fun i => ?_) (funext fun i => ?_) rfl rfl rfl
  all_goals
    by_cases e : i = k
    · subst e; simp [RS.crashTo, RS.kept, h, hp]
    · by_cases lt : i < k
      · have : i < k + 1 := by omega
        simp [RS.crashTo, lt, this, e]
      · have : ¬ i < k + 1 := by omega
        simp [RS.crashTo, lt, this, e]

/-- Crashed whole. -/
def RS.crashed (D : RS) (l : List UInt8) : RS :=
  { D with last := D.kept l, now := fun i => if D.new i = true then D.kept l i else D.now i, new := fun _ => false, dead := false, left := -1 }
theorem rcrashed_at {w : World} {B : Nat} {R : RefP} {D : RS} {l : List UInt8} (h : RefAt w B R { D.crashTo l D.n with dead := false, left := -1, ops := D.ops }) : RefAt w B R (D.crashed l) where
  blk := h.blk
  now i hi := by have := h.now i hi; simpa [RS.crashTo, RS.crashed, show i < D.n from hi] using this
  last i hi := by have := h.last i hi; simpa [RS.crashTo, RS.crashed, show i < D.n from hi] using this
  new i hi := by have := h.new i hi; simpa [RS.crashTo, RS.crashed, show i < D.n from hi] using this
  fN := h.fN
  fL := h.fL
  fB := h.fB
  gq := h.gq
  gN := h.gN
  gL := h.gL
  gB := h.gB
  lN := h.lN
  lL := h.lL
  lB := h.lB
  qN := h.qN
  qL := h.qL
  qB := h.qB
  NL := h.NL
  NB_ := h.NB_
  LB := h.LB
  pos := h.pos
  small := h.small

end Go.Proofs.YtfampoblcielpaaGreat
