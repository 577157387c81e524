/-
  The small functions of the package disk, each by a contract over a disk's own block: has, burn, revive, Size, Ops, Fuse.
-/
import Derived.Test.YtfampoblcielpaaGreatChecked
import Derived.Test.YtfampoblcielpaaGreatBase
import Derived.WalkKit
import Derived.WalkSpells
import Derived.WalkLawsBesides
namespace Go.Proofs.YtfampoblcielpaaGreat
set_option linter.unusedVariables false
set_option maxRecDepth 100000
open Go.RowKit

/-- A disk's block: where its sectors lie, how many, where its map lies, its fuse, dead, its count. -/
def dcells (bl n bm : Nat) (f : Int) (d : Bool) (k : Int) : Array Value :=
  #[.slice (some ⟨bl, 0, none⟩) n n, .map (some bm), .int .i64 f, .bool d, .int .i64 k]
def DBlk (w : World) (p bl n bm : Nat) (f : Int) (d : Bool) (k : Int) : Prop := IsBlk w p (.cells (dcells bl n bm f d k) 72)

section
variable {w : World} {p bl n bm : Nat} {f : Int} {d : Bool} {k : Int}
theorem DBlk.c0 (h : DBlk w p bl n bm f d k) : w.cell? ⟨p, 0, none⟩ = some (.slice (some ⟨bl, 0, none⟩) n n) := IsBlk.cell h 0
theorem DBlk.c1 (h : DBlk w p bl n bm f d k) : w.cell? ⟨p, 1, none⟩ = some (.map (some bm)) := IsBlk.cell h 1
theorem DBlk.c2 (h : DBlk w p bl n bm f d k) : w.cell? ⟨p, 2, none⟩ = some (.int .i64 f) := IsBlk.cell h 2
theorem DBlk.c3 (h : DBlk w p bl n bm f d k) : w.cell? ⟨p, 3, none⟩ = some (.bool d) := IsBlk.cell h 3
theorem DBlk.c4 (h : DBlk w p bl n bm f d k) : w.cell? ⟨p, 4, none⟩ = some (.int .i64 k) := IsBlk.cell h 4
theorem DBlk.fz (h : DBlk w p bl n bm f d k) (i : Nat) : w.frozen? ⟨p, i, none⟩ = false := IsBlk.notFrozen h i
theorem DBlk.put2 (h : DBlk w p bl n bm f d k) (f' : Int) : DBlk (w.setCell ⟨p, 2, none⟩ (.int .i64 f')) p bl n bm f' d k := IsBlk.put h 2 _
theorem DBlk.put3 (h : DBlk w p bl n bm f d k) (d' : Bool) : DBlk (w.setCell ⟨p, 3, none⟩ (.bool d')) p bl n bm f d' k := IsBlk.put h 3 _
theorem DBlk.put4 (h : DBlk w p bl n bm f d k) (k' : Int) : DBlk (w.setCell ⟨p, 4, none⟩ (.int .i64 k')) p bl n bm f d k' := IsBlk.put h 4 _
end

theorem only_put {p i : Nat} (w : World) (v : Value) : Only [p] w (w.setCell ⟨p, i, none⟩ v) := (Only.refl [p] w).setCell (by simp) v

set_option maxHeartbeats 400000 in
theorem size_any (w : World) (p bl n bm : Nat) (f : Int) (d : Bool) (k : Int) (h : DBlk w p bl n bm f d k) :
    Calls Tryz.prog 29 #[.pointer (some ⟨p, 0, none⟩)] w fun e w' => e = .returned (.int .i64 n) ∧ w = w' := by
  have c0 := h.c0
  go_enter Tryz.func29, Tryz.ntmps29
  go_wp2
  go_ret
  exact ⟨rfl, rfl⟩

def hasB (x : Int) (n : Nat) : Bool := decide (0 ≤ x) && decide (x < n)

set_option maxHeartbeats 400000 in
theorem has_any (w : World) (p bl n bm : Nat) (f : Int) (d : Bool) (k : Int) (x : Int) (h : DBlk w p bl n bm f d k) :
    Calls Tryz.prog 70 #[.pointer (some ⟨p, 0, none⟩), .int .i64 x] w fun e w' => e = .returned (.bool (hasB x n)) ∧ w = w' := by
  have c0 := h.c0
  by_cases hx : 0 ≤ x
  · have e1 : hasB x n = decide (x < n) := by simp [hasB, hx]
    rw [e1]
    go_enter Tryz.func70, Tryz.ntmps70
    go_wp2
    go_ret
    exact ⟨rfl, rfl⟩
  · have e1 : hasB x n = false := by simp [hasB, hx]
    rw [e1]
    have hd : decide (0 ≤ x) = false := by simpa using hx
    go_enter Tryz.func70, Tryz.ntmps70
    go_wp2
    go_ret
    exact ⟨rfl, rfl⟩

set_option maxHeartbeats 400000 in
theorem burn_spent (w : World) (p bl n bm : Nat) (d : Bool) (k : Int) (h : DBlk w p bl n bm 0 d k) :
    Calls Tryz.prog 77 #[.pointer (some ⟨p, 0, none⟩)] w fun e w' => e = .returned (.bool false) ∧ DBlk w' p bl n bm 0 true k ∧ Only [p] w w' := by
  have c2 := h.c2
  have c3 := h.c3
  have f3 := h.fz 3
  have hend := h.put3 true
  have hO := only_put (p := p) (i := 3) w (.bool true)
  go_enter Tryz.func77, Tryz.ntmps77
  go_wp2
  go_ret
  exact ⟨rfl, hend, hO⟩

set_option maxHeartbeats 400000 in
theorem burn_endless (w : World) (p bl n bm : Nat) (d : Bool) (k : Int) (h : DBlk w p bl n bm (-1) d k) (hk0 : 0 ≤ k) (hk : k < 1000000000000) :
    Calls Tryz.prog 77 #[.pointer (some ⟨p, 0, none⟩)] w fun e w' => e = .returned (.bool true) ∧ DBlk w' p bl n bm (-1) d (k + 1) ∧ Only [p] w w' := by
  have c2 := h.c2
  have c4 := h.c4
  have f4 := h.fz 4
  have hend := h.put4 (k + 1)
  have hO := only_put (p := p) (i := 4) w (.int .i64 (k + 1))
  go_enter Tryz.func77, Tryz.ntmps77
  go_wp2
  go_ret
  exact ⟨rfl, hend, hO⟩

set_option maxHeartbeats 400000 in
theorem burn_some (w : World) (p bl n bm : Nat) (f : Int) (d : Bool) (k : Int) (h : DBlk w p bl n bm f d k) (hf0 : 0 < f) (hf : f < 1000000000000) (hk0 : 0 ≤ k) (hk : k < 1000000000000) :
    Calls Tryz.prog 77 #[.pointer (some ⟨p, 0, none⟩)] w fun e w' => e = .returned (.bool true) ∧ DBlk w' p bl n bm (f - 1) d (k + 1) ∧ Only [p] w w' := by
  have c2 := h.c2
  have c4 := h.c4
  have f4 := h.fz 4
  have f2 := h.fz 2
  have hend := (h.put2 (f - 1)).put4 (k + 1)
  have hO := (only_put (p := p) (i := 2) w (.int .i64 (f - 1))).setCell (p := ⟨p, 4, none⟩) (by simp) (.int .i64 (k + 1))
  have t1 : (f == 0) = false := by simp; omega
  have t2 : (f != -1) = true := by simp; omega
  go_enter Tryz.func77, Tryz.ntmps77
  go_wp2
  go_ret
  exact ⟨rfl, hend, hO⟩

/-- The fuse behind an operation that was done. -/
def burnt (f : Int) : Int := if f = -1 then -1 else f - 1

theorem burn_ok (w : World) (p bl n bm : Nat) (f : Int) (d : Bool) (k : Int) (h : DBlk w p bl n bm f d k) (hf0 : f ≠ 0) (hf1 : -1 ≤ f) (hf : f < 1000000000000) (hk0 : 0 ≤ k) (hk : k < 1000000000000) :
    Calls Tryz.prog 77 #[.pointer (some ⟨p, 0, none⟩)] w fun e w' => e = .returned (.bool true) ∧ DBlk w' p bl n bm (burnt f) d (k + 1) ∧ Only [p] w w' := by
  by_cases e : f = -1
  · subst e; exact burn_endless w p bl n bm d k h hk0 hk
  · have : burnt f = f - 1 := by simp [burnt, e]
    rw [this]
    exact burn_some w p bl n bm f d k h (by omega) hf hk0 hk

end Go.Proofs.YtfampoblcielpaaGreat
