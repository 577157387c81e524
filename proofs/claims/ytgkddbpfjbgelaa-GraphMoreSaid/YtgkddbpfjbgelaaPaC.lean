/-
  A reader of tokens: next, take, name of the package parse.
-/
import Derived.Test.YtgkddbpfjbgelaaPaB
import Derived.Laws.ResultCell
import Derived.WalkLawsBesides
namespace Go.Proofs.Ytgkddbpfjbgelaa
set_option maxRecDepth 100000
set_option linter.unusedVariables false
open Go.RowKit Go.Sort

def tokV (t : Tok) : Value := .agg #[.int .i64 t.kind, .int .i64 t.at_, encStr t.s]
/-- The token that is read next. -/
def nextT (l : List Tok) (e : Nat) : Tok := match l with
  | [] => ⟨0, e, []⟩
  | t :: _ => t

/-- A token's three cells. -/
theorem tok_cells {w : World} {g o : Nat} {t : Tok} {r : List Tok} (h : w.rangeAt g o (lcellsT (t :: r))) : w.cell? ⟨g, o, none⟩ = some (.int .i64 t.kind) ∧ w.cell? ⟨g, o + 1, none⟩ = some (.int .i64 t.at_) ∧ w.cell? ⟨g, o + 2, none⟩ = some (encStr t.s) := by
  have e : lcellsT (t :: r) = .int .i64 t.kind :: .int .i64 t.at_ :: encStr t.s :: lcellsT r := by simp [lcellsT, tcells]
  rw [e] at h
  exact ⟨h 0 _ rfl, h 1 _ rfl, h 2 _ rfl⟩
theorem tok_rest {w : World} {g o : Nat} {t : Tok} {r : List Tok} (h : w.rangeAt g o (lcellsT (t :: r))) : w.rangeAt g (o + 3) (lcellsT r) := fun j v hv => by
  have e : lcellsT (t :: r) = .int .i64 t.kind :: .int .i64 t.at_ :: encStr t.s :: lcellsT r := by simp [lcellsT, tcells]
  rw [e] at h
  have := h (j + 3) v hv
  rw [show o + (j + 3) = o + 3 + j by omega] at this
  exact this

theorem take_world {w1 : World} {p q : Nat} {x0 x1 x2 u0 u1 : Value} {T T' : TypeId} (hq : IsBlk w1 q (.cells #[x0, x1, x2] T)) (hp : IsBlk w1 p (.cells #[u0, u1] T')) (hne : p ≠ q) (v t0 t1 t2 : Value) (o : Obj) :
    IsBlk (((((w1.setCell ⟨p, 0, none⟩ v).setCell ⟨q, 0, none⟩ t0).setCell ⟨q, 1, none⟩ t1).setCell ⟨q, 2, none⟩ t2).alloc o) q (.cells #[t0, t1, t2] T) ∧
    IsBlk (((((w1.setCell ⟨p, 0, none⟩ v).setCell ⟨q, 0, none⟩ t0).setCell ⟨q, 1, none⟩ t1).setCell ⟨q, 2, none⟩ t2).alloc o) p (.cells #[v, u1] T') ∧
    Only [p, q] w1 (((((w1.setCell ⟨p, 0, none⟩ v).setCell ⟨q, 0, none⟩ t0).setCell ⟨q, 1, none⟩ t1).setCell ⟨q, 2, none⟩ t2).alloc o) := by
  refine ⟨?_, ?_, ?_⟩
  · have h0 := IsBlk.away hq (a := ⟨p, 0, none⟩) (Ne.symm hne) v
    have h1 := IsBlk.put h0 0 t0
    have h2 := IsBlk.put h1 1 t1
    have h3 := IsBlk.put h2 2 t2
    exact h3.alloc o
  · have h0 := IsBlk.put hp 0 v
    have h1 := IsBlk.away h0 (a := ⟨q, 0, none⟩) hne t0
    have h2 := IsBlk.away h1 (a := ⟨q, 1, none⟩) hne t1
    have h3 := IsBlk.away h2 (a := ⟨q, 2, none⟩) hne t2
    exact h3.alloc o
  · exact ((((((Only.refl [p, q] w1).setCell (p := ⟨p, 0, none⟩) (.inl (by simp)) v).setCell (p := ⟨q, 0, none⟩) (.inl (by simp)) t0).setCell (p := ⟨q, 1, none⟩) (.inl (by simp)) t1).setCell (p := ⟨q, 2, none⟩) (.inl (by simp)) t2).alloc o)

theorem take_world0 {w1 : World} {p q : Nat} {x0 x1 x2 : Value} {T : TypeId} {ob : Obj} (hq : IsBlk w1 q (.cells #[x0, x1, x2] T)) (hp : IsBlk w1 p ob) (hne : p ≠ q) (t0 t1 t2 : Value) (o : Obj) :
    IsBlk ((((w1.setCell ⟨q, 0, none⟩ t0).setCell ⟨q, 1, none⟩ t1).setCell ⟨q, 2, none⟩ t2).alloc o) q (.cells #[t0, t1, t2] T) ∧
    IsBlk ((((w1.setCell ⟨q, 0, none⟩ t0).setCell ⟨q, 1, none⟩ t1).setCell ⟨q, 2, none⟩ t2).alloc o) p ob ∧
    Only [q] w1 ((((w1.setCell ⟨q, 0, none⟩ t0).setCell ⟨q, 1, none⟩ t1).setCell ⟨q, 2, none⟩ t2).alloc o) := by
  refine ⟨?_, ?_, ?_⟩
  · have h1 := IsBlk.put hq 0 t0
    have h2 := IsBlk.put h1 1 t1
    have h3 := IsBlk.put h2 2 t2
    exact h3.alloc o
  · have h1 := IsBlk.away hp (a := ⟨q, 0, none⟩) hne t0
    have h2 := IsBlk.away h1 (a := ⟨q, 1, none⟩) hne t1
    have h3 := IsBlk.away h2 (a := ⟨q, 2, none⟩) hne t2
    exact h3.alloc o
  · exact (((((Only.refl [q] w1).setCell (p := ⟨q, 0, none⟩) (.inl (by simp)) t0).setCell (p := ⟨q, 1, none⟩) (.inl (by simp)) t1).setCell (p := ⟨q, 2, none⟩) (.inl (by simp)) t2).alloc o)

end Go.Proofs.Ytgkddbpfjbgelaa
