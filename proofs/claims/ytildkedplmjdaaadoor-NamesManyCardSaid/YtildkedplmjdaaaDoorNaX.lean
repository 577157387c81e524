/-
  What Join answers of few files, where their order is known; the laws' own example and numbers.
-/
import Derived.Test.YtildkedplmjdaaaDoorNaW
namespace Go.Proofs.YtildkedplmjdaaaDoor
set_option maxRecDepth 100000
set_option linter.unusedVariables false
open Go.RowKit Go.Sort Go.Stop

theorem ord_unique {zs zs' l : List FilM} (hp : zs'.Perm zs) (ho : OrdF zs') (hl : l.Perm zs) (hs : l.Pairwise (fun f g => f.1 < g.1)) : zs' = l := by
  have hle : l.Pairwise (fun f g => ¬ g.1 < f.1) := hs.imp (fun {f g} h h2 => List.lt_irrefl _ (List.lt_trans h h2))
  refine List.Perm.eq_of_pairwise (le := fun f g : FilM => ¬ g.1 < f.1) (fun a b ha hb h1 h2 => ?_) (show List.Pairwise (fun f g : FilM => ¬ g.1 < f.1) zs' from ho) hle (hp.trans hl.symm)
  have hal : a ∈ l := (hp.trans hl.symm).mem_iff.1 ha
  have e : a.1 = b.1 := List.le_antisymm (List.not_lt.1 h1) (List.not_lt.1 h2)
  by_cases hab : a = b
  · exact hab
  · exfalso
    obtain ⟨i, hi, hi'⟩ := List.getElem_of_mem hal
    obtain ⟨j, hj, hj'⟩ := List.getElem_of_mem hb
    rw [List.pairwise_iff_getElem] at hs
    rcases Nat.lt_trichotomy i j with h | h | h
    · have := hs i j hi hj h
      rw [hi', hj', e] at this
      exact List.lt_irrefl _ this
    · subst h; exact hab (hi'.symm.trans hj')
    · have := hs j i hj hi h
      rw [hi', hj', e] at this
      exact List.lt_irrefl _ this
/-- Files that are sound, in an order that is known. -/
theorem joinX_of {zs l : List FilM} {X : ProgM × Nat × Nat} (h : JoinX zs X) (hs : soundN zs = true) (hl : l.Perm zs) (hr : l.Pairwise (fun f g => f.1 < g.1)) : X = allM (l.map (·.2)) := by
  rcases h with ⟨h1, -⟩ | ⟨-, zs', hp, ho, rfl⟩
  · rw [hs] at h1; cases h1
  · rw [ord_unique hp ho hl hr]
theorem joinX_not {zs : List FilM} {X : ProgM × Nat × Nat} (h : JoinX zs X) (hs : soundN zs = false) : X = (⟨[], [], []⟩, 0, 1) := by
  rcases h with ⟨-, h2⟩ | ⟨h1, -⟩
  · exact h2
  · rw [hs] at h1; cases h1

def mainT : List UInt8 := [102, 117, 110, 99, 32, 109, 97, 105, 110, 32, 123, 32, 125]
theorem all_none : allM [] = (⟨[], [], []⟩, 0, 11) := by kernel_rfl
theorem all_main : allM [mainT] = (⟨[], [], [⟨[109, 97, 105, 110], 0, .nil⟩]⟩, 0, 0) := by kernel_rfl

end Go.Proofs.YtildkedplmjdaaaDoor
