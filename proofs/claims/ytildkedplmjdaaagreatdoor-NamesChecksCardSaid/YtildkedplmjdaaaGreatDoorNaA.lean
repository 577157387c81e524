/-
  What names are used as, by chapter 7 itself: what a program's check answers; what files make. No walk is here.
-/
import Derived.Test.YtildkedplmjdaaaGreatDoorPaA
namespace Go.Proofs.YtildkedplmjdaaaGreatDoor
set_option maxRecDepth 100000
set_option linter.unusedVariables false
open Go.RowKit Go.Sort

/-- How many statements. -/
def cntB : Blk → Nat
  | .nil => 0
  | .cons _ _ _ a b r => 1 + cntB a + cntB b + cntB r

/-- A declaration: its name, its place, what it is (1: a variable, 2: a lock, 3: a function). -/
abbrev Dcl := List UInt8 × Nat × Nat
def dclsM (P : ProgM) : List Dcl := P.vars.map (fun d => (d.name, d.at_, 1)) ++ (P.locks.map (fun d => (d.name, d.at_, 2)) ++ P.funcs.map (fun d => (d.name, d.at_, 3)))
/-- The place of the first declaration whose name one ahead has. -/
def twiceM : List Dcl → List Dcl → Option Nat
  | _, [] => none
  | s, d :: r => if d.1 ∈ s.map (·.1) then some d.2.1 else twiceM (s ++ [d]) r
/-- What a name is declared as. -/
def kindOf (l : List Dcl) (n : List UInt8) : Nat := match l.find? (fun d => d.1 == n) with | some d => d.2.2 | none => 0
/-- What a statement's name is to be declared as. -/
def wantM (k : Nat) : Nat := if k = 1 ∨ k = 2 then 1 else if k = 3 ∨ k = 4 then 2 else if k = 5 ∨ k = 6 then 3 else 0
/-- The place of the first statement whose name is none of its kind. -/
def lookB (f : List UInt8 → Nat) : Blk → Option Nat
  | .nil => none
  | .cons k p n a b r => if wantM k ≠ 0 ∧ f n ≠ wantM k then some p else (lookB f a).or ((lookB f b).or (lookB f r))
def lookF (f : List UInt8 → Nat) : List FuncM → Option Nat
  | [] => none
  | d :: r => (lookB f d.body).or (lookF f r)
def cntF : List FuncM → Nat
  | [] => 0
  | d :: r => cntB d.body + cntF r
def main7 : List UInt8 := [109, 97, 105, 110]
def longM (P : ProgM) : Bool := 20 < P.vars.length || 20 < P.locks.length || 20 < P.funcs.length || 200 < cntF P.funcs
/-- What Check answers: the place, the error. -/
def checkM (P : ProgM) : Nat × Nat :=
  if longM P then (0, 2)
  else match twiceM [] (dclsM P) with
    | some p => (p, 9)
    | none => match lookF (kindOf (dclsM P)) P.funcs with
      | some p => (p, 10)
      | none => if kindOf (dclsM P) main7 = 3 then (0, 0) else (0, 11)

/-! ### Places further on -/
def moveB (by_ : Nat) : Blk → Blk
  | .nil => .nil
  | .cons k p n a b r => .cons k (p + by_) n (moveB by_ a) (moveB by_ b) (moveB by_ r)
def moveD (by_ : Nat) (d : DeclM) : DeclM := ⟨d.name, d.at_ + by_⟩
def moveF (by_ : Nat) (d : FuncM) : FuncM := ⟨d.name, d.at_ + by_, moveB by_ d.body⟩
def moveP (by_ : Nat) (P : ProgM) : ProgM := ⟨P.vars.map (moveD by_), P.locks.map (moveD by_), P.funcs.map (moveF by_)⟩
def add7P (P Q : ProgM) : ProgM := ⟨P.vars ++ Q.vars, P.locks ++ Q.locks, P.funcs ++ Q.funcs⟩

/-- What texts make, the first one being the k-th, behind what there is. -/
def manyM : Nat → List (List UInt8) → ProgM → ProgM × Nat × Nat
  | _, [], P => (P, 0, 0)
  | k, s :: r, P => if (parseM s).2.2 ≠ 0 then (⟨[], [], []⟩, 10000 * k + (parseM s).2.1, (parseM s).2.2) else manyM (k + 1) r (add7P P (moveP (10000 * k) (parseM s).1))
/-- What texts in their order make, checked. -/
def allM (l : List (List UInt8)) : ProgM × Nat × Nat :=
  if (manyM 0 l ⟨[], [], []⟩).2.2 ≠ 0 then manyM 0 l ⟨[], [], []⟩
  else if (checkM (manyM 0 l ⟨[], [], []⟩).1).2 ≠ 0 then (⟨[], [], []⟩, checkM (manyM 0 l ⟨[], [], []⟩).1) else manyM 0 l ⟨[], [], []⟩

theorem moveB_len (n : Nat) : ∀ b : Blk, (moveB n b).len = b.len
  | .nil => rfl
  | .cons _ _ _ _ _ r => by rw [moveB, Blk.len, Blk.len, moveB_len n r]
theorem moveB_cnt (n : Nat) : ∀ b : Blk, cntB (moveB n b) = cntB b
  | .nil => rfl
  | .cons _ _ _ a b r => by rw [moveB, cntB, cntB, moveB_cnt n a, moveB_cnt n b, moveB_cnt n r]

/-! ### Kinds -/
theorem kindOf_nil (n : List UInt8) : kindOf [] n = 0 := rfl
theorem kindOf_snoc (l : List Dcl) (d : Dcl) (n : List UInt8) (h : d.1 ∉ l.map (·.1)) : kindOf (l ++ [d]) n = if n = d.1 then d.2.2 else kindOf l n := by
  unfold kindOf
  rw [List.find?_append]
  by_cases hn : n = d.1
  · subst hn
    have : l.find? (fun e => e.1 == d.1) = none := List.find?_eq_none.2 (fun e he => by simp; intro hh; exact h (by rw [← hh]; exact List.mem_map.2 ⟨e, he, rfl⟩))
    rw [this]
    simp
  · rw [if_neg hn]
    have hb : (d.1 == n) = false := by simp; exact fun e => hn e.symm
    cases l.find? (fun e => e.1 == n) <;> simp [hb]
theorem kindOf_zero (l : List Dcl) (n : List UInt8) (h : ∀ d ∈ l, 1 ≤ d.2.2) : kindOf l n = 0 ↔ n ∉ l.map (·.1) := by
  unfold kindOf
  cases hf : l.find? (fun e => e.1 == n) with
  | none =>
    simp only [true_iff]
    rw [List.find?_eq_none] at hf
    intro hm
    obtain ⟨d, hd, rfl⟩ := List.mem_map.1 hm
    simpa using hf d hd
  | some d =>
    have h1 := List.mem_of_find?_eq_some hf
    have h2 := List.find?_some hf
    have h3 := h d h1
    simp only
    constructor
    · intro h0; omega
    · intro hn
      exact absurd (List.mem_map.2 ⟨d, h1, by simpa using h2⟩) hn
theorem dcls_pos (P : ProgM) : ∀ d ∈ dclsM P, 1 ≤ d.2.2 := by
  intro d hd
  unfold dclsM at hd
  simp only [List.mem_append, List.mem_map] at hd
  rcases hd with ⟨x, -, rfl⟩ | ⟨x, -, rfl⟩ | ⟨x, -, rfl⟩ <;> simp

end Go.Proofs.YtildkedplmjdaaaGreatDoor
