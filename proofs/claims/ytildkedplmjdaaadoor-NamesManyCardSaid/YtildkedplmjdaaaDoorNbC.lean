/-
  NamesMany: twenty of a kind, two hundred statements (pure).
-/
import Derived.Test.YtildkedplmjdaaaDoorNbA
namespace Go.Proofs.YtildkedplmjdaaaDoor
set_option maxRecDepth 100000
set_option linter.unusedVariables false
open Go.RowKit Go.Sort

def qn7 (j : Nat) : List UInt8 := [113, UInt8.ofNat (97 + (j + 1) % 26)]
def qd7 : Nat → List DeclM
  | 0 => []
  | j + 1 => qd7 j ++ [⟨qn7 j, j + 1⟩]
def us7 : Nat → Blk
  | 0 => .nil
  | j + 1 => (us7 j).app (StmM.one ⟨1, j, [120], .nil, .nil⟩)
def lp7 (j : Nat) : Blk := .cons 8 0 [] (us7 j) .nil .nil
def fn7 (d : DeclM) : FuncM := ⟨d.name, d.at_, .nil⟩
def many7 (k i : Nat) (b : Blk) : ProgM := ⟨⟨[120], 0⟩ :: (if k = 0 then qd7 i else []), if k = 1 then qd7 i else [], ⟨mainW, 0, b⟩ :: (if k = 2 then (qd7 i).map fn7 else [])⟩

theorem qd7_len : ∀ i, (qd7 i).length = i
  | 0 => rfl
  | i + 1 => by rw [qd7, List.length_append, qd7_len i]; rfl
theorem cntB_app : ∀ a b : Blk, cntB (a.app b) = cntB a + cntB b
  | .nil, b => by simp [Blk.app, cntB]
  | .cons k p n x y r, b => by rw [Blk.app, cntB, cntB, cntB_app r b]; omega
theorem us7_cnt : ∀ j, cntB (us7 j) = j
  | 0 => rfl
  | j + 1 => by rw [us7, cntB_app, us7_cnt j]; rfl
theorem us7_len : ∀ j, (us7 j).len = j
  | 0 => rfl
  | j + 1 => by rw [us7, Blk.len_app, us7_len j]; rfl
theorem lookB_app (f : List UInt8 → Nat) : ∀ a b : Blk, lookB f (a.app b) = (lookB f a).or (lookB f b)
  | .nil, b => by simp [Blk.app, lookB]
  | .cons k p n x y r, b => by
    rw [Blk.app, lookB, lookB, lookB_app f r b]
    split
    · simp
    · simp [Option.or_assoc]
theorem us7_look (f : List UInt8 → Nat) (h : f [120] = 1) : ∀ j, lookB f (us7 j) = none
  | 0 => rfl
  | j + 1 => by rw [us7, lookB_app, us7_look f h j]; simp [StmM.one, lookB, wantM, h]
theorem lp7_look (f : List UInt8 → Nat) (h : f [120] = 1) (j : Nat) : lookB f (lp7 j) = none := by
  rw [lp7, lookB, us7_look f h]; simp [wantM, lookB]
theorem fn7_look (f : List UInt8 → Nat) : ∀ l : List DeclM, lookF f (l.map fn7) = none
  | [] => rfl
  | d :: r => by rw [List.map_cons, lookF, fn7_look f r]; rfl
theorem fn7_cnt : ∀ l : List DeclM, cntF (l.map fn7) = 0
  | [] => rfl
  | d :: r => by rw [List.map_cons, cntF, fn7_cnt r]; rfl
theorem us7_short : ∀ j, ShortB 1000000 (us7 j)
  | 0 => trivial
  | j + 1 => by
    have h : ∀ a b : Blk, ShortB 1000000 a → ShortB 1000000 b → ShortB 1000000 (a.app b) := by
      intro a
      induction a with
      | nil => intro b _ h; exact h
      | cons k p n x y r _ _ ihr => intro b ha hb; exact ⟨ha.1, ha.2.1, ha.2.2.1, ihr b ha.2.2.2 hb⟩
    exact h _ _ (us7_short j) ⟨by simp, trivial, trivial, trivial⟩
theorem qd7_short : ∀ i, ∀ d ∈ qd7 i, d.name.length ≤ 1000000
  | 0 => by simp [qd7]
  | i + 1 => by
    intro d hd
    rw [qd7, List.mem_append] at hd
    rcases hd with hd | hd
    · exact qd7_short i d hd
    · simp only [List.mem_singleton] at hd; subst hd; simp [qn7]
theorem many_cnt (k i j : Nat) : cntF (many7 k i (lp7 j)).funcs = j + 1 := by
  unfold many7
  simp only [cntF, lp7, cntB, us7_cnt]
  split
  · rw [fn7_cnt]; omega
  · simp [cntF]; omega
theorem many_short (k i j : Nat) : ShortP 1000000 (many7 k i (lp7 j)) := by
  unfold many7
  refine ⟨fun d hd => ?_, fun d hd => ?_, fun d hd => ?_⟩
  · simp only [List.mem_cons] at hd
    rcases hd with rfl | hd
    · decide
    · split at hd
      · exact qd7_short i d hd
      · cases hd
  · simp only at hd
    split at hd
    · exact qd7_short i d hd
    · cases hd
  · simp only [List.mem_cons] at hd
    rcases hd with rfl | hd
    · exact ⟨by simp [mainW], by simp, us7_short j, trivial, trivial⟩
    · split at hd
      · obtain ⟨x, hx, rfl⟩ := List.mem_map.1 hd
        exact ⟨qd7_short i x hx, trivial⟩
      · cases hd
theorem many_names : ∀ k < 3, ∀ i < 22, twiceM [] (dclsM (many7 k i .nil)) = none ∧ kindOf (dclsM (many7 k i .nil)) [120] = 1 ∧ kindOf (dclsM (many7 k i .nil)) mainW = 3 := by
  decide +kernel
theorem many_look (f : List UInt8 → Nat) (h : f [120] = 1) (k i j : Nat) : lookF f (many7 k i (lp7 j)).funcs = none := by
  unfold many7
  simp only [lookF, lp7_look f h]
  split
  · rw [fn7_look]; rfl
  · rfl
theorem many_check (k i j : Nat) (hk : k < 3) (hi : i < 22) : checkM (many7 k i (lp7 j)) = if 20 < i + (if k = 1 then 0 else 1) ∨ 200 < j + 1 then (0, 2) else (0, 0) := by
  have hl : longM (many7 k i (lp7 j)) = decide (20 < i + (if k = 1 then 0 else 1) ∨ 200 < j + 1) := by
    unfold longM
    rw [many_cnt]
    unfold many7
    rcases (show k = 0 ∨ k = 1 ∨ k = 2 by omega) with rfl | rfl | rfl <;> simp [qd7_len]
  obtain ⟨h1, h2, h3⟩ := many_names k hk i hi
  have hd : dclsM (many7 k i (lp7 j)) = dclsM (many7 k i .nil) := rfl
  unfold checkM
  rw [hl, hd, h1, h3]
  have hf : lookF (kindOf (dclsM (many7 k i .nil))) (many7 k i (lp7 j)).funcs = none := by
    exact many_look _ h2 k i j
  rw [hf]
  by_cases hb : 20 < i + (if k = 1 then 0 else 1) ∨ 200 < j + 1
  · simp [hb]
  · simp [hb]

end Go.Proofs.YtildkedplmjdaaaDoor
