/-
  Tokens of words with blanks ahead of them.
-/
import Derived.Test.YtonpfmhdefhhmaaLxJ
namespace Go.Proofs.Ytonpfmhdefhhmaa
set_option maxRecDepth 100000
set_option linter.unusedVariables false
open Go.RowKit Go.Sort

/-- What a word is as a token: its kind, its text. -/
def kt (w : List UInt8) : Nat × List UInt8 := if w = [123] then (2, []) else if w = [125] then (3, []) else (1, w)
def WordOk (w : List UInt8) : Prop := w = [123] ∨ w = [125] ∨ ∃ c r, w = c :: r ∧ letB c = true ∧ r.all alnB = true
def SepOk (s : List UInt8) : Prop := s ≠ [] ∧ s.all blankB = true
def flatP (P : List (List UInt8 × List UInt8)) : List UInt8 := P.flatMap fun p => p.1 ++ p.2
theorem tokT_sep (rest : List UInt8) : ∀ (s : List UInt8) (i : Nat), s.all blankB = true → tokT i (s ++ rest) = tokT (i + s.length) rest
  | [], i, _ => by simp
  | c :: s, i, h => by
    simp only [List.all_cons, Bool.and_eq_true] at h
    rw [List.cons_append, tokT_blank _ _ _ h.1, tokT_sep rest s (i + 1) h.2, List.length_cons]
    congr 1
    omega
theorem blank_aln {c : UInt8} (h : blankB c = true) : alnB c = false := by
  simp [blankB] at h
  simp [alnB, letB, digB]
  omega
theorem ends_flat (P : List (List UInt8 × List UInt8)) (h : ∀ p ∈ P, SepOk p.1) : Ends (flatP P) := by
  cases P with
  | nil => intro c hc; simp [flatP] at hc
  | cons p P =>
    obtain ⟨s, w⟩ := p
    have h1 := h _ (List.mem_cons_self ..)
    cases s with
    | nil => exact absurd rfl h1.1
    | cons x s =>
      intro c hc
      simp [flatP] at hc
      subst hc
      have := h1.2
      simp only [List.all_cons, Bool.and_eq_true] at this
      exact blank_aln this.1
theorem flat_cons (p : List UInt8 × List UInt8) (P : List (List UInt8 × List UInt8)) : flatP (p :: P) = p.1 ++ (p.2 ++ flatP P) := by simp [flatP]
theorem flat_toks : ∀ (P : List (List UInt8 × List UInt8)), (∀ p ∈ P, SepOk p.1 ∧ WordOk p.2) → ∀ i, (tokT i (flatP P)).2 = none ∧ (tokT i (flatP P)).1.map (fun t => (t.kind, t.s)) = P.map fun p => kt p.2
  | [], _, i => by rw [show flatP [] = [] from rfl, tokT_nil]; exact ⟨rfl, rfl⟩
  | p :: P, h, i => by
    obtain ⟨s, w⟩ := p
    have h1 := h _ (List.mem_cons_self ..)
    have hE := ends_flat P (fun p hp => (h p (List.mem_cons_of_mem _ hp)).1)
    rw [flat_cons, tokT_sep _ _ _ h1.1.2]
    rcases h1.2 with e | e | ⟨c, r, e, hc, hr⟩
    · simp only at e
      subst e
      obtain ⟨a1, a2⟩ := flat_toks P (fun p hp => h p (List.mem_cons_of_mem _ hp)) (i + s.length + 1)
      rw [List.singleton_append, tokT_open]
      exact ⟨a1, by simp only [List.map_cons, a2]; rfl⟩
    · simp only at e
      subst e
      obtain ⟨a1, a2⟩ := flat_toks P (fun p hp => h p (List.mem_cons_of_mem _ hp)) (i + s.length + 1)
      rw [List.singleton_append, tokT_close]
      exact ⟨a1, by simp only [List.map_cons, a2]; rfl⟩
    · simp only at e
      subst e
      obtain ⟨a1, a2⟩ := flat_toks P (fun p hp => h p (List.mem_cons_of_mem _ hp)) (i + s.length + (c :: r).length)
      rw [tokT_row _ _ _ _ hc hr hE]
      refine ⟨a1, ?_⟩
      have e1 : kt (c :: r) = (1, c :: r) := by
        unfold kt
        rw [if_neg (fun e => by injection e with e1 e2; subst e1; simp [letB] at hc), if_neg (fun e => by injection e with e1 e2; subst e1; simp [letB] at hc)]
      simp only [List.map_cons, a2, e1]
theorem tokM_flat (P : List (List UInt8 × List UInt8)) (h : ∀ p ∈ P, SepOk p.1 ∧ WordOk p.2) (hl : (flatP P).length ≤ 2000) : ∃ l, tokM (flatP P) = (l, 0, 0) ∧ l.map (fun t => (t.kind, t.s)) = P.map fun p => kt p.2 := by
  obtain ⟨h1, h2⟩ := flat_toks P h 0
  refine ⟨(tokT 0 (flatP P)).1, ?_, h2⟩
  rw [tokM_T hl]
  generalize tokT 0 (flatP P) = x at *
  obtain ⟨l, o⟩ := x
  simp only at h1
  subst h1
  rfl

end Go.Proofs.Ytonpfmhdefhhmaa
