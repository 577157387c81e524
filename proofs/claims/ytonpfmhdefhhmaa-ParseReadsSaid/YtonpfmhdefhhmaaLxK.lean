/-
  Tokens of words with blanks ahead of them.
-/
import Derived.Test.YtonpfmhdefhhmaaLxG
namespace Go.Proofs.Ytonpfmhdefhhmaa
set_option maxRecDepth 100000
set_option linter.unusedVariables false
open Go.RowKit Go.Sort

theorem tokF_more : ∀ (f g i : Nat) (s : List UInt8), s.length ≤ f → s.length ≤ g → tokF f i s = tokF g i s
  | 0, g, i, s, h, k => by
    obtain rfl : s = [] := List.eq_nil_of_length_eq_zero (by omega)
    cases g <;> simp [tokF]
  | f + 1, g, i, [], h, k => by cases g <;> simp [tokF]
  | f + 1, 0, i, c :: r, h, k => by simp at k
  | f + 1, g + 1, i, c :: r, h, k => by
    simp only [List.length_cons] at h k
    have h1 := tokF_more f g (i + 1) r (by omega) (by omega)
    rw [tokF, tokF, h1]
    by_cases hl : letB c = true
    · rw [if_pos hl, if_pos hl]
      have h3 := row_pos (r := r) hl
      have h4 : ((c :: r).drop (rowM (c :: r)).length).length ≤ r.length := by rw [List.length_drop, List.length_cons]; omega
      rw [tokF_more f g _ _ (by omega) (by omega)]
    · rw [if_neg hl, if_neg hl]

/-- A text's tokens from place i on. -/
def tokT (i : Nat) (s : List UInt8) : List Tok × Option Nat := tokF s.length i s
theorem tokT_nil (i : Nat) : tokT i [] = ([], none) := by simp [tokT, tokF]
theorem tokT_blank (i : Nat) (c : UInt8) (r : List UInt8) (h : blankB c = true) : tokT i (c :: r) = tokT (i + 1) r := by
  unfold tokT
  have h0 : c.toNat = 32 ∨ c.toNat = 9 ∨ c.toNat = 10 := by simp [blankB] at h; omega
  rw [List.length_cons, tokF, if_neg (by simp [letB]; omega), if_neg (by omega), if_neg (by omega), if_pos h]
theorem tokT_open (i : Nat) (r : List UInt8) : tokT i (123 :: r) = (⟨2, i, []⟩ :: (tokT (i + 1) r).1, (tokT (i + 1) r).2) := by
  unfold tokT
  rw [List.length_cons, tokF, if_neg (by decide), if_pos (by decide)]
theorem tokT_close (i : Nat) (r : List UInt8) : tokT i (125 :: r) = (⟨3, i, []⟩ :: (tokT (i + 1) r).1, (tokT (i + 1) r).2) := by
  unfold tokT
  rw [List.length_cons, tokF, if_neg (by decide), if_neg (by decide), if_pos (by decide)]
theorem tokT_bad (i : Nat) (c : UInt8) (r : List UInt8) (h1 : letB c = false) (h2 : c.toNat ≠ 123) (h3 : c.toNat ≠ 125) (h4 : blankB c = false) : tokT i (c :: r) = ([], some i) := by
  unfold tokT
  rw [List.length_cons, tokF, if_neg (by rw [h1]; simp), if_neg h2, if_neg h3, if_neg (by rw [h4]; simp)]
/-- What follows a row is none of its bytes. -/
def Ends (rest : List UInt8) : Prop := ∀ c, rest.head? = some c → alnB c = false
theorem takeWhile_ends {rest : List UInt8} (h : Ends rest) : ∀ r : List UInt8, r.all alnB = true → (r ++ rest).takeWhile alnB = r
  | [], _ => by
    cases rest with
    | nil => rfl
    | cons c q => rw [List.nil_append, List.takeWhile_cons_of_neg (by simp [h c rfl])]
  | c :: r, ha => by
    simp only [List.all_cons, Bool.and_eq_true] at ha
    rw [List.cons_append, List.takeWhile_cons_of_pos ha.1, takeWhile_ends h r ha.2]
theorem tokT_row (i : Nat) (c : UInt8) (r rest : List UInt8) (hc : letB c = true) (hr : r.all alnB = true) (he : Ends rest) :
    tokT i (c :: r ++ rest) = (⟨1, i, c :: r⟩ :: (tokT (i + (c :: r).length) rest).1, (tokT (i + (c :: r).length) rest).2) := by
  have e : rowM (c :: r ++ rest) = c :: r := by
    rw [List.cons_append, rowM, if_pos hc, takeWhile_ends he r hr]
  unfold tokT
  rw [show (c :: r ++ rest).length = (r ++ rest).length + 1 from rfl, List.cons_append, tokF, if_pos hc, ← List.cons_append, e]
  rw [List.drop_left, tokF_more (r ++ rest).length rest.length _ _ (by simp) (Nat.le_refl _)]
theorem tokM_T {s : List UInt8} (h : s.length ≤ 2000) : tokM s = match tokT 0 s with | (l, none) => (l, 0, 0) | (_, some i) => ([], i, 6) := by
  unfold tokM tokT
  rw [if_neg (by omega)]
  generalize tokF s.length 0 s = x
  obtain ⟨l, o⟩ := x
  cases o <;> rfl

/-- Texts put together by numbers. -/
def joinM (T : List (List UInt8)) (n : Nat) (ns : List Int) (k : Nat) : List UInt8 := (ns.take k).flatMap fun z => T.getD (inM z n) []
theorem joinM_succ (T : List (List UInt8)) (n : Nat) (ns : List Int) (k : Nat) (hk : k < ns.length) : joinM T n ns (k + 1) = joinM T n ns k ++ T.getD (inM ns[k] n) [] := by
  unfold joinM
  rw [List.take_add_one, List.getElem?_eq_getElem hk]
  simp only [Option.toList_some, List.flatMap_append, List.flatMap_cons, List.flatMap_nil, List.append_nil]
theorem joinM_len (T : List (List UInt8)) (n m : Nat) (ns : List Int) (h : ∀ z : Int, (T.getD (inM z n) []).length ≤ m) : ∀ k, (joinM T n ns k).length ≤ m * k
  | 0 => by simp [joinM]
  | k + 1 => by
    have ih := joinM_len T n m ns h k
    rw [Nat.mul_succ]
    by_cases hk : k < ns.length
    · rw [joinM_succ T n ns k hk, List.length_append]
      have := h ns[k]
      omega
    · unfold joinM at ih ⊢
      rw [List.take_of_length_le (by omega)] at ih ⊢
      omega

def firstT : List (List UInt8) := [[123], [125], [120, 32], [102, 117, 110, 99, 32], [32]]
def badT : List (List UInt8) := [[33], [65], [45], [13], [0], [59], [195, 169], [95]]
theorem first_len (z : Int) : (firstT.getD (inM z 5) []).length ≤ 5 := by
  have h : inM z 5 < 5 := inM_lt z 5 (by omega)
  generalize inM z 5 = i at *
  have : ∀ i : Fin 5, (firstT.getD i.1 []).length ≤ 5 := by decide
  exact this ⟨i, h⟩
theorem first_step (i : Nat) (z : Int) (rest : List UInt8) : (tokT i (firstT.getD (inM z 5) [] ++ rest)).2 = (tokT (i + (firstT.getD (inM z 5) []).length) rest).2 := by
  have h : inM z 5 < 5 := inM_lt z 5 (by omega)
  generalize inM z 5 = k at *
  match k, h with
  | 0, _ => show (tokT i (123 :: rest)).2 = _; rw [tokT_open]; rfl
  | 1, _ => show (tokT i (125 :: rest)).2 = _; rw [tokT_close]; rfl
  | 2, _ =>
    have h1 := tokT_row i 120 [] (32 :: rest) (by decide) (by decide) (by intro c hc; simp at hc; subst hc; decide)
    show (tokT i ([120] ++ (32 :: rest))).2 = _
    rw [h1, tokT_blank _ _ _ (by decide)]
    rfl
  | 3, _ =>
    have h1 := tokT_row i 102 [117, 110, 99] (32 :: rest) (by decide) (by decide) (by intro c hc; simp at hc; subst hc; decide)
    show (tokT i ([102, 117, 110, 99] ++ (32 :: rest))).2 = _
    rw [h1, tokT_blank _ _ _ (by decide)]
    rfl
  | 4, _ => show (tokT i (32 :: rest)).2 = _; rw [tokT_blank _ _ _ (by decide)]; rfl
theorem first_all (rest : List UInt8) : ∀ (ns : List Int) (i : Nat), (tokT i ((ns.flatMap fun z => firstT.getD (inM z 5) []) ++ rest)).2 = (tokT (i + (ns.flatMap fun z => firstT.getD (inM z 5) []).length) rest).2
  | [], i => by simp
  | z :: ns, i => by
    rw [List.flatMap_cons, List.append_assoc, first_step, first_all rest ns, List.length_append, Nat.add_assoc]
theorem bad_step (i : Nat) (z : Int) (rest : List UInt8) : (tokT i (badT.getD (inM z 8) [] ++ rest)).2 = some i ∧ (badT.getD (inM z 8) []).length ≤ 2 := by
  have h : inM z 8 < 8 := inM_lt z 8 (by omega)
  generalize inM z 8 = k at *
  match k, h with
  | 0, _ => exact ⟨by show (tokT i (33 :: rest)).2 = _; rw [tokT_bad _ _ _ (by decide) (by decide) (by decide) (by decide)], by decide⟩
  | 1, _ => exact ⟨by show (tokT i (65 :: rest)).2 = _; rw [tokT_bad _ _ _ (by decide) (by decide) (by decide) (by decide)], by decide⟩
  | 2, _ => exact ⟨by show (tokT i (45 :: rest)).2 = _; rw [tokT_bad _ _ _ (by decide) (by decide) (by decide) (by decide)], by decide⟩
  | 3, _ => exact ⟨by show (tokT i (13 :: rest)).2 = _; rw [tokT_bad _ _ _ (by decide) (by decide) (by decide) (by decide)], by decide⟩
  | 4, _ => exact ⟨by show (tokT i (0 :: rest)).2 = _; rw [tokT_bad _ _ _ (by decide) (by decide) (by decide) (by decide)], by decide⟩
  | 5, _ => exact ⟨by show (tokT i (59 :: rest)).2 = _; rw [tokT_bad _ _ _ (by decide) (by decide) (by decide) (by decide)], by decide⟩
  | 6, _ => exact ⟨by show (tokT i (195 :: 169 :: rest)).2 = _; rw [tokT_bad _ _ _ (by decide) (by decide) (by decide) (by decide)], by decide⟩
  | 7, _ => exact ⟨by show (tokT i (95 :: rest)).2 = _; rw [tokT_bad _ _ _ (by decide) (by decide) (by decide) (by decide)], by decide⟩
theorem first_bad (ns : List Int) (k : Nat) (bad : Int) (raw : List UInt8) (hk : k ≤ 40) (hr : raw.length ≤ 200) :
    tokM (joinM firstT 5 ns k ++ [32] ++ badT.getD (inM bad 8) [] ++ raw) = ([], (joinM firstT 5 ns k).length + 1, 6) := by
  have h1 := joinM_len firstT 5 5 ns first_len k
  obtain ⟨h2, h3⟩ := bad_step ((joinM firstT 5 ns k).length + 1) bad raw
  rw [tokM_T (by simp only [List.length_append, List.length_cons, List.length_nil]; omega)]
  have e : (tokT 0 (joinM firstT 5 ns k ++ [32] ++ badT.getD (inM bad 8) [] ++ raw)).2 = some ((joinM firstT 5 ns k).length + 1) := by
    rw [List.append_assoc, List.append_assoc]
    have := first_all ([32] ++ (badT.getD (inM bad 8) [] ++ raw)) (ns.take k) 0
    unfold joinM at h2 ⊢
    rw [this, List.singleton_append, tokT_blank _ _ _ (by decide), Nat.zero_add, h2]
  generalize tokT 0 (joinM firstT 5 ns k ++ [32] ++ badT.getD (inM bad 8) [] ++ raw) = x at *
  obtain ⟨l, o⟩ := x
  simp only at e
  subst e
  rfl

end Go.Proofs.Ytonpfmhdefhhmaa
namespace Go.Proofs.Ytonpfmhdefhhmaa
set_option maxRecDepth 100000
set_option linter.unusedVariables false
open Go.RowKit Go.Sort

/-- What a word is as a token: its kind, its text. -/
def kt (w : List UInt8) : Nat × List UInt8 := if w = [123] then (2, []) else if w = [125] then (3, []) else (1, w)
def WordOk (w : List UInt8) : Prop := w = [123] ∨ w = [125] ∨ ∃ c r, w = c :: r ∧ letB c = true ∧ r.all alnB = true
def SepOk (s : List UInt8) : Prop := s ≠ [] ∧ s.all blankB = true
def flatP (P : List (List UInt8 × List UInt8)) : List UInt8 := P.flatMap fun p => p.1 ++ p.2
theorem tokT_sep (rest : List UInt8) : ∀ (s : List UInt8) (i : Nat), s.all blankB = true → tokT i (s ++ rest) = tokT (i + s.length) rest
  | [], i, _ => by simp
  | c :: s, i, h => by
    simp only [List.all_cons, Bool.and_eq_true] at h
    rw [List.cons_append, tokT_blank _ _ _ h.1, tokT_sep rest s (i + 1) h.2, List.length_cons]
    congr 1
    omega
theorem blank_aln {c : UInt8} (h : blankB c = true) : alnB c = false := by
  simp [blankB] at h
  simp [alnB, letB, digB]
  omega
theorem ends_flat (P : List (List UInt8 × List UInt8)) (h : ∀ p ∈ P, SepOk p.1) : Ends (flatP P) := by
  cases P with
  | nil => intro c hc; simp [flatP] at hc
  | cons p P =>
    obtain ⟨s, w⟩ := p
    have h1 := h _ (List.mem_cons_self ..)
    cases s with
    | nil => exact absurd rfl h1.1
    | cons x s =>
      intro c hc
      simp [flatP] at hc
      subst hc
      have := h1.2
      simp only [List.all_cons, Bool.and_eq_true] at this
      exact blank_aln this.1
theorem flat_cons (p : List UInt8 × List UInt8) (P : List (List UInt8 × List UInt8)) : flatP (p :: P) = p.1 ++ (p.2 ++ flatP P) := by simp [flatP]
theorem flat_toks : ∀ (P : List (List UInt8 × List UInt8)), (∀ p ∈ P, SepOk p.1 ∧ WordOk p.2) → ∀ i, (tokT i (flatP P)).2 = none ∧ (tokT i (flatP P)).1.map (fun t => (t.kind, t.s)) = P.map fun p => kt p.2
  | [], _, i => by rw [show flatP [] = [] from rfl, tokT_nil]; exact ⟨rfl, rfl⟩
  | p :: P, h, i => by
    obtain ⟨s, w⟩ := p
    have h1 := h _ (List.mem_cons_self ..)
    have hE := ends_flat P (fun p hp => (h p (List.mem_cons_of_mem _ hp)).1)
    rw [flat_cons, tokT_sep _ _ _ h1.1.2]
    rcases h1.2 with e | e | ⟨c, r, e, hc, hr⟩
    · simp only at e
      subst e
      obtain ⟨a1, a2⟩ := flat_toks P (fun p hp => h p (List.mem_cons_of_mem _ hp)) (i + s.length + 1)
      rw [List.singleton_append, tokT_open]
      exact ⟨a1, by simp only [List.map_cons, a2]; rfl⟩
    · simp only at e
      subst e
      obtain ⟨a1, a2⟩ := flat_toks P (fun p hp => h p (List.mem_cons_of_mem _ hp)) (i + s.length + 1)
      rw [List.singleton_append, tokT_close]
      exact ⟨a1, by simp only [List.map_cons, a2]; rfl⟩
    · simp only at e
      subst e
      obtain ⟨a1, a2⟩ := flat_toks P (fun p hp => h p (List.mem_cons_of_mem _ hp)) (i + s.length + (c :: r).length)
      rw [tokT_row _ _ _ _ hc hr hE]
      refine ⟨a1, ?_⟩
      have e1 : kt (c :: r) = (1, c :: r) := by
        unfold kt
        rw [if_neg (fun e => by injection e with e1 e2; subst e1; simp [letB] at hc), if_neg (fun e => by injection e with e1 e2; subst e1; simp [letB] at hc)]
      simp only [List.map_cons, a2, e1]
theorem tokM_flat (P : List (List UInt8 × List UInt8)) (h : ∀ p ∈ P, SepOk p.1 ∧ WordOk p.2) (hl : (flatP P).length ≤ 2000) : ∃ l, tokM (flatP P) = (l, 0, 0) ∧ l.map (fun t => (t.kind, t.s)) = P.map fun p => kt p.2 := by
  obtain ⟨h1, h2⟩ := flat_toks P h 0
  refine ⟨(tokT 0 (flatP P)).1, ?_, h2⟩
  rw [tokM_T hl]
  generalize tokT 0 (flatP P) = x at *
  obtain ⟨l, o⟩ := x
  simp only at h1
  subst h1
  rfl

end Go.Proofs.Ytonpfmhdefhhmaa
