/-
  Blocks within blocks by chapter 6 itself: how deep a text may go, and where it is told that it goes too deep. No walk is here.
-/
import Derived.Test.YtildkedplmjdaaaGreatDoorLxG
import Derived.Test.YtildkedplmjdaaaGreatDoorPaQ
namespace Go.Proofs.YtildkedplmjdaaaGreatDoor
set_option maxRecDepth 100000
set_option linter.unusedVariables false
open Go.RowKit Go.Sort

theorem tokF_more : ∀ (f g i : Nat) (s : List UInt8), s.length ≤ f → s.length ≤ g → tokF f i s = tokF g i s
  | 0, g, i, s, h, k => by
    obtain rfl : s = [] := List.eq_nil_of_length_eq_zero (by omega)
    cases g <;> simp [tokF]
  | f + 1, g, i, [], h, k => by cases g <;> simp [tokF]
  | f + 1, 0, i, c :: r, h, k => by simp at k
  | f + 1, g + 1, i, c :: r, h, k => by
    simp only [List.length_cons] at h k
    have h1 := tokF_more f g (i + 1) r (by omega) (by omega)
    rw [tokF, tokF, h1]
    by_cases hl : letB c = true
    · rw [if_pos hl, if_pos hl]
      have h3 := row_pos (r := r) hl
      have h4 : ((c :: r).drop (rowM (c :: r)).length).length ≤ r.length := by rw [List.length_drop, List.length_cons]; omega
      rw [tokF_more f g _ _ (by omega) (by omega)]
    · rw [if_neg hl, if_neg hl]

/-- A text's tokens from place i on. -/
def tokT (i : Nat) (s : List UInt8) : List Tok × Option Nat := tokF s.length i s
theorem tokT_nil (i : Nat) : tokT i [] = ([], none) := by simp [tokT, tokF]
theorem tokT_blank (i : Nat) (c : UInt8) (r : List UInt8) (h : blankB c = true) : tokT i (c :: r) = tokT (i + 1) r := by
  unfold tokT
  have h0 : c.toNat = 32 ∨ c.toNat = 9 ∨ c.toNat = 10 := by simp [blankB] at h; omega
  rw [List.length_cons, tokF, if_neg (by simp [letB]; omega), if_neg (by omega), if_neg (by omega), if_pos h]
theorem tokT_open (i : Nat) (r : List UInt8) : tokT i (123 :: r) = (⟨2, i, []⟩ :: (tokT (i + 1) r).1, (tokT (i + 1) r).2) := by
  unfold tokT
  rw [List.length_cons, tokF, if_neg (by decide), if_pos (by decide)]
theorem tokT_close (i : Nat) (r : List UInt8) : tokT i (125 :: r) = (⟨3, i, []⟩ :: (tokT (i + 1) r).1, (tokT (i + 1) r).2) := by
  unfold tokT
  rw [List.length_cons, tokF, if_neg (by decide), if_neg (by decide), if_pos (by decide)]
theorem tokT_bad (i : Nat) (c : UInt8) (r : List UInt8) (h1 : letB c = false) (h2 : c.toNat ≠ 123) (h3 : c.toNat ≠ 125) (h4 : blankB c = false) : tokT i (c :: r) = ([], some i) := by
  unfold tokT
  rw [List.length_cons, tokF, if_neg (by rw [h1]; simp), if_neg h2, if_neg h3, if_neg (by rw [h4]; simp)]
/-- What follows a row is none of its bytes. -/
def Ends (rest : List UInt8) : Prop := ∀ c, rest.head? = some c → alnB c = false
theorem takeWhile_ends {rest : List UInt8} (h : Ends rest) : ∀ r : List UInt8, r.all alnB = true → (r ++ rest).takeWhile alnB = r
  | [], _ => by
    cases rest with
    | nil => rfl
    | cons c q => rw [List.nil_append, List.takeWhile_cons_of_neg (by simp [h c rfl])]
  | c :: r, ha => by
    simp only [List.all_cons, Bool.and_eq_true] at ha
    rw [List.cons_append, List.takeWhile_cons_of_pos ha.1, takeWhile_ends h r ha.2]
theorem tokT_row (i : Nat) (c : UInt8) (r rest : List UInt8) (hc : letB c = true) (hr : r.all alnB = true) (he : Ends rest) :
    tokT i (c :: r ++ rest) = (⟨1, i, c :: r⟩ :: (tokT (i + (c :: r).length) rest).1, (tokT (i + (c :: r).length) rest).2) := by
  have e : rowM (c :: r ++ rest) = c :: r := by
    rw [List.cons_append, rowM, if_pos hc, takeWhile_ends he r hr]
  unfold tokT
  rw [show (c :: r ++ rest).length = (r ++ rest).length + 1 from rfl, List.cons_append, tokF, if_pos hc, ← List.cons_append, e]
  rw [List.drop_left, tokF_more (r ++ rest).length rest.length _ _ (by simp) (Nat.le_refl _)]
theorem tokM_T {s : List UInt8} (h : s.length ≤ 2000) : tokM s = match tokT 0 s with | (l, none) => (l, 0, 0) | (_, some i) => ([], i, 6) := by
  unfold tokM tokT
  rw [if_neg (by omega)]
  generalize tokF s.length 0 s = x
  obtain ⟨l, o⟩ := x
  cases o <;> rfl

/-- Texts put together by numbers. -/
def joinM (T : List (List UInt8)) (n : Nat) (ns : List Int) (k : Nat) : List UInt8 := (ns.take k).flatMap fun z => T.getD (inM z n) []
theorem joinM_succ (T : List (List UInt8)) (n : Nat) (ns : List Int) (k : Nat) (hk : k < ns.length) : joinM T n ns (k + 1) = joinM T n ns k ++ T.getD (inM ns[k] n) [] := by
  unfold joinM
  rw [List.take_add_one, List.getElem?_eq_getElem hk]
  simp only [Option.toList_some, List.flatMap_append, List.flatMap_cons, List.flatMap_nil, List.append_nil]
theorem joinM_len (T : List (List UInt8)) (n m : Nat) (ns : List Int) (h : ∀ z : Int, (T.getD (inM z n) []).length ≤ m) : ∀ k, (joinM T n ns k).length ≤ m * k
  | 0 => by simp [joinM]
  | k + 1 => by
    have ih := joinM_len T n m ns h k
    rw [Nat.mul_succ]
    by_cases hk : k < ns.length
    · rw [joinM_succ T n ns k hk, List.length_append]
      have := h ns[k]
      omega
    · unfold joinM at ih ⊢
      rw [List.take_of_length_le (by omega)] at ih ⊢
      omega

def firstT : List (List UInt8) := [[123], [125], [120, 32], [102, 117, 110, 99, 32], [32]]
def badT : List (List UInt8) := [[33], [65], [45], [13], [0], [59], [195, 169], [95]]
theorem first_len (z : Int) : (firstT.getD (inM z 5) []).length ≤ 5 := by
  have h : inM z 5 < 5 := inM_lt z 5 (by omega)
  generalize inM z 5 = i at *
  have : ∀ i : Fin 5, (firstT.getD i.1 []).length ≤ 5 := by decide
  exact this ⟨i, h⟩
theorem first_step (i : Nat) (z : Int) (rest : List UInt8) : (tokT i (firstT.getD (inM z 5) [] ++ rest)).2 = (tokT (i + (firstT.getD (inM z 5) []).length) rest).2 := by
  have h : inM z 5 < 5 := inM_lt z 5 (by omega)
  generalize inM z 5 = k at *
  match k, h with
  | 0, _ => show (tokT i (123 :: rest)).2 = _; rw [tokT_open]; rfl
  | 1, _ => show (tokT i (125 :: rest)).2 = _; rw [tokT_close]; rfl
  | 2, _ =>
    have h1 := tokT_row i 120 [] (32 :: rest) (by decide) (by decide) (by intro c hc; simp at hc; subst hc; decide)
    show (tokT i ([120] ++ (32 :: rest))).2 = _
    rw [h1, tokT_blank _ _ _ (by decide)]
    rfl
  | 3, _ =>
    have h1 := tokT_row i 102 [117, 110, 99] (32 :: rest) (by decide) (by decide) (by intro c hc; simp at hc; subst hc; decide)
    show (tokT i ([102, 117, 110, 99] ++ (32 :: rest))).2 = _
    rw [h1, tokT_blank _ _ _ (by decide)]
    rfl
  | 4, _ => show (tokT i (32 :: rest)).2 = _; rw [tokT_blank _ _ _ (by decide)]; rfl
theorem first_all (rest : List UInt8) : ∀ (ns : List Int) (i : Nat), (tokT i ((ns.flatMap fun z => firstT.getD (inM z 5) []) ++ rest)).2 = (tokT (i + (ns.flatMap fun z => firstT.getD (inM z 5) []).length) rest).2
  | [], i => by simp
  | z :: ns, i => by
    rw [List.flatMap_cons, List.append_assoc, first_step, first_all rest ns, List.length_append, Nat.add_assoc]
theorem bad_step (i : Nat) (z : Int) (rest : List UInt8) : (tokT i (badT.getD (inM z 8) [] ++ rest)).2 = some i ∧ (badT.getD (inM z 8) []).length ≤ 2 := by
  have h : inM z 8 < 8 := inM_lt z 8 (by omega)
  generalize inM z 8 = k at *
  match k, h with
  | 0, _ => exact ⟨by show (tokT i (33 :: rest)).2 = _; rw [tokT_bad _ _ _ (by decide) (by decide) (by decide) (by decide)], by decide⟩
  | 1, _ => exact ⟨by show (tokT i (65 :: rest)).2 = _; rw [tokT_bad _ _ _ (by decide) (by decide) (by decide) (by decide)], by decide⟩
  | 2, _ => exact ⟨by show (tokT i (45 :: rest)).2 = _; rw [tokT_bad _ _ _ (by decide) (by decide) (by decide) (by decide)], by decide⟩
  | 3, _ => exact ⟨by show (tokT i (13 :: rest)).2 = _; rw [tokT_bad _ _ _ (by decide) (by decide) (by decide) (by decide)], by decide⟩
  | 4, _ => exact ⟨by show (tokT i (0 :: rest)).2 = _; rw [tokT_bad _ _ _ (by decide) (by decide) (by decide) (by decide)], by decide⟩
  | 5, _ => exact ⟨by show (tokT i (59 :: rest)).2 = _; rw [tokT_bad _ _ _ (by decide) (by decide) (by decide) (by decide)], by decide⟩
  | 6, _ => exact ⟨by show (tokT i (195 :: 169 :: rest)).2 = _; rw [tokT_bad _ _ _ (by decide) (by decide) (by decide) (by decide)], by decide⟩
  | 7, _ => exact ⟨by show (tokT i (95 :: rest)).2 = _; rw [tokT_bad _ _ _ (by decide) (by decide) (by decide) (by decide)], by decide⟩
theorem first_bad (ns : List Int) (k : Nat) (bad : Int) (raw : List UInt8) (hk : k ≤ 40) (hr : raw.length ≤ 200) :
    tokM (joinM firstT 5 ns k ++ [32] ++ badT.getD (inM bad 8) [] ++ raw) = ([], (joinM firstT 5 ns k).length + 1, 6) := by
  have h1 := joinM_len firstT 5 5 ns first_len k
  obtain ⟨h2, h3⟩ := bad_step ((joinM firstT 5 ns k).length + 1) bad raw
  rw [tokM_T (by simp only [List.length_append, List.length_cons, List.length_nil]; omega)]
  have e : (tokT 0 (joinM firstT 5 ns k ++ [32] ++ badT.getD (inM bad 8) [] ++ raw)).2 = some ((joinM firstT 5 ns k).length + 1) := by
    rw [List.append_assoc, List.append_assoc]
    have := first_all ([32] ++ (badT.getD (inM bad 8) [] ++ raw)) (ns.take k) 0
    unfold joinM at h2 ⊢
    rw [this, List.singleton_append, tokT_blank _ _ _ (by decide), Nat.zero_add, h2]
  generalize tokT 0 (joinM firstT 5 ns k ++ [32] ++ badT.getD (inM bad 8) [] ++ raw) = x at *
  obtain ⟨l, o⟩ := x
  simp only at e
  subst e
  rfl

end Go.Proofs.YtildkedplmjdaaaGreatDoor
namespace Go.Proofs.YtildkedplmjdaaaGreatDoor
set_option maxRecDepth 100000
set_option linter.unusedVariables false
open Go.RowKit Go.Sort

/-- What a word is as a token: its kind, its text. -/
def kt (w : List UInt8) : Nat × List UInt8 := if w = [123] then (2, []) else if w = [125] then (3, []) else (1, w)
def WordOk (w : List UInt8) : Prop := w = [123] ∨ w = [125] ∨ ∃ c r, w = c :: r ∧ letB c = true ∧ r.all alnB = true
def SepOk (s : List UInt8) : Prop := s ≠ [] ∧ s.all blankB = true
def flatP (P : List (List UInt8 × List UInt8)) : List UInt8 := P.flatMap fun p => p.1 ++ p.2
theorem tokT_sep (rest : List UInt8) : ∀ (s : List UInt8) (i : Nat), s.all blankB = true → tokT i (s ++ rest) = tokT (i + s.length) rest
  | [], i, _ => by simp
  | c :: s, i, h => by
    simp only [List.all_cons, Bool.and_eq_true] at h
    rw [List.cons_append, tokT_blank _ _ _ h.1, tokT_sep rest s (i + 1) h.2, List.length_cons]
    congr 1
    omega
theorem blank_aln {c : UInt8} (h : blankB c = true) : alnB c = false := by
  simp [blankB] at h
  simp [alnB, letB, digB]
  omega
theorem ends_flat (P : List (List UInt8 × List UInt8)) (h : ∀ p ∈ P, SepOk p.1) : Ends (flatP P) := by
  cases P with
  | nil => intro c hc; simp [flatP] at hc
  | cons p P =>
    obtain ⟨s, w⟩ := p
    have h1 := h _ (List.mem_cons_self ..)
    cases s with
    | nil => exact absurd rfl h1.1
    | cons x s =>
      intro c hc
      simp [flatP] at hc
      subst hc
      have := h1.2
      simp only [List.all_cons, Bool.and_eq_true] at this
      exact blank_aln this.1
theorem flat_cons (p : List UInt8 × List UInt8) (P : List (List UInt8 × List UInt8)) : flatP (p :: P) = p.1 ++ (p.2 ++ flatP P) := by simp [flatP]
theorem flat_toks : ∀ (P : List (List UInt8 × List UInt8)), (∀ p ∈ P, SepOk p.1 ∧ WordOk p.2) → ∀ i, (tokT i (flatP P)).2 = none ∧ (tokT i (flatP P)).1.map (fun t => (t.kind, t.s)) = P.map fun p => kt p.2
  | [], _, i => by rw [show flatP [] = [] from rfl, tokT_nil]; exact ⟨rfl, rfl⟩
  | p :: P, h, i => by
    obtain ⟨s, w⟩ := p
    have h1 := h _ (List.mem_cons_self ..)
    have hE := ends_flat P (fun p hp => (h p (List.mem_cons_of_mem _ hp)).1)
    rw [flat_cons, tokT_sep _ _ _ h1.1.2]
    rcases h1.2 with e | e | ⟨c, r, e, hc, hr⟩
    · simp only at e
      subst e
      obtain ⟨a1, a2⟩ := flat_toks P (fun p hp => h p (List.mem_cons_of_mem _ hp)) (i + s.length + 1)
      rw [List.singleton_append, tokT_open]
      exact ⟨a1, by simp only [List.map_cons, a2]; rfl⟩
    · simp only at e
      subst e
      obtain ⟨a1, a2⟩ := flat_toks P (fun p hp => h p (List.mem_cons_of_mem _ hp)) (i + s.length + 1)
      rw [List.singleton_append, tokT_close]
      exact ⟨a1, by simp only [List.map_cons, a2]; rfl⟩
    · simp only at e
      subst e
      obtain ⟨a1, a2⟩ := flat_toks P (fun p hp => h p (List.mem_cons_of_mem _ hp)) (i + s.length + (c :: r).length)
      rw [tokT_row _ _ _ _ hc hr hE]
      refine ⟨a1, ?_⟩
      have e1 : kt (c :: r) = (1, c :: r) := by
        unfold kt
        rw [if_neg (fun e => by injection e with e1 e2; subst e1; simp [letB] at hc), if_neg (fun e => by injection e with e1 e2; subst e1; simp [letB] at hc)]
      simp only [List.map_cons, a2, e1]
theorem tokM_flat (P : List (List UInt8 × List UInt8)) (h : ∀ p ∈ P, SepOk p.1 ∧ WordOk p.2) (hl : (flatP P).length ≤ 2000) : ∃ l, tokM (flatP P) = (l, 0, 0) ∧ l.map (fun t => (t.kind, t.s)) = P.map fun p => kt p.2 := by
  obtain ⟨h1, h2⟩ := flat_toks P h 0
  refine ⟨(tokT 0 (flatP P)).1, ?_, h2⟩
  rw [tokM_T hl]
  generalize tokT 0 (flatP P) = x at *
  obtain ⟨l, o⟩ := x
  simp only at h1
  subst h1
  rfl

end Go.Proofs.YtildkedplmjdaaaGreatDoor
namespace Go.Proofs.YtildkedplmjdaaaGreatDoor
set_option maxRecDepth 100000
set_option linter.unusedVariables false
open Go.RowKit Go.Sort

def deepT : List (List UInt8) := [[105, 102, 32], [108, 111, 111, 112, 32], [105, 102, 32, 123, 32, 125, 32, 101, 108, 115, 101, 32]]
def deepP (k : Nat) : List UInt8 := deepT.getD k [] ++ [123, 32]
def deepS (ks : List Nat) : List UInt8 := ks.flatMap deepP
def shutS : Nat → List UInt8
  | 0 => []
  | m + 1 => 125 :: 32 :: shutS m
theorem shutS_len : ∀ m, (shutS m).length = 2 * m
  | 0 => rfl
  | m + 1 => by rw [shutS, List.length_cons, List.length_cons, shutS_len m]; omega
theorem shutS_succ : ∀ m, shutS (m + 1) = shutS m ++ [125, 32]
  | 0 => rfl
  | m + 1 => by show 125 :: 32 :: shutS (m + 1) = 125 :: 32 :: (shutS m ++ [125, 32]); rw [shutS_succ m]
theorem deepP_len (k : Nat) : (deepP k).length ≤ 14 := by
  unfold deepP deepT
  match k with
  | 0 => decide
  | 1 => decide
  | 2 => decide
  | _ + 3 => simp
theorem deepS_len : ∀ ks, (deepS ks).length ≤ 14 * ks.length
  | [] => by simp [deepS]
  | k :: ks => by
    have := deepS_len ks
    have := deepP_len k
    unfold deepS at *
    rw [List.flatMap_cons, List.length_append, List.length_cons]
    omega
theorem deepS_snoc (ks : List Nat) (k : Nat) : deepS (ks ++ [k]) = deepS ks ++ deepP k := by simp [deepS]

def shutK : Nat → Nat → List Tok
  | 0, _ => []
  | m + 1, i => ⟨3, i, []⟩ :: shutK m (i + 2)
theorem tokT_shut : ∀ m i, tokT i (shutS m) = (shutK m i, none)
  | 0, i => tokT_nil i
  | m + 1, i => by rw [shutS, tokT_close, tokT_blank _ _ _ (by decide), tokT_shut m]; rfl
def deepK1 (k i : Nat) : List Tok :=
  if k = 0 then [⟨1, i, [105, 102]⟩, ⟨2, i + 3, []⟩]
  else if k = 1 then [⟨1, i, [108, 111, 111, 112]⟩, ⟨2, i + 5, []⟩]
  else [⟨1, i, [105, 102]⟩, ⟨2, i + 3, []⟩, ⟨3, i + 5, []⟩, ⟨1, i + 7, [101, 108, 115, 101]⟩, ⟨2, i + 12, []⟩]
def deepK : List Nat → Nat → List Tok
  | [], _ => []
  | k :: ks, i => deepK1 k i ++ deepK ks (i + (deepP k).length)
theorem ends_blank (rest : List UInt8) : Ends (32 :: rest) := by
  intro c hc
  simp at hc
  subst hc
  decide
theorem tokT_piece (k i : Nat) (rest : List UInt8) (hk : k < 3) : tokT i (deepP k ++ rest) = (deepK1 k i ++ (tokT (i + (deepP k).length) rest).1, (tokT (i + (deepP k).length) rest).2) := by
  match k, hk with
  | 0, _ =>
    show tokT i ([105, 102] ++ (32 :: 123 :: 32 :: rest)) = _
    rw [tokT_row i 105 [102] _ (by decide) (by decide) (ends_blank _), tokT_blank _ _ _ (by decide), tokT_open, tokT_blank _ _ _ (by decide)]
    rfl
  | 1, _ =>
    show tokT i ([108, 111, 111, 112] ++ (32 :: 123 :: 32 :: rest)) = _
    rw [tokT_row i 108 [111, 111, 112] _ (by decide) (by decide) (ends_blank _), tokT_blank _ _ _ (by decide), tokT_open, tokT_blank _ _ _ (by decide)]
    rfl
  | 2, _ =>
    show tokT i ([105, 102] ++ (32 :: 123 :: 32 :: 125 :: 32 :: ([101, 108, 115, 101] ++ (32 :: 123 :: 32 :: rest)))) = _
    rw [tokT_row i 105 [102] _ (by decide) (by decide) (ends_blank _), tokT_blank _ _ _ (by decide), tokT_open, tokT_blank _ _ _ (by decide), tokT_close, tokT_blank _ _ _ (by decide),
      tokT_row _ 101 [108, 115, 101] _ (by decide) (by decide) (ends_blank _), tokT_blank _ _ _ (by decide), tokT_open, tokT_blank _ _ _ (by decide)]
    rfl
theorem tokT_deep : ∀ (ks : List Nat) (i : Nat) (rest : List UInt8), (∀ k ∈ ks, k < 3) → tokT i (deepS ks ++ rest) = (deepK ks i ++ (tokT (i + (deepS ks).length) rest).1, (tokT (i + (deepS ks).length) rest).2)
  | [], i, rest, _ => rfl
  | k :: ks, i, rest, h => by
    have e : deepS (k :: ks) = deepP k ++ deepS ks := rfl
    rw [e, List.append_assoc, tokT_piece k i _ (h k (by simp)), tokT_deep ks _ rest (fun x hx => h x (by simp [hx])), List.length_append, ← Nat.add_assoc]
    simp only [deepK, List.append_assoc]

/-- Where the block at index j is opened that goes too deep. -/
def deepAt (ks : List Nat) (j : Nat) : Nat := (deepS (ks.take j)).length + (if ks.getD j 0 = 1 then 5 else 3)
theorem deepAt_succ (k : Nat) (ks : List Nat) (j : Nat) : deepAt (k :: ks) (j + 1) = (deepP k).length + deepAt ks j := by
  unfold deepAt
  rw [List.take_succ_cons, show deepS (k :: ks.take j) = deepP k ++ deepS (ks.take j) from rfl, List.length_append, List.getD_cons_succ, Nat.add_assoc]

theorem kind_if : kindM [105, 102] = 7 := by decide
theorem kind_loop : kindM [108, 111, 111, 112] = 8 := by decide
theorem next_shut (m i : Nat) : nextS (shutK m i) = [] := by cases m <;> rfl
theorem stmts_shut (f d e m i : Nat) : stmtsF (f + 1) d e (shutK (m + 1) i) = .ok (.nil, shutK m (i + 2)) := by rw [stmtsF]; rfl

theorem deep_stmts : ∀ (ks : List Nat) (f d e m i : Nat), (∀ k ∈ ks, k < 3) → 3 * ks.length + 4 ≤ f → d ≤ 20 →
    (d + ks.length ≤ 20 → ∃ B, stmtsF f d e (deepK ks i ++ shutK (ks.length + 1 + m) (i + (deepS ks).length)) = .ok (B, shutK m (i + (deepS ks).length + 2 * (ks.length + 1)))) ∧
    (20 < d + ks.length → stmtsF f d e (deepK ks i ++ shutK (ks.length + 1 + m) (i + (deepS ks).length)) = .error (i + deepAt ks (20 - d), 8))
  | [], f, d, e, m, i, _, hf, hd => by
    refine ⟨fun _ => ⟨.nil, ?_⟩, fun h => absurd h (by simp; omega)⟩
    obtain ⟨f, rfl⟩ : ∃ g, f = g + 1 := ⟨f - 1, by omega⟩
    show stmtsF (f + 1) d e (shutK (0 + 1 + m) i) = _
    rw [show 0 + 1 + m = m + 1 from by omega, stmts_shut]
    rfl
  | k :: ks, f, d, e, m, i, h, hf, hd => by
    have e0 : deepS (k :: ks) = deepP k ++ deepS ks := rfl
    have hk := h k (by simp)
    simp only [List.length_cons] at hf ⊢
    obtain ⟨f, rfl⟩ : ∃ g, f = g + 3 := ⟨f - 3, by omega⟩
    have ih := deep_stmts ks f (d + 1) e (m + 1) (i + (deepP k).length) (fun x hx => h x (by simp [hx])) (by omega)
    have el : i + (deepS (k :: ks)).length = i + (deepP k).length + (deepS ks).length := by rw [e0, List.length_append]; omega
    rw [el, show ks.length + 1 + 1 + m = ks.length + 1 + (m + 1) from by omega]
    generalize hT : deepK ks (i + (deepP k).length) ++ shutK (ks.length + 1 + (m + 1)) (i + (deepP k).length + (deepS ks).length) = T at *
    have hD : deepK (k :: ks) i ++ shutK (ks.length + 1 + (m + 1)) (i + (deepP k).length + (deepS ks).length) = deepK1 k i ++ T := by rw [← hT, deepK, List.append_assoc]
    rw [hD]
    have hkk : k = 0 ∨ k = 1 ∨ k = 2 := by omega
    obtain ⟨f1, rfl⟩ : ∃ g, f = g + 1 := ⟨f - 1, by omega⟩
    by_cases hd2 : d = 20
    · subst hd2
      refine ⟨fun hx => absurd hx (by omega), fun _ => ?_⟩
      rcases hkk with rfl | rfl | rfl
      · show stmtsF (f1 + 1 + 2 + 1) 20 e (⟨1, i, [105, 102]⟩ :: ⟨2, i + 3, []⟩ :: T) = _
        rw [stmtsF]
        simp only [List.head?_cons, Option.map_some]
        rw [stmtF, blockF]
        simp only [kind_if]
        rfl
      · show stmtsF (f1 + 1 + 2 + 1) 20 e (⟨1, i, [108, 111, 111, 112]⟩ :: ⟨2, i + 5, []⟩ :: T) = _
        rw [stmtsF]
        simp only [List.head?_cons, Option.map_some]
        rw [stmtF, blockF]
        simp only [kind_loop]
        rfl
      · show stmtsF (f1 + 1 + 2 + 1) 20 e (⟨1, i, [105, 102]⟩ :: ⟨2, i + 3, []⟩ :: ⟨3, i + 5, []⟩ :: ⟨1, i + 7, [101, 108, 115, 101]⟩ :: ⟨2, i + 12, []⟩ :: T) = _
        rw [stmtsF]
        simp only [List.head?_cons, Option.map_some]
        rw [stmtF, blockF]
        simp only [kind_if]
        rfl
    · obtain ⟨iha, ihb⟩ := ih (by omega)
      have hj : 20 - d = (20 - (d + 1)) + 1 := by omega
      have hblk : ∀ a, blockF (f1 + 1 + 1) d e (⟨2, a, []⟩ :: T) = stmtsF (f1 + 1) (d + 1) e T := by
        intro a
        rw [blockF, if_neg (by simp), if_neg (by omega)]
      have hone : ∀ a b c q, blockF (f1 + 1 + 1) d e (⟨2, a, []⟩ :: ⟨3, b, []⟩ :: ⟨1, c, [101, 108, 115, 101]⟩ :: q) = .ok (.nil, ⟨1, c, [101, 108, 115, 101]⟩ :: q) := by
        intro a b c q
        rw [blockF, if_neg (by simp), if_neg (by omega), stmtsF]
        rfl
      have hend : ∀ (s : StmM) (p : Nat), (∃ B, (match stmtsF (f1 + 1 + 2) d e (shutK (m + 1) p) with | .error x => Except.error x | .ok (l, r2) => .ok (Blk.cons s.kind s.at_ s.name s.a s.b l, r2)) = Except.ok (ε := Nat × Nat) (B, shutK m (p + 2))) := by
        intro s p
        rw [show f1 + 1 + 2 = (f1 + 2) + 1 from by omega, stmts_shut]
        exact ⟨_, rfl⟩
      refine ⟨fun hx => ?_, fun hx => ?_⟩
      · obtain ⟨B, hB⟩ := iha (by omega)
        have ep : i + (deepP k).length + (deepS ks).length + 2 * (ks.length + 1 + 1) = (i + (deepP k).length + (deepS ks).length + 2 * (ks.length + 1)) + 2 := by omega
        rw [ep]
        generalize i + (deepP k).length + (deepS ks).length + 2 * (ks.length + 1) = p at *
        rcases hkk with rfl | rfl | rfl
        · show ∃ B, stmtsF (f1 + 1 + 2 + 1) d e (⟨1, i, [105, 102]⟩ :: ⟨2, i + 3, []⟩ :: T) = _
          rw [stmtsF]
          simp only [List.head?_cons, Option.map_some]
          rw [stmtF, hblk, hB]
          simp only [kind_if, next_shut]
          exact hend ⟨7, i, [], B, .nil⟩ p
        · show ∃ B, stmtsF (f1 + 1 + 2 + 1) d e (⟨1, i, [108, 111, 111, 112]⟩ :: ⟨2, i + 5, []⟩ :: T) = _
          rw [stmtsF]
          simp only [List.head?_cons, Option.map_some]
          rw [stmtF, hblk, hB]
          simp only [kind_loop]
          exact hend ⟨8, i, [], B, .nil⟩ p
        · show ∃ B, stmtsF (f1 + 1 + 2 + 1) d e (⟨1, i, [105, 102]⟩ :: ⟨2, i + 3, []⟩ :: ⟨3, i + 5, []⟩ :: ⟨1, i + 7, [101, 108, 115, 101]⟩ :: ⟨2, i + 12, []⟩ :: T) = _
          rw [stmtsF]
          simp only [List.head?_cons, Option.map_some]
          rw [stmtF, hone]
          simp only [kind_if, nextS, elseM, List.tail_cons, if_true]
          rw [hblk, hB]
          exact hend ⟨7, i, [], .nil, B⟩ p
      · have hB := ihb (by omega)
        have ep : i + deepAt (k :: ks) (20 - d) = i + (deepP k).length + deepAt ks (20 - (d + 1)) := by rw [hj, deepAt_succ]; omega
        rw [ep]
        generalize i + (deepP k).length + deepAt ks (20 - (d + 1)) = p at *
        rcases hkk with rfl | rfl | rfl
        · show stmtsF (f1 + 1 + 2 + 1) d e (⟨1, i, [105, 102]⟩ :: ⟨2, i + 3, []⟩ :: T) = _
          rw [stmtsF]
          simp only [List.head?_cons, Option.map_some]
          rw [stmtF, hblk, hB]
          simp only [kind_if]
          rfl
        · show stmtsF (f1 + 1 + 2 + 1) d e (⟨1, i, [108, 111, 111, 112]⟩ :: ⟨2, i + 5, []⟩ :: T) = _
          rw [stmtsF]
          simp only [List.head?_cons, Option.map_some]
          rw [stmtF, hblk, hB]
          simp only [kind_loop]
          rfl
        · show stmtsF (f1 + 1 + 2 + 1) d e (⟨1, i, [105, 102]⟩ :: ⟨2, i + 3, []⟩ :: ⟨3, i + 5, []⟩ :: ⟨1, i + 7, [101, 108, 115, 101]⟩ :: ⟨2, i + 12, []⟩ :: T) = _
          rw [stmtsF]
          simp only [List.head?_cons, Option.map_some]
          rw [stmtF, hone]
          simp only [kind_if, nextS, elseM, List.tail_cons, if_true]
          rw [hblk, hB]
          rfl

def deepW (ks : List Nat) : List UInt8 := [102, 117, 110, 99, 32, 109, 97, 105, 110, 32, 123, 32] ++ deepS ks
theorem deep_toks (ks : List Nat) (m : Nat) (h : ∀ k ∈ ks, k < 3) : tokT 0 (deepW ks ++ shutS m) = (⟨1, 0, [102, 117, 110, 99]⟩ :: ⟨1, 5, [109, 97, 105, 110]⟩ :: ⟨2, 10, []⟩ :: (deepK ks 12 ++ shutK m (12 + (deepS ks).length)), none) := by
  show tokT 0 ([102, 117, 110, 99] ++ (32 :: ([109, 97, 105, 110] ++ (32 :: 123 :: 32 :: (deepS ks ++ shutS m))))) = _
  rw [tokT_row 0 102 [117, 110, 99] _ (by decide) (by decide) (ends_blank _), tokT_blank _ _ _ (by decide), tokT_row _ 109 [97, 105, 110] _ (by decide) (by decide) (ends_blank _), tokT_blank _ _ _ (by decide), tokT_open,
    tokT_blank _ _ _ (by decide), tokT_deep ks _ _ h, tokT_shut]
  rfl

theorem deep_parse (ks : List Nat) (h : ∀ k ∈ ks, k < 3) (hl : ks.length ≤ 25) :
    (ks.length < 20 → ∃ P : ProgM, parseM (deepW ks ++ shutS (ks.length + 1)) = (P, 0, 0) ∧ P.funcs.length = 1) ∧
    (20 ≤ ks.length → parseM (deepW ks ++ shutS (ks.length + 1)) = (⟨[], [], []⟩, 12 + deepAt ks 19, 8)) := by
  have hlen : (deepW ks ++ shutS (ks.length + 1)).length ≤ 2000 := by
    have h1 := deepS_len ks
    unfold deepW
    rw [List.length_append, List.length_append, shutS_len]
    simp only [List.length_cons, List.length_nil]
    omega
  have ht := tokM_T hlen
  rw [deep_toks ks _ h] at ht
  simp only at ht
  unfold parseM
  rw [ht]
  simp only [ne_eq, not_true_eq_false, if_false, List.length_cons]
  generalize (deepW ks ++ shutS (ks.length + 1)).length = e
  have hn : nameM [109, 97, 105, 110] = true := by decide
  have hb : ∀ g (p : ProgM), progF (g + 1) e (⟨1, 0, [102, 117, 110, 99]⟩ :: ⟨1, 5, [109, 97, 105, 110]⟩ :: ⟨2, 10, []⟩ :: (deepK ks 12 ++ shutK (ks.length + 1) (12 + (deepS ks).length))) p =
      (match stmtsF (2 * (deepK ks 12 ++ shutK (ks.length + 1) (12 + (deepS ks).length)).length + 2) 1 e (deepK ks 12 ++ shutK (ks.length + 1) (12 + (deepS ks).length)) with
        | .error x => .error x
        | .ok (b, r2) => progF g e r2 { p with funcs := p.funcs ++ [⟨[109, 97, 105, 110], 0, b⟩] }) := by
    intro g p
    rw [progF, if_neg (by decide), if_neg (by decide), if_pos (by decide)]
    simp only [nameF, hn, if_true, List.length_cons]
    rw [show 2 * ((deepK ks 12 ++ shutK (ks.length + 1) (12 + (deepS ks).length)).length + 1) + 1 = (2 * (deepK ks 12 ++ shutK (ks.length + 1) (12 + (deepS ks).length)).length + 2) + 1 from by omega, blockF, if_neg (by simp), if_neg (by omega)] <;> rfl
  have hfu : 3 * ks.length + 4 ≤ 2 * (deepK ks 12 ++ shutK (ks.length + 1) (12 + (deepS ks).length)).length + 2 := by
    have hK : ∀ (l : List Nat) i, 2 * l.length ≤ (deepK l i).length := by
      intro l
      induction l with
      | nil => intro i; simp
      | cons k l ih =>
        intro i
        have := ih (i + (deepP k).length)
        have h2 : 2 ≤ (deepK1 k i).length := by 
          unfold deepK1
          split
          · simp
          · split <;> simp
        rw [deepK, List.length_append, List.length_cons]
        omega
    have hS : ∀ m i, (shutK m i).length = m := by
      intro m
      induction m with
      | zero => intro i; rfl
      | succ m ih => intro i; rw [shutK, List.length_cons, ih]
    have := hK ks 12
    rw [List.length_append, hS]
    omega
  obtain ⟨ha, hx⟩ := deep_stmts ks _ 1 e 0 12 h hfu (by omega)
  rw [Nat.add_zero] at ha hx
  refine ⟨fun hlt => ?_, fun hge => ?_⟩
  · obtain ⟨B, hB⟩ := ha (by omega)
    refine ⟨⟨[], [], [⟨[109, 97, 105, 110], 0, B⟩]⟩, ?_, rfl⟩
    rw [hb, hB]
    rfl
  · have hB := hx (by omega)
    rw [hb, hB]

end Go.Proofs.YtildkedplmjdaaaGreatDoor
