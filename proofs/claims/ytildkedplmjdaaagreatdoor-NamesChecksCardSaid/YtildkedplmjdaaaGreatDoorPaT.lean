/-
  Programs written and read again, by chapter 6 itself: declarations one behind another. No walk is here.
-/
import Derived.Test.YtildkedplmjdaaaGreatDoorPaR
namespace Go.Proofs.YtildkedplmjdaaaGreatDoor
set_option maxRecDepth 100000
set_option linter.unusedVariables false
open Go.RowKit Go.Sort

theorem drop_len_add {α : Type} (l1 l2 : List α) (n : Nat) : (l1 ++ l2).drop (l1.length + n) = l2.drop n := by rw [← List.drop_drop, List.drop_left]
def tkey (t : Tok) : Nat × List UInt8 := (t.kind, t.s)
/-- The words of a statement. -/
def headM (k : Nat) (n : List UInt8) (a b : Blk) : List (List UInt8) :=
  if k = 7 then [verbM k, openW] ++ innerM a ++ (if b.len = 0 then [] else [closeW, elseM, openW] ++ innerM b) ++ [closeW]
  else if k = 8 then [verbM k, openW] ++ innerM a ++ [closeW]
  else [verbM k, n]
theorem inner_cons (k p : Nat) (n : List UInt8) (a b r : Blk) : innerM (.cons k p n a b r) = headM k n a b ++ innerM r := by rw [innerM, headM]

/-- Statements that a text may have, within so many blocks. -/
def GoodB : Nat → Blk → Prop
  | _, .nil => True
  | d, .cons k _ n a b r => ((1 ≤ k ∧ k ≤ 6 ∧ nameM n = true ∧ a = .nil ∧ b = .nil) ∨ (k = 7 ∧ n = [] ∧ d < 20 ∧ GoodB (d + 1) a ∧ GoodB (d + 1) b) ∨ (k = 8 ∧ n = [] ∧ d < 20 ∧ GoodB (d + 1) a ∧ b = .nil)) ∧ GoodB d r

/-- The same statements where these places are their words'. -/
def placeB : Blk → List Nat → Blk
  | .nil, _ => .nil
  | .cons k _ n a b r, ps => .cons k (ps.headD 0) n (placeB a (ps.drop 2)) (placeB b (ps.drop (2 + ((innerM a).length + 3)))) (placeB r (ps.drop (headM k n a b).length))
def eraseB : Blk → Blk
  | .nil => .nil
  | .cons k _ n a b r => .cons k 0 n (eraseB a) (eraseB b) (eraseB r)
theorem erase_place : ∀ (b : Blk) (ps : List Nat), eraseB (placeB b ps) = eraseB b
  | .nil, ps => rfl
  | .cons k p n a b r, ps => by rw [placeB, eraseB, eraseB, erase_place a, erase_place b, erase_place r]
theorem len_erase : ∀ (b : Blk), (eraseB b).len = b.len
  | .nil => rfl
  | .cons k p n a b r => by rw [eraseB, Blk.len, Blk.len, len_erase r]
theorem inner_erase : ∀ (b : Blk), innerM (eraseB b) = innerM b
  | .nil => rfl
  | .cons k p n a b r => by rw [eraseB, innerM, innerM, inner_erase a, inner_erase b, inner_erase r, len_erase b]
theorem words_erase (b : Blk) : wordsB (eraseB b) = wordsB b := by unfold wordsB; rw [inner_erase]

theorem verb_kd : ∀ k, 1 ≤ k → k ≤ 8 → kindM (verbM k) = k ∧ kt (verbM k) = (1, verbM k) ∧ verbM k ≠ elseM ∧ verbM k ≠ [] := by
  intro k h1 h2
  have : ∀ i : Fin 9, 1 ≤ i.1 → kindM (verbM i.1) = i.1 ∧ kt (verbM i.1) = (1, verbM i.1) ∧ verbM i.1 ≠ elseM ∧ verbM i.1 ≠ [] := by decide
  exact this ⟨k, by omega⟩ h1
theorem kt_open : kt openW = (2, []) := by decide
theorem kt_close : kt closeW = (3, []) := by decide
theorem kt_else : kt elseM = (1, elseM) := by decide
theorem name_row {n : List UInt8} (h : nameM n = true) : ∃ c r, n = c :: r ∧ letB c = true ∧ r.all alnB = true := by
  unfold nameM at h
  simp only [Bool.and_eq_true, decide_eq_true_eq] at h
  obtain ⟨⟨⟨h1, h2⟩, h3⟩, h4⟩ := h
  cases n with
  | nil => simp at h1
  | cons c r =>
    by_cases hc : letB c = true
    · refine ⟨c, r, rfl, hc, ?_⟩
      rw [rowM, if_pos hc] at h3
      injection h3 with h5 h6
      rw [← h6, List.all_eq_true]
      exact fun x hx => takeWhile_all r x hx
    · rw [rowM, if_neg hc] at h3; cases h3
theorem kt_name {n : List UInt8} (h : nameM n = true) : kt n = (1, n) := by
  obtain ⟨c, r, rfl, hc, hr⟩ := name_row h
  unfold kt
  rw [if_neg (fun e => by injection e with e1 e2; subst e1; simp [letB] at hc), if_neg (fun e => by injection e with e1 e2; subst e1; simp [letB] at hc)]

theorem head_len {k d : Nat} {n : List UInt8} {a b r : Blk} {p : Nat} (h : GoodB d (.cons k p n a b r)) : 2 ≤ (headM k n a b).length ∧ (a = .nil ∨ (innerM a).length + 3 ≤ (headM k n a b).length ∧ GoodB (d + 1) a) ∧ (b = .nil ∨ (innerM a).length + (innerM b).length + 6 ≤ (headM k n a b).length ∧ GoodB (d + 1) b) := by
  rcases h.1 with ⟨g1, g2, g3, rfl, rfl⟩ | ⟨rfl, rfl, g3, g4, g5⟩ | ⟨rfl, rfl, g3, g4, rfl⟩
  · rw [headM, if_neg (by omega), if_neg (by omega)]
    exact ⟨Nat.le_refl _, .inl rfl, .inl rfl⟩
  · by_cases hb : b.len = 0
    · have hbn := Blk.len_zero b hb
      subst hbn
      have e1 : (headM 7 [] a .nil).length = (innerM a).length + 3 := by simp [headM, Blk.len]
      exact ⟨by omega, .inr ⟨by omega, g4⟩, .inl rfl⟩
    · have e1 : headM 7 [] a b = verbM 7 :: openW :: ((innerM a ++ [closeW]) ++ (elseM :: openW :: (innerM b ++ [closeW]))) := by simp [headM, hb]
      have e2 := congrArg List.length e1
      simp only [List.length_cons, List.length_append, List.length_nil] at e2
      exact ⟨by omega, .inr ⟨by omega, g4⟩, .inr ⟨by omega, g5⟩⟩
  · have e1 : (headM 8 [] a .nil).length = (innerM a).length + 3 := by simp [headM]
    exact ⟨by omega, .inr ⟨by omega, g4⟩, .inl rfl⟩

theorem place_more : ∀ (b : Blk) (d : Nat) (ps qs : List Nat), GoodB d b → (innerM b).length ≤ ps.length → placeB b (ps ++ qs) = placeB b ps
  | .nil, d, ps, qs, _, _ => rfl
  | .cons k p n a b r, d, ps, qs, h, hl => by
    obtain ⟨h1, h2, h3⟩ := head_len h
    rw [inner_cons, List.length_append] at hl
    rw [placeB, placeB]
    have ea : placeB a ((ps ++ qs).drop 2) = placeB a (ps.drop 2) := by
      rcases h2 with rfl | ⟨h2, ga⟩
      · rfl
      · rw [List.drop_append_of_le_length (by omega)]
        exact place_more a _ _ _ ga (by rw [List.length_drop]; omega)
    have eb : placeB b ((ps ++ qs).drop (2 + ((innerM a).length + 3))) = placeB b (ps.drop (2 + ((innerM a).length + 3))) := by
      rcases h3 with rfl | ⟨h3, gb⟩
      · rfl
      · rw [List.drop_append_of_le_length (by omega)]
        exact place_more b _ _ _ gb (by rw [List.length_drop]; omega)
    have er : placeB r ((ps ++ qs).drop (headM k n a b).length) = placeB r (ps.drop (headM k n a b).length) := by
      rw [List.drop_append_of_le_length (by omega)]
      exact place_more r _ _ _ h.2 (by rw [List.length_drop]; omega)
    have eh : (ps ++ qs).headD 0 = ps.headD 0 := by
      have hp : 0 < ps.length := by omega
      cases ps with
      | nil => simp at hp
      | cons x ps => rfl
    rw [ea, eb, er, eh]

theorem keys_cons {l : List Tok} {w : List UInt8} {W : List (List UInt8)} (h : l.map tkey = (w :: W).map kt) : ∃ t r, l = t :: r ∧ t.kind = (kt w).1 ∧ t.s = (kt w).2 ∧ r.map tkey = W.map kt := by
  cases l with
  | nil => simp at h
  | cons t r =>
    simp only [List.map_cons, List.cons.injEq] at h
    refine ⟨t, r, rfl, ?_, ?_, h.2⟩
    · rw [← h.1]; rfl
    · rw [← h.1]; rfl
theorem keys_app {l : List Tok} {V W : List (List UInt8)} (h : l.map tkey = (V ++ W).map kt) : ∃ l1 l2, l = l1 ++ l2 ∧ l1.map tkey = V.map kt ∧ l2.map tkey = W.map kt ∧ l1.length = V.length := by
  rw [List.map_append, List.map_eq_append_iff] at h
  obtain ⟨l1, l2, rfl, h1, h2⟩ := h
  exact ⟨l1, l2, rfl, h1, h2, by simpa using congrArg List.length h1⟩

theorem next_not_else {b : Blk} {d : Nat} (h : GoodB d b) {l R : List Tok} (hk : l.map tkey = (innerM b ++ [closeW]).map kt) : nextS (l ++ R) ≠ elseM := by
  cases b with
  | nil =>
    obtain ⟨t, r, rfl, h1, h2, h3⟩ := keys_cons (w := closeW) (W := []) hk
    show t.s ≠ elseM
    rw [h2, kt_close]
    decide
  | cons k p n a b r =>
    have hk0 : 1 ≤ k ∧ k ≤ 8 := by rcases h.1 with h | h | h <;> omega
    have e : ∃ W, innerM (.cons k p n a b r) ++ [closeW] = verbM k :: W := by
      rw [inner_cons, headM]
      split
      · exact ⟨_, rfl⟩
      · split
        · exact ⟨_, rfl⟩
        · exact ⟨_, rfl⟩
    obtain ⟨W, e⟩ := e
    rw [e] at hk
    obtain ⟨t, l, rfl, h1, h2, h3⟩ := keys_cons hk
    show t.s ≠ elseM
    rw [h2, (verb_kd k hk0.1 hk0.2).2.1]
    exact (verb_kd k hk0.1 hk0.2).2.2.1
theorem first_kind {b : Blk} {d : Nat} (h : GoodB d b) (hb : 0 < b.len) {l R : List Tok} (hk : l.map tkey = (innerM b ++ [closeW]).map kt) : (l ++ R).head?.map (·.kind) = some 1 := by
  cases b with
  | nil => simp [Blk.len] at hb
  | cons k p n a b r =>
    have hk0 : 1 ≤ k ∧ k ≤ 8 := by rcases h.1 with h | h | h <;> omega
    have e : ∃ W, innerM (.cons k p n a b r) ++ [closeW] = verbM k :: W := by
      rw [inner_cons, headM]
      split
      · exact ⟨_, rfl⟩
      · split
        · exact ⟨_, rfl⟩
        · exact ⟨_, rfl⟩
    obtain ⟨W, e⟩ := e
    rw [e] at hk
    obtain ⟨t, l, rfl, h1, h2, h3⟩ := keys_cons hk
    show some t.kind = some 1
    rw [h1, (verb_kd k hk0.1 hk0.2).2.1]

abbrev ats (l : List Tok) : List Nat := l.map (·.at_)

theorem stmts_place : ∀ (b : Blk) (d f e : Nat) (l R : List Tok), GoodB d b → d ≤ 20 → l.map tkey = (innerM b ++ [closeW]).map kt → 2 * (innerM b).length + 1 ≤ f →
    stmtsF f d e (l ++ R) = .ok (placeB b (ats l), R)
  | .nil, d, f, e, l, R, hg, hd, hk, hf => by
    obtain ⟨t, r, rfl, h1, h2, h3⟩ := keys_cons (w := closeW) (W := []) hk
    obtain rfl : r = [] := by simpa using h3
    obtain ⟨f, rfl⟩ : ∃ g, f = g + 1 := ⟨f - 1, by omega⟩
    rw [kt_close] at h1
    simp only at h1
    rw [stmtsF]
    simp only [List.cons_append, List.head?_cons, Option.map_some, h1, List.tail_cons, List.nil_append]
    rfl
  | .cons k p n a b r, d, f, e, l, R, hg, hd, hk, hf => by
    have hfk := first_kind hg (by simp [Blk.len]) (R := R) hk
    rw [inner_cons, List.append_assoc] at hk
    rw [inner_cons, List.length_append] at hf
    obtain ⟨l1, l2, rfl, k1, k2, n1⟩ := keys_app hk
    obtain ⟨f, rfl⟩ : ∃ g, f = g + 1 := ⟨f - 1, by omega⟩
    have hh2 : 2 ≤ (headM k n a b).length := by
      unfold headM
      split
      · simp only [List.length_append, List.length_cons]; omega
      · split
        · simp only [List.length_append, List.length_cons]; omega
        · simp
    have ihr := stmts_place r d f e l2 R hg.2 hd k2 (by omega)
    have hne := next_not_else hg.2 (R := R) k2
    rw [stmtsF, List.append_assoc] at *
    rw [hfk]
    simp only
    have key : ∃ s : StmM, stmtF f d e (l1 ++ (l2 ++ R)) = .ok (s, l2 ++ R) ∧ s.kind = k ∧ s.at_ = (ats l1).headD 0 ∧ s.name = n ∧ s.a = placeB a ((ats l1).drop 2) ∧ s.b = placeB b ((ats l1).drop (2 + ((innerM a).length + 3))) := by
      obtain ⟨f, rfl⟩ : ∃ g, f = g + 2 := ⟨f - 2, by omega⟩
      rcases hg.1 with ⟨g1, g2, g3, rfl, rfl⟩ | ⟨rfl, rfl, g3, g4, g5⟩ | ⟨rfl, rfl, g3, g4, rfl⟩
      · have e1 : headM k n .nil .nil = [verbM k, n] := by rw [headM, if_neg (by omega), if_neg (by omega)]
        rw [e1] at k1
        obtain ⟨t, l3, rfl, h1, h2, k3⟩ := keys_cons k1
        obtain ⟨u, l4, rfl, h3, h4, k4⟩ := keys_cons k3
        obtain rfl : l4 = [] := by simpa using k4
        obtain ⟨v1, v2, v3, v4⟩ := verb_kd k (by omega) (by omega)
        rw [v2] at h2
        rw [kt_name g3] at h4
        simp only at h2 h4
        refine ⟨⟨k, t.at_, n, .nil, .nil⟩, ?_, rfl, rfl, rfl, rfl, rfl⟩
        rw [List.cons_append, List.cons_append, List.nil_append, stmtF, h2, v1, if_neg (by omega), if_neg (by omega), if_neg (by omega)]
        simp only [nameF, h4, g3, if_true]
      · have hv : verbM 7 = [105, 102] := by decide
        by_cases hb : b.len = 0
        · have hbn := Blk.len_zero b hb
          subst hbn
          have e1 : headM 7 [] a .nil = verbM 7 :: openW :: (innerM a ++ [closeW]) := by simp [headM, Blk.len]
          rw [e1] at k1 n1
          obtain ⟨t, l3, rfl, h1, h2, k3⟩ := keys_cons k1
          obtain ⟨u, l4, rfl, h3, h4, k4⟩ := keys_cons k3
          rw [(verb_kd 7 (by omega) (by omega)).2.1] at h2
          rw [kt_open] at h3
          simp only at h2 h3
          have hl4 : (headM 7 [] a .nil).length = (innerM a).length + 3 := by rw [e1]; simp
          have iha := stmts_place a (d + 1) f e l4 (l2 ++ R) g4 (by omega) k4 (by omega)
          refine ⟨⟨7, t.at_, [], placeB a (ats l4), .nil⟩, ?_, rfl, rfl, rfl, rfl, rfl⟩
          rw [List.cons_append, List.cons_append, stmtF, h2, (verb_kd 7 (by omega) (by omega)).1, if_neg (by omega), if_pos rfl, blockF, if_neg (by rw [h3]; simp), if_neg (by omega), iha]
          simp only
          rw [if_neg hne]
        · have e1 : headM 7 [] a b = verbM 7 :: openW :: ((innerM a ++ [closeW]) ++ (elseM :: openW :: (innerM b ++ [closeW]))) := by simp [headM, hb]
          have hl4 : (headM 7 [] a b).length = (innerM a).length + (innerM b).length + 6 := by rw [e1]; simp only [List.length_cons, List.length_append, List.length_nil]; omega
          rw [e1] at k1 n1
          obtain ⟨t, l3, rfl, h1, h2, k3⟩ := keys_cons k1
          obtain ⟨u, l4, rfl, h3, h4, k4⟩ := keys_cons k3
          obtain ⟨l5, l6, rfl, k5, k6, n5⟩ := keys_app k4
          obtain ⟨x, l7, rfl, h5, h6, k7⟩ := keys_cons k6
          obtain ⟨y, l8, rfl, h7, h8, k8⟩ := keys_cons k7
          rw [(verb_kd 7 (by omega) (by omega)).2.1] at h2
          rw [kt_open] at h3 h7
          rw [kt_else] at h6
          simp only at h2 h3 h6 h7
          have iha := stmts_place a (d + 1) f e l5 (x :: y :: (l8 ++ (l2 ++ R))) g4 (by omega) k5 (by omega)
          have ihb := stmts_place b (d + 1) f e l8 (l2 ++ R) g5 (by omega) k8 (by omega)
          refine ⟨⟨7, t.at_, [], placeB a (ats l5), placeB b (ats l8)⟩, ?_, rfl, rfl, rfl, ?_, ?_⟩
          · rw [List.cons_append, List.cons_append, List.append_assoc, List.cons_append, List.cons_append, stmtF, h2, (verb_kd 7 (by omega) (by omega)).1, if_neg (by omega), if_pos rfl, blockF, if_neg (by rw [h3]; simp), if_neg (by omega), iha]
            simp only [nextS, h6, if_true, List.tail_cons]
            rw [blockF, if_neg (by rw [h7]; simp), if_neg (by omega), ihb]
          · simp only [ats, List.map_cons, List.map_append, List.drop_succ_cons, List.drop_zero]
            exact (place_more a _ _ _ g4 (by rw [List.length_map, n5]; simp)).symm
          · simp only [ats, List.map_cons, List.map_append]
            rw [show 2 + ((innerM a).length + 3) = ((innerM a).length + 3) + 1 + 1 by omega, List.drop_succ_cons, List.drop_succ_cons]
            rw [show (innerM a).length + 3 = (List.map (fun x => x.at_) l5).length + 2 by rw [List.length_map, n5]; simp, drop_len_add]
            rfl
      · have e1 : headM 8 [] a .nil = verbM 8 :: openW :: (innerM a ++ [closeW]) := by simp [headM]
        rw [e1] at k1 n1
        obtain ⟨t, l3, rfl, h1, h2, k3⟩ := keys_cons k1
        obtain ⟨u, l4, rfl, h3, h4, k4⟩ := keys_cons k3
        rw [(verb_kd 8 (by omega) (by omega)).2.1] at h2
        rw [kt_open] at h3
        simp only at h2 h3
        have hl4 : (headM 8 [] a .nil).length = (innerM a).length + 3 := by rw [e1]; simp
        have iha := stmts_place a (d + 1) f e l4 (l2 ++ R) g4 (by omega) k4 (by omega)
        refine ⟨⟨8, t.at_, [], placeB a (ats l4), .nil⟩, ?_, rfl, rfl, rfl, rfl, rfl⟩
        rw [List.cons_append, List.cons_append, stmtF, h2, (verb_kd 8 (by omega) (by omega)).1, if_neg (by omega), if_neg (by omega), if_pos rfl, blockF, if_neg (by rw [h3]; simp), if_neg (by omega), iha]
    obtain ⟨s, hs, e1, e2, e3, e4, e5⟩ := key
    rw [hs]
    simp only
    rw [ihr]
    simp only [e1, e2, e3, e4, e5]
    rw [placeB]
    have hnn : (ats l1).length = (headM k n a b).length := by rw [List.length_map, n1]
    obtain ⟨q1, q2, q3⟩ := head_len hg
    rw [show ats (l1 ++ l2) = ats l1 ++ ats l2 from List.map_append]
    have ea : placeB a ((ats l1 ++ ats l2).drop 2) = placeB a ((ats l1).drop 2) := by
      rcases q2 with rfl | ⟨q2, ga⟩
      · rfl
      · rw [List.drop_append_of_le_length (by omega)]
        exact place_more a _ _ _ ga (by rw [List.length_drop]; omega)
    have eb : placeB b ((ats l1 ++ ats l2).drop (2 + ((innerM a).length + 3))) = placeB b ((ats l1).drop (2 + ((innerM a).length + 3))) := by
      rcases q3 with rfl | ⟨q3, gb⟩
      · rfl
      · rw [List.drop_append_of_le_length (by omega)]
        exact place_more b _ _ _ gb (by rw [List.length_drop]; omega)
    have er : placeB r ((ats l1 ++ ats l2).drop (headM k n a b).length) = placeB r (ats l2) := by rw [← hnn, List.drop_left]
    have eh : (ats l1 ++ ats l2).headD 0 = (ats l1).headD 0 := by
      cases l1 with
      | nil => simp at hnn; omega
      | cons x l1 => rfl
    rw [ea, eb, er, eh]

end Go.Proofs.YtildkedplmjdaaaGreatDoor
namespace Go.Proofs.YtildkedplmjdaaaGreatDoor
set_option maxRecDepth 100000
set_option linter.unusedVariables false
open Go.RowKit Go.Sort

/-- A declaration by itself. -/
inductive It where
  | var (n : List UInt8)
  | lock (n : List UInt8)
  | func (n : List UInt8) (b : Blk)
def wordsI : It → List (List UInt8)
  | .var n => [varW, n]
  | .lock n => [lockW, n]
  | .func n b => [funcW, n] ++ wordsB b
def GoodI : It → Prop
  | .var n => nameM n = true
  | .lock n => nameM n = true
  | .func n b => nameM n = true ∧ GoodB 1 b
def lineI (x : It) : List UInt8 := putM false (wordsI x) ++ [10]
def itemsP (P : ProgM) : List It := P.vars.map (fun d => .var d.name) ++ P.locks.map (fun d => .lock d.name) ++ P.funcs.map (fun f => .func f.name f.body)
theorem text_items (P : ProgM) : progT P = (itemsP P).flatMap lineI := by
  unfold progT itemsP
  simp only [List.flatMap_append, List.flatMap_map]
  rfl
/-- The program with these declarations behind its own, whose words stand at these places. -/
def addI : List It → List Nat → ProgM → ProgM
  | [], _, p => p
  | .var n :: r, ps, p => addI r (ps.drop 2) { p with vars := p.vars ++ [⟨n, ps.headD 0⟩] }
  | .lock n :: r, ps, p => addI r (ps.drop 2) { p with locks := p.locks ++ [⟨n, ps.headD 0⟩] }
  | .func n b :: r, ps, p => addI r (ps.drop ((innerM b).length + 4)) { p with funcs := p.funcs ++ [⟨n, ps.headD 0, placeB b (ps.drop 3)⟩] }

theorem kt_var : kt varW = (1, varW) := by decide
theorem kt_lock : kt lockW = (1, lockW) := by decide
theorem kt_func : kt funcW = (1, funcW) := by decide

theorem prog_place : ∀ (its : List It) (f e : Nat) (l : List Tok) (p : ProgM), (∀ x ∈ its, GoodI x) → l.map tkey = (its.flatMap wordsI).map kt → its.length ≤ f → progF f e l p = .ok (addI its (ats l) p)
  | [], f, e, l, p, _, hk, _ => by
    obtain rfl : l = [] := by simpa using hk
    cases f <;> rfl
  | x :: its, f, e, l, p, hg, hk, hf => by
    have hx := hg x (by simp)
    have hr : ∀ y ∈ its, GoodI y := fun y hy => hg y (by simp [hy])
    rw [List.flatMap_cons] at hk
    simp only [List.length_cons] at hf
    obtain ⟨f, rfl⟩ : ∃ g, f = g + 1 := ⟨f - 1, by omega⟩
    obtain ⟨l1, l2, rfl, k1, k2, n1⟩ := keys_app hk
    cases x with
    | var n =>
      obtain ⟨t, l3, rfl, h1, h2, k3⟩ := keys_cons k1
      obtain ⟨u, l4, rfl, h3, h4, k4⟩ := keys_cons k3
      obtain rfl : l4 = [] := by simpa using k4
      rw [kt_var] at h2
      rw [kt_name hx] at h4
      simp only at h2 h4
      have hx' : nameM n = true := hx
      rw [List.cons_append, List.cons_append, List.nil_append, progF, if_pos h2]
      simp only [nameF, h4, hx', if_true]
      rw [prog_place its f e l2 _ hr k2 (by omega)]
      rfl
    | lock n =>
      obtain ⟨t, l3, rfl, h1, h2, k3⟩ := keys_cons k1
      obtain ⟨u, l4, rfl, h3, h4, k4⟩ := keys_cons k3
      obtain rfl : l4 = [] := by simpa using k4
      rw [kt_lock] at h2
      rw [kt_name hx] at h4
      simp only at h2 h4
      have hx' : nameM n = true := hx
      rw [List.cons_append, List.cons_append, List.nil_append, progF, if_neg (by rw [h2]; decide), if_pos h2]
      simp only [nameF, h4, hx', if_true]
      rw [prog_place its f e l2 _ hr k2 (by omega)]
      rfl
    | func n b =>
      obtain ⟨hx1, hx2⟩ := hx
      have ew : wordsI (.func n b) = funcW :: n :: openW :: (innerM b ++ [closeW]) := by simp [wordsI, wordsB]
      rw [ew] at k1
      obtain ⟨t, l3, rfl, h1, h2, k3⟩ := keys_cons k1
      obtain ⟨u, l4, rfl, h3, h4, k4⟩ := keys_cons k3
      obtain ⟨o, l5, rfl, h5, h6, k5⟩ := keys_cons k4
      rw [kt_func] at h2
      rw [kt_name hx1] at h4
      rw [kt_open] at h5
      simp only at h2 h4 h5
      have n5 : l5.length = (innerM b).length + 1 := by simpa using congrArg List.length k5
      have hB := stmts_place b 1 (2 * (o :: (l5 ++ l2)).length) e l5 l2 hx2 (by omega) k5 (by simp only [List.length_cons, List.length_append]; omega)
      rw [List.cons_append, List.cons_append, List.cons_append, progF, if_neg (by rw [h2]; decide), if_neg (by rw [h2]; decide), if_pos h2]
      simp only [nameF, h4, hx1, if_true]
      rw [blockF, if_neg (by rw [h5]; simp), if_neg (by omega), hB]
      simp only
      rw [prog_place its f e l2 _ hr k2 (by omega)]
      simp only [ats, List.map_cons, List.map_append, addI, List.headD_cons, List.drop_succ_cons, List.drop_zero]
      have e1 : (List.map (fun x => x.at_) l5 ++ List.map (fun x => x.at_) l2).drop ((innerM b).length + 1) = List.map (fun x => x.at_) l2 := by
        rw [show (innerM b).length + 1 = (List.map (fun x => x.at_) l5).length by rw [List.length_map, n5], List.drop_left]
      rw [e1, place_more b 1 _ _ hx2 (by rw [List.length_map, n5]; omega)]

/-! ### But for places -/

def eraseD (l : List DeclM) : List DeclM := l.map fun d => ⟨d.name, 0⟩
def eraseF (l : List FuncM) : List FuncM := l.map fun f => ⟨f.name, 0, eraseB f.body⟩
def eraseP (P : ProgM) : ProgM := ⟨eraseD P.vars, eraseD P.locks, eraseF P.funcs⟩
def varsI (l : List It) : List DeclM := l.flatMap fun x => match x with | .var n => [⟨n, 0⟩] | _ => []
def locksI (l : List It) : List DeclM := l.flatMap fun x => match x with | .lock n => [⟨n, 0⟩] | _ => []
def funcsI (l : List It) : List FuncM := l.flatMap fun x => match x with | .func n b => [⟨n, 0, eraseB b⟩] | _ => []
def progI (l : List It) : ProgM := ⟨varsI l, locksI l, funcsI l⟩
theorem erase_add : ∀ (its : List It) (ps : List Nat) (p : ProgM), eraseP (addI its ps p) = ⟨eraseD p.vars ++ varsI its, eraseD p.locks ++ locksI its, eraseF p.funcs ++ funcsI its⟩
  | [], ps, p => by simp [addI, eraseP, varsI, locksI, funcsI]
  | .var n :: r, ps, p => by
    rw [addI, erase_add r]
    simp [eraseD, varsI, locksI, funcsI]
  | .lock n :: r, ps, p => by
    rw [addI, erase_add r]
    simp [eraseD, varsI, locksI, funcsI]
  | .func n b :: r, ps, p => by
    rw [addI, erase_add r]
    simp [eraseF, varsI, locksI, funcsI, erase_place]
theorem erase_new (its : List It) (ps : List Nat) : eraseP (addI its ps ⟨[], [], []⟩) = progI its := by rw [erase_add]; simp [eraseD, eraseF, progI]
theorem progI_items (P : ProgM) : progI (itemsP P) = eraseP P := by
  unfold progI itemsP varsI locksI funcsI eraseP eraseD eraseF
  simp only [List.flatMap_append, List.flatMap_map]
  have h0 : ∀ {α β : Type} (l : List α), l.flatMap (fun _ => ([] : List β)) = [] := by intro α β l; induction l <;> simp_all
  have h1 : ∀ {α β : Type} (f : α → β) (l : List α), l.flatMap (fun x => [f x]) = l.map f := by intro α β f l; induction l <;> simp_all
  simp only [h0, h1, List.append_nil, List.nil_append]
theorem progI_append (a b : List It) : progI (a ++ b) = ⟨varsI a ++ varsI b, locksI a ++ locksI b, funcsI a ++ funcsI b⟩ := by simp [progI, varsI, locksI, funcsI]
theorem text_erase (P : ProgM) : progT (eraseP P) = progT P := by
  unfold progT eraseP eraseD eraseF
  simp only [List.flatMap_map]
  have : (fun f : FuncM => lineF ⟨f.name, 0, eraseB f.body⟩) = lineF := by funext f; unfold lineF; rw [words_erase]
  rw [this]
  rfl

/-! ### Tokens of what is written -/

def wl (ws : List (List UInt8)) : Nat := (ws.map fun w => w.length + 1).sum
theorem wl_cons (w : List UInt8) (ws : List (List UInt8)) : wl (w :: ws) = w.length + 1 + wl ws := by simp [wl]
theorem wl_append (a b : List (List UInt8)) : wl (a ++ b) = wl a + wl b := by simp [wl]
def posT : Nat → List (List UInt8) → List Tok
  | _, [] => []
  | i, w :: ws => ⟨(kt w).1, i, (kt w).2⟩ :: posT (i + w.length + 1) ws
theorem posT_append : ∀ (a b : List (List UInt8)) (i : Nat), posT i (a ++ b) = posT i a ++ posT (i + wl a) b
  | [], b, i => by simp [posT, wl]
  | w :: a, b, i => by
    rw [List.cons_append, posT, posT_append a b, posT, wl_cons, List.cons_append]
    rw [show i + w.length + 1 + wl a = i + (w.length + 1 + wl a) by omega]
theorem posT_keys : ∀ (ws : List (List UInt8)) (i : Nat), (posT i ws).map tkey = ws.map kt
  | [], i => rfl
  | w :: ws, i => by rw [posT, List.map_cons, posT_keys ws, List.map_cons]; rfl
theorem putM_len : ∀ (ws : List (List UInt8)), (putM true ws).length = wl ws
  | [] => rfl
  | w :: ws => by rw [putM, if_pos rfl, List.length_append, List.length_append, putM_len ws, wl_cons]; simp; omega
theorem line_len {ws : List (List UInt8)} (h : ws ≠ []) : (putM false ws ++ [10]).length = wl ws := by
  cases ws with
  | nil => exact absurd rfl h
  | cons w ws => rw [putM, if_neg (by simp), List.length_append, List.length_append, List.length_append, putM_len, wl_cons]; simp; omega
theorem tokT_word (i : Nat) (w rest : List UInt8) (h : WordOk w) (he : Ends rest) : tokT i (w ++ rest) = (⟨(kt w).1, i, (kt w).2⟩ :: (tokT (i + w.length) rest).1, (tokT (i + w.length) rest).2) := by
  rcases h with rfl | rfl | ⟨c, r, rfl, hc, hr⟩
  · rw [List.singleton_append, tokT_open]; rfl
  · rw [List.singleton_append, tokT_close]; rfl
  · rw [tokT_row _ _ _ _ hc hr he]
    have e1 : kt (c :: r) = (1, c :: r) := by
      unfold kt
      rw [if_neg (fun e => by injection e with e1 e2; subst e1; simp [letB] at hc), if_neg (fun e => by injection e with e1 e2; subst e1; simp [letB] at hc)]
    rw [e1]
theorem ends_b {c : UInt8} (h : blankB c = true) (rest : List UInt8) : Ends (c :: rest) := by
  intro x hx
  simp at hx
  subst hx
  exact blank_aln h
theorem ends_put (ws : List (List UInt8)) (rest : List UInt8) : Ends (putM true ws ++ 10 :: rest) := by
  cases ws with
  | nil => exact ends_b (by decide) rest
  | cons w ws => rw [putM, if_pos rfl]; exact ends_b (by decide) _
theorem tokT_put : ∀ (ws : List (List UInt8)) (i : Nat) (rest : List UInt8), (∀ w ∈ ws, WordOk w) → tokT i (putM true ws ++ 10 :: rest) = (posT (i + 1) ws ++ (tokT (i + wl ws + 1) rest).1, (tokT (i + wl ws + 1) rest).2)
  | [], i, rest, _ => by rw [putM, List.nil_append, tokT_blank _ _ _ (by decide)]; rfl
  | w :: ws, i, rest, h => by
    rw [putM, if_pos rfl, List.append_assoc, List.append_assoc, List.singleton_append, tokT_blank _ _ _ (by decide), tokT_word _ _ _ (h w (by simp)) (ends_put _ _), tokT_put ws _ _ (fun x hx => h x (by simp [hx])), posT, wl_cons,
      show i + 1 + w.length + wl ws + 1 = i + (w.length + 1 + wl ws) + 1 by omega]
    rfl
theorem tokT_line (ws : List (List UInt8)) (i : Nat) (rest : List UInt8) (hn : ws ≠ []) (h : ∀ w ∈ ws, WordOk w) : tokT i (putM false ws ++ [10] ++ rest) = (posT i ws ++ (tokT (i + wl ws) rest).1, (tokT (i + wl ws) rest).2) := by
  cases ws with
  | nil => exact absurd rfl hn
  | cons w ws =>
    rw [putM, if_neg (by simp), List.nil_append, List.append_assoc, List.append_assoc, List.singleton_append, tokT_word _ _ _ (h w (by simp)) (ends_put _ _), tokT_put ws _ _ (fun x hx => h x (by simp [hx])), posT, wl_cons,
      show i + w.length + wl ws + 1 = i + (w.length + 1 + wl ws) by omega]
    rfl
theorem verb_ok : ∀ k, 1 ≤ k → k ≤ 8 → WordOk (verbM k) := by
  intro k h1 h2
  obtain ⟨n, hn⟩ : ∃ n, n = verbM k := ⟨_, rfl⟩
  have : ∀ i : Fin 9, 1 ≤ i.1 → (match verbM i.1 with | [] => false | c :: r => letB c && r.all alnB) = true := by decide
  have h3 := this ⟨k, by omega⟩ h1
  simp only at h3
  cases h4 : verbM k with
  | nil => rw [h4] at h3; simp at h3
  | cons c r =>
    rw [h4] at h3
    simp only [Bool.and_eq_true] at h3
    exact .inr (.inr ⟨c, r, rfl, h3.1, h3.2⟩)
theorem name_ok {n : List UInt8} (h : nameM n = true) : WordOk n := by
  obtain ⟨c, r, rfl, hc, hr⟩ := name_row h
  exact .inr (.inr ⟨c, r, rfl, hc, hr⟩)
theorem inner_ok : ∀ (b : Blk) (d : Nat), GoodB d b → ∀ w ∈ innerM b, WordOk w
  | .nil, d, _ => by simp [innerM]
  | .cons k p n a b r, d, h => by
    have hr := inner_ok r d h.2
    have hO : WordOk openW := .inl rfl
    have hC : WordOk closeW := .inr (.inl rfl)
    have hE : WordOk elseM := .inr (.inr ⟨101, [108, 115, 101], rfl, by decide, by decide⟩)
    rw [inner_cons]
    intro w hw
    rcases List.mem_append.1 hw with hw | hw
    · rcases h.1 with ⟨g1, g2, g3, rfl, rfl⟩ | ⟨rfl, rfl, g3, g4, g5⟩ | ⟨rfl, rfl, g3, g4, rfl⟩
      · rw [headM, if_neg (by omega), if_neg (by omega)] at hw
        simp only [List.mem_cons, List.not_mem_nil, or_false] at hw
        rcases hw with rfl | rfl
        · exact verb_ok k g1 (by omega)
        · exact name_ok g3
      · have ha := inner_ok a _ g4
        have hb := inner_ok b _ g5
        rw [headM, if_pos rfl] at hw
        by_cases hz : b.len = 0
        · rw [if_pos hz] at hw
          simp only [List.mem_append, List.mem_cons, List.not_mem_nil, or_false] at hw
          rcases hw with ((rfl | rfl) | hw) | rfl
          · exact verb_ok 7 (by omega) (by omega)
          · exact hO
          · exact ha w hw
          · exact hC
        · rw [if_neg hz] at hw
          simp only [List.mem_append, List.mem_cons, List.not_mem_nil, or_false] at hw
          rcases hw with (((rfl | rfl) | hw) | ((rfl | rfl | rfl) | hw)) | rfl
          · exact verb_ok 7 (by omega) (by omega)
          · exact hO
          · exact ha w hw
          · exact hC
          · exact hE
          · exact hO
          · exact hb w hw
          · exact hC
      · have ha := inner_ok a _ g4
        rw [headM, if_neg (by omega), if_pos rfl] at hw
        simp only [List.mem_append, List.mem_cons, List.not_mem_nil, or_false] at hw
        rcases hw with ((rfl | rfl) | hw) | rfl
        · exact verb_ok 8 (by omega) (by omega)
        · exact hO
        · exact ha w hw
        · exact hC
    · exact hr w hw
theorem wordsI_ok {x : It} (h : GoodI x) : wordsI x ≠ [] ∧ ∀ w ∈ wordsI x, WordOk w := by
  have hO : WordOk openW := .inl rfl
  have hC : WordOk closeW := .inr (.inl rfl)
  cases x with
  | var n =>
    refine ⟨by simp [wordsI], fun w hw => ?_⟩
    simp only [wordsI, List.mem_cons, List.not_mem_nil, or_false] at hw
    rcases hw with rfl | rfl
    · exact .inr (.inr ⟨118, [97, 114], rfl, by decide, by decide⟩)
    · exact name_ok h
  | lock n =>
    refine ⟨by simp [wordsI], fun w hw => ?_⟩
    simp only [wordsI, List.mem_cons, List.not_mem_nil, or_false] at hw
    rcases hw with rfl | rfl
    · exact .inr (.inr ⟨108, [111, 99, 107], rfl, by decide, by decide⟩)
    · exact name_ok h
  | func n b =>
    refine ⟨by simp [wordsI], fun w hw => ?_⟩
    have hb := inner_ok b 1 h.2
    simp only [wordsI, wordsB, List.mem_append, List.mem_cons, List.not_mem_nil, or_false] at hw
    rcases hw with (rfl | rfl) | (rfl | hw) | rfl
    · exact .inr (.inr ⟨102, [117, 110, 99], rfl, by decide, by decide⟩)
    · exact name_ok h.1
    · exact hO
    · exact hb w hw
    · exact hC
theorem tokT_items : ∀ (its : List It) (i : Nat), (∀ x ∈ its, GoodI x) → tokT i (its.flatMap lineI) = (posT i (its.flatMap wordsI), none)
  | [], i, _ => tokT_nil i
  | x :: its, i, h => by
    obtain ⟨h1, h2⟩ := wordsI_ok (h x (by simp))
    rw [List.flatMap_cons, List.flatMap_cons, lineI, tokT_line _ _ _ h1 h2, tokT_items its _ (fun y hy => h y (by simp [hy])), posT_append]
theorem parse_items (its : List It) (h : ∀ x ∈ its, GoodI x) (hl : (its.flatMap lineI).length ≤ 2000) : parseM (its.flatMap lineI) = (addI its (ats (posT 0 (its.flatMap wordsI))) ⟨[], [], []⟩, 0, 0) := by
  have ht := tokM_T hl
  rw [tokT_items its 0 h] at ht
  simp only at ht
  unfold parseM
  rw [ht]
  simp only [ne_eq, not_true_eq_false, if_false]
  have hn : its.length ≤ (posT 0 (its.flatMap wordsI)).length := by
    have h1 : ∀ ws i, (posT i ws).length = ws.length := by
      intro ws
      induction ws with
      | nil => intro i; rfl
      | cons w ws ih => intro i; rw [posT, List.length_cons, List.length_cons, ih]
    rw [h1]
    clear ht hl h1
    induction its with
    | nil => simp
    | cons x its ih =>
      have := ih (fun y hy => h y (by simp [hy]))
      have h2 := (wordsI_ok (h x (by simp))).1
      have h3 : 0 < (wordsI x).length := List.length_pos_iff.2 h2
      rw [List.flatMap_cons, List.length_append, List.length_cons]
      omega
  rw [prog_place its _ _ _ _ h (posT_keys _ _) hn]
/-- Where it is said in order, a text tells its program, but for places. -/
theorem text_inj {P Q : ProgM} (hP : ∀ x ∈ itemsP P, GoodI x) (hQ : ∀ x ∈ itemsP Q, GoodI x) (h : progT P = progT Q) : eraseP P = eraseP Q := by
  rw [text_items, text_items] at h
  have h1 := tokT_items (itemsP P) 0 hP
  have h2 := tokT_items (itemsP Q) 0 hQ
  rw [h, h2] at h1
  have h3 := congrArg Prod.fst h1
  simp only at h3
  have n1 := prog_place (itemsP P) ((itemsP P).length + (itemsP Q).length) 0 _ ⟨[], [], []⟩ hP (posT_keys _ 0) (by omega)
  have n2 := prog_place (itemsP Q) ((itemsP P).length + (itemsP Q).length) 0 _ ⟨[], [], []⟩ hQ (posT_keys _ 0) (by omega)
  rw [h3] at n2
  rw [n1] at n2
  injection n2 with n3
  have := congrArg eraseP n3
  rw [erase_new, erase_new, progI_items, progI_items] at this
  exact this
theorem text_congr {P Q : ProgM} (h : eraseP P = eraseP Q) : progT P = progT Q := by rw [← text_erase P, h, text_erase]

end Go.Proofs.YtildkedplmjdaaaGreatDoor
