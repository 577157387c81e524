/-
  What is written of a program is read as it was, but for its places: by chapter 6 itself. No walk is here.
-/
import Derived.Test.YtonpfmhdefhhmaaPaR
namespace Go.Proofs.Ytonpfmhdefhhmaa
set_option maxRecDepth 100000
set_option linter.unusedVariables false
open Go.RowKit Go.Sort

theorem drop_len_add {α : Type} (l1 l2 : List α) (n : Nat) : (l1 ++ l2).drop (l1.length + n) = l2.drop n := by rw [← List.drop_drop, List.drop_left]
def tkey (t : Tok) : Nat × List UInt8 := (t.kind, t.s)
/-- The words of a statement. -/
def headM (k : Nat) (n : List UInt8) (a b : Blk) : List (List UInt8) :=
  if k = 7 then [verbM k, openW] ++ innerM a ++ (if b.len = 0 then [] else [closeW, elseM, openW] ++ innerM b) ++ [closeW]
  else if k = 8 then [verbM k, openW] ++ innerM a ++ [closeW]
  else [verbM k, n]
theorem inner_cons (k p : Nat) (n : List UInt8) (a b r : Blk) : innerM (.cons k p n a b r) = headM k n a b ++ innerM r := by rw [innerM, headM]

/-- Statements that a text may have, within so many blocks. -/
def GoodB : Nat → Blk → Prop
  | _, .nil => True
  | d, .cons k _ n a b r => ((1 ≤ k ∧ k ≤ 6 ∧ nameM n = true ∧ a = .nil ∧ b = .nil) ∨ (k = 7 ∧ n = [] ∧ d < 20 ∧ GoodB (d + 1) a ∧ GoodB (d + 1) b) ∨ (k = 8 ∧ n = [] ∧ d < 20 ∧ GoodB (d + 1) a ∧ b = .nil)) ∧ GoodB d r

/-- The same statements where these places are their words'. -/
def placeB : Blk → List Nat → Blk
  | .nil, _ => .nil
  | .cons k _ n a b r, ps => .cons k (ps.headD 0) n (placeB a (ps.drop 2)) (placeB b (ps.drop (2 + ((innerM a).length + 3)))) (placeB r (ps.drop (headM k n a b).length))
def eraseB : Blk → Blk
  | .nil => .nil
  | .cons k _ n a b r => .cons k 0 n (eraseB a) (eraseB b) (eraseB r)
theorem erase_place : ∀ (b : Blk) (ps : List Nat), eraseB (placeB b ps) = eraseB b
  | .nil, ps => rfl
  | .cons k p n a b r, ps => by rw [placeB, eraseB, eraseB, erase_place a, erase_place b, erase_place r]
theorem len_erase : ∀ (b : Blk), (eraseB b).len = b.len
  | .nil => rfl
  | .cons k p n a b r => by rw [eraseB, Blk.len, Blk.len, len_erase r]
theorem inner_erase : ∀ (b : Blk), innerM (eraseB b) = innerM b
  | .nil => rfl
  | .cons k p n a b r => by rw [eraseB, innerM, innerM, inner_erase a, inner_erase b, inner_erase r, len_erase b]
theorem words_erase (b : Blk) : wordsB (eraseB b) = wordsB b := by unfold wordsB; rw [inner_erase]

theorem verb_kd : ∀ k, 1 ≤ k → k ≤ 8 → kindM (verbM k) = k ∧ kt (verbM k) = (1, verbM k) ∧ verbM k ≠ elseM ∧ verbM k ≠ [] := by
  intro k h1 h2
  have : ∀ i : Fin 9, 1 ≤ i.1 → kindM (verbM i.1) = i.1 ∧ kt (verbM i.1) = (1, verbM i.1) ∧ verbM i.1 ≠ elseM ∧ verbM i.1 ≠ [] := by decide
  exact this ⟨k, by omega⟩ h1
theorem kt_open : kt openW = (2, []) := by decide
theorem kt_close : kt closeW = (3, []) := by decide
theorem kt_else : kt elseM = (1, elseM) := by decide
theorem name_row {n : List UInt8} (h : nameM n = true) : ∃ c r, n = c :: r ∧ letB c = true ∧ r.all alnB = true := by
  unfold nameM at h
  simp only [Bool.and_eq_true, decide_eq_true_eq] at h
  obtain ⟨⟨⟨h1, h2⟩, h3⟩, h4⟩ := h
  cases n with
  | nil => simp at h1
  | cons c r =>
    by_cases hc : letB c = true
    · refine ⟨c, r, rfl, hc, ?_⟩
      rw [rowM, if_pos hc] at h3
      injection h3 with h5 h6
      rw [← h6, List.all_eq_true]
      exact fun x hx => takeWhile_all r x hx
    · rw [rowM, if_neg hc] at h3; cases h3
theorem kt_name {n : List UInt8} (h : nameM n = true) : kt n = (1, n) := by
  obtain ⟨c, r, rfl, hc, hr⟩ := name_row h
  unfold kt
  rw [if_neg (fun e => by injection e with e1 e2; subst e1; simp [letB] at hc), if_neg (fun e => by injection e with e1 e2; subst e1; simp [letB] at hc)]

theorem head_len {k d : Nat} {n : List UInt8} {a b r : Blk} {p : Nat} (h : GoodB d (.cons k p n a b r)) : 2 ≤ (headM k n a b).length ∧ (a = .nil ∨ (innerM a).length + 3 ≤ (headM k n a b).length ∧ GoodB (d + 1) a) ∧ (b = .nil ∨ (innerM a).length + (innerM b).length + 6 ≤ (headM k n a b).length ∧ GoodB (d + 1) b) := by
  rcases h.1 with ⟨g1, g2, g3, rfl, rfl⟩ | ⟨rfl, rfl, g3, g4, g5⟩ | ⟨rfl, rfl, g3, g4, rfl⟩
  · rw [headM, if_neg (by omega), if_neg (by omega)]
    exact ⟨Nat.le_refl _, .inl rfl, .inl rfl⟩
  · by_cases hb : b.len = 0
    · have hbn := Blk.len_zero b hb
      subst hbn
      have e1 : (headM 7 [] a .nil).length = (innerM a).length + 3 := by simp [headM, Blk.len]
      exact ⟨by omega, .inr ⟨by omega, g4⟩, .inl rfl⟩
    · have e1 : headM 7 [] a b = verbM 7 :: openW :: ((innerM a ++ [closeW]) ++ (elseM :: openW :: (innerM b ++ [closeW]))) := by simp [headM, hb]
      have e2 := congrArg List.length e1
      simp only [List.length_cons, List.length_append, List.length_nil] at e2
      exact ⟨by omega, .inr ⟨by omega, g4⟩, .inr ⟨by omega, g5⟩⟩
  · have e1 : (headM 8 [] a .nil).length = (innerM a).length + 3 := by simp [headM]
    exact ⟨by omega, .inr ⟨by omega, g4⟩, .inl rfl⟩

theorem place_more : ∀ (b : Blk) (d : Nat) (ps qs : List Nat), GoodB d b → (innerM b).length ≤ ps.length → placeB b (ps ++ qs) = placeB b ps
  | .nil, d, ps, qs, _, _ => rfl
  | .cons k p n a b r, d, ps, qs, h, hl => by
    obtain ⟨h1, h2, h3⟩ := head_len h
    rw [inner_cons, List.length_append] at hl
    rw [placeB, placeB]
    have ea : placeB a ((ps ++ qs).drop 2) = placeB a (ps.drop 2) := by
      rcases h2 with rfl | ⟨h2, ga⟩
      · rfl
      · rw [List.drop_append_of_le_length (by omega)]
        exact place_more a _ _ _ ga (by rw [List.length_drop]; omega)
    have eb : placeB b ((ps ++ qs).drop (2 + ((innerM a).length + 3))) = placeB b (ps.drop (2 + ((innerM a).length + 3))) := by
      rcases h3 with rfl | ⟨h3, gb⟩
      · rfl
      · rw [List.drop_append_of_le_length (by omega)]
        exact place_more b _ _ _ gb (by rw [List.length_drop]; omega)
    have er : placeB r ((ps ++ qs).drop (headM k n a b).length) = placeB r (ps.drop (headM k n a b).length) := by
      rw [List.drop_append_of_le_length (by omega)]
      exact place_more r _ _ _ h.2 (by rw [List.length_drop]; omega)
    have eh : (ps ++ qs).headD 0 = ps.headD 0 := by
      have hp : 0 < ps.length := by omega
      cases ps with
      | nil => simp at hp
      | cons x ps => rfl
    rw [ea, eb, er, eh]

theorem keys_cons {l : List Tok} {w : List UInt8} {W : List (List UInt8)} (h : l.map tkey = (w :: W).map kt) : ∃ t r, l = t :: r ∧ t.kind = (kt w).1 ∧ t.s = (kt w).2 ∧ r.map tkey = W.map kt := by
  cases l with
  | nil => simp at h
  | cons t r =>
    simp only [List.map_cons, List.cons.injEq] at h
    refine ⟨t, r, rfl, ?_, ?_, h.2⟩
    · rw [← h.1]; rfl
    · rw [← h.1]; rfl
theorem keys_app {l : List Tok} {V W : List (List UInt8)} (h : l.map tkey = (V ++ W).map kt) : ∃ l1 l2, l = l1 ++ l2 ∧ l1.map tkey = V.map kt ∧ l2.map tkey = W.map kt ∧ l1.length = V.length := by
  rw [List.map_append, List.map_eq_append_iff] at h
  obtain ⟨l1, l2, rfl, h1, h2⟩ := h
  exact ⟨l1, l2, rfl, h1, h2, by simpa using congrArg List.length h1⟩

theorem next_not_else {b : Blk} {d : Nat} (h : GoodB d b) {l R : List Tok} (hk : l.map tkey = (innerM b ++ [closeW]).map kt) : nextS (l ++ R) ≠ elseM := by
  cases b with
  | nil =>
    obtain ⟨t, r, rfl, h1, h2, h3⟩ := keys_cons (w := closeW) (W := []) hk
    show t.s ≠ elseM
    rw [h2, kt_close]
    decide
  | cons k p n a b r =>
    have hk0 : 1 ≤ k ∧ k ≤ 8 := by rcases h.1 with h | h | h <;> omega
    have e : ∃ W, innerM (.cons k p n a b r) ++ [closeW] = verbM k :: W := by
      rw [inner_cons, headM]
      split
      · exact ⟨_, rfl⟩
      · split
        · exact ⟨_, rfl⟩
        · exact ⟨_, rfl⟩
    obtain ⟨W, e⟩ := e
    rw [e] at hk
    obtain ⟨t, l, rfl, h1, h2, h3⟩ := keys_cons hk
    show t.s ≠ elseM
    rw [h2, (verb_kd k hk0.1 hk0.2).2.1]
    exact (verb_kd k hk0.1 hk0.2).2.2.1
theorem first_kind {b : Blk} {d : Nat} (h : GoodB d b) (hb : 0 < b.len) {l R : List Tok} (hk : l.map tkey = (innerM b ++ [closeW]).map kt) : (l ++ R).head?.map (·.kind) = some 1 := by
  cases b with
  | nil => simp [Blk.len] at hb
  | cons k p n a b r =>
    have hk0 : 1 ≤ k ∧ k ≤ 8 := by rcases h.1 with h | h | h <;> omega
    have e : ∃ W, innerM (.cons k p n a b r) ++ [closeW] = verbM k :: W := by
      rw [inner_cons, headM]
      split
      · exact ⟨_, rfl⟩
      · split
        · exact ⟨_, rfl⟩
        · exact ⟨_, rfl⟩
    obtain ⟨W, e⟩ := e
    rw [e] at hk
    obtain ⟨t, l, rfl, h1, h2, h3⟩ := keys_cons hk
    show some t.kind = some 1
    rw [h1, (verb_kd k hk0.1 hk0.2).2.1]

abbrev ats (l : List Tok) : List Nat := l.map (·.at_)

theorem stmts_place : ∀ (b : Blk) (d f e : Nat) (l R : List Tok), GoodB d b → d ≤ 20 → l.map tkey = (innerM b ++ [closeW]).map kt → 2 * (innerM b).length + 1 ≤ f →
    stmtsF f d e (l ++ R) = .ok (placeB b (ats l), R)
  | .nil, d, f, e, l, R, hg, hd, hk, hf => by
    obtain ⟨t, r, rfl, h1, h2, h3⟩ := keys_cons (w := closeW) (W := []) hk
    obtain rfl : r = [] := by simpa using h3
    obtain ⟨f, rfl⟩ : ∃ g, f = g + 1 := ⟨f - 1, by omega⟩
    rw [kt_close] at h1
    simp only at h1
    rw [stmtsF]
    simp only [List.cons_append, List.head?_cons, Option.map_some, h1, List.tail_cons, List.nil_append]
    rfl
  | .cons k p n a b r, d, f, e, l, R, hg, hd, hk, hf => by
    have hfk := first_kind hg (by simp [Blk.len]) (R := R) hk
    rw [inner_cons, List.append_assoc] at hk
    rw [inner_cons, List.length_append] at hf
    obtain ⟨l1, l2, rfl, k1, k2, n1⟩ := keys_app hk
    obtain ⟨f, rfl⟩ : ∃ g, f = g + 1 := ⟨f - 1, by omega⟩
    have hh2 : 2 ≤ (headM k n a b).length := by
      unfold headM
      split
      · simp only [List.length_append, List.length_cons]; omega
      · split
        · simp only [List.length_append, List.length_cons]; omega
        · simp
    have ihr := stmts_place r d f e l2 R hg.2 hd k2 (by omega)
    have hne := next_not_else hg.2 (R := R) k2
    rw [stmtsF, List.append_assoc] at *
    rw [hfk]
    simp only
    have key : ∃ s : StmM, stmtF f d e (l1 ++ (l2 ++ R)) = .ok (s, l2 ++ R) ∧ s.kind = k ∧ s.at_ = (ats l1).headD 0 ∧ s.name = n ∧ s.a = placeB a ((ats l1).drop 2) ∧ s.b = placeB b ((ats l1).drop (2 + ((innerM a).length + 3))) := by
      obtain ⟨f, rfl⟩ : ∃ g, f = g + 2 := ⟨f - 2, by omega⟩
      rcases hg.1 with ⟨g1, g2, g3, rfl, rfl⟩ | ⟨rfl, rfl, g3, g4, g5⟩ | ⟨rfl, rfl, g3, g4, rfl⟩
      · have e1 : headM k n .nil .nil = [verbM k, n] := by rw [headM, if_neg (by omega), if_neg (by omega)]
        rw [e1] at k1
        obtain ⟨t, l3, rfl, h1, h2, k3⟩ := keys_cons k1
        obtain ⟨u, l4, rfl, h3, h4, k4⟩ := keys_cons k3
        obtain rfl : l4 = [] := by simpa using k4
        obtain ⟨v1, v2, v3, v4⟩ := verb_kd k (by omega) (by omega)
        rw [v2] at h2
        rw [kt_name g3] at h4
        simp only at h2 h4
        refine ⟨⟨k, t.at_, n, .nil, .nil⟩, ?_, rfl, rfl, rfl, rfl, rfl⟩
        rw [List.cons_append, List.cons_append, List.nil_append, stmtF, h2, v1, if_neg (by omega), if_neg (by omega), if_neg (by omega)]
        simp only [nameF, h4, g3, if_true]
      · have hv : verbM 7 = [105, 102] := by decide
        by_cases hb : b.len = 0
        · have hbn := Blk.len_zero b hb
          subst hbn
          have e1 : headM 7 [] a .nil = verbM 7 :: openW :: (innerM a ++ [closeW]) := by simp [headM, Blk.len]
          rw [e1] at k1 n1
          obtain ⟨t, l3, rfl, h1, h2, k3⟩ := keys_cons k1
          obtain ⟨u, l4, rfl, h3, h4, k4⟩ := keys_cons k3
          rw [(verb_kd 7 (by omega) (by omega)).2.1] at h2
          rw [kt_open] at h3
          simp only at h2 h3
          have hl4 : (headM 7 [] a .nil).length = (innerM a).length + 3 := by rw [e1]; simp
          have iha := stmts_place a (d + 1) f e l4 (l2 ++ R) g4 (by omega) k4 (by omega)
          refine ⟨⟨7, t.at_, [], placeB a (ats l4), .nil⟩, ?_, rfl, rfl, rfl, rfl, rfl⟩
          rw [List.cons_append, List.cons_append, stmtF, h2, (verb_kd 7 (by omega) (by omega)).1, if_neg (by omega), if_pos rfl, blockF, if_neg (by rw [h3]; simp), if_neg (by omega), iha]
          simp only
          rw [if_neg hne]
        · have e1 : headM 7 [] a b = verbM 7 :: openW :: ((innerM a ++ [closeW]) ++ (elseM :: openW :: (innerM b ++ [closeW]))) := by simp [headM, hb]
          have hl4 : (headM 7 [] a b).length = (innerM a).length + (innerM b).length + 6 := by rw [e1]; simp only [List.length_cons, List.length_append, List.length_nil]; omega
          rw [e1] at k1 n1
          obtain ⟨t, l3, rfl, h1, h2, k3⟩ := keys_cons k1
          obtain ⟨u, l4, rfl, h3, h4, k4⟩ := keys_cons k3
          obtain ⟨l5, l6, rfl, k5, k6, n5⟩ := keys_app k4
          obtain ⟨x, l7, rfl, h5, h6, k7⟩ := keys_cons k6
          obtain ⟨y, l8, rfl, h7, h8, k8⟩ := keys_cons k7
          rw [(verb_kd 7 (by omega) (by omega)).2.1] at h2
          rw [kt_open] at h3 h7
          rw [kt_else] at h6
          simp only at h2 h3 h6 h7
          have iha := stmts_place a (d + 1) f e l5 (x :: y :: (l8 ++ (l2 ++ R))) g4 (by omega) k5 (by omega)
          have ihb := stmts_place b (d + 1) f e l8 (l2 ++ R) g5 (by omega) k8 (by omega)
          refine ⟨⟨7, t.at_, [], placeB a (ats l5), placeB b (ats l8)⟩, ?_, rfl, rfl, rfl, ?_, ?_⟩
          · rw [List.cons_append, List.cons_append, List.append_assoc, List.cons_append, List.cons_append, stmtF, h2, (verb_kd 7 (by omega) (by omega)).1, if_neg (by omega), if_pos rfl, blockF, if_neg (by rw [h3]; simp), if_neg (by omega), iha]
            simp only [nextS, h6, if_true, List.tail_cons]
            rw [blockF, if_neg (by rw [h7]; simp), if_neg (by omega), ihb]
          · simp only [ats, List.map_cons, List.map_append, List.drop_succ_cons, List.drop_zero]
            exact (place_more a _ _ _ g4 (by rw [List.length_map, n5]; simp)).symm
          · simp only [ats, List.map_cons, List.map_append]
            rw [show 2 + ((innerM a).length + 3) = ((innerM a).length + 3) + 1 + 1 by omega, List.drop_succ_cons, List.drop_succ_cons]
            rw [show (innerM a).length + 3 = (List.map (fun x => x.at_) l5).length + 2 by rw [List.length_map, n5]; simp, drop_len_add]
            rfl
      · have e1 : headM 8 [] a .nil = verbM 8 :: openW :: (innerM a ++ [closeW]) := by simp [headM]
        rw [e1] at k1 n1
        obtain ⟨t, l3, rfl, h1, h2, k3⟩ := keys_cons k1
        obtain ⟨u, l4, rfl, h3, h4, k4⟩ := keys_cons k3
        rw [(verb_kd 8 (by omega) (by omega)).2.1] at h2
        rw [kt_open] at h3
        simp only at h2 h3
        have hl4 : (headM 8 [] a .nil).length = (innerM a).length + 3 := by rw [e1]; simp
        have iha := stmts_place a (d + 1) f e l4 (l2 ++ R) g4 (by omega) k4 (by omega)
        refine ⟨⟨8, t.at_, [], placeB a (ats l4), .nil⟩, ?_, rfl, rfl, rfl, rfl, rfl⟩
        rw [List.cons_append, List.cons_append, stmtF, h2, (verb_kd 8 (by omega) (by omega)).1, if_neg (by omega), if_neg (by omega), if_pos rfl, blockF, if_neg (by rw [h3]; simp), if_neg (by omega), iha]
    obtain ⟨s, hs, e1, e2, e3, e4, e5⟩ := key
    rw [hs]
    simp only
    rw [ihr]
    simp only [e1, e2, e3, e4, e5]
    rw [placeB]
    have hnn : (ats l1).length = (headM k n a b).length := by rw [List.length_map, n1]
    obtain ⟨q1, q2, q3⟩ := head_len hg
    rw [show ats (l1 ++ l2) = ats l1 ++ ats l2 from List.map_append]
    have ea : placeB a ((ats l1 ++ ats l2).drop 2) = placeB a ((ats l1).drop 2) := by
      rcases q2 with rfl | ⟨q2, ga⟩
      · rfl
      · rw [List.drop_append_of_le_length (by omega)]
        exact place_more a _ _ _ ga (by rw [List.length_drop]; omega)
    have eb : placeB b ((ats l1 ++ ats l2).drop (2 + ((innerM a).length + 3))) = placeB b ((ats l1).drop (2 + ((innerM a).length + 3))) := by
      rcases q3 with rfl | ⟨q3, gb⟩
      · rfl
      · rw [List.drop_append_of_le_length (by omega)]
        exact place_more b _ _ _ gb (by rw [List.length_drop]; omega)
    have er : placeB r ((ats l1 ++ ats l2).drop (headM k n a b).length) = placeB r (ats l2) := by rw [← hnn, List.drop_left]
    have eh : (ats l1 ++ ats l2).headD 0 = (ats l1).headD 0 := by
      cases l1 with
      | nil => simp at hnn; omega
      | cons x l1 => rfl
    rw [ea, eb, er, eh]

end Go.Proofs.Ytonpfmhdefhhmaa
