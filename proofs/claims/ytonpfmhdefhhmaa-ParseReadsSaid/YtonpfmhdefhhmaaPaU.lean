/-
  Where the words of a written program stand; blanks laid into a text: by chapter 6 itself. No walk is here.
-/
import Derived.Test.YtonpfmhdefhhmaaPaT
namespace Go.Proofs.Ytonpfmhdefhhmaa
set_option maxRecDepth 100000
set_option linter.unusedVariables false
open Go.RowKit Go.Sort

/-- From place i on the text has these words, with one blank between. -/
def Has (s : List UInt8) (i : Nat) (ws : List (List UInt8)) : Prop := ∃ tl, s.drop i = putM false ws ++ tl
theorem Has.pre {s : List UInt8} {i : Nat} {u v : List (List UInt8)} (h : Has s i (u ++ v)) : Has s i u := by
  obtain ⟨tl, h⟩ := h
  rw [putM_append, List.append_assoc] at h
  exact ⟨_, h⟩
theorem putM_true {ws : List (List UInt8)} (h : ws ≠ []) : putM true ws = 32 :: putM false ws := by
  cases ws with
  | nil => exact absurd rfl h
  | cons w ws => rw [putM, putM]; simp
theorem Has.tail {s : List UInt8} {i : Nat} {w : List UInt8} {ws : List (List UInt8)} (h : Has s i (w :: ws)) (hn : ws ≠ []) : Has s (i + w.length + 1) ws := by
  obtain ⟨tl, h⟩ := h
  rw [putM, if_neg (by simp), List.nil_append, putM_true hn, List.append_assoc] at h
  refine ⟨tl, ?_⟩
  rw [Nat.add_assoc, ← List.drop_drop, h, drop_len_add]
  rfl
theorem Has.behind {s : List UInt8} : ∀ {u v : List (List UInt8)} {i : Nat}, Has s i (u ++ v) → v ≠ [] → Has s (i + wl u) v
  | [], v, i, h, _ => h
  | w :: u, v, i, h, hv => by
    have := Has.behind (u := u) (Has.tail h (by simp [hv])) hv
    rw [wl_cons]
    rw [show i + (w.length + 1 + wl u) = i + w.length + 1 + wl u by omega]
    exact this
/-- What stands at a place. -/
def Reads (s : List UInt8) (p : Nat) (w : List UInt8) : Prop := p + w.length ≤ s.length ∧ (s.drop p).take w.length = w
theorem Reads.of {s : List UInt8} {p : Nat} {w tl : List UInt8} (h : s.drop p = w ++ tl) (hw : w ≠ []) : Reads s p w := by
  have h1 := congrArg List.length h
  rw [List.length_drop, List.length_append] at h1
  have h2 : 0 < w.length := List.length_pos_iff.2 hw
  refine ⟨by omega, by rw [h, List.take_left]⟩

/-- A statement's word, its name. -/
def callM (k : Nat) (n : List UInt8) : List UInt8 := if n = [] then verbM k else verbM k ++ 32 :: n
def standsB (s : List UInt8) : Nat → Blk → Prop
  | _, .nil => True
  | lo, .cons k p n a b r => (1 ≤ k ∧ k ≤ 8) ∧ lo ≤ p ∧ Reads s p (callM k n) ∧ standsB s 0 a ∧ standsB s 0 b ∧ standsB s (p + 1) r

theorem drop_pos : ∀ (n : Nat) (ws : List (List UInt8)) (i : Nat), (ats (posT i ws)).drop n = ats (posT (i + wl (ws.take n)) (ws.drop n))
  | 0, ws, i => by simp [wl]
  | n + 1, [], i => by simp [posT, ats]
  | n + 1, w :: ws, i => by
    rw [posT, ats, List.map_cons, List.drop_succ_cons]
    rw [show List.map (fun x => x.at_) (posT (i + w.length + 1) ws) = ats (posT (i + w.length + 1) ws) from rfl, drop_pos n ws, List.take_succ_cons, wl_cons, List.drop_succ_cons,
      show i + (w.length + 1 + wl (ws.take n)) = i + w.length + 1 + wl (ws.take n) by omega]
theorem drop_words (u v : List (List UInt8)) (i n : Nat) (h : n = u.length) : (ats (posT i (u ++ v))).drop n = ats (posT (i + wl u) v) := by
  rw [drop_pos, h, List.take_left, List.drop_left]

theorem place_stands (s : List UInt8) : ∀ (b : Blk) (d i lo : Nat) (ws : List (List UInt8)), GoodB d b → Has s i (innerM b ++ closeW :: ws) → lo ≤ i → standsB s lo (placeB b (ats (posT i (innerM b ++ closeW :: ws))))
  | .nil, d, i, lo, ws, _, _, _ => trivial
  | .cons k p n a b r, d, i, lo, ws, hg, hh, hlo => by
    rw [inner_cons, List.append_assoc] at hh ⊢
    rw [placeB]
    have hp : (ats (posT i (headM k n a b ++ (innerM r ++ closeW :: ws)))).headD 0 = i := by
      have : ∃ w W, headM k n a b = w :: W := by
        cases hc : headM k n a b with
        | nil => have := (head_len hg).1; rw [hc] at this; simp at this
        | cons w W => exact ⟨w, W, rfl⟩
      obtain ⟨w, W, e⟩ := this
      rw [e]
      rfl
    have hr := place_stands s r d (i + wl (headM k n a b)) (i + 1) ws hg.2 (Has.behind hh (by simp)) (by
      have : 2 ≤ wl (headM k n a b) := by
        have h1 := (head_len hg).1
        have h2 : ∀ l : List (List UInt8), l.length ≤ wl l := by
          intro l
          induction l with
          | nil => simp
          | cons x l ih => rw [wl_cons, List.length_cons]; omega
        have := h2 (headM k n a b)
        omega
      omega)
    rw [hp, drop_words _ _ i _ rfl]
    rcases hg.1 with ⟨g1, g2, g3, rfl, rfl⟩ | ⟨rfl, rfl, g3, g4, g5⟩ | ⟨rfl, rfl, g3, g4, rfl⟩
    · refine ⟨⟨g1, by omega⟩, hlo, ?_, trivial, trivial, hr⟩
      have e1 : headM k n .nil .nil = [verbM k, n] := by rw [headM, if_neg (by omega), if_neg (by omega)]
      obtain ⟨tl, h1⟩ := Has.pre hh
      rw [e1] at h1
      obtain ⟨c, r', rfl, -⟩ := name_row g3
      refine Reads.of (tl := tl) ?_ ?_
      · rw [h1, callM, if_neg (by simp), putM, if_neg (by simp), putM, if_pos rfl, putM]
        simp
      · rw [callM, if_neg (by simp)]; simp
    · have hv : callM 7 [] = verbM 7 := rfl
      have hrd : Reads s i (callM 7 []) := by
        obtain ⟨tl, h1⟩ := hh
        have : ∃ W, headM 7 [] a b = verbM 7 :: W := ⟨_, by rw [headM, if_pos rfl]; rfl⟩
        obtain ⟨W, e⟩ := this
        rw [e, List.cons_append, putM, if_neg (by simp), List.nil_append, List.append_assoc] at h1
        exact Reads.of h1 (by decide)
      by_cases hb : b.len = 0
      · have hbn := Blk.len_zero b hb
        subst hbn
        have e1 : headM 7 [] a .nil = [verbM 7, openW] ++ (innerM a ++ [closeW]) := by simp [headM, Blk.len]
        have e2 : headM 7 [] a .nil ++ (innerM r ++ closeW :: ws) = [verbM 7, openW] ++ (innerM a ++ closeW :: (innerM r ++ closeW :: ws)) := by rw [e1]; simp
        refine ⟨⟨by omega, by omega⟩, hlo, hrd, ?_, trivial, hr⟩
        rw [e2] at hh ⊢
        rw [drop_words _ _ i 2 rfl]
        exact place_stands s a (d + 1) _ 0 _ g4 (Has.behind hh (by simp)) (Nat.zero_le _)
      · have e1 : headM 7 [] a b = [verbM 7, openW] ++ (innerM a ++ closeW :: elseM :: openW :: (innerM b ++ [closeW])) := by simp [headM, hb]
        have e2 : headM 7 [] a b ++ (innerM r ++ closeW :: ws) = [verbM 7, openW] ++ (innerM a ++ closeW :: (elseM :: openW :: (innerM b ++ closeW :: (innerM r ++ closeW :: ws)))) := by rw [e1]; simp
        have e3 : headM 7 [] a b ++ (innerM r ++ closeW :: ws) = ([verbM 7, openW] ++ (innerM a ++ [closeW, elseM, openW])) ++ (innerM b ++ closeW :: (innerM r ++ closeW :: ws)) := by rw [e1]; simp
        refine ⟨⟨by omega, by omega⟩, hlo, hrd, ?_, ?_, hr⟩
        · rw [e2] at hh ⊢
          rw [drop_words _ _ i 2 rfl]
          exact place_stands s a (d + 1) _ 0 _ g4 (Has.behind hh (by simp)) (Nat.zero_le _)
        · rw [e3] at hh ⊢
          rw [drop_words _ _ i _ (by simp; omega)]
          exact place_stands s b (d + 1) _ 0 _ g5 (Has.behind hh (by simp)) (Nat.zero_le _)
    · have hrd : Reads s i (callM 8 []) := by
        obtain ⟨tl, h1⟩ := hh
        have : ∃ W, headM 8 [] a .nil = verbM 8 :: W := ⟨_, by rw [headM, if_neg (by omega), if_pos rfl]; rfl⟩
        obtain ⟨W, e⟩ := this
        rw [e, List.cons_append, putM, if_neg (by simp), List.nil_append, List.append_assoc] at h1
        exact Reads.of h1 (by decide)
      have e1 : headM 8 [] a .nil = [verbM 8, openW] ++ (innerM a ++ [closeW]) := by simp [headM]
      have e2 : headM 8 [] a .nil ++ (innerM r ++ closeW :: ws) = [verbM 8, openW] ++ (innerM a ++ closeW :: (innerM r ++ closeW :: ws)) := by rw [e1]; simp
      refine ⟨⟨by omega, by omega⟩, hlo, hrd, ?_, trivial, hr⟩
      rw [e2] at hh ⊢
      rw [drop_words _ _ i 2 rfl]
      exact place_stands s a (d + 1) _ 0 _ g4 (Has.behind hh (by simp)) (Nat.zero_le _)

def FuncOk (s : List UInt8) (f : FuncM) : Prop := Reads s f.at_ (funcW ++ 32 :: f.name) ∧ standsB s 0 f.body
theorem line_ats (x : It) (h : GoodI x) (i : Nat) (r : List (List UInt8)) : (ats (posT i (wordsI x ++ r))).headD 0 = i ∧ (ats (posT i (wordsI x ++ r))).drop (wordsI x).length = ats (posT (i + wl (wordsI x)) r) := by
  refine ⟨?_, drop_words _ _ _ _ rfl⟩
  cases x <;> rfl
theorem funcs_stand (s : List UInt8) : ∀ (its : List It) (i : Nat) (p : ProgM), (∀ x ∈ its, GoodI x) → s.drop i = its.flatMap lineI → (∀ f ∈ p.funcs, FuncOk s f) → ∀ f ∈ (addI its (ats (posT i (its.flatMap wordsI))) p).funcs, FuncOk s f
  | [], i, p, _, _, hp => hp
  | x :: its, i, p, hg, hs, hp => by
    have hx := hg x (by simp)
    have hr : ∀ y ∈ its, GoodI y := fun y hy => hg y (by simp [hy])
    obtain ⟨e1, e2⟩ := line_ats x hx i (its.flatMap wordsI)
    rw [List.flatMap_cons] at hs ⊢
    have hs2 : s.drop (i + wl (wordsI x)) = its.flatMap lineI := by
      have h1 := line_len (wordsI_ok hx).1
      rw [← List.drop_drop, hs, ← h1]
      exact List.drop_left
    cases x with
    | var n =>
      rw [addI, show (2 : Nat) = (wordsI (.var n)).length from rfl, e2]
      exact funcs_stand s its _ _ hr hs2 hp
    | lock n =>
      rw [addI, show (2 : Nat) = (wordsI (.lock n)).length from rfl, e2]
      exact funcs_stand s its _ _ hr hs2 hp
    | func n b =>
      have ew : wordsI (.func n b) = [funcW, n, openW] ++ (innerM b ++ [closeW]) := by simp [wordsI, wordsB]
      rw [addI, show (innerM b).length + 4 = (wordsI (.func n b)).length by rw [ew]; simp, e2, e1]
      refine funcs_stand s its _ _ hr hs2 (fun f hf => ?_)
      simp only [List.mem_append, List.mem_singleton] at hf
      rcases hf with hf | rfl
      · exact hp f hf
      · have hhas : Has s i (wordsI (.func n b)) := ⟨10 :: its.flatMap lineI, by rw [hs, lineI, List.append_assoc]; rfl⟩
        refine ⟨?_, ?_⟩
        · obtain ⟨tl, h1⟩ := hhas
          rw [ew, List.cons_append, List.cons_append, putM, if_neg (by simp), putM, if_pos rfl] at h1
          refine Reads.of (tl := putM true ([openW] ++ (innerM b ++ [closeW])) ++ tl) ?_ (by simp [funcW])
          rw [h1]
          simp
        · simp only
          rw [ew] at hhas ⊢
          rw [show [funcW, n, openW] ++ (innerM b ++ [closeW]) ++ its.flatMap wordsI = [funcW, n, openW] ++ (innerM b ++ closeW :: its.flatMap wordsI) by simp, drop_words _ _ i 3 rfl]
          have h3 := place_stands s b 1 (i + wl [funcW, n, openW]) 0 [] hx.2 (Has.behind hhas (by simp)) (Nat.zero_le _)
          have h4 : ats (posT (i + wl [funcW, n, openW]) (innerM b ++ closeW :: its.flatMap wordsI)) = ats (posT (i + wl [funcW, n, openW]) (innerM b ++ [closeW])) ++ ats (posT (i + wl [funcW, n, openW] + wl (innerM b ++ [closeW])) (its.flatMap wordsI)) := by
            rw [show innerM b ++ closeW :: its.flatMap wordsI = (innerM b ++ [closeW]) ++ its.flatMap wordsI by simp, posT_append, ats, List.map_append]
          have hlen : ∀ ws i, (ats (posT i ws)).length = ws.length := by
            intro ws
            induction ws with
            | nil => intro i; rfl
            | cons w ws ih => intro i; rw [posT, ats, List.map_cons, List.length_cons, List.length_cons]; exact congrArg (· + 1) (ih _)
          rw [h4, place_more b 1 _ _ hx.2 (by rw [hlen]; simp)]
          exact h3

/-! ### Blanks more -/

/-- The text with two blanks behind some of its blanks. -/
def moreM (by_ : Nat) : Nat → List UInt8 → List UInt8
  | _, [] => []
  | i, c :: r => c :: ((if c = 32 ∧ (i + by_) % 7 = 0 then [10, 9] else []) ++ moreM by_ (i + 1) r)
theorem more_row (m : Nat) : ∀ (r rest : List UInt8) (i : Nat), r.all alnB = true → moreM m i (r ++ rest) = r ++ moreM m (i + r.length) rest
  | [], rest, i, _ => rfl
  | c :: r, rest, i, h => by
    simp only [List.all_cons, Bool.and_eq_true] at h
    have hc : c ≠ 32 := by rintro rfl; exact absurd h.1 (by decide)
    rw [List.cons_append, moreM, if_neg (by simp [hc]), more_row m r rest _ h.2, List.length_cons, List.nil_append, List.cons_append, show i + 1 + r.length = i + (r.length + 1) by omega]
theorem ends_more (m i : Nat) {rest : List UInt8} (h : Ends rest) : Ends (moreM m i rest) := by
  cases rest with
  | nil => exact h
  | cons c r =>
    intro x hx
    rw [moreM] at hx
    simp at hx
    subst hx
    exact h c rfl
theorem more_keys (m : Nat) : ∀ (n : Nat) (s : List UInt8) (i j k : Nat), s.length ≤ n → (tokT j (moreM m i s)).1.map tkey = (tokT k s).1.map tkey ∧ ((tokT k s).2 = none → (tokT j (moreM m i s)).2 = none)
  | n, [], i, j, k, _ => by rw [moreM, tokT_nil, tokT_nil]; exact ⟨rfl, fun _ => rfl⟩
  | 0, c :: r, i, j, k, h => by simp at h
  | n + 1, c :: r, i, j, k, h => by
    simp only [List.length_cons] at h
    by_cases hl : letB c = true
    · have e : c :: r = (c :: r.takeWhile alnB) ++ r.dropWhile alnB := by rw [List.cons_append, List.takeWhile_append_dropWhile]
      have ha : (r.takeWhile alnB).all alnB = true := by rw [List.all_eq_true]; exact fun x hx => takeWhile_all r x hx
      have hc : alnB c = true := by simp [alnB, hl]
      have he : Ends (r.dropWhile alnB) := by
        intro x hx
        have := List.head?_dropWhile_not alnB r
        rw [hx] at this
        simpa using this
      have hd : (r.dropWhile alnB).length ≤ n := Nat.le_trans (List.dropWhile_suffix (p := alnB) (l := r)).length_le (by omega)
      rw [e, more_row m _ _ _ (by simp [hc, ha]), tokT_row _ _ _ _ hl ha he, tokT_row _ _ _ _ hl ha (ends_more _ _ he)]
      obtain ⟨h1, h2⟩ := more_keys m n (r.dropWhile alnB) (i + (c :: r.takeWhile alnB).length) (j + (c :: r.takeWhile alnB).length) (k + (c :: r.takeWhile alnB).length) hd
      refine ⟨?_, h2⟩
      simp only [List.map_cons, h1]
      rfl
    · by_cases ho : c = 123
      · subst ho
        rw [moreM, if_neg (fun h => absurd h.1 (by decide)), List.nil_append, tokT_open, tokT_open]
        obtain ⟨h1, h2⟩ := more_keys m n r (i + 1) (j + 1) (k + 1) (by omega)
        exact ⟨by simp only [List.map_cons, h1]; rfl, h2⟩
      · by_cases hcl : c = 125
        · subst hcl
          rw [moreM, if_neg (fun h => absurd h.1 (by decide)), List.nil_append, tokT_close, tokT_close]
          obtain ⟨h1, h2⟩ := more_keys m n r (i + 1) (j + 1) (k + 1) (by omega)
          exact ⟨by simp only [List.map_cons, h1]; rfl, h2⟩
        · by_cases hb : blankB c = true
          · rw [tokT_blank k c r hb, moreM, tokT_blank j c _ hb]
            split
            · rw [List.cons_append, List.cons_append, List.nil_append, tokT_blank _ _ _ (by decide), tokT_blank _ _ _ (by decide)]
              exact more_keys m n r (i + 1) _ _ (by omega)
            · rw [List.nil_append]
              exact more_keys m n r (i + 1) _ _ (by omega)
          · have h1 : c.toNat ≠ 123 := fun e => ho (UInt8.toNat_inj.1 e)
            have h2 : c.toNat ≠ 125 := fun e => hcl (UInt8.toNat_inj.1 e)
            have h3 : letB c = false := by simpa using hl
            have h4 : blankB c = false := by simpa using hb
            rw [moreM, tokT_bad _ _ _ h3 h1 h2 h4, tokT_bad _ _ _ h3 h1 h2 h4]
            exact ⟨rfl, fun h => by cases h⟩
theorem parse_keys (its : List It) (h : ∀ x ∈ its, GoodI x) (t : List UInt8) (hl : t.length ≤ 2000) (hk : (tokT 0 t).1.map tkey = (its.flatMap wordsI).map kt) (h2 : (tokT 0 t).2 = none) : ∃ ps, parseM t = (addI its ps ⟨[], [], []⟩, 0, 0) := by
  have ht := tokM_T hl
  generalize tokT 0 t = x at *
  obtain ⟨l, o⟩ := x
  simp only at h2 hk
  subst h2
  simp only at ht
  unfold parseM
  rw [ht]
  simp only [ne_eq, not_true_eq_false, if_false]
  have hn : its.length ≤ l.length := by
    have h1 := congrArg List.length hk
    rw [List.length_map, List.length_map] at h1
    rw [h1]
    clear ht hl h1 hk
    induction its with
    | nil => simp
    | cons x its ih =>
      have := ih (fun y hy => h y (by simp [hy]))
      have h2 := (wordsI_ok (h x (by simp))).1
      have h3 : 0 < (wordsI x).length := List.length_pos_iff.2 h2
      rw [List.flatMap_cons, List.length_append, List.length_cons]
      omega
  rw [prog_place its _ _ _ _ h hk hn]
  exact ⟨_, rfl⟩
theorem parse_more (its : List It) (h : ∀ x ∈ its, GoodI x) (m : Nat) (hl : (moreM m 0 (its.flatMap lineI)).length ≤ 2000) : ∃ ps, parseM (moreM m 0 (its.flatMap lineI)) = (addI its ps ⟨[], [], []⟩, 0, 0) := by
  obtain ⟨h1, h2⟩ := more_keys m _ (its.flatMap lineI) 0 0 0 (Nat.le_refl _)
  rw [tokT_items its 0 h] at h1 h2
  exact parse_keys its h _ hl (by rw [h1]; exact posT_keys _ _) (h2 rfl)

end Go.Proofs.Ytonpfmhdefhhmaa
