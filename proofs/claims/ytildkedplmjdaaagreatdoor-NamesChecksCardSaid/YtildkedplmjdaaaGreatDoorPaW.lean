/-
  What raw statements make: statements, programs, how many, how deep. No walk is here.
-/
import Derived.Test.YtildkedplmjdaaaGreatDoorPaT
import Derived.Deep.Slices
import Derived.Deep.Fields
namespace Go.Proofs.YtildkedplmjdaaaGreatDoor
set_option maxRecDepth 100000
set_option linter.unusedVariables false
open Go.RowKit Go.Sort

/-- From place i on the text has these words, with one blank between. -/
def Has (s : List UInt8) (i : Nat) (ws : List (List UInt8)) : Prop := ∃ tl, s.drop i = putM false ws ++ tl
theorem Has.pre {s : List UInt8} {i : Nat} {u v : List (List UInt8)} (h : Has s i (u ++ v)) : Has s i u := by
  obtain ⟨tl, h⟩ := h
  rw [putM_append, List.append_assoc] at h
  exact ⟨_, h⟩
theorem putM_true {ws : List (List UInt8)} (h : ws ≠ []) : putM true ws = 32 :: putM false ws := by
  cases ws with
  | nil => exact absurd rfl h
  | cons w ws => rw [putM, putM]; simp
theorem Has.tail {s : List UInt8} {i : Nat} {w : List UInt8} {ws : List (List UInt8)} (h : Has s i (w :: ws)) (hn : ws ≠ []) : Has s (i + w.length + 1) ws := by
  obtain ⟨tl, h⟩ := h
  rw [putM, if_neg (by simp), List.nil_append, putM_true hn, List.append_assoc] at h
  refine ⟨tl, ?_⟩
  rw [Nat.add_assoc, ← List.drop_drop, h, drop_len_add]
  rfl
theorem Has.behind {s : List UInt8} : ∀ {u v : List (List UInt8)} {i : Nat}, Has s i (u ++ v) → v ≠ [] → Has s (i + wl u) v
  | [], v, i, h, _ => h
  | w :: u, v, i, h, hv => by
    have := Has.behind (u := u) (Has.tail h (by simp [hv])) hv
    rw [wl_cons]
    rw [show i + (w.length + 1 + wl u) = i + w.length + 1 + wl u by omega]
    exact this
/-- What stands at a place. -/
def Reads (s : List UInt8) (p : Nat) (w : List UInt8) : Prop := p + w.length ≤ s.length ∧ (s.drop p).take w.length = w
theorem Reads.of {s : List UInt8} {p : Nat} {w tl : List UInt8} (h : s.drop p = w ++ tl) (hw : w ≠ []) : Reads s p w := by
  have h1 := congrArg List.length h
  rw [List.length_drop, List.length_append] at h1
  have h2 : 0 < w.length := List.length_pos_iff.2 hw
  refine ⟨by omega, by rw [h, List.take_left]⟩

/-- A statement's word, its name. -/
def callM (k : Nat) (n : List UInt8) : List UInt8 := if n = [] then verbM k else verbM k ++ 32 :: n
def standsB (s : List UInt8) : Nat → Blk → Prop
  | _, .nil => True
  | lo, .cons k p n a b r => (1 ≤ k ∧ k ≤ 8) ∧ lo ≤ p ∧ Reads s p (callM k n) ∧ standsB s 0 a ∧ standsB s 0 b ∧ standsB s (p + 1) r

theorem drop_pos : ∀ (n : Nat) (ws : List (List UInt8)) (i : Nat), (ats (posT i ws)).drop n = ats (posT (i + wl (ws.take n)) (ws.drop n))
  | 0, ws, i => by simp [wl]
  | n + 1, [], i => by simp [posT, ats]
  | n + 1, w :: ws, i => by
    rw [posT, ats, List.map_cons, List.drop_succ_cons]
    rw [show List.map (fun x => x.at_) (posT (i + w.length + 1) ws) = ats (posT (i + w.length + 1) ws) from rfl, drop_pos n ws, List.take_succ_cons, wl_cons, List.drop_succ_cons,
      show i + (w.length + 1 + wl (ws.take n)) = i + w.length + 1 + wl (ws.take n) by omega]
theorem drop_words (u v : List (List UInt8)) (i n : Nat) (h : n = u.length) : (ats (posT i (u ++ v))).drop n = ats (posT (i + wl u) v) := by
  rw [drop_pos, h, List.take_left, List.drop_left]

theorem place_stands (s : List UInt8) : ∀ (b : Blk) (d i lo : Nat) (ws : List (List UInt8)), GoodB d b → Has s i (innerM b ++ closeW :: ws) → lo ≤ i → standsB s lo (placeB b (ats (posT i (innerM b ++ closeW :: ws))))
  | .nil, d, i, lo, ws, _, _, _ => trivial
  | .cons k p n a b r, d, i, lo, ws, hg, hh, hlo => by
    rw [inner_cons, List.append_assoc] at hh ⊢
    rw [placeB]
    have hp : (ats (posT i (headM k n a b ++ (innerM r ++ closeW :: ws)))).headD 0 = i := by
      have : ∃ w W, headM k n a b = w :: W := by
        cases hc : headM k n a b with
        | nil => have := (head_len hg).1; rw [hc] at this; simp at this
        | cons w W => exact ⟨w, W, rfl⟩
      obtain ⟨w, W, e⟩ := this
      rw [e]
      rfl
    have hr := place_stands s r d (i + wl (headM k n a b)) (i + 1) ws hg.2 (Has.behind hh (by simp)) (by
      have : 2 ≤ wl (headM k n a b) := by
        have h1 := (head_len hg).1
        have h2 : ∀ l : List (List UInt8), l.length ≤ wl l := by
          intro l
          induction l with
          | nil => simp
          | cons x l ih => rw [wl_cons, List.length_cons]; omega
        have := h2 (headM k n a b)
        omega
      omega)
    rw [hp, drop_words _ _ i _ rfl]
    rcases hg.1 with ⟨g1, g2, g3, rfl, rfl⟩ | ⟨rfl, rfl, g3, g4, g5⟩ | ⟨rfl, rfl, g3, g4, rfl⟩
    · refine ⟨⟨g1, by omega⟩, hlo, ?_, trivial, trivial, hr⟩
      have e1 : headM k n .nil .nil = [verbM k, n] := by rw [headM, if_neg (by omega), if_neg (by omega)]
      obtain ⟨tl, h1⟩ := Has.pre hh
      rw [e1] at h1
      obtain ⟨c, r', rfl, -⟩ := name_row g3
      refine Reads.of (tl := tl) ?_ ?_
      · rw [h1, callM, if_neg (by simp), putM, if_neg (by simp), putM, if_pos rfl, putM]
        simp
      · rw [callM, if_neg (by simp)]; simp
    · have hv : callM 7 [] = verbM 7 := rfl
      have hrd : Reads s i (callM 7 []) := by
        obtain ⟨tl, h1⟩ := hh
        have : ∃ W, headM 7 [] a b = verbM 7 :: W := ⟨_, by rw [headM, if_pos rfl]; rfl⟩
        obtain ⟨W, e⟩ := this
        rw [e, List.cons_append, putM, if_neg (by simp), List.nil_append, List.append_assoc] at h1
        exact Reads.of h1 (by decide)
      by_cases hb : b.len = 0
      · have hbn := Blk.len_zero b hb
        subst hbn
        have e1 : headM 7 [] a .nil = [verbM 7, openW] ++ (innerM a ++ [closeW]) := by simp [headM, Blk.len]
        have e2 : headM 7 [] a .nil ++ (innerM r ++ closeW :: ws) = [verbM 7, openW] ++ (innerM a ++ closeW :: (innerM r ++ closeW :: ws)) := by rw [e1]; simp
        refine ⟨⟨by omega, by omega⟩, hlo, hrd, ?_, trivial, hr⟩
        rw [e2] at hh ⊢
        rw [drop_words _ _ i 2 rfl]
        exact place_stands s a (d + 1) _ 0 _ g4 (Has.behind hh (by simp)) (Nat.zero_le _)
      · have e1 : headM 7 [] a b = [verbM 7, openW] ++ (innerM a ++ closeW :: elseM :: openW :: (innerM b ++ [closeW])) := by simp [headM, hb]
        have e2 : headM 7 [] a b ++ (innerM r ++ closeW :: ws) = [verbM 7, openW] ++ (innerM a ++ closeW :: (elseM :: openW :: (innerM b ++ closeW :: (innerM r ++ closeW :: ws)))) := by rw [e1]; simp
        have e3 : headM 7 [] a b ++ (innerM r ++ closeW :: ws) = ([verbM 7, openW] ++ (innerM a ++ [closeW, elseM, openW])) ++ (innerM b ++ closeW :: (innerM r ++ closeW :: ws)) := by rw [e1]; simp
        refine ⟨⟨by omega, by omega⟩, hlo, hrd, ?_, ?_, hr⟩
        · rw [e2] at hh ⊢
          rw [drop_words _ _ i 2 rfl]
          exact place_stands s a (d + 1) _ 0 _ g4 (Has.behind hh (by simp)) (Nat.zero_le _)
        · rw [e3] at hh ⊢
          rw [drop_words _ _ i _ (by simp; omega)]
          exact place_stands s b (d + 1) _ 0 _ g5 (Has.behind hh (by simp)) (Nat.zero_le _)
    · have hrd : Reads s i (callM 8 []) := by
        obtain ⟨tl, h1⟩ := hh
        have : ∃ W, headM 8 [] a .nil = verbM 8 :: W := ⟨_, by rw [headM, if_neg (by omega), if_pos rfl]; rfl⟩
        obtain ⟨W, e⟩ := this
        rw [e, List.cons_append, putM, if_neg (by simp), List.nil_append, List.append_assoc] at h1
        exact Reads.of h1 (by decide)
      have e1 : headM 8 [] a .nil = [verbM 8, openW] ++ (innerM a ++ [closeW]) := by simp [headM]
      have e2 : headM 8 [] a .nil ++ (innerM r ++ closeW :: ws) = [verbM 8, openW] ++ (innerM a ++ closeW :: (innerM r ++ closeW :: ws)) := by rw [e1]; simp
      refine ⟨⟨by omega, by omega⟩, hlo, hrd, ?_, trivial, hr⟩
      rw [e2] at hh ⊢
      rw [drop_words _ _ i 2 rfl]
      exact place_stands s a (d + 1) _ 0 _ g4 (Has.behind hh (by simp)) (Nat.zero_le _)

def FuncOk (s : List UInt8) (f : FuncM) : Prop := Reads s f.at_ (funcW ++ 32 :: f.name) ∧ standsB s 0 f.body
theorem line_ats (x : It) (h : GoodI x) (i : Nat) (r : List (List UInt8)) : (ats (posT i (wordsI x ++ r))).headD 0 = i ∧ (ats (posT i (wordsI x ++ r))).drop (wordsI x).length = ats (posT (i + wl (wordsI x)) r) := by
  refine ⟨?_, drop_words _ _ _ _ rfl⟩
  cases x <;> rfl
theorem funcs_stand (s : List UInt8) : ∀ (its : List It) (i : Nat) (p : ProgM), (∀ x ∈ its, GoodI x) → s.drop i = its.flatMap lineI → (∀ f ∈ p.funcs, FuncOk s f) → ∀ f ∈ (addI its (ats (posT i (its.flatMap wordsI))) p).funcs, FuncOk s f
  | [], i, p, _, _, hp => hp
  | x :: its, i, p, hg, hs, hp => by
    have hx := hg x (by simp)
    have hr : ∀ y ∈ its, GoodI y := fun y hy => hg y (by simp [hy])
    obtain ⟨e1, e2⟩ := line_ats x hx i (its.flatMap wordsI)
    rw [List.flatMap_cons] at hs ⊢
    have hs2 : s.drop (i + wl (wordsI x)) = its.flatMap lineI := by
      have h1 := line_len (wordsI_ok hx).1
      rw [← List.drop_drop, hs, ← h1]
      exact List.drop_left
    cases x with
    | var n =>
      rw [addI, show (2 : Nat) = (wordsI (.var n)).length from rfl, e2]
      exact funcs_stand s its _ _ hr hs2 hp
    | lock n =>
      rw [addI, show (2 : Nat) = (wordsI (.lock n)).length from rfl, e2]
      exact funcs_stand s its _ _ hr hs2 hp
    | func n b =>
      have ew : wordsI (.func n b) = [funcW, n, openW] ++ (innerM b ++ [closeW]) := by simp [wordsI, wordsB]
      rw [addI, show (innerM b).length + 4 = (wordsI (.func n b)).length by rw [ew]; simp, e2, e1]
      refine funcs_stand s its _ _ hr hs2 (fun f hf => ?_)
      simp only [List.mem_append, List.mem_singleton] at hf
      rcases hf with hf | rfl
      · exact hp f hf
      · have hhas : Has s i (wordsI (.func n b)) := ⟨10 :: its.flatMap lineI, by rw [hs, lineI, List.append_assoc]; rfl⟩
        refine ⟨?_, ?_⟩
        · obtain ⟨tl, h1⟩ := hhas
          rw [ew, List.cons_append, List.cons_append, putM, if_neg (by simp), putM, if_pos rfl] at h1
          refine Reads.of (tl := putM true ([openW] ++ (innerM b ++ [closeW])) ++ tl) ?_ (by simp [funcW])
          rw [h1]
          simp
        · simp only
          rw [ew] at hhas ⊢
          rw [show [funcW, n, openW] ++ (innerM b ++ [closeW]) ++ its.flatMap wordsI = [funcW, n, openW] ++ (innerM b ++ closeW :: its.flatMap wordsI) by simp, drop_words _ _ i 3 rfl]
          have h3 := place_stands s b 1 (i + wl [funcW, n, openW]) 0 [] hx.2 (Has.behind hhas (by simp)) (Nat.zero_le _)
          have h4 : ats (posT (i + wl [funcW, n, openW]) (innerM b ++ closeW :: its.flatMap wordsI)) = ats (posT (i + wl [funcW, n, openW]) (innerM b ++ [closeW])) ++ ats (posT (i + wl [funcW, n, openW] + wl (innerM b ++ [closeW])) (its.flatMap wordsI)) := by
            rw [show innerM b ++ closeW :: its.flatMap wordsI = (innerM b ++ [closeW]) ++ its.flatMap wordsI by simp, posT_append, ats, List.map_append]
          have hlen : ∀ ws i, (ats (posT i ws)).length = ws.length := by
            intro ws
            induction ws with
            | nil => intro i; rfl
            | cons w ws ih => intro i; rw [posT, ats, List.map_cons, List.length_cons, List.length_cons]; exact congrArg (· + 1) (ih _)
          rw [h4, place_more b 1 _ _ hx.2 (by rw [hlen]; simp)]
          exact h3

/-! ### Blanks more -/

/-- The text with two blanks behind some of its blanks. -/
def moreM (by_ : Nat) : Nat → List UInt8 → List UInt8
  | _, [] => []
  | i, c :: r => c :: ((if c = 32 ∧ (i + by_) % 7 = 0 then [10, 9] else []) ++ moreM by_ (i + 1) r)
theorem more_row (m : Nat) : ∀ (r rest : List UInt8) (i : Nat), r.all alnB = true → moreM m i (r ++ rest) = r ++ moreM m (i + r.length) rest
  | [], rest, i, _ => rfl
  | c :: r, rest, i, h => by
    simp only [List.all_cons, Bool.and_eq_true] at h
    have hc : c ≠ 32 := by rintro rfl; exact absurd h.1 (by decide)
    rw [List.cons_append, moreM, if_neg (by simp [hc]), more_row m r rest _ h.2, List.length_cons, List.nil_append, List.cons_append, show i + 1 + r.length = i + (r.length + 1) by omega]
theorem ends_more (m i : Nat) {rest : List UInt8} (h : Ends rest) : Ends (moreM m i rest) := by
  cases rest with
  | nil => exact h
  | cons c r =>
    intro x hx
    rw [moreM] at hx
    simp at hx
    subst hx
    exact h c rfl
theorem more_keys (m : Nat) : ∀ (n : Nat) (s : List UInt8) (i j k : Nat), s.length ≤ n → (tokT j (moreM m i s)).1.map tkey = (tokT k s).1.map tkey ∧ ((tokT k s).2 = none → (tokT j (moreM m i s)).2 = none)
  | n, [], i, j, k, _ => by rw [moreM, tokT_nil, tokT_nil]; exact ⟨rfl, fun _ => rfl⟩
  | 0, c :: r, i, j, k, h => by simp at h
  | n + 1, c :: r, i, j, k, h => by
    simp only [List.length_cons] at h
    by_cases hl : letB c = true
    · have e : c :: r = (c :: r.takeWhile alnB) ++ r.dropWhile alnB := by rw [List.cons_append, List.takeWhile_append_dropWhile]
      have ha : (r.takeWhile alnB).all alnB = true := by rw [List.all_eq_true]; exact fun x hx => takeWhile_all r x hx
      have hc : alnB c = true := by simp [alnB, hl]
      have he : Ends (r.dropWhile alnB) := by
        intro x hx
        have := List.head?_dropWhile_not alnB r
        rw [hx] at this
        simpa using this
      have hd : (r.dropWhile alnB).length ≤ n := Nat.le_trans (List.dropWhile_suffix (p := alnB) (l := r)).length_le (by omega)
      rw [e, more_row m _ _ _ (by simp [hc, ha]), tokT_row _ _ _ _ hl ha he, tokT_row _ _ _ _ hl ha (ends_more _ _ he)]
      obtain ⟨h1, h2⟩ := more_keys m n (r.dropWhile alnB) (i + (c :: r.takeWhile alnB).length) (j + (c :: r.takeWhile alnB).length) (k + (c :: r.takeWhile alnB).length) hd
      refine ⟨?_, h2⟩
      simp only [List.map_cons, h1]
      rfl
    · by_cases ho : c = 123
      · subst ho
        rw [moreM, if_neg (fun h => absurd h.1 (by decide)), List.nil_append, tokT_open, tokT_open]
        obtain ⟨h1, h2⟩ := more_keys m n r (i + 1) (j + 1) (k + 1) (by omega)
        exact ⟨by simp only [List.map_cons, h1]; rfl, h2⟩
      · by_cases hcl : c = 125
        · subst hcl
          rw [moreM, if_neg (fun h => absurd h.1 (by decide)), List.nil_append, tokT_close, tokT_close]
          obtain ⟨h1, h2⟩ := more_keys m n r (i + 1) (j + 1) (k + 1) (by omega)
          exact ⟨by simp only [List.map_cons, h1]; rfl, h2⟩
        · by_cases hb : blankB c = true
          · rw [tokT_blank k c r hb, moreM, tokT_blank j c _ hb]
            split
            · rw [List.cons_append, List.cons_append, List.nil_append, tokT_blank _ _ _ (by decide), tokT_blank _ _ _ (by decide)]
              exact more_keys m n r (i + 1) _ _ (by omega)
            · rw [List.nil_append]
              exact more_keys m n r (i + 1) _ _ (by omega)
          · have h1 : c.toNat ≠ 123 := fun e => ho (UInt8.toNat_inj.1 e)
            have h2 : c.toNat ≠ 125 := fun e => hcl (UInt8.toNat_inj.1 e)
            have h3 : letB c = false := by simpa using hl
            have h4 : blankB c = false := by simpa using hb
            rw [moreM, tokT_bad _ _ _ h3 h1 h2 h4, tokT_bad _ _ _ h3 h1 h2 h4]
            exact ⟨rfl, fun h => by cases h⟩
theorem parse_keys (its : List It) (h : ∀ x ∈ its, GoodI x) (t : List UInt8) (hl : t.length ≤ 2000) (hk : (tokT 0 t).1.map tkey = (its.flatMap wordsI).map kt) (h2 : (tokT 0 t).2 = none) : ∃ ps, parseM t = (addI its ps ⟨[], [], []⟩, 0, 0) := by
  have ht := tokM_T hl
  generalize tokT 0 t = x at *
  obtain ⟨l, o⟩ := x
  simp only at h2 hk
  subst h2
  simp only at ht
  unfold parseM
  rw [ht]
  simp only [ne_eq, not_true_eq_false, if_false]
  have hn : its.length ≤ l.length := by
    have h1 := congrArg List.length hk
    rw [List.length_map, List.length_map] at h1
    rw [h1]
    clear ht hl h1 hk
    induction its with
    | nil => simp
    | cons x its ih =>
      have := ih (fun y hy => h y (by simp [hy]))
      have h2 := (wordsI_ok (h x (by simp))).1
      have h3 : 0 < (wordsI x).length := List.length_pos_iff.2 h2
      rw [List.flatMap_cons, List.length_append, List.length_cons]
      omega
  rw [prog_place its _ _ _ _ h hk hn]
  exact ⟨_, rfl⟩
theorem parse_more (its : List It) (h : ∀ x ∈ its, GoodI x) (m : Nat) (hl : (moreM m 0 (its.flatMap lineI)).length ≤ 2000) : ∃ ps, parseM (moreM m 0 (its.flatMap lineI)) = (addI its ps ⟨[], [], []⟩, 0, 0) := by
  obtain ⟨h1, h2⟩ := more_keys m _ (its.flatMap lineI) 0 0 0 (Nat.le_refl _)
  rw [tokT_items its 0 h] at h1 h2
  exact parse_keys its h _ hl (by rw [h1]; exact posT_keys _ _) (h2 rfl)

end Go.Proofs.YtildkedplmjdaaaGreatDoor
namespace Go.Proofs.YtildkedplmjdaaaGreatDoor
set_option maxRecDepth 100000
set_option linter.unusedVariables false
open Go.RowKit Go.Sort Go.ChangeShapes Go.WideShapes Go.Deep

/-- Raw statements in a row: of the first its two numbers, its two rows; what is behind it. -/
inductive RawM where
  | nil
  | cons (k n : Int) (a b rest : RawM)
def RawM.len : RawM → Nat
  | .nil => 0
  | .cons _ _ _ _ r => r.len + 1
def RowR (w : World) (E : List Value → Prop) (n : Nat) (v : Value) : Prop :=
  ∃ a c, v = .slice a n c ∧ n ≤ maxLen ∧ (0 < n → ∃ g o xs, a = some ⟨g, o, none⟩ ∧ g < w.heap.size ∧ w.rangeAt g o xs ∧ E xs)
def EncR (w : World) : RawM → List Value → Prop
  | .nil, xs => xs = []
  | .cons k n a b r, xs => ∃ va vb xr, xs = .int .i64 k :: .int .i64 n :: va :: vb :: xr ∧ RowR w (EncR w a) a.len va ∧ RowR w (EncR w b) b.len vb ∧ EncR w r xr
def RawAt (w : World) (v : Value) (r : RawM) : Prop := RowR w (EncR w r) r.len v

theorem RowR.more {w w' : World} {E E' : List Value → Prop} {n : Nat} {v : Value} (h : RowR w E n v) (hO : Only [] w w') (hE : ∀ xs, E xs → E' xs) : RowR w' E' n v := by
  obtain ⟨a, c, rfl, hn, h⟩ := h
  refine ⟨a, c, rfl, hn, fun h0 => ?_⟩
  obtain ⟨g, o, xs, rfl, hg, hr, he⟩ := h h0
  exact ⟨g, o, xs, rfl, Nat.lt_of_lt_of_le hg hO.size, rangeAt_only hr hO hg (by simp), hE xs he⟩
theorem EncR.more {w w' : World} (hO : Only [] w w') : ∀ {r : RawM} {xs : List Value}, EncR w r xs → EncR w' r xs
  | .nil, xs, h => h
  | .cons k n a b r, xs, h => by
    obtain ⟨va, vb, xr, rfl, h1, h2, h3⟩ := h
    exact ⟨va, vb, xr, rfl, h1.more hO (fun xs => EncR.more hO), h2.more hO (fun xs => EncR.more hO), EncR.more hO h3⟩
theorem RawAt.more {w w' : World} {v : Value} {r : RawM} (h : RawAt w v r) (hO : Only [] w w') : RawAt w' v r := RowR.more h hO (fun xs => EncR.more hO)

theorem raws_open {H : Type} {enc : TypeId × Value → H} {W : World} : ∀ (N fuel : Nat), fuel ≤ N → ∀ (cs : List Value) (x : DataW H × List MemPlace),
    DataW.trod enc Tryz.prog W 0 (fun _ => true) true fuel 22 cs = some x → ∃ v r, cs = [v] ∧ RawAt W v r := by
  intro N
  induction N with
  | zero =>
    intro fuel hN cs x h
    rcases DataW.trod_slice Tryz.underlying22 h with ⟨rfl, -⟩ | ⟨a, len, cap, elems, rest, n, hf, -⟩
    · exact ⟨_, .nil, rfl, none, 0, rfl, Nat.zero_le _, fun h => by simp [RawM.len] at h⟩
    · omega
  | succ N ih =>
    intro fuel hN cs x h
    rcases DataW.trod_slice Tryz.underlying22 h with ⟨rfl, -⟩ | ⟨a, len, cap, elems, rest, n, hf, rfl, rfl, -, hlc, hcm, hel, hx, -, -⟩
    · exact ⟨_, .nil, rfl, none, 0, rfl, Nat.zero_le _, fun h => by simp [RawM.len] at h⟩
    · have c4 : Tryz.prog.cellsOf 83 = 4 := by kernel_rfl
      rw [c4] at hx
      by_cases h0 : len = 0
      · subst h0; exact ⟨_, .nil, rfl, some a, cap, rfl, Nat.zero_le _, fun h => by simp [RawM.len] at h⟩
      have hx' : ∀ i, i < len → ∃ cs' y, W.cells? 0 (a.add (i * 4)) 4 = some cs' ∧ DataW.trod enc Tryz.prog W 0 (fun _ => true) true n 83 cs' = some y := by
        intro i hi
        have h1 := hx i hi
        rw [List.getElem?_eq_getElem (by omega)] at h1
        obtain ⟨cs', h2, h3⟩ := Option.bind_eq_some_iff.1 h1
        exact ⟨cs', _, h2, h3⟩
      obtain ⟨b, o, sp0⟩ := a
      have hspot : sp0 = none := by
        obtain ⟨cs', y, hc, _⟩ := hx' 0 (by omega)
        obtain ⟨_, hcl, hat⟩ := World.cells?_some hc
        have h1 := hat 0 (by omega)
        rw [List.getElem?_eq_getElem (by omega)] at h1
        simpa [Addr.add] using World.cell?_spot h1
      subst hspot
      have hb : b < W.heap.size := by
        obtain ⟨cs', y, hc, _⟩ := hx' 0 (by omega)
        obtain ⟨_, hcl, hat⟩ := World.cells?_some hc
        have h1 := hat 0 (by omega)
        rw [List.getElem?_eq_getElem (by omega)] at h1
        have := World.block_lt_of_cell? W _ h1
        simpa [Addr.add] using this
      have hall : ∀ i, i < len → ∃ (k m : Int) (va vb : Value) (ra rb : RawM), W.rangeAt b (o + i * 4) [.int .i64 k, .int .i64 m, va, vb] ∧ RawAt W va ra ∧ RawAt W vb rb := by
        intro i hi
        obtain ⟨cs', y, hc, ht⟩ := hx' i hi
        obtain ⟨_, hcl, hat⟩ := World.cells?_some hc
        obtain ⟨xs, m, hm, _, _, hlen, hfi⟩ := DataW.trod_struct Tryz.underlying83 ht
        match cs', hcl with
        | [v0, v1, v2, v3], _ =>
          match xs, hlen with
          | [y0, y1, y2, y3], _ =>
            have ci : Tryz.prog.cellsOf 3 = 1 := by kernel_rfl
            have cr : Tryz.prog.cellsOf 22 = 1 := by kernel_rfl
            have g0 := hfi 0 _ rfl
            have g1 := hfi 1 _ rfl
            have g2 := hfi 2 _ rfl
            have g3 := hfi 3 _ rfl
            simp [ci, cr] at g0 g1 g2 g3
            obtain ⟨z0, e0, _, _⟩ := DataW.trod_int Tryz.underlying3 g0
            obtain ⟨z1, e1, _, _⟩ := DataW.trod_int Tryz.underlying3 g1
            simp at e0 e1
            subst e0 e1
            obtain ⟨va, ra, e2, h2⟩ := ih m (by omega) _ _ g2
            obtain ⟨vb, rb, e3, h3⟩ := ih m (by omega) _ _ g3
            simp at e2 e3
            subst e2 e3
            refine ⟨z0, z1, v2, v3, ra, rb, fun j u hu => ?_, h2, h3⟩
            have hj : j < 4 := by have := (List.getElem?_eq_some_iff.1 hu).1; simpa using this
            have h4 := hat j (by omega)
            rw [hu, Addr.add_mid, Addr.add_mid] at h4
            exact h4
      have key : ∀ j, j ≤ len → ∃ r xs, r.len = j ∧ EncR W r xs ∧ W.rangeAt b (o + (len - j) * 4) xs := by
        intro j
        induction j with
        | zero => intro _; exact ⟨.nil, [], rfl, rfl, fun i u hu => by simp at hu⟩
        | succ j ihj =>
          intro hj
          obtain ⟨r, xs, h1, h2, h3⟩ := ihj (by omega)
          obtain ⟨k, m, va, vb, ra, rb, h4, h5, h6⟩ := hall (len - (j + 1)) (by omega)
          refine ⟨.cons k m ra rb r, .int .i64 k :: .int .i64 m :: va :: vb :: xs, by rw [RawM.len, h1], ⟨va, vb, xs, rfl, h5, h6, h2⟩, fun i u hu => ?_⟩
          match i with
          | 0 => exact h4 0 u hu
          | 1 => exact h4 1 u hu
          | 2 => exact h4 2 u hu
          | 3 => exact h4 3 u hu
          | i + 4 =>
            have := h3 i u hu
            rw [show o + (len - j) * 4 + i = o + (len - (j + 1)) * 4 + (i + 4) by omega] at this
            exact this
      obtain ⟨r, xs, h1, h2, h3⟩ := key len (Nat.le_refl _)
      rw [Nat.sub_self, Nat.zero_mul, Nat.add_zero] at h3
      refine ⟨_, r, rfl, some ⟨b, o, none⟩, cap, by rw [h1], by rw [h1]; omega, fun _ => ⟨b, o, xs, rfl, hb, h3, h2⟩⟩

theorem raws_of_read {H : Type} {enc : TypeId × Value → H} {W : World} {a : Option Addr} {len cap : Nat} {d : DataW H} {p : List MemPlace}
    (h : DataW.Trod enc Tryz.prog W 0 (fun _ => true) true 22 (.slice a len cap) d p) : ∃ r, RawAt W (.slice a len cap) r := by
  obtain ⟨fuel, hf⟩ := h
  obtain ⟨v, r, h1, h2⟩ := raws_open fuel fuel (Nat.le_refl _) _ _ hf
  simp [Value.cells] at h1
  subst h1
  exact ⟨r, h2⟩

end Go.Proofs.YtildkedplmjdaaaGreatDoor
namespace Go.Proofs.YtildkedplmjdaaaGreatDoor
set_option maxRecDepth 100000
set_option linter.unusedVariables false
open Go.RowKit Go.Sort

def varsT : List (List UInt8) := [[120], [121], [122]]
def locksT : List (List UInt8) := [[108], [109], [110]]
def funcsT : List (List UInt8) := [[102], [103], [104], [109, 97, 105, 110]]
def nameR (k : Nat) (n : Int) : List UInt8 := if k ≤ 2 then varsT.getD (inM n 3) [] else if k ≤ 4 then locksT.getD (inM n 3) [] else if k ≤ 6 then funcsT.getD (inM n 4) [] else []
def kindR (k : Int) : Nat := 1 + inM k 8
def blockR : RawM → Blk
  | .nil => .nil
  | .cons k n a b r => .cons (kindR k) 0 (nameR (kindR k) n) (if 7 ≤ kindR k then blockR a else .nil) (if kindR k = 7 then blockR b else .nil) (blockR r)
theorem len_blockR : ∀ r, (blockR r).len = r.len
  | .nil => rfl
  | .cons k n a b r => by rw [blockR, Blk.len, RawM.len, len_blockR r]
theorem kindR_le (k : Int) : 1 ≤ kindR k ∧ kindR k ≤ 8 := by have := inM_lt k 8 (by omega); unfold kindR; omega
theorem nameR_ok (k : Nat) (n : Int) (h : k ≤ 6) : nameM (nameR k n) = true ∧ (nameR k n).length ≤ 4 := by
  have h3 := inM_lt n 3 (by omega)
  have h4 := inM_lt n 4 (by omega)
  unfold nameR
  generalize inM n 3 = i at *
  generalize inM n 4 = j at *
  have e1 : ∀ i : Fin 3, nameM (varsT.getD i.1 []) = true ∧ (varsT.getD i.1 []).length ≤ 4 := by decide
  have e2 : ∀ i : Fin 3, nameM (locksT.getD i.1 []) = true ∧ (locksT.getD i.1 []).length ≤ 4 := by decide
  have e3 : ∀ i : Fin 4, nameM (funcsT.getD i.1 []) = true ∧ (funcsT.getD i.1 []).length ≤ 4 := by decide
  split
  · exact e1 ⟨i, h3⟩
  · split
    · exact e2 ⟨i, h3⟩
    · exact e3 ⟨j, h4⟩
theorem nameR_nil (k : Nat) (n : Int) (h : 7 ≤ k) : nameR k n = [] := by unfold nameR; rw [if_neg (by omega), if_neg (by omega), if_neg (by omega)]

/-- How many, as the laws count them: no further than need be. -/
def sizeL : RawM → Nat → Nat → Nat
  | .nil, _, n => n
  | .cons _ _ a b r, d, n => if n ≤ 40 then sizeL r d (n + 1 + (if 12 < d + 1 then 1000 else sizeL a (d + 1) 0) + (if 12 < d + 1 then 1000 else sizeL b (d + 1) 0)) else n
def sizeM (r : RawM) (d : Nat) : Nat := if 12 < d then 1000 else sizeL r d 0
theorem size_ge : ∀ (r : RawM) (d n : Nat), n ≤ sizeL r d n
  | .nil, d, n => Nat.le_refl _
  | .cons _ _ a b r, d, n => by
    rw [sizeL]
    split
    · exact Nat.le_trans (by omega) (size_ge r d _)
    · exact Nat.le_refl _
def topN : Nat → Nat
  | 0 => 1000
  | k + 1 => 41 + 2 * topN k
theorem topN_le (k : Nat) (h : k ≤ 13) : topN k ≤ 9000000 := by
  have : ∀ i : Fin 14, topN i.1 ≤ 9000000 := by decide +kernel
  exact this ⟨k, by omega⟩
/-- It is no large number. -/
theorem size_up : ∀ (r : RawM) (d n : Nat), d ≤ 12 → sizeL r d n ≤ max n (41 + 2 * topN (12 - d))
  | .nil, d, n, _ => by rw [sizeL]; omega
  | .cons _ _ a b r, d, n, hd => by
    rw [sizeL]
    have hs : ∀ x : RawM, (d + 1 ≤ 12 → sizeL x (d + 1) 0 ≤ max 0 (41 + 2 * topN (12 - (d + 1)))) → (if 12 < d + 1 then 1000 else sizeL x (d + 1) 0) ≤ topN (12 - d) := by
      intro x hx
      split
      · rw [show 12 - d = 0 by omega]; exact Nat.le_refl _
      · have := hx (by omega)
        rw [show 12 - d = (12 - (d + 1)) + 1 by omega, topN]
        omega
    split
    · have h1 := hs a (fun h => size_up a (d + 1) 0 h)
      have h2 := hs b (fun h => size_up b (d + 1) 0 h)
      have h3 := size_up r d (n + 1 + (if 12 < d + 1 then 1000 else sizeL a (d + 1) 0) + (if 12 < d + 1 then 1000 else sizeL b (d + 1) 0)) hd
      omega
    · omega
theorem sizeM_up (r : RawM) (d : Nat) (h : d ≤ 13) : sizeM r d ≤ 9000000 := by
  unfold sizeM
  split
  · omega
  · have h1 := size_up r d 0 (by omega)
    have h2 := topN_le ((12 - d) + 1) (by omega)
    rw [topN] at h2
    omega
theorem size_cons (k n : Int) (a b r : RawM) (d m : Nat) (h : m ≤ 40) : sizeL (.cons k n a b r) d m = sizeL r d (m + 1 + sizeM a (d + 1) + sizeM b (d + 1)) := by rw [sizeL, if_pos h]; rfl

/-- What is not too much goes not too deep. -/
theorem size_good : ∀ (r : RawM) (d n : Nat), d ≤ 12 → sizeL r d n ≤ 40 → GoodB (d + 1) (blockR r) ∧ n + (blockR r).cnt ≤ sizeL r d n
  | .nil, d, n, _, _ => ⟨trivial, by simp [sizeL, blockR, Blk.cnt]⟩
  | .cons k z a b r, d, n, hd, h => by
    by_cases hn : n ≤ 40
    · rw [size_cons _ _ _ _ _ _ _ hn] at h ⊢
      have hge := size_ge r d (n + 1 + sizeM a (d + 1) + sizeM b (d + 1))
      have hd2 : d + 1 ≤ 12 := by
        have : sizeM a (d + 1) ≤ 40 := by omega
        unfold sizeM at this
        split at this <;> omega
      have ea : sizeM a (d + 1) = sizeL a (d + 1) 0 := by unfold sizeM; rw [if_neg (by omega)]
      have eb : sizeM b (d + 1) = sizeL b (d + 1) 0 := by unfold sizeM; rw [if_neg (by omega)]
      obtain ⟨ga, ca⟩ := size_good a (d + 1) 0 hd2 (by omega)
      obtain ⟨gb, cb⟩ := size_good b (d + 1) 0 hd2 (by omega)
      obtain ⟨gr, cr⟩ := size_good r d _ hd h
      obtain ⟨k1, k2⟩ := kindR_le k
      rw [blockR]
      refine ⟨⟨?_, gr⟩, ?_⟩
      · by_cases h6 : kindR k ≤ 6
        · exact .inl ⟨k1, h6, (nameR_ok _ z h6).1, by rw [if_neg (by omega)], by rw [if_neg (by omega)]⟩
        · by_cases h7 : kindR k = 7
          · refine .inr (.inl ⟨h7, nameR_nil _ _ (by omega), by omega, ?_, ?_⟩)
            · rw [if_pos (by omega)]; exact ga
            · rw [if_pos h7]; exact gb
          · refine .inr (.inr ⟨by omega, nameR_nil _ _ (by omega), by omega, ?_, ?_⟩)
            · rw [if_pos (by omega)]; exact ga
            · rw [if_neg h7]
      · rw [Blk.cnt]
        have h1 : (if 7 ≤ kindR k then blockR a else Blk.nil).cnt ≤ (blockR a).cnt := by split <;> simp [Blk.cnt]
        have h2 : (if kindR k = 7 then blockR b else Blk.nil).cnt ≤ (blockR b).cnt := by split <;> simp [Blk.cnt]
        omega
    · rw [sizeL, if_neg hn] at h
      omega
def FewR (r : RawM) : Prop := sizeM r 0 ≤ 40
theorem few_good {r : RawM} (h : FewR r) : GoodB 1 (blockR r) ∧ (blockR r).cnt ≤ 40 := by
  unfold FewR sizeM at h
  rw [if_neg (by omega)] at h
  obtain ⟨h1, h2⟩ := size_good r 0 0 (by omega) h
  exact ⟨h1, by omega⟩
theorem good_kok : ∀ (b : Blk) (d : Nat), GoodB d b → KOk b
  | .nil, _, _ => trivial
  | .cons k p n a b r, d, h => by
    refine ⟨by rcases h.1 with h | h | h <;> omega, ?_, ?_, good_kok r d h.2⟩
    · rcases h.1 with ⟨-, -, -, rfl, -⟩ | ⟨-, -, -, h1, h2⟩ | ⟨-, -, -, h1, h2⟩
      · trivial
      · exact good_kok a _ h1
      · exact good_kok a _ h1
    · rcases h.1 with ⟨-, -, -, -, rfl⟩ | ⟨-, -, -, h1, h2⟩ | ⟨-, -, -, h1, rfl⟩
      · trivial
      · exact good_kok b _ h2
      · trivial
theorem verb_len (k : Nat) (h1 : 1 ≤ k) (h2 : k ≤ 8) : (verbM k).length ≤ 6 := by
  have : ∀ i : Fin 9, (verbM i.1).length ≤ 6 := by decide
  exact this ⟨k, by omega⟩
theorem good_len : ∀ (b : Blk) (d : Nat), GoodB d b → wl (innerM b) ≤ 20 * b.cnt
  | .nil, _, _ => by simp [innerM, wl]
  | .cons k p n a b r, d, h => by
    have hr := good_len r d h.2
    rw [inner_cons, wl_append, Blk.cnt]
    rcases h.1 with ⟨g1, g2, g3, rfl, rfl⟩ | ⟨rfl, rfl, g3, g4, g5⟩ | ⟨rfl, rfl, g3, g4, rfl⟩
    · have h1 := verb_len k g1 (by omega)
      have h2 : n.length ≤ 12 := by
        unfold nameM at g3
        simp only [Bool.and_eq_true, decide_eq_true_eq] at g3
        exact g3.1.1.2
      rw [headM, if_neg (by omega), if_neg (by omega), wl_cons, wl_cons]
      simp only [wl, List.map_nil, List.sum_nil, Blk.cnt] at *
      omega
    · have ha := good_len a _ g4
      have hb := good_len b _ g5
      by_cases hz : b.len = 0
      · have hbn := Blk.len_zero b hz
        subst hbn
        have e1 : headM 7 [] a .nil = [verbM 7, openW] ++ (innerM a ++ [closeW]) := by simp [headM, Blk.len]
        have e2 : wl [verbM 7, openW] = 5 := by decide
        have e3 : wl [closeW] = 2 := by decide
        rw [e1, wl_append, wl_append, e2, e3]
        simp only [Blk.cnt]
        omega
      · have e1 : headM 7 [] a b = [verbM 7, openW] ++ (innerM a ++ ([closeW, elseM, openW] ++ (innerM b ++ [closeW]))) := by simp [headM, hz]
        have e2 : wl [verbM 7, openW] = 5 := by decide
        have e3 : wl [closeW] = 2 := by decide
        have e4 : wl [closeW, elseM, openW] = 9 := by decide
        rw [e1, wl_append, wl_append, wl_append, wl_append, e2, e3, e4]
        omega
    · have ha := good_len a _ g4
      have e1 : headM 8 [] a .nil = [verbM 8, openW] ++ (innerM a ++ [closeW]) := by simp [headM]
      have e2 : wl [verbM 8, openW] = 7 := by decide
      have e3 : wl [closeW] = 2 := by decide
      rw [e1, wl_append, wl_append, e2, e3]
      simp only [Blk.cnt]
      omega

/-! ### Programs -/

def mainW : List UInt8 := [109, 97, 105, 110]
def progR (m f g h : RawM) (t : Int) : ProgM :=
  ⟨[⟨[120], 0⟩, ⟨[121], 0⟩, ⟨[122], 0⟩], if inM t 3 = 0 then [⟨[110], 0⟩, ⟨[108], 0⟩, ⟨[109], 0⟩] else [⟨[108], 0⟩, ⟨[109], 0⟩, ⟨[110], 0⟩],
    if inM t 2 = 0 then [⟨[103], 0, blockR g⟩, ⟨[102], 0, blockR f⟩, ⟨mainW, 0, blockR m⟩, ⟨[104], 0, blockR h⟩]
    else [⟨mainW, 0, blockR m⟩, ⟨[102], 0, blockR f⟩, ⟨[103], 0, blockR g⟩, ⟨[104], 0, blockR h⟩]⟩
theorem progR_good {m f g h : RawM} (t : Int) (hm : FewR m) (hf : FewR f) (hg : FewR g) (hh : FewR h) : (∀ x ∈ itemsP (progR m f g h t), GoodI x) ∧ (∀ x ∈ (progR m f g h t).funcs, BodyOk x) ∧ (progT (progR m f g h t)).length ≤ 4000 := by
  have gm := few_good hm
  have gf := few_good hf
  have gg := few_good hg
  have gh := few_good hh
  have hI : ∀ x ∈ itemsP (progR m f g h t), GoodI x := by
    intro x hx
    unfold itemsP progR at hx
    simp only [List.mem_append, List.map_cons, List.map_nil] at hx
    rcases hx with (hx | hx) | hx
    · simp only [List.mem_cons, List.not_mem_nil, or_false] at hx
      rcases hx with rfl | rfl | rfl <;> (show nameM _ = true; decide)
    · split at hx
      · simp only [List.map_cons, List.map_nil, List.mem_cons, List.not_mem_nil, or_false] at hx
        rcases hx with rfl | rfl | rfl <;> (show nameM _ = true; decide)
      · simp only [List.map_cons, List.map_nil, List.mem_cons, List.not_mem_nil, or_false] at hx
        rcases hx with rfl | rfl | rfl <;> (show nameM _ = true; decide)
    · split at hx
      · simp only [List.map_cons, List.map_nil, List.mem_cons, List.not_mem_nil, or_false] at hx
        rcases hx with rfl | rfl | rfl | rfl
        · exact ⟨by decide, gg.1⟩
        · exact ⟨by decide, gf.1⟩
        · exact ⟨by decide, gm.1⟩
        · exact ⟨by decide, gh.1⟩
      · simp only [List.map_cons, List.map_nil, List.mem_cons, List.not_mem_nil, or_false] at hx
        rcases hx with rfl | rfl | rfl | rfl
        · exact ⟨by decide, gm.1⟩
        · exact ⟨by decide, gf.1⟩
        · exact ⟨by decide, gg.1⟩
        · exact ⟨by decide, gh.1⟩
  have hB : ∀ x ∈ (progR m f g h t).funcs, BodyOk x ∧ (lineF x).length ≤ 850 := by
    have hone : ∀ (n : List UInt8) (r : RawM), n.length ≤ 4 → GoodB 1 (blockR r) ∧ (blockR r).cnt ≤ 40 → BodyOk ⟨n, 0, blockR r⟩ ∧ (lineF ⟨n, 0, blockR r⟩).length ≤ 850 := by
      intro n r hn hr
      refine ⟨⟨by show (blockR r).cnt ≤ 100000; omega, good_kok _ _ hr.1⟩, ?_⟩
      have h1 := good_len _ _ hr.1
      have e : (lineF ⟨n, 0, blockR r⟩).length = wl ([funcW, n] ++ wordsB (blockR r)) := line_len (by simp)
      have e2 : wl [openW] = 2 := by decide
      have e3 : wl [closeW] = 2 := by decide
      rw [e, wl_append, wordsB, wl_append, wl_append, e2, e3, wl_cons, wl_cons]
      simp only [wl, List.map_nil, List.sum_nil, funcW, List.length_cons, List.length_nil] at *
      omega
    intro x hx
    unfold progR at hx
    simp only at hx
    split at hx
    · simp only [List.mem_cons, List.not_mem_nil, or_false] at hx
      rcases hx with rfl | rfl | rfl | rfl
      · exact hone _ _ (by decide) gg
      · exact hone _ _ (by decide) gf
      · exact hone _ _ (by decide) gm
      · exact hone _ _ (by decide) gh
    · simp only [List.mem_cons, List.not_mem_nil, or_false] at hx
      rcases hx with rfl | rfl | rfl | rfl
      · exact hone _ _ (by decide) gm
      · exact hone _ _ (by decide) gf
      · exact hone _ _ (by decide) gg
      · exact hone _ _ (by decide) gh
  refine ⟨hI, fun x hx => (hB x hx).1, ?_⟩
  have hfl : ((progR m f g h t).funcs.flatMap lineF).length ≤ 3400 := by
    have h4 : (progR m f g h t).funcs.length = 4 := by unfold progR; simp only; split <;> rfl
    have : ∀ l : List FuncM, (∀ x ∈ l, (lineF x).length ≤ 850) → (l.flatMap lineF).length ≤ 850 * l.length := by
      intro l
      induction l with
      | nil => intro _; simp
      | cons x l ih =>
        intro hl
        have h1 := ih (fun y hy => hl y (by simp [hy]))
        have h2 := hl x (by simp)
        rw [List.flatMap_cons, List.length_append, List.length_cons]
        omega
    have := this _ (fun x hx => (hB x hx).2)
    omega
  have hv : ((progR m f g h t).vars.flatMap (lineD varW)).length = 18 := by unfold progR; rfl
  have hk : ((progR m f g h t).locks.flatMap (lineD lockW)).length = 21 := by unfold progR; simp only; split <;> rfl
  unfold progT
  rw [List.length_append, List.length_append, hv, hk]
  omega

end Go.Proofs.YtildkedplmjdaaaGreatDoor
