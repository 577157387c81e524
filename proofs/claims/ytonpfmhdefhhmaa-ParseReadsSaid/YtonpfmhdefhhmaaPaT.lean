/-
  Programs written and read again, by chapter 6 itself: declarations one behind another. No walk is here.
-/
import Derived.Test.YtonpfmhdefhhmaaPaS
namespace Go.Proofs.Ytonpfmhdefhhmaa
set_option maxRecDepth 100000
set_option linter.unusedVariables false
open Go.RowKit Go.Sort

/-- A declaration by itself. -/
inductive It where
  | var (n : List UInt8)
  | lock (n : List UInt8)
  | func (n : List UInt8) (b : Blk)
def wordsI : It → List (List UInt8)
  | .var n => [varW, n]
  | .lock n => [lockW, n]
  | .func n b => [funcW, n] ++ wordsB b
def GoodI : It → Prop
  | .var n => nameM n = true
  | .lock n => nameM n = true
  | .func n b => nameM n = true ∧ GoodB 1 b
def lineI (x : It) : List UInt8 := putM false (wordsI x) ++ [10]
def itemsP (P : ProgM) : List It := P.vars.map (fun d => .var d.name) ++ P.locks.map (fun d => .lock d.name) ++ P.funcs.map (fun f => .func f.name f.body)
theorem text_items (P : ProgM) : progT P = (itemsP P).flatMap lineI := by
  unfold progT itemsP
  simp only [List.flatMap_append, List.flatMap_map]
  rfl
/-- The program with these declarations behind its own, whose words stand at these places. -/
def addI : List It → List Nat → ProgM → ProgM
  | [], _, p => p
  | .var n :: r, ps, p => addI r (ps.drop 2) { p with vars := p.vars ++ [⟨n, ps.headD 0⟩] }
  | .lock n :: r, ps, p => addI r (ps.drop 2) { p with locks := p.locks ++ [⟨n, ps.headD 0⟩] }
  | .func n b :: r, ps, p => addI r (ps.drop ((innerM b).length + 4)) { p with funcs := p.funcs ++ [⟨n, ps.headD 0, placeB b (ps.drop 3)⟩] }

theorem kt_var : kt varW = (1, varW) := by decide
theorem kt_lock : kt lockW = (1, lockW) := by decide
theorem kt_func : kt funcW = (1, funcW) := by decide

theorem prog_place : ∀ (its : List It) (f e : Nat) (l : List Tok) (p : ProgM), (∀ x ∈ its, GoodI x) → l.map tkey = (its.flatMap wordsI).map kt → its.length ≤ f → progF f e l p = .ok (addI its (ats l) p)
  | [], f, e, l, p, _, hk, _ => by
    obtain rfl : l = [] := by simpa using hk
    cases f <;> rfl
  | x :: its, f, e, l, p, hg, hk, hf => by
    have hx := hg x (by simp)
    have hr : ∀ y ∈ its, GoodI y := fun y hy => hg y (by simp [hy])
    rw [List.flatMap_cons] at hk
    simp only [List.length_cons] at hf
    obtain ⟨f, rfl⟩ : ∃ g, f = g + 1 := ⟨f - 1, by omega⟩
    obtain ⟨l1, l2, rfl, k1, k2, n1⟩ := keys_app hk
    cases x with
    | var n =>
      obtain ⟨t, l3, rfl, h1, h2, k3⟩ := keys_cons k1
      obtain ⟨u, l4, rfl, h3, h4, k4⟩ := keys_cons k3
      obtain rfl : l4 = [] := by simpa using k4
      rw [kt_var] at h2
      rw [kt_name hx] at h4
      simp only at h2 h4
      have hx' : nameM n = true := hx
      rw [List.cons_append, List.cons_append, List.nil_append, progF, if_pos h2]
      simp only [nameF, h4, hx', if_true]
      rw [prog_place its f e l2 _ hr k2 (by omega)]
      rfl
    | lock n =>
      obtain ⟨t, l3, rfl, h1, h2, k3⟩ := keys_cons k1
      obtain ⟨u, l4, rfl, h3, h4, k4⟩ := keys_cons k3
      obtain rfl : l4 = [] := by simpa using k4
      rw [kt_lock] at h2
      rw [kt_name hx] at h4
      simp only at h2 h4
      have hx' : nameM n = true := hx
      rw [List.cons_append, List.cons_append, List.nil_append, progF, if_neg (by rw [h2]; decide), if_pos h2]
      simp only [nameF, h4, hx', if_true]
      rw [prog_place its f e l2 _ hr k2 (by omega)]
      rfl
    | func n b =>
      obtain ⟨hx1, hx2⟩ := hx
      have ew : wordsI (.func n b) = funcW :: n :: openW :: (innerM b ++ [closeW]) := by simp [wordsI, wordsB]
      rw [ew] at k1
      obtain ⟨t, l3, rfl, h1, h2, k3⟩ := keys_cons k1
      obtain ⟨u, l4, rfl, h3, h4, k4⟩ := keys_cons k3
      obtain ⟨o, l5, rfl, h5, h6, k5⟩ := keys_cons k4
      rw [kt_func] at h2
      rw [kt_name hx1] at h4
      rw [kt_open] at h5
      simp only at h2 h4 h5
      have n5 : l5.length = (innerM b).length + 1 := by simpa using congrArg List.length k5
      have hB := stmts_place b 1 (2 * (o :: (l5 ++ l2)).length) e l5 l2 hx2 (by omega) k5 (by simp only [List.length_cons, List.length_append]; omega)
      rw [List.cons_append, List.cons_append, List.cons_append, progF, if_neg (by rw [h2]; decide), if_neg (by rw [h2]; decide), if_pos h2]
      simp only [nameF, h4, hx1, if_true]
      rw [blockF, if_neg (by rw [h5]; simp), if_neg (by omega), hB]
      simp only
      rw [prog_place its f e l2 _ hr k2 (by omega)]
      simp only [ats, List.map_cons, List.map_append, addI, List.headD_cons, List.drop_succ_cons, List.drop_zero]
      have e1 : (List.map (fun x => x.at_) l5 ++ List.map (fun x => x.at_) l2).drop ((innerM b).length + 1) = List.map (fun x => x.at_) l2 := by
        rw [show (innerM b).length + 1 = (List.map (fun x => x.at_) l5).length by rw [List.length_map, n5], List.drop_left]
      rw [e1, place_more b 1 _ _ hx2 (by rw [List.length_map, n5]; omega)]

/-! ### But for places -/

def eraseD (l : List DeclM) : List DeclM := l.map fun d => ⟨d.name, 0⟩
def eraseF (l : List FuncM) : List FuncM := l.map fun f => ⟨f.name, 0, eraseB f.body⟩
def eraseP (P : ProgM) : ProgM := ⟨eraseD P.vars, eraseD P.locks, eraseF P.funcs⟩
def varsI (l : List It) : List DeclM := l.flatMap fun x => match x with | .var n => [⟨n, 0⟩] | _ => []
def locksI (l : List It) : List DeclM := l.flatMap fun x => match x with | .lock n => [⟨n, 0⟩] | _ => []
def funcsI (l : List It) : List FuncM := l.flatMap fun x => match x with | .func n b => [⟨n, 0, eraseB b⟩] | _ => []
def progI (l : List It) : ProgM := ⟨varsI l, locksI l, funcsI l⟩
theorem erase_add : ∀ (its : List It) (ps : List Nat) (p : ProgM), eraseP (addI its ps p) = ⟨eraseD p.vars ++ varsI its, eraseD p.locks ++ locksI its, eraseF p.funcs ++ funcsI its⟩
  | [], ps, p => by simp [addI, eraseP, varsI, locksI, funcsI]
  | .var n :: r, ps, p => by
    rw [addI, erase_add r]
    simp [eraseD, varsI, locksI, funcsI]
  | .lock n :: r, ps, p => by
    rw [addI, erase_add r]
    simp [eraseD, varsI, locksI, funcsI]
  | .func n b :: r, ps, p => by
    rw [addI, erase_add r]
    simp [eraseF, varsI, locksI, funcsI, erase_place]
theorem erase_new (its : List It) (ps : List Nat) : eraseP (addI its ps ⟨[], [], []⟩) = progI its := by rw [erase_add]; simp [eraseD, eraseF, progI]
theorem progI_items (P : ProgM) : progI (itemsP P) = eraseP P := by
  unfold progI itemsP varsI locksI funcsI eraseP eraseD eraseF
  simp only [List.flatMap_append, List.flatMap_map]
  have h0 : ∀ {α β : Type} (l : List α), l.flatMap (fun _ => ([] : List β)) = [] := by intro α β l; induction l <;> simp_all
  have h1 : ∀ {α β : Type} (f : α → β) (l : List α), l.flatMap (fun x => [f x]) = l.map f := by intro α β f l; induction l <;> simp_all
  simp only [h0, h1, List.append_nil, List.nil_append]
theorem progI_append (a b : List It) : progI (a ++ b) = ⟨varsI a ++ varsI b, locksI a ++ locksI b, funcsI a ++ funcsI b⟩ := by simp [progI, varsI, locksI, funcsI]
theorem text_erase (P : ProgM) : progT (eraseP P) = progT P := by
  unfold progT eraseP eraseD eraseF
  simp only [List.flatMap_map]
  have : (fun f : FuncM => lineF ⟨f.name, 0, eraseB f.body⟩) = lineF := by funext f; unfold lineF; rw [words_erase]
  rw [this]
  rfl

/-! ### Tokens of what is written -/

def wl (ws : List (List UInt8)) : Nat := (ws.map fun w => w.length + 1).sum
theorem wl_cons (w : List UInt8) (ws : List (List UInt8)) : wl (w :: ws) = w.length + 1 + wl ws := by simp [wl]
theorem wl_append (a b : List (List UInt8)) : wl (a ++ b) = wl a + wl b := by simp [wl]
def posT : Nat → List (List UInt8) → List Tok
  | _, [] => []
  | i, w :: ws => ⟨(kt w).1, i, (kt w).2⟩ :: posT (i + w.length + 1) ws
theorem posT_append : ∀ (a b : List (List UInt8)) (i : Nat), posT i (a ++ b) = posT i a ++ posT (i + wl a) b
  | [], b, i => by simp [posT, wl]
  | w :: a, b, i => by
    rw [List.cons_append, posT, posT_append a b, posT, wl_cons, List.cons_append]
    rw [show i + w.length + 1 + wl a = i + (w.length + 1 + wl a) by omega]
theorem posT_keys : ∀ (ws : List (List UInt8)) (i : Nat), (posT i ws).map tkey = ws.map kt
  | [], i => rfl
  | w :: ws, i => by rw [posT, List.map_cons, posT_keys ws, List.map_cons]; rfl
theorem putM_len : ∀ (ws : List (List UInt8)), (putM true ws).length = wl ws
  | [] => rfl
  | w :: ws => by rw [putM, if_pos rfl, List.length_append, List.length_append, putM_len ws, wl_cons]; simp; omega
theorem line_len {ws : List (List UInt8)} (h : ws ≠ []) : (putM false ws ++ [10]).length = wl ws := by
  cases ws with
  | nil => exact absurd rfl h
  | cons w ws => rw [putM, if_neg (by simp), List.length_append, List.length_append, List.length_append, putM_len, wl_cons]; simp; omega
theorem tokT_word (i : Nat) (w rest : List UInt8) (h : WordOk w) (he : Ends rest) : tokT i (w ++ rest) = (⟨(kt w).1, i, (kt w).2⟩ :: (tokT (i + w.length) rest).1, (tokT (i + w.length) rest).2) := by
  rcases h with rfl | rfl | ⟨c, r, rfl, hc, hr⟩
  · rw [List.singleton_append, tokT_open]; rfl
  · rw [List.singleton_append, tokT_close]; rfl
  · rw [tokT_row _ _ _ _ hc hr he]
    have e1 : kt (c :: r) = (1, c :: r) := by
      unfold kt
      rw [if_neg (fun e => by injection e with e1 e2; subst e1; simp [letB] at hc), if_neg (fun e => by injection e with e1 e2; subst e1; simp [letB] at hc)]
    rw [e1]
theorem ends_b {c : UInt8} (h : blankB c = true) (rest : List UInt8) : Ends (c :: rest) := by
  intro x hx
  simp at hx
  subst hx
  exact blank_aln h
theorem ends_put (ws : List (List UInt8)) (rest : List UInt8) : Ends (putM true ws ++ 10 :: rest) := by
  cases ws with
  | nil => exact ends_b (by decide) rest
  | cons w ws => rw [putM, if_pos rfl]; exact ends_b (by decide) _
theorem tokT_put : ∀ (ws : List (List UInt8)) (i : Nat) (rest : List UInt8), (∀ w ∈ ws, WordOk w) → tokT i (putM true ws ++ 10 :: rest) = (posT (i + 1) ws ++ (tokT (i + wl ws + 1) rest).1, (tokT (i + wl ws + 1) rest).2)
  | [], i, rest, _ => by rw [putM, List.nil_append, tokT_blank _ _ _ (by decide)]; rfl
  | w :: ws, i, rest, h => by
    rw [putM, if_pos rfl, List.append_assoc, List.append_assoc, List.singleton_append, tokT_blank _ _ _ (by decide), tokT_word _ _ _ (h w (by simp)) (ends_put _ _), tokT_put ws _ _ (fun x hx => h x (by simp [hx])), posT, wl_cons,
      show i + 1 + w.length + wl ws + 1 = i + (w.length + 1 + wl ws) + 1 by omega]
    rfl
theorem tokT_line (ws : List (List UInt8)) (i : Nat) (rest : List UInt8) (hn : ws ≠ []) (h : ∀ w ∈ ws, WordOk w) : tokT i (putM false ws ++ [10] ++ rest) = (posT i ws ++ (tokT (i + wl ws) rest).1, (tokT (i + wl ws) rest).2) := by
  cases ws with
  | nil => exact absurd rfl hn
  | cons w ws =>
    rw [putM, if_neg (by simp), List.nil_append, List.append_assoc, List.append_assoc, List.singleton_append, tokT_word _ _ _ (h w (by simp)) (ends_put _ _), tokT_put ws _ _ (fun x hx => h x (by simp [hx])), posT, wl_cons,
      show i + w.length + wl ws + 1 = i + (w.length + 1 + wl ws) by omega]
    rfl
theorem verb_ok : ∀ k, 1 ≤ k → k ≤ 8 → WordOk (verbM k) := by
  intro k h1 h2
  obtain ⟨n, hn⟩ : ∃ n, n = verbM k := ⟨_, rfl⟩
  have : ∀ i : Fin 9, 1 ≤ i.1 → (match verbM i.1 with | [] => false | c :: r => letB c && r.all alnB) = true := by decide
  have h3 := this ⟨k, by omega⟩ h1
  simp only at h3
  cases h4 : verbM k with
  | nil => rw [h4] at h3; simp at h3
  | cons c r =>
    rw [h4] at h3
    simp only [Bool.and_eq_true] at h3
    exact .inr (.inr ⟨c, r, rfl, h3.1, h3.2⟩)
theorem name_ok {n : List UInt8} (h : nameM n = true) : WordOk n := by
  obtain ⟨c, r, rfl, hc, hr⟩ := name_row h
  exact .inr (.inr ⟨c, r, rfl, hc, hr⟩)
theorem inner_ok : ∀ (b : Blk) (d : Nat), GoodB d b → ∀ w ∈ innerM b, WordOk w
  | .nil, d, _ => by simp [innerM]
  | .cons k p n a b r, d, h => by
    have hr := inner_ok r d h.2
    have hO : WordOk openW := .inl rfl
    have hC : WordOk closeW := .inr (.inl rfl)
    have hE : WordOk elseM := .inr (.inr ⟨101, [108, 115, 101], rfl, by decide, by decide⟩)
    rw [inner_cons]
    intro w hw
    rcases List.mem_append.1 hw with hw | hw
    · rcases h.1 with ⟨g1, g2, g3, rfl, rfl⟩ | ⟨rfl, rfl, g3, g4, g5⟩ | ⟨rfl, rfl, g3, g4, rfl⟩
      · rw [headM, if_neg (by omega), if_neg (by omega)] at hw
        simp only [List.mem_cons, List.not_mem_nil, or_false] at hw
        rcases hw with rfl | rfl
        · exact verb_ok k g1 (by omega)
        · exact name_ok g3
      · have ha := inner_ok a _ g4
        have hb := inner_ok b _ g5
        rw [headM, if_pos rfl] at hw
        by_cases hz : b.len = 0
        · rw [if_pos hz] at hw
          simp only [List.mem_append, List.mem_cons, List.not_mem_nil, or_false] at hw
          rcases hw with ((rfl | rfl) | hw) | rfl
          · exact verb_ok 7 (by omega) (by omega)
          · exact hO
          · exact ha w hw
          · exact hC
        · rw [if_neg hz] at hw
          simp only [List.mem_append, List.mem_cons, List.not_mem_nil, or_false] at hw
          rcases hw with (((rfl | rfl) | hw) | ((rfl | rfl | rfl) | hw)) | rfl
          · exact verb_ok 7 (by omega) (by omega)
          · exact hO
          · exact ha w hw
          · exact hC
          · exact hE
          · exact hO
          · exact hb w hw
          · exact hC
      · have ha := inner_ok a _ g4
        rw [headM, if_neg (by omega), if_pos rfl] at hw
        simp only [List.mem_append, List.mem_cons, List.not_mem_nil, or_false] at hw
        rcases hw with ((rfl | rfl) | hw) | rfl
        · exact verb_ok 8 (by omega) (by omega)
        · exact hO
        · exact ha w hw
        · exact hC
    · exact hr w hw
theorem wordsI_ok {x : It} (h : GoodI x) : wordsI x ≠ [] ∧ ∀ w ∈ wordsI x, WordOk w := by
  have hO : WordOk openW := .inl rfl
  have hC : WordOk closeW := .inr (.inl rfl)
  cases x with
  | var n =>
    refine ⟨by simp [wordsI], fun w hw => ?_⟩
    simp only [wordsI, List.mem_cons, List.not_mem_nil, or_false] at hw
    rcases hw with rfl | rfl
    · exact .inr (.inr ⟨118, [97, 114], rfl, by decide, by decide⟩)
    · exact name_ok h
  | lock n =>
    refine ⟨by simp [wordsI], fun w hw => ?_⟩
    simp only [wordsI, List.mem_cons, List.not_mem_nil, or_false] at hw
    rcases hw with rfl | rfl
    · exact .inr (.inr ⟨108, [111, 99, 107], rfl, by decide, by decide⟩)
    · exact name_ok h
  | func n b =>
    refine ⟨by simp [wordsI], fun w hw => ?_⟩
    have hb := inner_ok b 1 h.2
    simp only [wordsI, wordsB, List.mem_append, List.mem_cons, List.not_mem_nil, or_false] at hw
    rcases hw with (rfl | rfl) | (rfl | hw) | rfl
    · exact .inr (.inr ⟨102, [117, 110, 99], rfl, by decide, by decide⟩)
    · exact name_ok h.1
    · exact hO
    · exact hb w hw
    · exact hC
theorem tokT_items : ∀ (its : List It) (i : Nat), (∀ x ∈ its, GoodI x) → tokT i (its.flatMap lineI) = (posT i (its.flatMap wordsI), none)
  | [], i, _ => tokT_nil i
  | x :: its, i, h => by
    obtain ⟨h1, h2⟩ := wordsI_ok (h x (by simp))
    rw [List.flatMap_cons, List.flatMap_cons, lineI, tokT_line _ _ _ h1 h2, tokT_items its _ (fun y hy => h y (by simp [hy])), posT_append]
theorem parse_items (its : List It) (h : ∀ x ∈ its, GoodI x) (hl : (its.flatMap lineI).length ≤ 2000) : parseM (its.flatMap lineI) = (addI its (ats (posT 0 (its.flatMap wordsI))) ⟨[], [], []⟩, 0, 0) := by
  have ht := tokM_T hl
  rw [tokT_items its 0 h] at ht
  simp only at ht
  unfold parseM
  rw [ht]
  simp only [ne_eq, not_true_eq_false, if_false]
  have hn : its.length ≤ (posT 0 (its.flatMap wordsI)).length := by
    have h1 : ∀ ws i, (posT i ws).length = ws.length := by
      intro ws
      induction ws with
      | nil => intro i; rfl
      | cons w ws ih => intro i; rw [posT, List.length_cons, List.length_cons, ih]
    rw [h1]
    clear ht hl h1
    induction its with
    | nil => simp
    | cons x its ih =>
      have := ih (fun y hy => h y (by simp [hy]))
      have h2 := (wordsI_ok (h x (by simp))).1
      have h3 : 0 < (wordsI x).length := List.length_pos_iff.2 h2
      rw [List.flatMap_cons, List.length_append, List.length_cons]
      omega
  rw [prog_place its _ _ _ _ h (posT_keys _ _) hn]
/-- Where it is said in order, a text tells its program, but for places. -/
theorem text_inj {P Q : ProgM} (hP : ∀ x ∈ itemsP P, GoodI x) (hQ : ∀ x ∈ itemsP Q, GoodI x) (h : progT P = progT Q) : eraseP P = eraseP Q := by
  rw [text_items, text_items] at h
  have h1 := tokT_items (itemsP P) 0 hP
  have h2 := tokT_items (itemsP Q) 0 hQ
  rw [h, h2] at h1
  have h3 := congrArg Prod.fst h1
  simp only at h3
  have n1 := prog_place (itemsP P) ((itemsP P).length + (itemsP Q).length) 0 _ ⟨[], [], []⟩ hP (posT_keys _ 0) (by omega)
  have n2 := prog_place (itemsP Q) ((itemsP P).length + (itemsP Q).length) 0 _ ⟨[], [], []⟩ hQ (posT_keys _ 0) (by omega)
  rw [h3] at n2
  rw [n1] at n2
  injection n2 with n3
  have := congrArg eraseP n3
  rw [erase_new, erase_new, progI_items, progI_items] at this
  exact this
theorem text_congr {P Q : ProgM} (h : eraseP P = eraseP Q) : progT P = progT Q := by rw [← text_erase P, h, text_erase]

end Go.Proofs.Ytonpfmhdefhhmaa
