/-
  What a program that was read bears: places within its text, names that are short, no more statements than tokens. No walk is here.
-/
import Derived.Test.YtildkedplmjdaaaDoorNaE
namespace Go.Proofs.YtildkedplmjdaaaDoor
set_option maxRecDepth 100000
set_option linter.unusedVariables false
open Go.RowKit Go.Sort

def PlB (e n : Nat) : Blk → Prop
  | .nil => True
  | .cons _ p s a b r => p ≤ e ∧ s.length ≤ n ∧ PlB e n a ∧ PlB e n b ∧ PlB e n r
theorem PlB.short {e n : Nat} : ∀ {b : Blk}, PlB e n b → ShortB n b
  | .nil, _ => trivial
  | .cons _ _ _ _ _ _, h => ⟨h.2.1, h.2.2.1.short, h.2.2.2.1.short, h.2.2.2.2.short⟩
theorem nameF_good {e : Nat} {r r1 : List Tok} {n : List UInt8} (h : nameF e r = .ok (n, r1)) : n.length ≤ 12 ∧ (∀ t ∈ r1, t ∈ r) ∧ r1.length + 1 ≤ r.length := by
  cases r with
  | nil => simp [nameF] at h
  | cons t r =>
    simp only [nameF] at h
    split at h
    · rename_i hn
      injection h with h; injection h with h1 h2; subst h1; subst h2
      refine ⟨?_, fun x hx => by simp [hx], by simp⟩
      unfold nameM at hn
      simp at hn
      omega
    · cases h

theorem parse_good (e : Nat) : ∀ (f : Nat),
    (∀ d k r x r1, blockF f d k r = .ok (x, r1) → (∀ t ∈ r, t.at_ ≤ e) → PlB e 12 x ∧ (∀ t ∈ r1, t ∈ r) ∧ cntB x + r1.length ≤ r.length) ∧
    (∀ d k r x r1, stmtF f d k r = .ok (x, r1) → (∀ t ∈ r, t.at_ ≤ e) → (x.at_ ≤ e ∧ x.name.length ≤ 12 ∧ PlB e 12 x.a ∧ PlB e 12 x.b) ∧ (∀ t ∈ r1, t ∈ r) ∧ 1 + cntB x.a + cntB x.b + r1.length ≤ r.length) ∧
    (∀ d k r x r1, stmtsF f d k r = .ok (x, r1) → (∀ t ∈ r, t.at_ ≤ e) → PlB e 12 x ∧ (∀ t ∈ r1, t ∈ r) ∧ cntB x + r1.length ≤ r.length)
  | 0 => ⟨fun d k r x r1 h => by cases r <;> simp [blockF] at h, fun d k r x r1 h => by cases r <;> simp [stmtF] at h, fun d k r x r1 h => by simp [stmtsF] at h⟩
  | f + 1 => by
    obtain ⟨ihb, iht, ihs⟩ := parse_good e f
    refine ⟨fun d k r x r1 h ht => ?_, fun d k r x r1 h ht => ?_, fun d k r x r1 h ht => ?_⟩
    · cases r with
      | nil => simp [blockF] at h
      | cons t r =>
        rw [blockF] at h
        split at h
        · cases h
        · split at h
          · cases h
          · obtain ⟨h1, h2, h3⟩ := ihs _ _ _ _ _ h (fun t ht' => ht t (by simp [ht']))
            exact ⟨h1, fun t ht' => by simp [h2 t ht'], by simp only [List.length_cons]; omega⟩
    · cases r with
      | nil => simp [stmtF] at h
      | cons t r =>
        have hta := ht t (by simp)
        have htr : ∀ x ∈ r, x.at_ ≤ e := fun x hx => ht x (by simp [hx])
        rw [stmtF] at h
        split at h
        · cases h
        · split at h
          · split at h
            · cases h
            · rename_i a r2 hb
              obtain ⟨h1, h2, h3⟩ := ihb _ _ _ _ _ hb htr
              split at h
              · split at h
                · cases h
                · rename_i b r3 hc
                  have htl : ∀ x ∈ r2.tail, x ∈ r2 := fun x hx => List.mem_of_mem_tail hx
                  obtain ⟨k1, k2, k3⟩ := ihb _ _ _ _ _ hc (fun x hx => htr x (h2 x (htl x hx)))
                  injection h with h; injection h with h4 h5; subst h4; subst h5
                  refine ⟨⟨hta, by simp, h1, k1⟩, fun x hx => by simp [h2 x (htl x (k2 x hx))], ?_⟩
                  simp only [List.length_tail, List.length_cons] at *
                  omega
              · injection h with h; injection h with h4 h5; subst h4; subst h5
                refine ⟨⟨hta, by simp, h1, trivial⟩, fun x hx => by simp [h2 x hx], ?_⟩
                simp only [List.length_cons, cntB]; omega
          · split at h
            · split at h
              · cases h
              · rename_i a r2 hb
                obtain ⟨h1, h2, h3⟩ := ihb _ _ _ _ _ hb htr
                injection h with h; injection h with h4 h5; subst h4; subst h5
                refine ⟨⟨hta, by simp, h1, trivial⟩, fun x hx => by simp [h2 x hx], ?_⟩
                simp only [List.length_cons, cntB]; omega
            · split at h
              · cases h
              · rename_i n r2 hb
                obtain ⟨h1, h2, h3⟩ := nameF_good hb
                injection h with h; injection h with h4 h5; subst h4; subst h5
                refine ⟨⟨hta, h1, trivial, trivial⟩, fun x hx => by simp [h2 x hx], ?_⟩
                simp only [List.length_cons, cntB]; omega
    · rw [stmtsF] at h
      split at h
      · injection h with h; injection h with h4 h5; subst h4; subst h5
        exact ⟨trivial, fun x hx => List.mem_of_mem_tail hx, by simp [cntB]⟩
      · split at h
        · cases h
        · rename_i s r2 hq
          obtain ⟨⟨h1, h2, h3, h4⟩, h5, h6⟩ := iht _ _ _ _ _ hq ht
          split at h
          · cases h
          · rename_i l r3 hs
            obtain ⟨k1, k2, k3⟩ := ihs _ _ _ _ _ hs (fun x hx => ht x (h5 x hx))
            injection h with h; injection h with h7 h8; subst h7; subst h8
            refine ⟨⟨h1, h2, h3, h4, k1⟩, fun x hx => h5 x (k2 x hx), ?_⟩
            simp only [cntB]
            omega

/-- Of a program: places, names, how much there is. -/
def PlP (e n : Nat) (P : ProgM) : Prop := (∀ d ∈ P.vars, d.at_ ≤ e ∧ d.name.length ≤ n) ∧ (∀ d ∈ P.locks, d.at_ ≤ e ∧ d.name.length ≤ n) ∧ ∀ d ∈ P.funcs, d.at_ ≤ e ∧ d.name.length ≤ n ∧ PlB e n d.body
theorem PlP.short {e n : Nat} {P : ProgM} (h : PlP e n P) : ShortP n P := ⟨fun d hd => (h.1 d hd).2, fun d hd => (h.2.1 d hd).2, fun d hd => ⟨(h.2.2 d hd).2.1, (h.2.2 d hd).2.2.short⟩⟩
theorem cntF_app : ∀ (a b : List FuncM), cntF (a ++ b) = cntF a + cntF b
  | [], b => by simp [cntF]
  | x :: r, b => by rw [List.cons_append, cntF, cntF, cntF_app r b]; omega
def howM (P : ProgM) : Nat := P.vars.length + P.locks.length + P.funcs.length + cntF P.funcs
theorem prog_good (e : Nat) : ∀ (f k : Nat) (r : List Tok) (P Q : ProgM), progF f k r P = .ok Q → (∀ t ∈ r, t.at_ ≤ e) → PlP e 12 P → PlP e 12 Q ∧ howM Q ≤ howM P + r.length
  | 0, k, r, P, Q, h, _, hp => by simp only [progF] at h; injection h with h; subst h; exact ⟨hp, by omega⟩
  | f + 1, k, [], P, Q, h, _, hp => by simp only [progF] at h; injection h with h; subst h; exact ⟨hp, by omega⟩
  | f + 1, k, t :: r, P, Q, h, ht, hp => by
    have hta := ht t (by simp)
    have htr : ∀ x ∈ r, x.at_ ≤ e := fun x hx => ht x (by simp [hx])
    rw [progF] at h
    split at h
    · split at h
      · cases h
      · rename_i n r1 hn
        obtain ⟨h1, h2, h3⟩ := nameF_good hn
        obtain ⟨k1, k2⟩ := prog_good e f k r1 _ _ h (fun x hx => htr x (h2 x hx)) ⟨fun d hd => by
          rcases List.mem_append.1 hd with hd | hd
          · exact hp.1 d hd
          · simp only [List.mem_singleton] at hd; subst hd; exact ⟨hta, h1⟩, hp.2.1, hp.2.2⟩
        refine ⟨k1, ?_⟩
        simp only [howM, List.length_append, List.length_cons, List.length_nil] at *
        omega
    · split at h
      · split at h
        · cases h
        · rename_i n r1 hn
          obtain ⟨h1, h2, h3⟩ := nameF_good hn
          obtain ⟨k1, k2⟩ := prog_good e f k r1 _ _ h (fun x hx => htr x (h2 x hx)) ⟨hp.1, fun d hd => by
            rcases List.mem_append.1 hd with hd | hd
            · exact hp.2.1 d hd
            · simp only [List.mem_singleton] at hd; subst hd; exact ⟨hta, h1⟩, hp.2.2⟩
          refine ⟨k1, ?_⟩
          simp only [howM, List.length_append, List.length_cons, List.length_nil] at *
          omega
      · split at h
        · split at h
          · cases h
          · rename_i n r1 hn
            obtain ⟨h1, h2, h3⟩ := nameF_good hn
            split at h
            · cases h
            · rename_i b r2 hb
              obtain ⟨g1, g2, g3⟩ := (parse_good e _).1 _ _ _ _ _ hb (fun x hx => htr x (h2 x hx))
              obtain ⟨k1, k2⟩ := prog_good e f k r2 _ _ h (fun x hx => htr x (h2 x (g2 x hx))) ⟨hp.1, hp.2.1, fun d hd => by
                rcases List.mem_append.1 hd with hd | hd
                · exact hp.2.2 d hd
                · simp only [List.mem_singleton] at hd; subst hd; exact ⟨hta, h1, g1⟩⟩
              refine ⟨k1, ?_⟩
              simp only [howM, List.length_append, List.length_cons, List.length_nil, cntF_app, cntF] at *
              omega
        · cases h

theorem nameF_err {e E : Nat} {r : List Tok} {y : Nat × Nat} (h : nameF e r = .error y) (ht : ∀ t ∈ r, t.at_ ≤ E) (he : e ≤ E) : y.1 ≤ E := by
  cases r with
  | nil => simp only [nameF] at h; injection h with h; subst h; exact he
  | cons t r =>
    simp only [nameF] at h
    split at h
    · cases h
    · injection h with h; subst h; exact ht t (by simp)
theorem parse_err (E k : Nat) (hk : k ≤ E) : ∀ (f : Nat),
    (∀ d r y, blockF f d k r = .error y → (∀ t ∈ r, t.at_ ≤ E) → y.1 ≤ E) ∧
    (∀ d r y, stmtF f d k r = .error y → (∀ t ∈ r, t.at_ ≤ E) → y.1 ≤ E) ∧
    (∀ d r y, stmtsF f d k r = .error y → (∀ t ∈ r, t.at_ ≤ E) → y.1 ≤ E)
  | 0 => ⟨fun d r y h _ => by cases r <;> (simp only [blockF] at h; injection h with h; subst h; exact hk), fun d r y h _ => by cases r <;> (simp only [stmtF] at h; injection h with h; subst h; exact hk), fun d r y h _ => by simp only [stmtsF] at h; injection h with h; subst h; exact hk⟩
  | f + 1 => by
    obtain ⟨ihb, iht, ihs⟩ := parse_err E k hk f
    refine ⟨fun d r y h ht => ?_, fun d r y h ht => ?_, fun d r y h ht => ?_⟩
    · cases r with
      | nil => simp only [blockF] at h; injection h with h; subst h; exact hk
      | cons t r =>
        have hta := ht t (by simp)
        rw [blockF] at h
        split at h
        · injection h with h; subst h; exact hta
        · split at h
          · injection h with h; subst h; exact hta
          · exact ihs _ _ _ h (fun x hx => ht x (by simp [hx]))
    · cases r with
      | nil => simp only [stmtF] at h; injection h with h; subst h; exact hk
      | cons t r =>
        have hta := ht t (by simp)
        have htr : ∀ x ∈ r, x.at_ ≤ E := fun x hx => ht x (by simp [hx])
        rw [stmtF] at h
        split at h
        · injection h with h; subst h; exact hta
        · split at h
          · split at h
            · rename_i hb
              injection h with h; subst h
              exact ihb _ _ _ hb htr
            · rename_i a r2 hb
              obtain ⟨-, h2, -⟩ := (parse_good E f).1 _ _ _ _ _ hb htr
              split at h
              · split at h
                · rename_i hc
                  injection h with h; subst h
                  exact ihb _ _ _ hc (fun x hx => htr x (h2 x (List.mem_of_mem_tail hx)))
                · cases h
              · cases h
          · split at h
            · split at h
              · rename_i hb
                injection h with h; subst h
                exact ihb _ _ _ hb htr
              · cases h
            · split at h
              · rename_i hb
                injection h with h; subst h
                exact nameF_err hb htr hk
              · cases h
    · rw [stmtsF] at h
      split at h
      · cases h
      · split at h
        · rename_i hq
          injection h with h; subst h
          exact iht _ _ _ hq ht
        · rename_i s r2 hq
          obtain ⟨-, h5, -⟩ := (parse_good E f).2.1 _ _ _ _ _ hq ht
          split at h
          · rename_i hs
            injection h with h; subst h
            exact ihs _ _ _ hs (fun x hx => ht x (h5 x hx))
          · cases h
theorem prog_err (E : Nat) : ∀ (f k : Nat) (r : List Tok) (P : ProgM) (y : Nat × Nat), k ≤ E → progF f k r P = .error y → (∀ t ∈ r, t.at_ ≤ E) → y.1 ≤ E
  | 0, k, r, P, y, hk, h, _ => by simp [progF] at h
  | f + 1, k, [], P, y, hk, h, _ => by simp [progF] at h
  | f + 1, k, t :: r, P, y, hk, h, ht => by
    have hta := ht t (by simp)
    have htr : ∀ x ∈ r, x.at_ ≤ E := fun x hx => ht x (by simp [hx])
    rw [progF] at h
    split at h
    · split at h
      · rename_i hn; injection h with h; subst h; exact nameF_err hn htr hk
      · rename_i n r1 hn
        exact prog_err E f k r1 _ _ hk h (fun x hx => htr x ((nameF_good hn).2.1 x hx))
    · split at h
      · split at h
        · rename_i hn; injection h with h; subst h; exact nameF_err hn htr hk
        · rename_i n r1 hn
          exact prog_err E f k r1 _ _ hk h (fun x hx => htr x ((nameF_good hn).2.1 x hx))
      · split at h
        · split at h
          · rename_i hn; injection h with h; subst h; exact nameF_err hn htr hk
          · rename_i n r1 hn
            have h2 := (nameF_good hn).2.1
            split at h
            · rename_i hb; injection h with h; subst h
              exact (parse_err E k hk _).1 _ _ _ hb (fun x hx => htr x (h2 x hx))
            · rename_i b r2 hb
              obtain ⟨-, g2, -⟩ := (parse_good E _).1 _ _ _ _ _ hb (fun x hx => htr x (h2 x hx))
              exact prog_err E f k r2 _ _ hk h (fun x hx => htr x (h2 x (g2 x hx)))
        · injection h with h; subst h; exact hta

theorem tokF_at : ∀ (f i : Nat) (s : List UInt8), (∀ t ∈ (tokF f i s).1, t.at_ ≤ i + s.length) ∧ ∀ o, (tokF f i s).2 = some o → o ≤ i + s.length
  | 0, i, s => by simp [tokF]
  | f + 1, i, [] => by simp [tokF]
  | f + 1, i, c :: r => by
    have h1 := tokF_at f (i + 1) r
    have h2 := tokF_at f (i + (rowM (c :: r)).length) ((c :: r).drop (rowM (c :: r)).length)
    have h3 := (row_pre (c :: r)).2
    rw [List.length_drop] at h2
    rw [tokF]
    split
    · refine ⟨fun t ht => ?_, fun o ho => ?_⟩
      · rcases List.mem_cons.1 ht with rfl | ht
        · simp
        · have := h2.1 t ht; omega
      · have := h2.2 o ho; omega
    · split
      · refine ⟨fun t ht => ?_, fun o ho => ?_⟩
        · rcases List.mem_cons.1 ht with rfl | ht
          · simp
          · have := h1.1 t ht; simp only [List.length_cons]; omega
        · have := h1.2 o ho; simp only [List.length_cons]; omega
      · split
        · refine ⟨fun t ht => ?_, fun o ho => ?_⟩
          · rcases List.mem_cons.1 ht with rfl | ht
            · simp
            · have := h1.1 t ht; simp only [List.length_cons]; omega
          · have := h1.2 o ho; simp only [List.length_cons]; omega
        · split
          · refine ⟨fun t ht => ?_, fun o ho => ?_⟩
            · have := h1.1 t ht; simp only [List.length_cons]; omega
            · have := h1.2 o ho; simp only [List.length_cons]; omega
          · simp
theorem tokM_at (s : List UInt8) : (∀ t ∈ (tokM s).1, t.at_ ≤ s.length) ∧ (tokM s).2.1 ≤ s.length := by
  have h := tokF_at s.length 0 s
  rw [Nat.zero_add] at h
  unfold tokM
  split
  · simp
  · generalize tokF s.length 0 s = x at *
    obtain ⟨l, o⟩ := x
    cases o with
    | none => exact ⟨h.1, by simp⟩
    | some o => exact ⟨by simp, h.2 o rfl⟩
theorem parseM_good (s : List UInt8) : PlP s.length 12 (parseM s).1 ∧ howM (parseM s).1 ≤ s.length ∧ (parseM s).2.1 ≤ s.length := by
  have h0 : PlP s.length 12 ⟨[], [], []⟩ ∧ howM ⟨[], [], []⟩ ≤ s.length := ⟨⟨by simp, by simp, by simp⟩, by simp [howM, cntF]⟩
  have ht := tokM_at s
  unfold parseM
  split
  · exact ⟨h0.1, h0.2, ht.2⟩
  · split
    · rename_i p h
      obtain ⟨h1, h2⟩ := prog_good s.length _ _ _ _ _ h ht.1 h0.1
      have h3 := tokM_len s
      refine ⟨h1, ?_, Nat.zero_le _⟩
      simp only [howM, cntF, List.length_nil] at h2 ⊢
      omega
    · rename_i i k h
      exact ⟨h0.1, h0.2, prog_err s.length _ _ _ _ _ (Nat.le_refl _) h ht.1⟩

end Go.Proofs.YtildkedplmjdaaaDoor
