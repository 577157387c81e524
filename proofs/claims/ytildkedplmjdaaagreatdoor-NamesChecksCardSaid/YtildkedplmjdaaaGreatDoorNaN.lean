/-
  moveBlock of the package names: places further on, in the blocks' own memory.
-/
import Derived.Test.YtildkedplmjdaaaGreatDoorNaE
namespace Go.Proofs.YtildkedplmjdaaaGreatDoor
set_option maxRecDepth 100000
set_option linter.unusedVariables false
open Go.RowKit Go.Sort

def PlB (e n : Nat) : Blk → Prop
  | .nil => True
  | .cons _ p s a b r => p ≤ e ∧ s.length ≤ n ∧ PlB e n a ∧ PlB e n b ∧ PlB e n r
theorem PlB.short {e n : Nat} : ∀ {b : Blk}, PlB e n b → ShortB n b
  | .nil, _ => trivial
  | .cons _ _ _ _ _ _, h => ⟨h.2.1, h.2.2.1.short, h.2.2.2.1.short, h.2.2.2.2.short⟩
theorem nameF_good {e : Nat} {r r1 : List Tok} {n : List UInt8} (h : nameF e r = .ok (n, r1)) : n.length ≤ 12 ∧ (∀ t ∈ r1, t ∈ r) ∧ r1.length + 1 ≤ r.length := by
  cases r with
  | nil => simp [nameF] at h
  | cons t r =>
    simp only [nameF] at h
    split at h
    · rename_i hn
      injection h with h; injection h with h1 h2; subst h1; subst h2
      refine ⟨?_, fun x hx => by simp [hx], by simp⟩
      unfold nameM at hn
      simp at hn
      omega
    · cases h

theorem parse_good (e : Nat) : ∀ (f : Nat),
    (∀ d k r x r1, blockF f d k r = .ok (x, r1) → (∀ t ∈ r, t.at_ ≤ e) → PlB e 12 x ∧ (∀ t ∈ r1, t ∈ r) ∧ cntB x + r1.length ≤ r.length) ∧
    (∀ d k r x r1, stmtF f d k r = .ok (x, r1) → (∀ t ∈ r, t.at_ ≤ e) → (x.at_ ≤ e ∧ x.name.length ≤ 12 ∧ PlB e 12 x.a ∧ PlB e 12 x.b) ∧ (∀ t ∈ r1, t ∈ r) ∧ 1 + cntB x.a + cntB x.b + r1.length ≤ r.length) ∧
    (∀ d k r x r1, stmtsF f d k r = .ok (x, r1) → (∀ t ∈ r, t.at_ ≤ e) → PlB e 12 x ∧ (∀ t ∈ r1, t ∈ r) ∧ cntB x + r1.length ≤ r.length)
  | 0 => ⟨fun d k r x r1 h => by cases r <;> simp [blockF] at h, fun d k r x r1 h => by cases r <;> simp [stmtF] at h, fun d k r x r1 h => by simp [stmtsF] at h⟩
  | f + 1 => by
    obtain ⟨ihb, iht, ihs⟩ := parse_good e f
    refine ⟨fun d k r x r1 h ht => ?_, fun d k r x r1 h ht => ?_, fun d k r x r1 h ht => ?_⟩
    · cases r with
      | nil => simp [blockF] at h
      | cons t r =>
        rw [blockF] at h
        split at h
        · cases h
        · split at h
          · cases h
          · obtain ⟨h1, h2, h3⟩ := ihs _ _ _ _ _ h (fun t ht' => ht t (by simp [ht']))
            exact ⟨h1, fun t ht' => by simp [h2 t ht'], by simp only [List.length_cons]; omega⟩
    · cases r with
      | nil => simp [stmtF] at h
      | cons t r =>
        have hta := ht t (by simp)
        have htr : ∀ x ∈ r, x.at_ ≤ e := fun x hx => ht x (by simp [hx])
        rw [stmtF] at h
        split at h
        · cases h
        · split at h
          · split at h
            · cases h
            · rename_i a r2 hb
              obtain ⟨h1, h2, h3⟩ := ihb _ _ _ _ _ hb htr
              split at h
              · split at h
                · cases h
                · rename_i b r3 hc
                  have htl : ∀ x ∈ r2.tail, x ∈ r2 := fun x hx => List.mem_of_mem_tail hx
                  obtain ⟨k1, k2, k3⟩ := ihb _ _ _ _ _ hc (fun x hx => htr x (h2 x (htl x hx)))
                  injection h with h; injection h with h4 h5; subst h4; subst h5
                  refine ⟨⟨hta, by simp, h1, k1⟩, fun x hx => by simp [h2 x (htl x (k2 x hx))], ?_⟩
                  simp only [List.length_tail, List.length_cons] at *
                  omega
              · injection h with h; injection h with h4 h5; subst h4; subst h5
                refine ⟨⟨hta, by simp, h1, trivial⟩, fun x hx => by simp [h2 x hx], ?_⟩
                simp only [List.length_cons, cntB]; omega
          · split at h
            · split at h
              · cases h
              · rename_i a r2 hb
                obtain ⟨h1, h2, h3⟩ := ihb _ _ _ _ _ hb htr
                injection h with h; injection h with h4 h5; subst h4; subst h5
                refine ⟨⟨hta, by simp, h1, trivial⟩, fun x hx => by simp [h2 x hx], ?_⟩
                simp only [List.length_cons, cntB]; omega
            · split at h
              · cases h
              · rename_i n r2 hb
                obtain ⟨h1, h2, h3⟩ := nameF_good hb
                injection h with h; injection h with h4 h5; subst h4; subst h5
                refine ⟨⟨hta, h1, trivial, trivial⟩, fun x hx => by simp [h2 x hx], ?_⟩
                simp only [List.length_cons, cntB]; omega
    · rw [stmtsF] at h
      split at h
      · injection h with h; injection h with h4 h5; subst h4; subst h5
        exact ⟨trivial, fun x hx => List.mem_of_mem_tail hx, by simp [cntB]⟩
      · split at h
        · cases h
        · rename_i s r2 hq
          obtain ⟨⟨h1, h2, h3, h4⟩, h5, h6⟩ := iht _ _ _ _ _ hq ht
          split at h
          · cases h
          · rename_i l r3 hs
            obtain ⟨k1, k2, k3⟩ := ihs _ _ _ _ _ hs (fun x hx => ht x (h5 x hx))
            injection h with h; injection h with h7 h8; subst h7; subst h8
            refine ⟨⟨h1, h2, h3, h4, k1⟩, fun x hx => h5 x (k2 x hx), ?_⟩
            simp only [cntB]
            omega

/-- Of a program: places, names, how much there is. -/
def PlP (e n : Nat) (P : ProgM) : Prop := (∀ d ∈ P.vars, d.at_ ≤ e ∧ d.name.length ≤ n) ∧ (∀ d ∈ P.locks, d.at_ ≤ e ∧ d.name.length ≤ n) ∧ ∀ d ∈ P.funcs, d.at_ ≤ e ∧ d.name.length ≤ n ∧ PlB e n d.body
theorem PlP.short {e n : Nat} {P : ProgM} (h : PlP e n P) : ShortP n P := ⟨fun d hd => (h.1 d hd).2, fun d hd => (h.2.1 d hd).2, fun d hd => ⟨(h.2.2 d hd).2.1, (h.2.2 d hd).2.2.short⟩⟩
theorem cntF_app : ∀ (a b : List FuncM), cntF (a ++ b) = cntF a + cntF b
  | [], b => by simp [cntF]
  | x :: r, b => by rw [List.cons_append, cntF, cntF, cntF_app r b]; omega
def howM (P : ProgM) : Nat := P.vars.length + P.locks.length + P.funcs.length + cntF P.funcs
theorem prog_good (e : Nat) : ∀ (f k : Nat) (r : List Tok) (P Q : ProgM), progF f k r P = .ok Q → (∀ t ∈ r, t.at_ ≤ e) → PlP e 12 P → PlP e 12 Q ∧ howM Q ≤ howM P + r.length
  | 0, k, r, P, Q, h, _, hp => by simp only [progF] at h; injection h with h; subst h; exact ⟨hp, by omega⟩
  | f + 1, k, [], P, Q, h, _, hp => by simp only [progF] at h; injection h with h; subst h; exact ⟨hp, by omega⟩
  | f + 1, k, t :: r, P, Q, h, ht, hp => by
    have hta := ht t (by simp)
    have htr : ∀ x ∈ r, x.at_ ≤ e := fun x hx => ht x (by simp [hx])
    rw [progF] at h
    split at h
    · split at h
      · cases h
      · rename_i n r1 hn
        obtain ⟨h1, h2, h3⟩ := nameF_good hn
        obtain ⟨k1, k2⟩ := prog_good e f k r1 _ _ h (fun x hx => htr x (h2 x hx)) ⟨fun d hd => by
          rcases List.mem_append.1 hd with hd | hd
          · exact hp.1 d hd
          · simp only [List.mem_singleton] at hd; subst hd; exact ⟨hta, h1⟩, hp.2.1, hp.2.2⟩
        refine ⟨k1, ?_⟩
        simp only [howM, List.length_append, List.length_cons, List.length_nil] at *
        omega
    · split at h
      · split at h
        · cases h
        · rename_i n r1 hn
          obtain ⟨h1, h2, h3⟩ := nameF_good hn
          obtain ⟨k1, k2⟩ := prog_good e f k r1 _ _ h (fun x hx => htr x (h2 x hx)) ⟨hp.1, fun d hd => by
            rcases List.mem_append.1 hd with hd | hd
            · exact hp.2.1 d hd
            · simp only [List.mem_singleton] at hd; subst hd; exact ⟨hta, h1⟩, hp.2.2⟩
          refine ⟨k1, ?_⟩
          simp only [howM, List.length_append, List.length_cons, List.length_nil] at *
          omega
      · split at h
        · split at h
          · cases h
          · rename_i n r1 hn
            obtain ⟨h1, h2, h3⟩ := nameF_good hn
            split at h
            · cases h
            · rename_i b r2 hb
              obtain ⟨g1, g2, g3⟩ := (parse_good e _).1 _ _ _ _ _ hb (fun x hx => htr x (h2 x hx))
              obtain ⟨k1, k2⟩ := prog_good e f k r2 _ _ h (fun x hx => htr x (h2 x (g2 x hx))) ⟨hp.1, hp.2.1, fun d hd => by
                rcases List.mem_append.1 hd with hd | hd
                · exact hp.2.2 d hd
                · simp only [List.mem_singleton] at hd; subst hd; exact ⟨hta, h1, g1⟩⟩
              refine ⟨k1, ?_⟩
              simp only [howM, List.length_append, List.length_cons, List.length_nil, cntF_app, cntF] at *
              omega
        · cases h

theorem nameF_err {e E : Nat} {r : List Tok} {y : Nat × Nat} (h : nameF e r = .error y) (ht : ∀ t ∈ r, t.at_ ≤ E) (he : e ≤ E) : y.1 ≤ E := by
  cases r with
  | nil => simp only [nameF] at h; injection h with h; subst h; exact he
  | cons t r =>
    simp only [nameF] at h
    split at h
    · cases h
    · injection h with h; subst h; exact ht t (by simp)
theorem parse_err (E k : Nat) (hk : k ≤ E) : ∀ (f : Nat),
    (∀ d r y, blockF f d k r = .error y → (∀ t ∈ r, t.at_ ≤ E) → y.1 ≤ E) ∧
    (∀ d r y, stmtF f d k r = .error y → (∀ t ∈ r, t.at_ ≤ E) → y.1 ≤ E) ∧
    (∀ d r y, stmtsF f d k r = .error y → (∀ t ∈ r, t.at_ ≤ E) → y.1 ≤ E)
  | 0 => ⟨fun d r y h _ => by cases r <;> (simp only [blockF] at h; injection h with h; subst h; exact hk), fun d r y h _ => by cases r <;> (simp only [stmtF] at h; injection h with h; subst h; exact hk), fun d r y h _ => by simp only [stmtsF] at h; injection h with h; subst h; exact hk⟩
  | f + 1 => by
    obtain ⟨ihb, iht, ihs⟩ := parse_err E k hk f
    refine ⟨fun d r y h ht => ?_, fun d r y h ht => ?_, fun d r y h ht => ?_⟩
    · cases r with
      | nil => simp only [blockF] at h; injection h with h; subst h; exact hk
      | cons t r =>
        have hta := ht t (by simp)
        rw [blockF] at h
        split at h
        · injection h with h; subst h; exact hta
        · split at h
          · injection h with h; subst h; exact hta
          · exact ihs _ _ _ h (fun x hx => ht x (by simp [hx]))
    · cases r with
      | nil => simp only [stmtF] at h; injection h with h; subst h; exact hk
      | cons t r =>
        have hta := ht t (by simp)
        have htr : ∀ x ∈ r, x.at_ ≤ E := fun x hx => ht x (by simp [hx])
        rw [stmtF] at h
        split at h
        · injection h with h; subst h; exact hta
        · split at h
          · split at h
            · rename_i hb
              injection h with h; subst h
              exact ihb _ _ _ hb htr
            · rename_i a r2 hb
              obtain ⟨-, h2, -⟩ := (parse_good E f).1 _ _ _ _ _ hb htr
              split at h
              · split at h
                · rename_i hc
                  injection h with h; subst h
                  exact ihb _ _ _ hc (fun x hx => htr x (h2 x (List.mem_of_mem_tail hx)))
                · cases h
              · cases h
          · split at h
            · split at h
              · rename_i hb
                injection h with h; subst h
                exact ihb _ _ _ hb htr
              · cases h
            · split at h
              · rename_i hb
                injection h with h; subst h
                exact nameF_err hb htr hk
              · cases h
    · rw [stmtsF] at h
      split at h
      · cases h
      · split at h
        · rename_i hq
          injection h with h; subst h
          exact iht _ _ _ hq ht
        · rename_i s r2 hq
          obtain ⟨-, h5, -⟩ := (parse_good E f).2.1 _ _ _ _ _ hq ht
          split at h
          · rename_i hs
            injection h with h; subst h
            exact ihs _ _ _ hs (fun x hx => ht x (h5 x hx))
          · cases h
theorem prog_err (E : Nat) : ∀ (f k : Nat) (r : List Tok) (P : ProgM) (y : Nat × Nat), k ≤ E → progF f k r P = .error y → (∀ t ∈ r, t.at_ ≤ E) → y.1 ≤ E
  | 0, k, r, P, y, hk, h, _ => by simp [progF] at h
  | f + 1, k, [], P, y, hk, h, _ => by simp [progF] at h
  | f + 1, k, t :: r, P, y, hk, h, ht => by
    have hta := ht t (by simp)
    have htr : ∀ x ∈ r, x.at_ ≤ E := fun x hx => ht x (by simp [hx])
    rw [progF] at h
    split at h
    · split at h
      · rename_i hn; injection h with h; subst h; exact nameF_err hn htr hk
      · rename_i n r1 hn
        exact prog_err E f k r1 _ _ hk h (fun x hx => htr x ((nameF_good hn).2.1 x hx))
    · split at h
      · split at h
        · rename_i hn; injection h with h; subst h; exact nameF_err hn htr hk
        · rename_i n r1 hn
          exact prog_err E f k r1 _ _ hk h (fun x hx => htr x ((nameF_good hn).2.1 x hx))
      · split at h
        · split at h
          · rename_i hn; injection h with h; subst h; exact nameF_err hn htr hk
          · rename_i n r1 hn
            have h2 := (nameF_good hn).2.1
            split at h
            · rename_i hb; injection h with h; subst h
              exact (parse_err E k hk _).1 _ _ _ hb (fun x hx => htr x (h2 x hx))
            · rename_i b r2 hb
              obtain ⟨-, g2, -⟩ := (parse_good E _).1 _ _ _ _ _ hb (fun x hx => htr x (h2 x hx))
              exact prog_err E f k r2 _ _ hk h (fun x hx => htr x (h2 x (g2 x hx)))
        · injection h with h; subst h; exact hta

theorem tokF_at : ∀ (f i : Nat) (s : List UInt8), (∀ t ∈ (tokF f i s).1, t.at_ ≤ i + s.length) ∧ ∀ o, (tokF f i s).2 = some o → o ≤ i + s.length
  | 0, i, s => by simp [tokF]
  | f + 1, i, [] => by simp [tokF]
  | f + 1, i, c :: r => by
    have h1 := tokF_at f (i + 1) r
    have h2 := tokF_at f (i + (rowM (c :: r)).length) ((c :: r).drop (rowM (c :: r)).length)
    have h3 := (row_pre (c :: r)).2
    rw [List.length_drop] at h2
    rw [tokF]
    split
    · refine ⟨fun t ht => ?_, fun o ho => ?_⟩
      · rcases List.mem_cons.1 ht with rfl | ht
        · simp
        · have := h2.1 t ht; omega
      · have := h2.2 o ho; omega
    · split
      · refine ⟨fun t ht => ?_, fun o ho => ?_⟩
        · rcases List.mem_cons.1 ht with rfl | ht
          · simp
          · have := h1.1 t ht; simp only [List.length_cons]; omega
        · have := h1.2 o ho; simp only [List.length_cons]; omega
      · split
        · refine ⟨fun t ht => ?_, fun o ho => ?_⟩
          · rcases List.mem_cons.1 ht with rfl | ht
            · simp
            · have := h1.1 t ht; simp only [List.length_cons]; omega
          · have := h1.2 o ho; simp only [List.length_cons]; omega
        · split
          · refine ⟨fun t ht => ?_, fun o ho => ?_⟩
            · have := h1.1 t ht; simp only [List.length_cons]; omega
            · have := h1.2 o ho; simp only [List.length_cons]; omega
          · simp
theorem tokM_at (s : List UInt8) : (∀ t ∈ (tokM s).1, t.at_ ≤ s.length) ∧ (tokM s).2.1 ≤ s.length := by
  have h := tokF_at s.length 0 s
  rw [Nat.zero_add] at h
  unfold tokM
  split
  · simp
  · generalize tokF s.length 0 s = x at *
    obtain ⟨l, o⟩ := x
    cases o with
    | none => exact ⟨h.1, by simp⟩
    | some o => exact ⟨by simp, h.2 o rfl⟩
theorem parseM_good (s : List UInt8) : PlP s.length 12 (parseM s).1 ∧ howM (parseM s).1 ≤ s.length ∧ (parseM s).2.1 ≤ s.length := by
  have h0 : PlP s.length 12 ⟨[], [], []⟩ ∧ howM ⟨[], [], []⟩ ≤ s.length := ⟨⟨by simp, by simp, by simp⟩, by simp [howM, cntF]⟩
  have ht := tokM_at s
  unfold parseM
  split
  · exact ⟨h0.1, h0.2, ht.2⟩
  · split
    · rename_i p h
      obtain ⟨h1, h2⟩ := prog_good s.length _ _ _ _ _ h ht.1 h0.1
      have h3 := tokM_len s
      refine ⟨h1, ?_, Nat.zero_le _⟩
      simp only [howM, cntF, List.length_nil] at h2 ⊢
      omega
    · rename_i i k h
      exact ⟨h0.1, h0.2, prog_err s.length _ _ _ _ _ (Nat.le_refl _) h ht.1⟩

end Go.Proofs.YtildkedplmjdaaaGreatDoor
namespace Go.Proofs.YtildkedplmjdaaaGreatDoor
set_option maxRecDepth 100000
set_option linter.unusedVariables false
open Go.RowKit Go.Sort

/-- A cell put into a row. -/
theorem range_put {w : World} {g o k : Nat} {cs : Array Value} {t : TypeId} {xs : List Value} (hg : IsBlk w g (.cells cs t)) (h : w.rangeAt g o xs) (hk : k < xs.length) (v : Value) :
    (w.setCell ⟨g, o + k, none⟩ v).rangeAt g o (xs.set k v) := by
  have hput := IsBlk.put hg (o + k) v
  intro i u hu
  rw [hput.cell (o + i)]
  by_cases hi : i = k
  · subst hi
    rw [List.getElem?_set_self hk] at hu
    have h1 := h i _ (List.getElem?_eq_getElem hk)
    rw [hg.cell (o + i)] at h1
    obtain ⟨hlt, -⟩ := Array.getElem?_eq_some_iff.1 h1
    rw [Array.getElem?_setIfInBounds_self_of_lt hlt]
    exact hu
  · rw [List.getElem?_set_ne (fun e => hi e.symm)] at hu
    have h1 := h i u hu
    rw [hg.cell (o + i)] at h1
    rw [Array.getElem?_setIfInBounds_ne (by omega)]
    exact h1

/-- A block opened with its own block. -/
theorem blk_own {w : World} {a : Option Addr} {c : Nat} {b : Blk} {fp : List Nat} (h : BlkAt w (.slice a b.len c) b fp) :
    b = .nil ∧ fp = [] ∧ a = none ∧ c = 0 ∨ ∃ g xs fq cs t, a = some ⟨g, 0, none⟩ ∧ 0 < b.len ∧ fp = g :: fq ∧ b.len ≤ c ∧ EncB w b xs fq ∧ w.rangeAt g 0 xs ∧ IsBlk w g (.cells cs t) := by
  rcases h with ⟨h1, h2, h3⟩ | ⟨g, c', fq, xs, h1, hc, hn, hfp, ⟨cs, t, hg⟩, hr, he⟩
  · injection h1 with h1 h4 h5
    exact .inl ⟨Blk.len_zero b h2, h3, h1, h5⟩
  · injection h1 with h1 h4 h5
    exact .inr ⟨g, xs, fq, cs, t, h1, hn, hfp, by omega, he, hr, hg⟩

theorem moveB_app (n : Nat) : ∀ (x y : Blk), moveB n (x.app y) = (moveB n x).app (moveB n y)
  | .nil, y => rfl
  | .cons _ _ _ _ _ r, y => by rw [Blk.app, moveB, moveB, Blk.app, moveB_app n r y]

set_option maxHeartbeats 16000000 in
theorem moveB_step (N by_ : Nat) (hby : by_ ≤ 1000000) (ih : ∀ b : Blk, cntB b < N → ∀ (w : World) (v : Value) (fp : List Nat), BlkAt w v b fp → fp.Nodup → cntB b ≤ 1000000 → PlB 1000000 1000000 b → Calls Tryz.prog 84 #[v, .int .i64 by_] w fun e w' => e = .returned (.tuple #[]) ∧ BlkAt w' v (moveB by_ b) fp ∧ Only fp w w')
    (b : Blk) (hN : cntB b ≤ N) (w : World) (v : Value) (fp : List Nat) (h : BlkAt w v b fp) (hnd : fp.Nodup) (hbig : cntB b ≤ 1000000) (hpl : PlB 1000000 1000000 b) :
    Calls Tryz.prog 84 #[v, .int .i64 by_] w fun e w' => e = .returned (.tuple #[]) ∧ BlkAt w' v (moveB by_ b) fp ∧ Only fp w w' := by
  obtain ⟨a, c, rfl, hc⟩ := h.slice
  have hlen := len_cntB b
  rcases blk_own h with ⟨rfl, rfl, rfl, rfl⟩ | ⟨g, xs, fq, cs, ty, rfl, h0, rfl, -, hE, hr, hg⟩
  · go_enter Tryz.func84, Tryz.ntmps84
    simp only [Blk.len]
    go_wp2_with fail
    go_loopw [7] (fun iv wr => iv = .int .i64 0 ∧ wr = w) (fun _ _ => 0)
    case atStart => exact ⟨rfl, rfl⟩
    case round =>
      obtain ⟨rfl, rfl⟩ := hrel
      go_wp2
      go_end0
      exact ⟨rfl, BlkAt.nil _, Only.refl _ _⟩
  · have H := Lib.hid (And.intro hE (And.intro hr hg))
    have Ih := Lib.hid ih
    have Hnd := Lib.hid hnd
    clear h hE hr hg ih hnd
    go_enter Tryz.func84, Tryz.ntmps84
    go_wp2_with fail
    go_loopw [7] (fun iv wr => ∃ (j : Nat) (pre rs : Blk) (x1 x2 : List Value) (f1 f2 : List Nat), iv = .int .i64 j ∧ b = pre.app rs ∧ j = pre.len ∧ cntB rs ≤ N ∧ cntB rs ≤ 1000000 ∧ PlB 1000000 1000000 rs ∧ EncB wr (moveB by_ pre) x1 f1 ∧ EncB wr rs x2 f2 ∧ fq = f1 ++ f2 ∧
        wr.rangeAt g 0 (x1 ++ x2) ∧ (∃ cs t, IsBlk wr g (.cells cs t)) ∧ Only (g :: fq) w wr) (fun iv _ => b.len - (intOf iv).toNat)
    case atStart => exact ⟨0, .nil, b, [], xs, [], fq, rfl, rfl, rfl, hN, hbig, hpl, ⟨rfl, rfl⟩, H.out.1, rfl, H.out.2.1, ⟨cs, ty, H.out.2.2⟩, Only.refl _ _⟩
    case round =>
      obtain ⟨j, pre, rs, x1, x2, f1, f2, rfl, hbp, hjp, hrc, hrb, hpl2, hE1, hE2, hfq, hr, hgb, hO⟩ := hrel
      have hbl : b.len = j + rs.len := by rw [hbp, Blk.len_app, hjp]
      have HO := Lib.hid hO
      have Hfq := Lib.hid hfq
      have Hbp := Lib.hid hbp
      have HE1 := Lib.hid hE1
      have Hgb := Lib.hid hgb
      have l1 := EncB.len hE1
      rw [moveB_len, ← hjp] at l1
      have Hjp := Lib.hid hjp
      have Hbl0 := Lib.hid hbl
      clear hO hfq hE1 hgb hbp hjp hbl
      cases rs with
      | nil =>
        obtain ⟨rfl, rfl⟩ := hE2
        have hji : ¬ (j : Int) < (b.len : Int) := by have hbl := Hbl0.out; simp only [Blk.len] at hbl; omega
        go_wp2_with fail
        go_end0
        have e : moveB by_ b = moveB by_ pre := by rw [Hbp.out, moveB_app]; exact Blk.app_nil _
        refine ⟨rfl, .inr ⟨g, c, fq, x1, ?_, ?_, ?_, rfl, Hgb.out, by simpa using hr, ?_⟩, HO.out⟩
        · exact congrArg (fun k => Value.slice (some ⟨g, 0, none⟩) k c) (moveB_len by_ b).symm
        · rw [moveB_len]; exact hc
        · rw [moveB_len]; exact h0
        · rw [e, Hfq.out, List.append_nil]; exact HE1.out
      | cons kd pl nm A B rr =>
        obtain ⟨va, vb, fa, fb, fr, xr, rfl, rfl, hA, hB, hE'⟩ := hE2
        obtain ⟨aa, ca, rfl, hca⟩ := RowE.slice hA
        obtain ⟨ab, cb, rfl, hcb⟩ := RowE.slice hB
        obtain ⟨cs2, ty2, hg2⟩ := Hgb.out
        have hgl := hg2.lt
        have hji : (j : Int) < (b.len : Int) := by have hbl := Hbl0.out; simp only [Blk.len] at hbl; omega
        have hcc : cntB A < N ∧ cntB B < N ∧ cntB rr ≤ N := by simp only [cntB] at hrc; omega
        have hcb2 : cntB A ≤ 1000000 ∧ cntB B ≤ 1000000 ∧ cntB rr ≤ 1000000 := by simp only [cntB] at hrb; omega
        obtain ⟨hp1, -, hp3, hp4, hp5⟩ := hpl2
        have hA' : BlkAt wr (.slice aa A.len ca) A fa := hA
        have hB' : BlkAt wr (.slice ab B.len cb) B fb := hB
        have hnd := Hnd.out
        rw [Hfq.out] at hnd
        simp only [List.nodup_cons, List.mem_append, List.nodup_append, not_or] at hnd
        have hwr : IntKind.i64.wrap ((pl : Int) + (by_ : Int)) = (pl : Int) + (by_ : Int) := Go.IntWalk.i64_in _ (by omega)
        have Hbl : Hid (b.len = j + (rr.len + 1)) := Lib.hid Hbl0.out
        have k1 : wr.cell? ⟨g, j * 5 + 1, none⟩ = some (.int .i64 pl) := by
          have := hr (j * 5 + 1) (.int .i64 pl) (by rw [List.getElem?_append_right (by omega), show j * 5 + 1 - x1.length = 1 by omega]; rfl)
          rwa [Nat.zero_add] at this
        have fz := hg2.notFrozen (j * 5 + 1)
        have hr2 := range_put hg2 hr (k := j * 5 + 1) (by simp; omega) (.int .i64 ((pl : Int) + (by_ : Int)))
        have hset : (x1 ++ (.int .i64 (kd : Int) :: .int .i64 (pl : Int) :: encStr nm :: .slice aa A.len ca :: .slice ab B.len cb :: xr)).set (j * 5 + 1) (.int .i64 ((pl : Int) + (by_ : Int)))
            = x1 ++ (.int .i64 (kd : Int) :: .int .i64 ((pl : Int) + (by_ : Int)) :: encStr nm :: .slice aa A.len ca :: .slice ab B.len cb :: xr) := by
          rw [List.set_append_right _ _ (by omega), show j * 5 + 1 - x1.length = 1 by omega]; rfl
        rw [hset, Nat.zero_add] at hr2
        have hg3 := IsBlk.put hg2 (j * 5 + 1) (.int .i64 ((pl : Int) + (by_ : Int)))
        have hO2 := (Only.refl [g] wr).setCell (p := ⟨g, j * 5 + 1, none⟩) (.inl (by simp)) (.int .i64 ((pl : Int) + (by_ : Int)))
        have hgA : g ∉ fa ∧ g ∉ fb ∧ g ∉ fr ∧ g ∉ f1 := by
          refine ⟨fun h => ?_, fun h => ?_, fun h => ?_, fun h => ?_⟩ <;> (have := hnd.1; simp [h] at this)
        have hA2 := Lib.hid (hA'.keep hO2 (fun k hk hm => by simp only [List.mem_singleton] at hm; subst hm; exact hgA.1 hk))
        have hB2 := Lib.hid (hB'.keep hO2 (fun k hk hm => by simp only [List.mem_singleton] at hm; subst hm; exact hgA.2.1 hk))
        have HR2 := Lib.hid (And.intro hr2 (And.intro hg3 hO2))
        have HE' := Lib.hid hE'
        have Hndf := Lib.hid hnd
        clear hA hB hA' hB' hr hset hr2 hg3 hO2 hE' hnd hg2
        go_upto_region 4 with fail
        generalize hW2 : wr.setCell ⟨g, j * 5 + 1, none⟩ (.int .i64 ((pl : Int) + (by_ : Int))) = w2 at *
        clear hW2 k1 fz
        have k3 : w2.cell? ⟨g, j * 5 + 3, none⟩ = some (.slice aa A.len ca) := by
          have := HR2.out.1 (j * 5 + 3) (.slice aa A.len ca) (by rw [List.getElem?_append_right (by omega), show j * 5 + 3 - x1.length = 3 by omega]; rfl)
          rwa [Nat.zero_add] at this
        have hgl2 := HR2.out.2.1.lt
        have hndA : fa.Nodup := Hndf.out.2.2.1.1
        go_wp2_with fail
        refine (Ih.out A hcc.1 w2 _ fa hA2.out hndA hcb2.1 hp3).mono ?_
        rintro r w3 ⟨rfl, hA3, hO3⟩
        have hr3 := rangeAt_only HR2.out.1 hO3 hgl2 hgA.1
        have hg4 := HR2.out.2.1.only hO3 hgA.1
        have hdAB : ∀ k ∈ fb, k ∉ fa := fun k hk hm => Hndf.out.2.2.1.2.2 k hm k (by simp [hk]) rfl
        have hB3 := hB2.out.keep hO3 hdAB
        have HA3 := Lib.hid hA3
        have HR3 := Lib.hid (And.intro hr3 (And.intro hg4 hO3))
        have hgl3 := hg4.lt
        have k4 : w3.cell? ⟨g, j * 5 + 4, none⟩ = some (.slice ab B.len cb) := by
          have := hr3 (j * 5 + 4) (.slice ab B.len cb) (by rw [List.getElem?_append_right (by omega), show j * 5 + 4 - x1.length = 4 by omega]; rfl)
          rwa [Nat.zero_add] at this
        have HB3 := Lib.hid hB3
        clear hA3 hr3 hg4 hO3 hB3 k3
        go_wp2_with fail
        have hndB : fb.Nodup := Hndf.out.2.2.1.2.1.1
        refine (Ih.out B hcc.2.1 w3 _ fb HB3.out hndB hcb2.2.1 hp4).mono ?_
        rintro r w4 ⟨rfl, hB4, hO4⟩
        have HB4 := Lib.hid (And.intro hB4 hO4)
        clear hB4 hO4 k4
        go_wp2
        go_roundw
        case rel =>
          have nd := Hndf.out
          have hO2 := HR2.out.2.2
          have hO3 := HR3.out.2.2
          have hO4 := HB4.out.2
          have hall : Only (g :: (fa ++ fb)) wr w4 := (hO2.then (hO3.then hO4 (fa ++ fb) (fun i hi => .inl (by simp [hi])) (fun i hi => .inl (by simp [hi]))) (g :: (fa ++ fb)) (fun i hi => .inl (by simp at hi; simp [hi])) (fun i hi => .inl (by simp only [List.mem_cons]; exact .inr hi)))
          have d1 : ∀ k ∈ f1, k ∉ g :: (fa ++ fb) := fun k hk hm => by
            simp only [List.mem_cons, List.mem_append] at hm
            rcases hm with rfl | hm
            · exact hgA.2.2.2 hk
            · have := nd.2.2.2 k hk k (by rcases hm with h | h <;> simp [h]); exact this rfl
          have d2 : ∀ k ∈ fr, k ∉ g :: (fa ++ fb) := fun k hk hm => by
            simp only [List.mem_cons, List.mem_append] at hm
            rcases hm with rfl | hm | hm
            · exact hgA.2.2.1 hk
            · exact nd.2.2.1.2.2 k hm k (by simp [hk]) rfl
            · exact nd.2.2.1.2.1.2.2 k hm k hk rfl
          have hgB4 : g ∉ fb := hgA.2.1
          have hA4 : BlkAt w4 (.slice aa A.len ca) (moveB by_ A) fa := HA3.out.keep hO4 (fun k hk hm => nd.2.2.1.2.2 k hk k (by simp [hm]) rfl)
          have hB4 : BlkAt w4 (.slice ab B.len cb) (moveB by_ B) fb := HB4.out.1
          have hone := EncB.one_ (w := w4) ⟨kd, pl + by_, nm, moveB by_ A, moveB by_ B⟩ hA4 hB4
          have happ := EncB.app (HE1.out.keep hall d1) hone
          refine ⟨j + 1, pre.app (.cons kd pl nm A B .nil), rr, x1 ++ [.int .i64 kd, .int .i64 ((pl + by_ : Nat) : Int), encStr nm, .slice aa A.len ca, .slice ab B.len cb], xr, f1 ++ (fa ++ fb), fr, by go_num, ?_, ?_, hcc.2.2, hcb2.2.2, hp5, ?_, HE'.out.keep hall d2, ?_, ?_, ?_, ?_⟩
          · rw [Hbp.out, Blk.app_assoc]; rfl
          · rw [Blk.len_app, ← Hjp.out]; rfl
          · rw [moveB_app]; exact happ
          · rw [Hfq.out]; simp
          · have h5 := rangeAt_only HR3.out.1 hO4 hgl3 hgB4
            rw [Int.natCast_add, List.append_assoc]
            exact h5
          · exact ⟨_, _, HR3.out.2.1.only hO4 hgB4⟩
          · refine HO.out.then hall (g :: fq) (fun i hi => .inl hi) (fun i hi => .inl ?_)
            rw [Hfq.out]
            simp only [List.mem_cons, List.mem_append] at hi ⊢
            rcases hi with h | h | h
            · exact .inl h
            · exact .inr (.inr (.inl h))
            · exact .inr (.inr (.inr (.inl h)))
        case measure => have h9 := Hbl.out; simp [intOf]; omega

theorem moveB_any (by_ : Nat) (hby : by_ ≤ 1000000) : ∀ (N : Nat) (b : Blk), cntB b < N → ∀ (w : World) (v : Value) (fp : List Nat), BlkAt w v b fp → fp.Nodup → cntB b ≤ 1000000 → PlB 1000000 1000000 b → Calls Tryz.prog 84 #[v, .int .i64 by_] w fun e w' => e = .returned (.tuple #[]) ∧ BlkAt w' v (moveB by_ b) fp ∧ Only fp w w'
  | 0, b, h => absurd h (by omega)
  | N + 1, b, h => fun w v fp hb hn hg hp => moveB_step N by_ hby (fun b' hb' => moveB_any by_ hby N b' hb') b (by omega) w v fp hb hn hg hp

end Go.Proofs.YtildkedplmjdaaaGreatDoor
