/-
  Programs of texts by chapter 6 itself: statements in a row, what a row of tokens makes, what is written of it. No walk is here.
-/
import Derived.Test.YtgkddbpfjbgelaaLxD
namespace Go.Proofs.Ytgkddbpfjbgelaa
set_option maxRecDepth 100000
set_option linter.unusedVariables false
open Go.RowKit Go.Sort

/-- Statements in a row: of the first its kind, its place, its name, its two blocks; what is behind it. -/
inductive Blk where
  | nil
  | cons (kind at_ : Nat) (name : List UInt8) (a b rest : Blk)
deriving DecidableEq

def Blk.len : Blk → Nat
  | .nil => 0
  | .cons _ _ _ _ _ r => r.len + 1
def Blk.app : Blk → Blk → Blk
  | .nil, x => x
  | .cons k p n a b r, x => .cons k p n a b (r.app x)
theorem Blk.app_nil : ∀ (x : Blk), x.app .nil = x
  | .nil => rfl
  | .cons k p n a b r => by rw [Blk.app, Blk.app_nil r]
theorem Blk.app_assoc : ∀ (x y z : Blk), (x.app y).app z = x.app (y.app z)
  | .nil, y, z => rfl
  | .cons k p n a b r, y, z => by rw [Blk.app, Blk.app, Blk.app, Blk.app_assoc r y z]
theorem Blk.len_app : ∀ (x y : Blk), (x.app y).len = x.len + y.len
  | .nil, y => by simp [Blk.app, Blk.len]
  | .cons k p n a b r, y => by rw [Blk.app, Blk.len, Blk.len, Blk.len_app r y]; omega
theorem Blk.len_zero : ∀ (x : Blk), x.len = 0 → x = .nil
  | .nil, _ => rfl
  | .cons _ _ _ _ _ _, h => by simp [Blk.len] at h

/-- A statement by itself. -/
structure StmM where
  kind : Nat
  at_ : Nat
  name : List UInt8
  a : Blk
  b : Blk
def StmM.one (s : StmM) : Blk := .cons s.kind s.at_ s.name s.a s.b .nil

def verbsM : List (List UInt8) := [[117, 115, 101], [115, 101, 116], [108, 111, 99, 107], [117, 110, 108, 111, 99, 107], [99, 97, 108, 108], [115, 112, 97, 119, 110], [105, 102], [108, 111, 111, 112]]
/-- The word of a kind; the kind of a word. -/
def verbM (k : Nat) : List UInt8 := if k = 0 then [] else (verbsM[k - 1]?).getD []
def kindM (s : List UInt8) : Nat :=
  if s = [117, 115, 101] then 1 else if s = [115, 101, 116] then 2 else if s = [108, 111, 99, 107] then 3 else if s = [117, 110, 108, 111, 99, 107] then 4
  else if s = [99, 97, 108, 108] then 5 else if s = [115, 112, 97, 119, 110] then 6 else if s = [105, 102] then 7 else if s = [108, 111, 111, 112] then 8 else 0
def elseM : List UInt8 := [101, 108, 115, 101]

abbrev PR (α : Type) := Except (Nat × Nat) α

def nameF (e : Nat) : List Tok → PR (List UInt8 × List Tok)
  | [] => .error (e, 7)
  | t :: r => if nameM t.s then .ok (t.s, r) else .error (t.at_, 7)
def nextS : List Tok → List UInt8
  | [] => []
  | t :: _ => t.s

mutual
/-- A block; a statement; statements up to the block's end; each with so much fuel, within so many blocks, in a text of so many bytes. -/
def blockF : Nat → Nat → Nat → List Tok → PR (Blk × List Tok)
  | 0, _, e, _ => .error (e, 7)
  | _ + 1, _, e, [] => .error (e, 7)
  | f + 1, d, e, t :: r => if t.kind ≠ 2 then .error (t.at_, 7) else if 20 ≤ d then .error (t.at_, 8) else stmtsF f (d + 1) e r
def stmtF : Nat → Nat → Nat → List Tok → PR (StmM × List Tok)
  | 0, _, e, _ => .error (e, 7)
  | _ + 1, _, e, [] => .error (e, 7)
  | f + 1, d, e, t :: r =>
    if kindM t.s = 0 then .error (t.at_, 7)
    else if kindM t.s = 7 then
      match blockF f d e r with
      | .error x => .error x
      | .ok (a, r1) =>
        if nextS r1 = elseM then
          match blockF f d e r1.tail with
          | .error x => .error x
          | .ok (b, r2) => .ok (⟨7, t.at_, [], a, b⟩, r2)
        else .ok (⟨7, t.at_, [], a, .nil⟩, r1)
    else if kindM t.s = 8 then
      match blockF f d e r with
      | .error x => .error x
      | .ok (a, r1) => .ok (⟨8, t.at_, [], a, .nil⟩, r1)
    else
      match nameF e r with
      | .error x => .error x
      | .ok (n, r1) => .ok (⟨kindM t.s, t.at_, n, .nil, .nil⟩, r1)
def stmtsF : Nat → Nat → Nat → List Tok → PR (Blk × List Tok)
  | 0, _, e, _ => .error (e, 7)
  | f + 1, d, e, r =>
    match r.head?.map (·.kind) with
    | some 3 => .ok (.nil, r.tail)
    | _ =>
      match stmtF f d e r with
      | .error x => .error x
      | .ok (s, r1) =>
        match stmtsF f d e r1 with
        | .error x => .error x
        | .ok (l, r2) => .ok (.cons s.kind s.at_ s.name s.a s.b l, r2)
end

structure DeclM where
  name : List UInt8
  at_ : Nat
deriving DecidableEq
structure FuncM where
  name : List UInt8
  at_ : Nat
  body : Blk
deriving DecidableEq
structure ProgM where
  vars : List DeclM
  locks : List DeclM
  funcs : List FuncM
deriving DecidableEq

def varW : List UInt8 := [118, 97, 114]
def lockW : List UInt8 := [108, 111, 99, 107]
def funcW : List UInt8 := [102, 117, 110, 99]

/-- Declarations up to the text's end, behind those that were read. -/
def progF : Nat → Nat → List Tok → ProgM → PR ProgM
  | 0, _, _, p => .ok p
  | _ + 1, _, [], p => .ok p
  | f + 1, e, t :: r, p =>
    if t.s = varW then
      match nameF e r with
      | .error x => .error x
      | .ok (n, r1) => progF f e r1 { p with vars := p.vars ++ [⟨n, t.at_⟩] }
    else if t.s = lockW then
      match nameF e r with
      | .error x => .error x
      | .ok (n, r1) => progF f e r1 { p with locks := p.locks ++ [⟨n, t.at_⟩] }
    else if t.s = funcW then
      match nameF e r with
      | .error x => .error x
      | .ok (n, r1) =>
        match blockF (2 * r1.length + 1) 0 e r1 with
        | .error x => .error x
        | .ok (b, r2) => progF f e r2 { p with funcs := p.funcs ++ [⟨n, t.at_, b⟩] }
    else .error (t.at_, 7)

/-- What Parse answers: the program, the place, the error. -/
def parseM (s : List UInt8) : ProgM × Nat × Nat :=
  if (tokM s).2.2 ≠ 0 then (⟨[], [], []⟩, (tokM s).2.1, (tokM s).2.2)
  else match progF (tokM s).1.length s.length (tokM s).1 ⟨[], [], []⟩ with
    | .ok p => (p, 0, 0)
    | .error (i, k) => (⟨[], [], []⟩, i, k)

/-! ### How far it goes -/

theorem nameF_len {e : Nat} {r r1 : List Tok} {n : List UInt8} (h : nameF e r = .ok (n, r1)) : r1.length < r.length := by
  cases r with
  | nil => simp [nameF] at h
  | cons t r =>
    simp only [nameF] at h
    split at h
    · injection h with h; injection h with h1 h2; subst h2; simp
    · cases h

theorem parse_len : ∀ (f : Nat),
    (∀ d e r x r1, blockF f d e r = .ok (x, r1) → r1.length < r.length) ∧
    (∀ d e r x r1, stmtF f d e r = .ok (x, r1) → r1.length < r.length) ∧
    (∀ d e r x r1, stmtsF f d e r = .ok (x, r1) → r1.length < r.length)
  | 0 => ⟨fun d e r x r1 h => by cases r <;> simp [blockF] at h, fun d e r x r1 h => by cases r <;> simp [stmtF] at h, fun d e r x r1 h => by simp [stmtsF] at h⟩
  | f + 1 => by
    obtain ⟨ihb, iht, ihs⟩ := parse_len f
    refine ⟨fun d e r x r1 h => ?_, fun d e r x r1 h => ?_, fun d e r x r1 h => ?_⟩
    · cases r with
      | nil => simp [blockF] at h
      | cons t r =>
        rw [blockF] at h
        split at h
        · cases h
        · split at h
          · cases h
          · have := ihs _ _ _ _ _ h; simp only [List.length_cons]; omega
    · cases r with
      | nil => simp [stmtF] at h
      | cons t r =>
        rw [stmtF] at h
        split at h
        · cases h
        · split at h
          · split at h
            · cases h
            · rename_i a r2 hb
              have h1 := ihb _ _ _ _ _ hb
              split at h
              · split at h
                · cases h
                · rename_i b r3 hc
                  have h2 := ihb _ _ _ _ _ hc
                  injection h with h; injection h with h3 h4; subst h4
                  simp only [List.length_tail, List.length_cons] at *
                  omega
              · injection h with h; injection h with h3 h4; subst h4
                simp only [List.length_cons]; omega
          · split at h
            · split at h
              · cases h
              · rename_i a r2 hb
                have h1 := ihb _ _ _ _ _ hb
                injection h with h; injection h with h3 h4; subst h4
                simp only [List.length_cons]; omega
            · split at h
              · cases h
              · rename_i n r2 hb
                have h1 := nameF_len hb
                injection h with h; injection h with h3 h4; subst h4
                simp only [List.length_cons]; omega
    · rw [stmtsF] at h
      split at h
      · rename_i hk
        injection h with h; injection h with h3 h4; subst h4
        cases r with
        | nil => simp at hk
        | cons t r => simp
      · split at h
        · cases h
        · rename_i s r2 ht
          have h1 := iht _ _ _ _ _ ht
          split at h
          · cases h
          · rename_i l r3 hs
            have h2 := ihs _ _ _ _ _ hs
            injection h with h; injection h with h3 h4; subst h4
            omega

end Go.Proofs.Ytgkddbpfjbgelaa
