/-
  Statements, declarations, functions as they lie in memory.
-/
import Derived.Test.YtonpfmhdefhhmaaLxD
namespace Go.Proofs.Ytonpfmhdefhhmaa
set_option maxRecDepth 100000
set_option linter.unusedVariables false
open Go.RowKit Go.Sort

/-- Statements in a row: of the first its kind, its place, its name, its two blocks; what is behind it. -/
inductive Blk where
  | nil
  | cons (kind at_ : Nat) (name : List UInt8) (a b rest : Blk)
deriving DecidableEq

def Blk.len : Blk → Nat
  | .nil => 0
  | .cons _ _ _ _ _ r => r.len + 1
def Blk.app : Blk → Blk → Blk
  | .nil, x => x
  | .cons k p n a b r, x => .cons k p n a b (r.app x)
theorem Blk.app_nil : ∀ (x : Blk), x.app .nil = x
  | .nil => rfl
  | .cons k p n a b r => by rw [Blk.app, Blk.app_nil r]
theorem Blk.app_assoc : ∀ (x y z : Blk), (x.app y).app z = x.app (y.app z)
  | .nil, y, z => rfl
  | .cons k p n a b r, y, z => by rw [Blk.app, Blk.app, Blk.app, Blk.app_assoc r y z]
theorem Blk.len_app : ∀ (x y : Blk), (x.app y).len = x.len + y.len
  | .nil, y => by simp [Blk.app, Blk.len]
  | .cons k p n a b r, y => by rw [Blk.app, Blk.len, Blk.len, Blk.len_app r y]; omega
theorem Blk.len_zero : ∀ (x : Blk), x.len = 0 → x = .nil
  | .nil, _ => rfl
  | .cons _ _ _ _ _ _, h => by simp [Blk.len] at h

/-- A statement by itself. -/
structure StmM where
  kind : Nat
  at_ : Nat
  name : List UInt8
  a : Blk
  b : Blk
def StmM.one (s : StmM) : Blk := .cons s.kind s.at_ s.name s.a s.b .nil

def verbsM : List (List UInt8) := [[117, 115, 101], [115, 101, 116], [108, 111, 99, 107], [117, 110, 108, 111, 99, 107], [99, 97, 108, 108], [115, 112, 97, 119, 110], [105, 102], [108, 111, 111, 112]]
/-- The word of a kind; the kind of a word. -/
def verbM (k : Nat) : List UInt8 := if k = 0 then [] else (verbsM[k - 1]?).getD []
def kindM (s : List UInt8) : Nat :=
  if s = [117, 115, 101] then 1 else if s = [115, 101, 116] then 2 else if s = [108, 111, 99, 107] then 3 else if s = [117, 110, 108, 111, 99, 107] then 4
  else if s = [99, 97, 108, 108] then 5 else if s = [115, 112, 97, 119, 110] then 6 else if s = [105, 102] then 7 else if s = [108, 111, 111, 112] then 8 else 0
def elseM : List UInt8 := [101, 108, 115, 101]

abbrev PR (α : Type) := Except (Nat × Nat) α

def nameF (e : Nat) : List Tok → PR (List UInt8 × List Tok)
  | [] => .error (e, 7)
  | t :: r => if nameM t.s then .ok (t.s, r) else .error (t.at_, 7)
def nextS : List Tok → List UInt8
  | [] => []
  | t :: _ => t.s

mutual
/-- A block; a statement; statements up to the block's end; each with so much fuel, within so many blocks, in a text of so many bytes. -/
def blockF : Nat → Nat → Nat → List Tok → PR (Blk × List Tok)
  | 0, _, e, _ => .error (e, 7)
  | _ + 1, _, e, [] => .error (e, 7)
  | f + 1, d, e, t :: r => if t.kind ≠ 2 then .error (t.at_, 7) else if 20 ≤ d then .error (t.at_, 8) else stmtsF f (d + 1) e r
def stmtF : Nat → Nat → Nat → List Tok → PR (StmM × List Tok)
  | 0, _, e, _ => .error (e, 7)
  | _ + 1, _, e, [] => .error (e, 7)
  | f + 1, d, e, t :: r =>
    if kindM t.s = 0 then .error (t.at_, 7)
    else if kindM t.s = 7 then
      match blockF f d e r with
      | .error x => .error x
      | .ok (a, r1) =>
        if nextS r1 = elseM then
          match blockF f d e r1.tail with
          | .error x => .error x
          | .ok (b, r2) => .ok (⟨7, t.at_, [], a, b⟩, r2)
        else .ok (⟨7, t.at_, [], a, .nil⟩, r1)
    else if kindM t.s = 8 then
      match blockF f d e r with
      | .error x => .error x
      | .ok (a, r1) => .ok (⟨8, t.at_, [], a, .nil⟩, r1)
    else
      match nameF e r with
      | .error x => .error x
      | .ok (n, r1) => .ok (⟨kindM t.s, t.at_, n, .nil, .nil⟩, r1)
def stmtsF : Nat → Nat → Nat → List Tok → PR (Blk × List Tok)
  | 0, _, e, _ => .error (e, 7)
  | f + 1, d, e, r =>
    match r.head?.map (·.kind) with
    | some 3 => .ok (.nil, r.tail)
    | _ =>
      match stmtF f d e r with
      | .error x => .error x
      | .ok (s, r1) =>
        match stmtsF f d e r1 with
        | .error x => .error x
        | .ok (l, r2) => .ok (.cons s.kind s.at_ s.name s.a s.b l, r2)
end

structure DeclM where
  name : List UInt8
  at_ : Nat
deriving DecidableEq
structure FuncM where
  name : List UInt8
  at_ : Nat
  body : Blk
deriving DecidableEq
structure ProgM where
  vars : List DeclM
  locks : List DeclM
  funcs : List FuncM
deriving DecidableEq

def varW : List UInt8 := [118, 97, 114]
def lockW : List UInt8 := [108, 111, 99, 107]
def funcW : List UInt8 := [102, 117, 110, 99]

/-- Declarations up to the text's end, behind those that were read. -/
def progF : Nat → Nat → List Tok → ProgM → PR ProgM
  | 0, _, _, p => .ok p
  | _ + 1, _, [], p => .ok p
  | f + 1, e, t :: r, p =>
    if t.s = varW then
      match nameF e r with
      | .error x => .error x
      | .ok (n, r1) => progF f e r1 { p with vars := p.vars ++ [⟨n, t.at_⟩] }
    else if t.s = lockW then
      match nameF e r with
      | .error x => .error x
      | .ok (n, r1) => progF f e r1 { p with locks := p.locks ++ [⟨n, t.at_⟩] }
    else if t.s = funcW then
      match nameF e r with
      | .error x => .error x
      | .ok (n, r1) =>
        match blockF (2 * r1.length + 1) 0 e r1 with
        | .error x => .error x
        | .ok (b, r2) => progF f e r2 { p with funcs := p.funcs ++ [⟨n, t.at_, b⟩] }
    else .error (t.at_, 7)

/-- What Parse answers: the program, the place, the error. -/
def parseM (s : List UInt8) : ProgM × Nat × Nat :=
  if (tokM s).2.2 ≠ 0 then (⟨[], [], []⟩, (tokM s).2.1, (tokM s).2.2)
  else match progF (tokM s).1.length s.length (tokM s).1 ⟨[], [], []⟩ with
    | .ok p => (p, 0, 0)
    | .error (i, k) => (⟨[], [], []⟩, i, k)

/-! ### How far it goes -/

theorem nameF_len {e : Nat} {r r1 : List Tok} {n : List UInt8} (h : nameF e r = .ok (n, r1)) : r1.length < r.length := by
  cases r with
  | nil => simp [nameF] at h
  | cons t r =>
    simp only [nameF] at h
    split at h
    · injection h with h; injection h with h1 h2; subst h2; simp
    · cases h

theorem parse_len : ∀ (f : Nat),
    (∀ d e r x r1, blockF f d e r = .ok (x, r1) → r1.length < r.length) ∧
    (∀ d e r x r1, stmtF f d e r = .ok (x, r1) → r1.length < r.length) ∧
    (∀ d e r x r1, stmtsF f d e r = .ok (x, r1) → r1.length < r.length)
  | 0 => ⟨fun d e r x r1 h => by cases r <;> simp [blockF] at h, fun d e r x r1 h => by cases r <;> simp [stmtF] at h, fun d e r x r1 h => by simp [stmtsF] at h⟩
  | f + 1 => by
    obtain ⟨ihb, iht, ihs⟩ := parse_len f
    refine ⟨fun d e r x r1 h => ?_, fun d e r x r1 h => ?_, fun d e r x r1 h => ?_⟩
    · cases r with
      | nil => simp [blockF] at h
      | cons t r =>
        rw [blockF] at h
        split at h
        · cases h
        · split at h
          · cases h
          · have := ihs _ _ _ _ _ h; simp only [List.length_cons]; omega
    · cases r with
      | nil => simp [stmtF] at h
      | cons t r =>
        rw [stmtF] at h
        split at h
        · cases h
        · split at h
          · split at h
            · cases h
            · rename_i a r2 hb
              have h1 := ihb _ _ _ _ _ hb
              split at h
              · split at h
                · cases h
                · rename_i b r3 hc
                  have h2 := ihb _ _ _ _ _ hc
                  injection h with h; injection h with h3 h4; subst h4
                  simp only [List.length_tail, List.length_cons] at *
                  omega
              · injection h with h; injection h with h3 h4; subst h4
                simp only [List.length_cons]; omega
          · split at h
            · split at h
              · cases h
              · rename_i a r2 hb
                have h1 := ihb _ _ _ _ _ hb
                injection h with h; injection h with h3 h4; subst h4
                simp only [List.length_cons]; omega
            · split at h
              · cases h
              · rename_i n r2 hb
                have h1 := nameF_len hb
                injection h with h; injection h with h3 h4; subst h4
                simp only [List.length_cons]; omega
    · rw [stmtsF] at h
      split at h
      · rename_i hk
        injection h with h; injection h with h3 h4; subst h4
        cases r with
        | nil => simp at hk
        | cons t r => simp
      · split at h
        · cases h
        · rename_i s r2 ht
          have h1 := iht _ _ _ _ _ ht
          split at h
          · cases h
          · rename_i l r3 hs
            have h2 := ihs _ _ _ _ _ hs
            injection h with h; injection h with h3 h4; subst h4
            omega

end Go.Proofs.Ytonpfmhdefhhmaa
namespace Go.Proofs.Ytonpfmhdefhhmaa
set_option maxRecDepth 100000
set_option linter.unusedVariables false
open Go.RowKit Go.Sort

/-- A slice of n elements whose cells, and the blocks below it, are told by E; fp: its block, and those below. -/
def RowE (w : World) (E : List Value → List Nat → Prop) (n : Nat) (v : Value) (fp : List Nat) : Prop :=
  (v = .slice none 0 0 ∧ n = 0 ∧ fp = []) ∨ ∃ g c fq xs, v = .slice (some ⟨g, 0, none⟩) n c ∧ n ≤ c ∧ 0 < n ∧ fp = g :: fq ∧ (∃ cs t, IsBlk w g (.cells cs t)) ∧ w.rangeAt g 0 xs ∧ E xs fq

/-- Cells that are these statements. -/
def EncB (w : World) : Blk → List Value → List Nat → Prop
  | .nil, xs, fp => xs = [] ∧ fp = []
  | .cons k p n a b r, xs, fp => ∃ va vb fa fb fr xr, xs = .int .i64 k :: .int .i64 p :: encStr n :: va :: vb :: xr ∧ fp = fa ++ (fb ++ fr) ∧
      RowE w (EncB w a) a.len va fa ∧ RowE w (EncB w b) b.len vb fb ∧ EncB w r xr fr

/-- A slice that is these statements; below it are the blocks fp. -/
def BlkAt (w : World) (v : Value) (b : Blk) (fp : List Nat) : Prop := RowE w (EncB w b) b.len v fp

theorem BlkAt.nil (w : World) : BlkAt w (.slice none 0 0) .nil [] := .inl ⟨rfl, rfl, rfl⟩

theorem RowE.slice {w : World} {E : List Value → List Nat → Prop} {n : Nat} {v : Value} {fp : List Nat} (h : RowE w E n v fp) : ∃ a c, v = .slice a n c ∧ n ≤ c := by
  rcases h with ⟨rfl, rfl, -⟩ | ⟨g, c, fq, xs, rfl, hc, -⟩
  · exact ⟨none, 0, rfl, Nat.le_refl _⟩
  · exact ⟨_, c, rfl, hc⟩
theorem BlkAt.slice {w : World} {v : Value} {b : Blk} {fp : List Nat} (h : BlkAt w v b fp) : ∃ a c, v = .slice a b.len c ∧ b.len ≤ c := RowE.slice h

theorem EncB.len {w : World} : ∀ {b : Blk} {xs : List Value} {fp : List Nat}, EncB w b xs fp → xs.length = b.len * 5
  | .nil, xs, fp, h => by rw [h.1]; rfl
  | .cons k p n a b r, xs, fp, h => by
    obtain ⟨va, vb, fa, fb, fr, xr, rfl, rfl, h1, h2, h3⟩ := h
    have := EncB.len h3
    simp only [List.length_cons, Blk.len]
    omega

theorem RowE.one {w : World} {E : List Value → List Nat → Prop} {n : Nat} {v : Value} {fp : List Nat} (h : RowE w E n v fp) : v.oneCell' = true := by
  rcases h with ⟨rfl, -⟩ | ⟨g, c, fq, xs, rfl, -⟩ <;> rfl

theorem EncB.one {w : World} : ∀ {b : Blk} {xs : List Value} {fp : List Nat}, EncB w b xs fp → ∀ u ∈ xs, u.oneCell' = true
  | .nil, xs, fp, h => by rw [h.1]; intro u hu; cases hu
  | .cons k p n a b r, xs, fp, h => by
    obtain ⟨va, vb, fa, fb, fr, xr, rfl, rfl, h1, h2, h3⟩ := h
    have := EncB.one h3
    intro u hu
    simp only [List.mem_cons] at hu
    rcases hu with rfl | rfl | rfl | rfl | rfl | hu
    · rfl
    · rfl
    · rfl
    · exact h1.one
    · exact h2.one
    · exact this u hu

theorem RowE.keep {w w' : World} {S : List Nat} {E E' : List Value → List Nat → Prop} {n : Nat} {v : Value} {fp : List Nat} (h : RowE w E n v fp) (hO : Only S w w') (hS : ∀ k ∈ fp, k ∉ S)
    (hE : ∀ xs fq, (∀ k ∈ fq, k ∈ fp) → E xs fq → E' xs fq) : RowE w' E' n v fp := by
  rcases h with ⟨rfl, h0, hf⟩ | ⟨g, c, fq, xs, rfl, hc, hn, rfl, hg, hr, he⟩
  · exact .inl ⟨rfl, h0, hf⟩
  · exact .inr ⟨g, c, fq, xs, rfl, hc, hn, rfl, (by obtain ⟨cs, t, hg⟩ := hg; exact ⟨cs, t, hg.only hO (hS g (by simp))⟩), rangeAt_only hr hO (by obtain ⟨cs, t, hg⟩ := hg; exact hg.lt) (hS g (by simp)), hE xs fq (fun k hk => by simp [hk]) he⟩

theorem EncB.keep {w w' : World} {S : List Nat} (hO : Only S w w') : ∀ {b : Blk} {xs : List Value} {fp : List Nat}, EncB w b xs fp → (∀ k ∈ fp, k ∉ S) → EncB w' b xs fp
  | .nil, xs, fp, h, _ => h
  | .cons k p n a b r, xs, fp, h, hS => by
    obtain ⟨va, vb, fa, fb, fr, xr, rfl, rfl, h1, h2, h3⟩ := h
    refine ⟨va, vb, fa, fb, fr, xr, rfl, rfl, h1.keep hO (fun k hk => hS k (by simp [hk])) (fun xs fq hq he => EncB.keep hO he (fun k hk => hS k (by simp [hq k hk]))),
      h2.keep hO (fun k hk => hS k (by simp [hk])) (fun xs fq hq he => EncB.keep hO he (fun k hk => hS k (by simp [hq k hk]))), EncB.keep hO h3 (fun k hk => hS k (by simp [hk]))⟩
theorem BlkAt.keep {w w' : World} {S : List Nat} {v : Value} {b : Blk} {fp : List Nat} (h : BlkAt w v b fp) (hO : Only S w w') (hS : ∀ k ∈ fp, k ∉ S) : BlkAt w' v b fp :=
  RowE.keep h hO hS (fun xs fq hq he => EncB.keep hO he (fun k hk => hS k (hq k hk)))
theorem BlkAt.more {w w' : World} {v : Value} {b : Blk} {fp : List Nat} (h : BlkAt w v b fp) (hO : Only [] w w') : BlkAt w' v b fp := h.keep hO (by simp)

theorem EncB.app {w : World} : ∀ {b : Blk} {xs : List Value} {fp : List Nat} {b' : Blk} {xs' : List Value} {fp' : List Nat}, EncB w b xs fp → EncB w b' xs' fp' → EncB w (b.app b') (xs ++ xs') (fp ++ fp')
  | .nil, xs, fp, b', xs', fp', h, h' => by obtain ⟨rfl, rfl⟩ := h; exact h'
  | .cons k p n a b r, xs, fp, b', xs', fp', h, h' => by
    obtain ⟨va, vb, fa, fb, fr, xr, rfl, rfl, h1, h2, h3⟩ := h
    exact ⟨va, vb, fa, fb, fr ++ fp', xr ++ xs', by simp, by simp, h1, h2, h3.app h'⟩
theorem EncB.one_ {w : World} (s : StmM) {va vb : Value} {fa fb : List Nat} (ha : BlkAt w va s.a fa) (hb : BlkAt w vb s.b fb) :
    EncB w s.one [.int .i64 s.kind, .int .i64 s.at_, encStr s.name, va, vb] (fa ++ fb) :=
  ⟨va, vb, fa, fb, [], [], rfl, by simp, ha, hb, rfl, rfl⟩

/-- All blocks below lie in memory. -/
theorem RowE.lt {w : World} {E : List Value → List Nat → Prop} {n : Nat} {v : Value} {fp : List Nat} (h : RowE w E n v fp) (hE : ∀ xs fq, E xs fq → ∀ k ∈ fq, k < w.heap.size) : ∀ k ∈ fp, k < w.heap.size := by
  rcases h with ⟨rfl, h0, rfl⟩ | ⟨g, c, fq, xs, rfl, hc, hn, rfl, hg, hr, he⟩
  · simp
  · intro k hk
    rcases List.mem_cons.1 hk with rfl | hk
    · obtain ⟨cs, t, hg⟩ := hg; exact hg.lt
    · exact hE _ _ he k hk
theorem EncB.lt {w : World} : ∀ {b : Blk} {xs : List Value} {fp : List Nat}, EncB w b xs fp → ∀ k ∈ fp, k < w.heap.size
  | .nil, xs, fp, h => by rw [h.2]; simp
  | .cons k p n a b r, xs, fp, h => by
    obtain ⟨va, vb, fa, fb, fr, xr, rfl, rfl, h1, h2, h3⟩ := h
    intro j hj
    simp only [List.mem_append] at hj
    rcases hj with hj | hj | hj
    · exact h1.lt (fun _ _ he => EncB.lt he) j hj
    · exact h2.lt (fun _ _ he => EncB.lt he) j hj
    · exact EncB.lt h3 j hj
theorem BlkAt.lt {w : World} {v : Value} {b : Blk} {fp : List Nat} (h : BlkAt w v b fp) : ∀ k ∈ fp, k < w.heap.size := RowE.lt h (fun _ _ he => EncB.lt he)

/-- New blocks, none twice. -/
def NewB (w0 w : World) (fp : List Nat) : Prop := fp.Nodup ∧ ∀ k ∈ fp, w0.heap.size ≤ k ∧ k < w.heap.size
theorem NewB.nil (w0 w : World) : NewB w0 w [] := ⟨List.nodup_nil, by simp⟩
theorem NewB.more {w0 w w' : World} {fp : List Nat} (h : NewB w0 w fp) (hw : w.heap.size ≤ w'.heap.size) : NewB w0 w' fp := ⟨h.1, fun k hk => ⟨(h.2 k hk).1, by have := (h.2 k hk).2; omega⟩⟩
theorem NewB.less {w0 w1 w : World} {fp : List Nat} (h : NewB w1 w fp) (hw : w0.heap.size ≤ w1.heap.size) : NewB w0 w fp := ⟨h.1, fun k hk => ⟨by have := (h.2 k hk).1; omega, (h.2 k hk).2⟩⟩
/-- What is made later is other memory. -/
theorem NewB.app {w0 w1 w : World} {fp fq : List Nat} (h : NewB w0 w1 fp) (k : NewB w1 w fq) (h1 : w0.heap.size ≤ w1.heap.size) (h2 : w1.heap.size ≤ w.heap.size) : NewB w0 w (fp ++ fq) := by
  refine ⟨List.nodup_append.2 ⟨h.1, k.1, fun a ha b hb e => ?_⟩, fun i hi => ?_⟩
  · have := (h.2 a ha).2; have := (k.2 b hb).1; omega
  · rcases List.mem_append.1 hi with hi | hi
    · have := h.2 i hi; omega
    · have := k.2 i hi; omega

/-- A row of statements that grows: its block, if it has one, and what is below it. -/
def GrowB (w0 w : World) (v : Value) (b : Blk) (fp : List Nat) : Prop :=
  ∃ xs, w.ownsRow w0.heap.size 96 5 v b.len xs ∧ EncB w b xs fp ∧ NewB w0 w fp ∧ ∀ g, v.ownBlock = some g → g ∉ fp ∧ 0 < b.len
theorem GrowB.nil (w0 w : World) : GrowB w0 w (.slice none 0 0) .nil [] := ⟨[], ⟨rfl, .inl ⟨rfl, rfl⟩⟩, ⟨rfl, rfl⟩, NewB.nil _ _, fun g h => by simp [Value.ownBlock] at h⟩
theorem owns_keep {w w' : World} {S : List Nat} {base s n : Nat} {e : TypeId} {v : Value} {xs : List Value} (h : w.ownsRow base e s v n xs) (hO : Only S w w') (hS : ∀ k ∈ S, k < base) : w'.ownsRow base e s v n xs := by
  refine ⟨h.1, ?_⟩
  rcases h.2 with hn | ⟨g, cap, cur, rfl, hb, hg, rest⟩
  · exact .inl hn
  · exact .inr ⟨g, cap, cur, rfl, hb, (hO.block g (IsBlk.lt hg) (fun hm => by have := hS g hm; omega)).trans hg, rest⟩
theorem GrowB.keep {w0 w w' : World} {S : List Nat} {v : Value} {b : Blk} {fp : List Nat} (h : GrowB w0 w v b fp) (hO : Only S w w') (hS : ∀ k ∈ S, k < w0.heap.size) : GrowB w0 w' v b fp := by
  obtain ⟨xs, h1, h2, h3, h4⟩ := h
  exact ⟨xs, owns_keep h1 hO hS, h2.keep hO (fun k hk hm => by have := hS k hm; have := (h3.2 k hk).1; omega), h3.more hO.size, h4⟩
theorem GrowB.more {w0 w w' : World} {v : Value} {b : Blk} {fp : List Nat} (h : GrowB w0 w v b fp) (hO : Only [] w w') : GrowB w0 w' v b fp := h.keep hO (by simp)
/-- It is handed back. -/
theorem GrowB.done {w0 w : World} {v : Value} {b : Blk} {fp : List Nat} (h : GrowB w0 w v b fp) : ∃ fq, BlkAt w v b fq ∧ NewB w0 w fq := by
  obtain ⟨xs, h1, h2, h3, h4⟩ := h
  rcases h1.2 with ⟨rfl, h0⟩ | ⟨g, cap, cur, rfl, hb, hg, hc, hm, hsz, ht⟩
  · have hb := Blk.len_zero b h0
    subst hb
    exact ⟨[], BlkAt.nil w, NewB.nil _ _⟩
  · by_cases hz : b.len = 0
    · have hb0 := Blk.len_zero b hz
      subst hb0
      have := (h4 g rfl).2; omega
    · have hgl : g < w.heap.size := IsBlk.lt hg
      refine ⟨g :: fp, .inr ⟨g, cap, fp, xs, rfl, hc, by omega, rfl, ⟨cur, _, hg⟩, fun j x hx => ?_, h2⟩, List.nodup_cons.2 ⟨(h4 g rfl).1, h3.1⟩, fun k hk => ?_⟩
      · have := World.ownsRow.cells h1 (g := g) rfl j x hx
        rw [Addr.add_mid] at this
        exact this
      · rcases List.mem_cons.1 hk with rfl | hk
        · exact ⟨hb, hgl⟩
        · exact h3.2 k hk

end Go.Proofs.Ytonpfmhdefhhmaa
