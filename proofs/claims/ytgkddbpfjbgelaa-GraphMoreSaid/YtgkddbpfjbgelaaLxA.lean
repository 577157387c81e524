/-
  Plain facts for the walks of chapter 5: worlds, an iterator over a text, rows of tokens of one's own; tokens by chapter 5 itself.
-/
import Derived.Test.YtgkddbpfjbgelaaLaws
import Derived.Test.YtgkddbpfjbgelaaStab
import Derived.Sort.EncStr
import Derived.OwnWalk
import Derived.Lib.OthersKept
import Derived.Laws.RangeAny
import Derived.Test.YtgkddbpfjbgelaaProg
namespace Go.Proofs.Ytgkddbpfjbgelaa
set_option maxRecDepth 100000
set_option linter.unusedVariables false
open Go.RowKit Go.Sort

theorem Only.plus {S : List Nat} {a b c : World} (h : Only S a b) (k : Only [] b c) : Only S a c := (h.trans k).into (fun i hi => .inl (by simpa using hi))
theorem Only.drewN {S : List Nat} {a b : World} (h : Only S a b) (n : Nat) : Only S a (b.drewN n) := ⟨h.os, h.tape, h.output, h.size, h.block⟩
theorem Below.toOnly {a b : World} (h : Below a.heap.size a b) : Only [] a b := ⟨h.os, h.tape, h.output, h.size, fun k hk _ => h.block k hk⟩
theorem Only.iterAt {a b : World} (h : Only [] a b) {k : Nat} (hk : a.heap.size ≤ k) (s : ByteArray) (pos : Nat) : Only [] a (b.iterAt k s pos) :=
  ⟨h.os, h.tape, h.output, by rw [Lib.iterAt_size]; exact h.size, fun i hi hn => (Lib.iterAt_other b k i s pos (by omega)).trans (h.block i hi hn)⟩
theorem only_row {w0 w w' : World} {g base : Nat} (hO : Only [] w0 w) (hg : w.grownBy w' (some g)) (hb : base ≤ g) (h0 : w0.heap.size ≤ base) : Only [] w0 w' :=
  ⟨hg.os.trans hO.os, hg.tape.trans hO.tape, hg.output.trans hO.output, Nat.le_trans hO.size hg.size, fun k hk hm => (hg.block k (Nat.lt_of_lt_of_le hk hO.size) (fun e => by injection e with e; omega)).trans (hO.block k hk hm)⟩

/-- A token: its kind, its place, its text. -/
structure Tok where
  kind : Nat
  at_ : Nat
  s : List UInt8
deriving DecidableEq

def letB (c : UInt8) : Bool := decide (97 ≤ c.toNat) && decide (c.toNat ≤ 122)
def digB (c : UInt8) : Bool := decide (48 ≤ c.toNat) && decide (c.toNat ≤ 57)
def alnB (c : UInt8) : Bool := letB c || digB c
def blankB (c : UInt8) : Bool := decide (c.toNat = 32) || decide (c.toNat = 9) || decide (c.toNat = 10)
def wordsM : List (List UInt8) := [[118, 97, 114], [108, 111, 99, 107], [102, 117, 110, 99], [117, 115, 101], [115, 101, 116], [117, 110, 108, 111, 99, 107], [99, 97, 108, 108], [115, 112, 97, 119, 110], [105, 102], [101, 108, 115, 101], [108, 111, 111, 112]]
def wordM (s : List UInt8) : Bool := wordsM.contains s
/-- The row that a text begins with. -/
def rowM : List UInt8 → List UInt8
  | [] => []
  | c :: r => if letB c then c :: r.takeWhile alnB else []
def nameM (s : List UInt8) : Bool := decide (1 ≤ s.length) && decide (s.length ≤ 12) && decide (rowM s = s) && !wordM s

/-- A text's tokens from a place on, and where the first byte stands that is of none. -/
def tokF : Nat → Nat → List UInt8 → List Tok × Option Nat
  | 0, _, _ => ([], none)
  | _ + 1, _, [] => ([], none)
  | f + 1, i, c :: r =>
    if letB c then
      (⟨1, i, rowM (c :: r)⟩ :: (tokF f (i + (rowM (c :: r)).length) ((c :: r).drop (rowM (c :: r)).length)).1, (tokF f (i + (rowM (c :: r)).length) ((c :: r).drop (rowM (c :: r)).length)).2)
    else if c.toNat = 123 then (⟨2, i, []⟩ :: (tokF f (i + 1) r).1, (tokF f (i + 1) r).2)
    else if c.toNat = 125 then (⟨3, i, []⟩ :: (tokF f (i + 1) r).1, (tokF f (i + 1) r).2)
    else if blankB c then tokF f (i + 1) r
    else ([], some i)

/-- What Tokens answers: tokens, place, error. -/
def tokM (s : List UInt8) : List Tok × Nat × Nat :=
  if 2000 < s.length then ([], 0, 2)
  else match tokF s.length 0 s with
    | (l, none) => (l, 0, 0)
    | (_, some i) => ([], i, 6)

theorem takeWhile_take {p : UInt8 → Bool} : ∀ (r : List UInt8) (m : Nat), m ≤ r.length → (∀ (j : Nat) (hj : j < r.length), j < m → p r[j] = true) → (∀ hm : m < r.length, p r[m] = false) → r.takeWhile p = r.take m
  | [], m, hm, _, _ => by simp
  | c :: r, 0, _, _, h => by
    have := h (by simp)
    simp at this
    simp [this]
  | c :: r, m + 1, hm, ha, hb => by
    have h0 := ha 0 (by simp) (by omega)
    simp at h0
    rw [List.takeWhile_cons_of_pos h0, List.take_succ_cons]
    rw [takeWhile_take r m (by simpa using hm) (fun j hj hjm => ha (j + 1) (by simp; omega) (by omega)) (fun h => hb (by simp; omega))]

/-- A row goes as far as it may. -/
theorem row_take (s : List UInt8) (k : Nat) (hk : k ≤ s.length) (ha : ∀ (j : Nat) (hj : j < s.length), j < k → (letB s[j] || decide (0 < j) && digB s[j]) = true) (hb : ∀ h : k < s.length, (letB s[k] || decide (0 < k) && digB s[k]) = false) : rowM s = s.take k := by
  match s, k with
  | [], _ => simp [rowM]
  | c :: r, 0 =>
    have := hb (by simp)
    simp at this
    simp [rowM, this]
  | c :: r, m + 1 =>
    have h0 := ha 0 (by simp) (by omega)
    simp at h0
    rw [rowM, if_pos h0, List.take_succ_cons]
    rw [takeWhile_take r m (by simpa using hk) (fun j hj hjm => by have := ha (j + 1) (by simp; omega) (by omega); simp only [show decide (0 < j + 1) = true from by simp, Bool.true_and] at this; exact this) (fun h => by have := hb (by simp; omega); simp only [show decide (0 < m + 1) = true from by simp, Bool.true_and] at this; exact this)]

theorem row_pre (s : List UInt8) : rowM s = s.take (rowM s).length ∧ (rowM s).length ≤ s.length := by
  match s with
  | [] => simp [rowM]
  | c :: r =>
    by_cases hc : letB c = true
    · have h1 : (r.takeWhile alnB) <+: r := List.takeWhile_prefix _
      have h2 := List.prefix_iff_eq_take.1 h1
      have h3 := h1.length_le
      have e : rowM (c :: r) = c :: r.takeWhile alnB := by simp [rowM, hc]
      rw [e]
      refine ⟨?_, by rw [List.length_cons, List.length_cons]; omega⟩
      rw [List.length_cons, List.take_succ_cons, ← h2]
    · have e : rowM (c :: r) = [] := by simp [rowM, hc]
      rw [e]
      simp
theorem takeWhile_all {p : UInt8 → Bool} : ∀ (r : List UInt8), ∀ c ∈ r.takeWhile p, p c = true
  | [], c, h => by simp at h
  | x :: r, c, h => by
    by_cases hx : p x = true
    · rw [List.takeWhile_cons_of_pos hx] at h
      rcases List.mem_cons.1 h with rfl | h
      · exact hx
      · exact takeWhile_all r c h
    · rw [List.takeWhile_cons_of_neg hx] at h
      cases h
theorem row_all (s : List UInt8) : ∀ c ∈ rowM s, alnB c = true := by
  match s with
  | [] => simp [rowM]
  | c :: r =>
    by_cases hc : letB c = true
    · have e : rowM (c :: r) = c :: r.takeWhile alnB := by simp [rowM, hc]
      rw [e]
      intro x hx
      rcases List.mem_cons.1 hx with rfl | hx
      · simp [alnB, hc]
      · exact takeWhile_all r x hx
    · have e : rowM (c :: r) = [] := by simp [rowM, hc]
      rw [e]
      simp
theorem row_pos {c : UInt8} {r : List UInt8} (h : letB c = true) : 0 < (rowM (c :: r)).length := by simp [rowM, h]

/-- A token's cells; a row of tokens of one's own. -/
def tcells (t : Tok) : List Value := [.int .i64 t.kind, .int .i64 t.at_, encStr t.s]
def lcellsT (l : List Tok) : List Value := l.flatMap tcells
theorem length_lcellsT (l : List Tok) : (lcellsT l).length = l.length * 3 := by
  induction l with
  | nil => rfl
  | cons f r ih => simp [lcellsT, tcells] at ih ⊢; omega
theorem lcellsT_snoc (l : List Tok) (f : Tok) : lcellsT (l ++ [f]) = lcellsT l ++ tcells f := by simp [lcellsT]
/-- Tokens in a row, to be read. -/
def ToksAt (w : World) (a : Option Addr) (l : List Tok) : Prop :=
  0 < l.length → ∃ g, a = some ⟨g, 0, none⟩ ∧ g < w.heap.size ∧ ∀ (i : Nat) (t : Tok), l[i]? = some t → w.cell? ⟨g, i * 3, none⟩ = some (.int .i64 t.kind) ∧ w.cell? ⟨g, i * 3 + 1, none⟩ = some (.int .i64 t.at_) ∧ w.cell? ⟨g, i * 3 + 2, none⟩ = some (encStr t.s)
theorem ToksAt.more {w w' : World} {a : Option Addr} {l : List Tok} (h : ToksAt w a l) (hO : Only [] w w') : ToksAt w' a l := fun hp => by
  obtain ⟨g, rfl, hb, hc⟩ := h hp
  refine ⟨g, rfl, Nat.lt_of_lt_of_le hb hO.size, fun i t ht => ?_⟩
  obtain ⟨c0, c1, c2⟩ := hc i t ht
  exact ⟨(hO.cell (p := ⟨g, _, none⟩) hb (by simp)).trans c0, (hO.cell (p := ⟨g, _, none⟩) hb (by simp)).trans c1, (hO.cell (p := ⟨g, _, none⟩) hb (by simp)).trans c2⟩
theorem lcellsT_get : ∀ (l : List Tok) (i : Nat) (t : Tok), l[i]? = some t → (lcellsT l)[i * 3]? = some (.int .i64 t.kind) ∧ (lcellsT l)[i * 3 + 1]? = some (.int .i64 t.at_) ∧ (lcellsT l)[i * 3 + 2]? = some (encStr t.s)
  | [], i, t, h => by simp at h
  | x :: r, 0, t, h => by
    simp at h
    subst h
    exact ⟨rfl, rfl, rfl⟩
  | x :: r, i + 1, t, h => by
    have ih := lcellsT_get r i t (by simpa using h)
    have e : lcellsT (x :: r) = tcells x ++ lcellsT r := by simp [lcellsT]
    have e3 : (tcells x).length = 3 := rfl
    rw [e, List.getElem?_append_right (by omega), List.getElem?_append_right (by omega), List.getElem?_append_right (by omega), e3]
    rw [show (i + 1) * 3 - 3 = i * 3 by omega, show (i + 1) * 3 + 1 - 3 = i * 3 + 1 by omega, show (i + 1) * 3 + 2 - 3 = i * 3 + 2 by omega]
    exact ih
end Go.Proofs.Ytgkddbpfjbgelaa
