/-
  Plain facts for the walks of chapter 5: worlds, an iterator over a text, rows of tokens of one's own; tokens by chapter 5 itself.
-/
import Derived.Test.YtildkedplmjdaaaGreatDoorBase
import Derived.Deep.WholeRow
import Derived.Deep.MidRow
import Derived.Laws.CopyOwn
import Derived.Tactics
import Derived.WalkKit
import Derived.StillTailTactics
import Derived.Test.YtildkedplmjdaaaGreatDoorStab
import Derived.Sort.EncStr
import Derived.OwnWalk
import Derived.Lib.OthersKept
import Derived.Laws.RangeAny
import Derived.Test.YtildkedplmjdaaaGreatDoorProg
namespace Go.Proofs.YtildkedplmjdaaaGreatDoor
set_option linter.unusedVariables false
set_option maxRecDepth 100000
open Go.RowKit
variable {P : Program}

theorem wpList_store_new {ops : Array Oper} {rest : List Oper} {op : Oper} {a : Act} {W : World} {Q : Exit → Act → World → Prop} (hgd : op.guard = none) (ty : TypeId) (x y : Operand) (ho : op.op = .store ty x y)
    (c c' : Array Value) (g : Nat) (hg : g = W.heap.size) (hx : a.eval x = .pointer (some ⟨g, 0, none⟩)) (hy : a.eval y = .agg c') (hi : (P.info? ty).map (·.size) = some c'.size) (hc : c.size = c'.size) (h1 : c'.all (·.oneCell') = true)
    (h : wpList P ops Q rest (a.put op.dst undef) (W.alloc (.cells c' ty))) : wpList P ops Q (op :: rest) a (W.alloc (.cells c ty)) := by
  subst hg
  refine wpList_plain hgd fun K hK => ?_
  unfold Oper.wp execOp
  have hr := run_storeAt_new (P := P) W ty c c' hi hc h1
  simp only [ho, hx, hy, Sem.run_bind, hr, Result.andThen_ok]
  exact hK _ _ h

theorem setRow_new (W : World) (c c' : Array Value) (e : TypeId) : (W.alloc (.cells c e)).setRow W.heap.size c' = W.alloc (.cells c' e) := World.setRow_alloc_new W c c' e

theorem wpList_copy_new {ops : Array Oper} {rest : List Oper} {o : Oper} {a : Act} {W : World} {Q : Exit → Act → World → Prop} (hgd : o.guard = none) (d s : Operand) (dT sT : TypeId)
    (ho : o.op = .call { callee := .builtin .copy, args := #[d, s], argTypes := #[dT, sT] }) (elem : TypeId) (hu : P.underlying dT = some (.slice elem)) (hsz : (P.info? elem).map (·.size) = some 1)
    (c : Array Value) (e : TypeId) (g m dCap : Nat) (hg : g = W.heap.size) (hd : a.eval d = .slice (some ⟨g, 0, none⟩) m dCap) (b off sCap : Nat) (hs : a.eval s = .slice (some ⟨b, off, none⟩) m sCap)
    (cs : List Value) (hn : cs.length = m) (hc : c.size = m) (hsrc : (W.alloc (.cells c e)).rangeAt b off cs) (h1 : ∀ v ∈ cs, v.oneCell' = true)
    (h : wpList P ops Q rest (a.put o.dst (goInt cs.length)) (W.alloc (.cells cs.toArray e))) : wpList P ops Q (o :: rest) a (W.alloc (.cells c e)) := by
  subst hg
  refine wpList_copy_own hgd d s dT sT ho elem hu hsz W.heap.size 0 m dCap ⟨b, off, none⟩ m sCap hd hs c e (heap_alloc_new W _) cs (by rw [hn]; exact (Nat.min_self m).symm)
    (fun j v hv => by rw [Addr.add_mid]; exact hsrc j v hv) (by omega) h1 ?_
  have e1 : (c.toList.take 0 ++ (cs ++ c.toList.drop (0 + cs.length))).toArray = cs.toArray := by
    have : c.toList.drop (0 + cs.length) = [] := List.drop_eq_nil_of_le (by simp; omega)
    simp only [List.take_zero, List.nil_append, this, List.append_nil]
  rw [e1, setRow_new]
  exact h

/-- A copy of whatever length into the newest block, from its head on. -/
theorem wpList_copy_part {ops : Array Oper} {rest : List Oper} {o : Oper} {a : Act} {W : World} {Q : Exit → Act → World → Prop} (hgd : o.guard = none) (d s : Operand) (dT sT : TypeId)
    (ho : o.op = .call { callee := .builtin .copy, args := #[d, s], argTypes := #[dT, sT] }) (elem : TypeId) (hu : P.underlying dT = some (.slice elem)) (hsz : (P.info? elem).map (·.size) = some 1)
    (c : Array Value) (e : TypeId) (g m dCap : Nat) (hg : g = W.heap.size) (hd : a.eval d = .slice (some ⟨g, 0, none⟩) m dCap) (sa : Option Addr) (len sCap : Nat) (hs : a.eval s = .slice sa len sCap)
    (cs : List Value) (hn : cs.length = Nat.min len m) (hc : c.size = m) (hsrc : 0 < cs.length → ∃ b off, sa = some ⟨b, off, none⟩ ∧ (W.alloc (.cells c e)).rangeAt b off cs) (h1 : ∀ v ∈ cs, v.oneCell' = true)
    (h : wpList P ops Q rest (a.put o.dst (goInt cs.length)) (W.alloc (.cells (cs ++ c.toList.drop cs.length).toArray e))) : wpList P ops Q (o :: rest) a (W.alloc (.cells c e)) := by
  subst hg
  by_cases h0 : cs.length = 0
  · obtain rfl : cs = [] := List.eq_nil_of_length_eq_zero h0
    refine wpList_copy_nothing hgd d s dT sT ho elem hu hsz _ _ m dCap len sCap hd hs (by simpa using hn.symm) ?_
    simpa using h
  · obtain ⟨b, off, rfl, hr⟩ := hsrc (by omega)
    have hmin : Nat.min len m ≤ m := Nat.min_le_right _ _
    refine wpList_copy_own hgd d s dT sT ho elem hu hsz W.heap.size 0 m dCap ⟨b, off, none⟩ len sCap hd hs c e (heap_alloc_new W _) cs hn
      (fun j v hv => by rw [Addr.add_mid]; exact hr j v hv) (by omega) h1 ?_
    have e1 : (c.toList.take 0 ++ (cs ++ c.toList.drop (0 + cs.length))).toArray = (cs ++ c.toList.drop cs.length).toArray := by simp
    rw [e1, setRow_new]
    exact h

/-- A region that draws its order and ends in operations of one order: the world behind the draw under its own name. -/
theorem still_tail {id : Nat} {Q : Exit → Act → World → Prop} {a : Act} {w : World} {l : List Oper} (n : Nat) (hm : P.follows .mixedOrders = true) (hB : Region.lexTailB .any l.toArray n = true)
    (h : wpStill P l.toArray w.drew (fun a' => wpList P l.toArray Q (l.drop n) a' w.drew) (l.take n) a) : (Code.region id l.toArray true).wp P Q a w := wp_region_still_tail n hm hB h

end Go.Proofs.YtildkedplmjdaaaGreatDoor
namespace Go.Proofs.YtildkedplmjdaaaGreatDoor
set_option maxRecDepth 100000
set_option linter.unusedVariables false
open Go.RowKit Go.Sort

theorem Only.plus {S : List Nat} {a b c : World} (h : Only S a b) (k : Only [] b c) : Only S a c := (h.trans k).into (fun i hi => .inl (by simpa using hi))
theorem Only.drewN {S : List Nat} {a b : World} (h : Only S a b) (n : Nat) : Only S a (b.drewN n) := ⟨h.os, h.tape, h.output, h.size, h.block⟩
theorem Below.toOnly {a b : World} (h : Below a.heap.size a b) : Only [] a b := ⟨h.os, h.tape, h.output, h.size, fun k hk _ => h.block k hk⟩
theorem Only.iterAt {a b : World} (h : Only [] a b) {k : Nat} (hk : a.heap.size ≤ k) (s : ByteArray) (pos : Nat) : Only [] a (b.iterAt k s pos) :=
  ⟨h.os, h.tape, h.output, by rw [Lib.iterAt_size]; exact h.size, fun i hi hn => (Lib.iterAt_other b k i s pos (by omega)).trans (h.block i hi hn)⟩
theorem only_row {w0 w w' : World} {g base : Nat} (hO : Only [] w0 w) (hg : w.grownBy w' (some g)) (hb : base ≤ g) (h0 : w0.heap.size ≤ base) : Only [] w0 w' :=
  ⟨hg.os.trans hO.os, hg.tape.trans hO.tape, hg.output.trans hO.output, Nat.le_trans hO.size hg.size, fun k hk hm => (hg.block k (Nat.lt_of_lt_of_le hk hO.size) (fun e => by injection e with e; omega)).trans (hO.block k hk hm)⟩

/-- A token: its kind, its place, its text. -/
structure Tok where
  kind : Nat
  at_ : Nat
  s : List UInt8
deriving DecidableEq

def letB (c : UInt8) : Bool := decide (97 ≤ c.toNat) && decide (c.toNat ≤ 122)
def digB (c : UInt8) : Bool := decide (48 ≤ c.toNat) && decide (c.toNat ≤ 57)
def alnB (c : UInt8) : Bool := letB c || digB c
def blankB (c : UInt8) : Bool := decide (c.toNat = 32) || decide (c.toNat = 9) || decide (c.toNat = 10)
def wordsM : List (List UInt8) := [[118, 97, 114], [108, 111, 99, 107], [102, 117, 110, 99], [117, 115, 101], [115, 101, 116], [117, 110, 108, 111, 99, 107], [99, 97, 108, 108], [115, 112, 97, 119, 110], [105, 102], [101, 108, 115, 101], [108, 111, 111, 112]]
def wordM (s : List UInt8) : Bool := wordsM.contains s
/-- The row that a text begins with. -/
def rowM : List UInt8 → List UInt8
  | [] => []
  | c :: r => if letB c then c :: r.takeWhile alnB else []
def nameM (s : List UInt8) : Bool := decide (1 ≤ s.length) && decide (s.length ≤ 12) && decide (rowM s = s) && !wordM s

/-- A text's tokens from a place on, and where the first byte stands that is of none. -/
def tokF : Nat → Nat → List UInt8 → List Tok × Option Nat
  | 0, _, _ => ([], none)
  | _ + 1, _, [] => ([], none)
  | f + 1, i, c :: r =>
    if letB c then
      (⟨1, i, rowM (c :: r)⟩ :: (tokF f (i + (rowM (c :: r)).length) ((c :: r).drop (rowM (c :: r)).length)).1, (tokF f (i + (rowM (c :: r)).length) ((c :: r).drop (rowM (c :: r)).length)).2)
    else if c.toNat = 123 then (⟨2, i, []⟩ :: (tokF f (i + 1) r).1, (tokF f (i + 1) r).2)
    else if c.toNat = 125 then (⟨3, i, []⟩ :: (tokF f (i + 1) r).1, (tokF f (i + 1) r).2)
    else if blankB c then tokF f (i + 1) r
    else ([], some i)

/-- What Tokens answers: tokens, place, error. -/
def tokM (s : List UInt8) : List Tok × Nat × Nat :=
  if 2000 < s.length then ([], 0, 2)
  else match tokF s.length 0 s with
    | (l, none) => (l, 0, 0)
    | (_, some i) => ([], i, 6)

theorem takeWhile_take {p : UInt8 → Bool} : ∀ (r : List UInt8) (m : Nat), m ≤ r.length → (∀ (j : Nat) (hj : j < r.length), j < m → p r[j] = true) → (∀ hm : m < r.length, p r[m] = false) → r.takeWhile p = r.take m
  | [], m, hm, _, _ => by simp
  | c :: r, 0, _, _, h => by
    have := h (by simp)
    simp at this
    simp [this]
  | c :: r, m + 1, hm, ha, hb => by
    have h0 := ha 0 (by simp) (by omega)
    simp at h0
    rw [List.takeWhile_cons_of_pos h0, List.take_succ_cons]
    rw [takeWhile_take r m (by simpa using hm) (fun j hj hjm => ha (j + 1) (by simp; omega) (by omega)) (fun h => hb (by simp; omega))]

/-- A row goes as far as it may. -/
theorem row_take (s : List UInt8) (k : Nat) (hk : k ≤ s.length) (ha : ∀ (j : Nat) (hj : j < s.length), j < k → (letB s[j] || decide (0 < j) && digB s[j]) = true) (hb : ∀ h : k < s.length, (letB s[k] || decide (0 < k) && digB s[k]) = false) : rowM s = s.take k := by
  match s, k with
  | [], _ => simp [rowM]
  | c :: r, 0 =>
    have := hb (by simp)
    simp at this
    simp [rowM, this]
  | c :: r, m + 1 =>
    have h0 := ha 0 (by simp) (by omega)
    simp at h0
    rw [rowM, if_pos h0, List.take_succ_cons]
    rw [takeWhile_take r m (by simpa using hk) (fun j hj hjm => by have := ha (j + 1) (by simp; omega) (by omega); simp only [show decide (0 < j + 1) = true from by simp, Bool.true_and] at this; exact this) (fun h => by have := hb (by simp; omega); simp only [show decide (0 < m + 1) = true from by simp, Bool.true_and] at this; exact this)]

theorem row_pre (s : List UInt8) : rowM s = s.take (rowM s).length ∧ (rowM s).length ≤ s.length := by
  match s with
  | [] => simp [rowM]
  | c :: r =>
    by_cases hc : letB c = true
    · have h1 : (r.takeWhile alnB) <+: r := List.takeWhile_prefix _
      have h2 := List.prefix_iff_eq_take.1 h1
      have h3 := h1.length_le
      have e : rowM (c :: r) = c :: r.takeWhile alnB := by simp [rowM, hc]
      rw [e]
      refine ⟨?_, by rw [List.length_cons, List.length_cons]; omega⟩
      rw [List.length_cons, List.take_succ_cons, ← h2]
    · have e : rowM (c :: r) = [] := by simp [rowM, hc]
      rw [e]
      simp
theorem takeWhile_all {p : UInt8 → Bool} : ∀ (r : List UInt8), ∀ c ∈ r.takeWhile p, p c = true
  | [], c, h => by simp at h
  | x :: r, c, h => by
    by_cases hx : p x = true
    · rw [List.takeWhile_cons_of_pos hx] at h
      rcases List.mem_cons.1 h with rfl | h
      · exact hx
      · exact takeWhile_all r c h
    · rw [List.takeWhile_cons_of_neg hx] at h
      cases h
theorem row_all (s : List UInt8) : ∀ c ∈ rowM s, alnB c = true := by
  match s with
  | [] => simp [rowM]
  | c :: r =>
    by_cases hc : letB c = true
    · have e : rowM (c :: r) = c :: r.takeWhile alnB := by simp [rowM, hc]
      rw [e]
      intro x hx
      rcases List.mem_cons.1 hx with rfl | hx
      · simp [alnB, hc]
      · exact takeWhile_all r x hx
    · have e : rowM (c :: r) = [] := by simp [rowM, hc]
      rw [e]
      simp
theorem row_pos {c : UInt8} {r : List UInt8} (h : letB c = true) : 0 < (rowM (c :: r)).length := by simp [rowM, h]

/-- A token's cells; a row of tokens of one's own. -/
def tcells (t : Tok) : List Value := [.int .i64 t.kind, .int .i64 t.at_, encStr t.s]
def lcellsT (l : List Tok) : List Value := l.flatMap tcells
def OwnT (w : World) (base : Nat) (v : Value) (l : List Tok) : Prop := w.ownsRow base 93 3 v l.length (lcellsT l)
theorem length_lcellsT (l : List Tok) : (lcellsT l).length = l.length * 3 := by
  induction l with
  | nil => rfl
  | cons f r ih => simp [lcellsT, tcells] at ih ⊢; omega
theorem lcellsT_snoc (l : List Tok) (f : Tok) : lcellsT (l ++ [f]) = lcellsT l ++ tcells f := by simp [lcellsT]
theorem OwnT.only {w w' : World} {base : Nat} {v : Value} {l : List Tok} (h : OwnT w base v l) (hO : Only [] w w') : OwnT w' base v l := by
  refine ⟨h.1, ?_⟩
  rcases h.2 with hn | ⟨g, cap, cur, rfl, hb, hg, rest⟩
  · exact .inl hn
  · exact .inr ⟨g, cap, cur, rfl, hb, (hO.block g (IsBlk.lt hg) (by simp)).trans hg, rest⟩
theorem OwnT.none (w : World) (base : Nat) : OwnT w base (.slice none 0 0) [] := ⟨rfl, .inl ⟨rfl, rfl⟩⟩
theorem OwnT.iterAt {w : World} {base : Nat} {v : Value} {l : List Tok} (h : OwnT w base v l) {k : Nat} {s : ByteArray} {pos : Nat} (hk : w.heap[k]? = some (.stringIter s pos)) (pos' : Nat) : OwnT (w.iterAt k s pos') base v l := by
  refine ⟨h.1, ?_⟩
  rcases h.2 with hn | ⟨g, cap, cur, rfl, hb, hg, rest⟩
  · exact .inl hn
  · have hkg : g ≠ k := by
      intro e1
      rw [e1, hk] at hg
      cases hg
    exact .inr ⟨g, cap, cur, rfl, hb, (Lib.iterAt_other w k g s pos' hkg).trans hg, rest⟩
/-- An iterator stays while a row of one's own grows. -/
theorem OwnT.iter {w w' : World} {base : Nat} {v : Value} {l : List Tok} (h : OwnT w base v l) (hg : w.grownBy w' v.ownBlock) {k : Nat} {s : ByteArray} {pos : Nat} (hk : w.heap[k]? = some (.stringIter s pos)) : w'.heap[k]? = some (.stringIter s pos) := by
  refine (hg.block k (IsBlk.lt hk) (fun e => ?_)).trans hk
  rcases h.2 with ⟨rfl, _⟩ | ⟨g, cap, cur, rfl, hb, hgg, rest⟩
  · simp [Value.ownBlock] at e
  · simp [Value.ownBlock] at e
    subst e
    rw [hk] at hgg
    cases hgg
theorem OwnT.grown {w0 w w' : World} {base : Nat} {v : Value} {l : List Tok} (h : OwnT w base v l) (hg : w.grownBy w' v.ownBlock) (hO : Only [] w0 w) (h0 : w0.heap.size ≤ base) : Only [] w0 w' := by
  rcases hb0 : Value.ownBlock v with _ | g0
  · rw [hb0] at hg
    exact hO.plus ⟨hg.os, hg.tape, hg.output, hg.size, fun k hk _ => hg.block k hk (by simp)⟩
  · rw [hb0] at hg
    exact only_row hO hg (World.ownsRow.lt h g0 hb0).1 h0

theorem infoT : (Tryz.prog.info? 93).map (fun i => (i.zero, i.size, i.bytes)) = some (some (.agg #[.int .i64 0, .int .i64 0, .string ⟨#[]⟩]), 3, 32) := by kernel_rfl

/-- One token appended to a row of tokens of one's own. -/
theorem wpList_append_t {w : World} {ops : Array Oper} {rest : List Oper} {o : Oper} {a : Act} {Q : Exit → Act → World → Prop} (hgd : o.guard = none) (s x : Operand)
    (ho : o.op = .call { callee := .builtin .append, args := #[s, x], argTypes := #[63, 63] })
    (base : Nat) (v : Value) (l : List Tok) (hs : a.eval s = v) (hown : OwnT w base v l) (q c : Nat) (f : Tok) (hx : a.eval x = .slice (some ⟨q, 0, none⟩) 1 c)
    (hc0 : w.cell? ⟨q, 0, none⟩ = some (.int .i64 f.kind)) (hc1 : w.cell? ⟨q, 1, none⟩ = some (.int .i64 f.at_)) (hc2 : w.cell? ⟨q, 2, none⟩ = some (encStr f.s)) (hsm : l.length ≤ 1000000) (hbase : base ≤ w.heap.size)
    (h : ∀ v' w', OwnT w' base v' (l ++ [f]) → w.grownBy w' v.ownBlock → wpList Tryz.prog ops Q rest (a.put o.dst v') w') : wpList Tryz.prog ops Q (o :: rest) a w := by
  obtain ⟨i0, hi, hz0, hz1, hz2⟩ := info_parts infoT
  refine wpList_append_own w hgd s x _ ho base _ i0 _ 3 32 Tryz.underlying63 hi hz0 hz1 hz2 rfl (by decide) v l.length (lcellsT l) hs hown ⟨q, 0, none⟩ 1 c (tcells f) hx rfl (fun j u hu => ?_) (fun u hu => ?_) (by unfold maxLen; omega) (by omega) hbase (fun v' w' h2 h3 h4 => h v' w' ?_ h3)
  · rw [Addr.add_mid]
    match j, hu with
    | 0, hu => simp [tcells] at hu; rw [← hu]; exact hc0
    | 1, hu => simp [tcells] at hu; rw [← hu]; exact hc1
    | 2, hu => simp [tcells] at hu; rw [← hu]; exact hc2
    | n + 3, hu => simp [tcells] at hu
  · simp [tcells] at hu
    rcases hu with rfl | rfl | rfl <;> rfl
  · unfold OwnT
    rw [lcellsT_snoc, List.length_append]
    exact h2

/-- Tokens in a row, to be read. -/
def ToksAt (w : World) (a : Option Addr) (l : List Tok) : Prop :=
  0 < l.length → ∃ g, a = some ⟨g, 0, none⟩ ∧ g < w.heap.size ∧ ∀ (i : Nat) (t : Tok), l[i]? = some t → w.cell? ⟨g, i * 3, none⟩ = some (.int .i64 t.kind) ∧ w.cell? ⟨g, i * 3 + 1, none⟩ = some (.int .i64 t.at_) ∧ w.cell? ⟨g, i * 3 + 2, none⟩ = some (encStr t.s)
theorem ToksAt.more {w w' : World} {a : Option Addr} {l : List Tok} (h : ToksAt w a l) (hO : Only [] w w') : ToksAt w' a l := fun hp => by
  obtain ⟨g, rfl, hb, hc⟩ := h hp
  refine ⟨g, rfl, Nat.lt_of_lt_of_le hb hO.size, fun i t ht => ?_⟩
  obtain ⟨c0, c1, c2⟩ := hc i t ht
  exact ⟨(hO.cell (p := ⟨g, _, none⟩) hb (by simp)).trans c0, (hO.cell (p := ⟨g, _, none⟩) hb (by simp)).trans c1, (hO.cell (p := ⟨g, _, none⟩) hb (by simp)).trans c2⟩
theorem lcellsT_get : ∀ (l : List Tok) (i : Nat) (t : Tok), l[i]? = some t → (lcellsT l)[i * 3]? = some (.int .i64 t.kind) ∧ (lcellsT l)[i * 3 + 1]? = some (.int .i64 t.at_) ∧ (lcellsT l)[i * 3 + 2]? = some (encStr t.s)
  | [], i, t, h => by simp at h
  | x :: r, 0, t, h => by
    simp at h
    subst h
    exact ⟨rfl, rfl, rfl⟩
  | x :: r, i + 1, t, h => by
    have ih := lcellsT_get r i t (by simpa using h)
    have e : lcellsT (x :: r) = tcells x ++ lcellsT r := by simp [lcellsT]
    have e3 : (tcells x).length = 3 := rfl
    rw [e, List.getElem?_append_right (by omega), List.getElem?_append_right (by omega), List.getElem?_append_right (by omega), e3]
    rw [show (i + 1) * 3 - 3 = i * 3 by omega, show (i + 1) * 3 + 1 - 3 = i * 3 + 1 by omega, show (i + 1) * 3 + 2 - 3 = i * 3 + 2 by omega]
    exact ih
theorem OwnT.toks {w : World} {base : Nat} {v : Value} {l : List Tok} (h : OwnT w base v l) : ∃ a cap, v = .slice a l.length cap ∧ ToksAt w a l := by
  rcases h.2 with ⟨rfl, h0⟩ | ⟨g, cap, cur, rfl, hb, hg, _⟩
  · exact ⟨Option.none, 0, by rw [h0], fun hp => by omega⟩
  · refine ⟨some ⟨g, 0, Option.none⟩, cap, rfl, fun _ => ⟨g, rfl, IsBlk.lt hg, fun i t ht => ?_⟩⟩
    obtain ⟨c0, c1, c2⟩ := lcellsT_get l i t ht
    have k0 := World.ownsRow.cells h (g := g) rfl (i * 3) _ c0
    have k1 := World.ownsRow.cells h (g := g) rfl (i * 3 + 1) _ c1
    have k2 := World.ownsRow.cells h (g := g) rfl (i * 3 + 2) _ c2
    rw [Addr.add_mid, Nat.zero_add] at k0 k1 k2
    exact ⟨k0, k1, k2⟩

end Go.Proofs.YtildkedplmjdaaaGreatDoor
