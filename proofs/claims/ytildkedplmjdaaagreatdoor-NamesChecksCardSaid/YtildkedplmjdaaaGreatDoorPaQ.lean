/-
  The walk of the law ParseKnown.
-/
import Derived.Test.YtildkedplmjdaaaGreatDoorPaI
import Derived.Deep.LoopGhost
import Derived.Laws.StructEq
import Derived.Sort.BigQuietIn
import Derived.LaidEqlPtr
import Derived.Lib.Builder
import Derived.Lib.UnsafeStr
import Derived.Lib.AppendStr
import Derived.Laws.Externs
import Derived.Test.YtildkedplmjdaaaGreatDoorLxF
import Derived.Test.YtildkedplmjdaaaGreatDoorLxG
import Derived.Deep.RegionHeld3
namespace Go.Proofs.YtildkedplmjdaaaGreatDoor
set_option maxRecDepth 100000
set_option linter.unusedVariables false
open Go.RowKit Go.Sort

/-! ### What is to be looked at -/

/-- A block that waits: its slice, itself, the blocks below it, how deep it stands. -/
structure Lev where
  a : Option Addr
  c : Nat
  b : Blk
  fp : List Nat
  d : Nat
def lvCells (l : List Lev) : List Value := l.flatMap fun x => [.slice x.a x.b.len x.c, .int .i64 x.d]
theorem lvCells_snoc (l : List Lev) (x : Lev) : lvCells (l ++ [x]) = lvCells l ++ [.slice x.a x.b.len x.c, .int .i64 x.d] := by simp [lvCells]
theorem length_lvCells (l : List Lev) : (lvCells l).length = l.length * 2 := by
  induction l with
  | nil => rfl
  | cons f r ih => simp [lvCells] at ih ⊢; omega
def lvFp (l : List Lev) : List Nat := l.flatMap (·.fp)
theorem lvFp_snoc (l : List Lev) (x : Lev) : lvFp (l ++ [x]) = lvFp l ++ x.fp := by simp [lvFp]
def lvWt (l : List Lev) : Nat := (l.map fun x => max 1 x.fp.length).sum
theorem lvWt_snoc (l : List Lev) (x : Lev) : lvWt (l ++ [x]) = lvWt l + max 1 x.fp.length := by simp [lvWt]
def LevAt (w : World) (x : Lev) : Prop := BlkAt w (.slice x.a x.b.len x.c) x.b x.fp

/-- The last one taken off. -/
theorem own_pop {w : World} {base n : Nat} {e : TypeId} {a : Option Addr} {c : Nat} {xs : List Value} {u1 u2 : Value} (h : w.ownsRow base e 2 (.slice a (n + 1 : Nat) c) (n + 1) (xs ++ [u1, u2])) :
    ∃ g, a = some ⟨g, 0, none⟩ ∧ base ≤ g ∧ g < w.heap.size ∧ n + 1 ≤ c ∧ w.cell? ⟨g, n * 2, none⟩ = some u1 ∧ w.cell? ⟨g, n * 2 + 1, none⟩ = some u2 ∧ w.ownsRow base e 2 (.slice a n c) n xs := by
  have hl : xs.length = n * 2 := by have := h.1; simp at this; omega
  have h0 := h
  rcases h.2 with ⟨_, h1⟩ | ⟨g, cap, cur, h1, hb, hg, hc, hm, hsz, ht⟩
  · omega
  · injection h1 with h1 h2 h3
    subst h1
    subst h3
    have k0 := World.ownsRow.cells h0 (g := g) rfl (n * 2) u1 (by rw [List.getElem?_append_right (by omega)]; simp [hl])
    have k1 := World.ownsRow.cells h0 (g := g) rfl (n * 2 + 1) u2 (by rw [List.getElem?_append_right (by omega), show n * 2 + 1 - xs.length = 1 by omega]; rfl)
    rw [Addr.add_mid, Nat.zero_add] at k0 k1
    refine ⟨g, rfl, hb, IsBlk.lt hg, hc, k0, k1, hl, .inr ⟨g, c, cur, rfl, hb, hg, by omega, hm, hsz, ?_⟩⟩
    have := congrArg (List.take (n * 2)) ht
    rw [List.take_take, List.take_left' hl, show min (n * 2) ((n + 1) * 2) = n * 2 by omega] at this
    exact this

/-- The mark: none, or a block that does not wait. -/
def MarkOk (w : World) (a : Option Addr) (n : Nat) (F : List Nat) : Prop := n = 0 ∨ ∃ g, a = some ⟨g, 0, none⟩ ∧ g ∉ F ∧ ∃ cs t, IsBlk w g (.cells cs t)

end Go.Proofs.YtildkedplmjdaaaGreatDoor
namespace Go.Proofs.YtildkedplmjdaaaGreatDoor
set_option maxRecDepth 100000
set_option linter.unusedVariables false
open Go.RowKit Go.Sort

/-- How many statements there are, those within blocks too. -/
def Blk.cnt : Blk → Nat
  | .nil => 0
  | .cons _ _ _ a b r => a.cnt + b.cnt + r.cnt + 1
theorem Blk.len_cnt : ∀ (b : Blk), b.len ≤ b.cnt
  | .nil => Nat.le_refl _
  | .cons _ _ _ a b r => by have := r.len_cnt; simp only [Blk.len, Blk.cnt]; omega
theorem RowE.cnt {w : World} {b : Blk} {v : Value} {fp : List Nat} (h : RowE w (EncB w b) b.len v fp) (hE : ∀ xs fq, EncB w b xs fq → fq.length + b.len ≤ b.cnt) : fp.length ≤ b.cnt := by
  rcases h with ⟨-, -, rfl⟩ | ⟨g, c, fq, xs, -, -, hn, rfl, -, -, he⟩
  · simp
  · have := hE _ _ he; simp only [List.length_cons]; omega
theorem EncB.cnt {w : World} : ∀ {b : Blk} {xs : List Value} {fp : List Nat}, EncB w b xs fp → fp.length + b.len ≤ b.cnt
  | .nil, xs, fp, h => by rw [h.2]; simp [Blk.len, Blk.cnt]
  | .cons k p n a b r, xs, fp, h => by
    obtain ⟨va, vb, fa, fb, fr, xr, rfl, rfl, h1, h2, h3⟩ := h
    have i1 := RowE.cnt h1 (fun _ _ he => EncB.cnt he)
    have i2 := RowE.cnt h2 (fun _ _ he => EncB.cnt he)
    have i3 := EncB.cnt h3
    simp only [List.length_append, Blk.len, Blk.cnt]
    omega
theorem BlkAt.cnt {w : World} {v : Value} {b : Blk} {fp : List Nat} (h : BlkAt w v b fp) : fp.length ≤ b.cnt := RowE.cnt h (fun _ _ he => EncB.cnt he)
theorem BlkAt.pos {w : World} {v : Value} {b : Blk} {fp : List Nat} (h : BlkAt w v b fp) : (b.len = 0 → b = .nil ∧ fp = []) ∧ (0 < b.len → 0 < fp.length) := by
  refine ⟨fun h0 => ?_, fun h0 => ?_⟩
  · rcases h with ⟨-, h1, rfl⟩ | ⟨g, c, fq, xs, -, -, hn, -⟩
    · exact ⟨Blk.len_zero b h1, rfl⟩
    · omega
  · rcases h with ⟨-, h1, rfl⟩ | ⟨g, c, fq, xs, -, -, hn, rfl, -⟩
    · omega
    · simp

def addLev (l : List Lev) (x : Lev) : List Lev := if x.b.len = 0 then l else l ++ [x]
theorem addLev_fp {w : World} {l : List Lev} {x : Lev} (h : LevAt w x) : lvFp (addLev l x) = lvFp l ++ x.fp := by
  unfold addLev
  split
  · rename_i h0; rw [((BlkAt.pos h).1 h0).2, List.append_nil]
  · exact lvFp_snoc l x
theorem addLev_wt {w : World} {l : List Lev} {x : Lev} (h : LevAt w x) : lvWt (addLev l x) = lvWt l + x.fp.length := by
  unfold addLev
  split
  · rename_i h0; rw [((BlkAt.pos h).1 h0).2]; rfl
  · rename_i h0; rw [lvWt_snoc]; have := (BlkAt.pos h).2 (by omega); omega
theorem addLev_len (l : List Lev) (x : Lev) : l.length ≤ (addLev l x).length ∧ (addLev l x).length ≤ l.length + 1 := by
  unfold addLev; split <;> simp
theorem mem_addLev {l : List Lev} {x y : Lev} (h : y ∈ addLev l x) : y ∈ l ∨ y = x := by
  unfold addLev at h
  split at h
  · exact .inl h
  · simpa using h
theorem lvWt_len : ∀ (l : List Lev), l.length ≤ lvWt l
  | [] => Nat.le_refl _
  | x :: r => by have := lvWt_len r; simp only [lvWt, List.map_cons, List.sum_cons, List.length_cons] at *; omega

theorem MarkOk.less {w : World} {a : Option Addr} {n : Nat} {F G : List Nat} (h : MarkOk w a n F) (hs : ∀ k ∈ G, k ∈ F) : MarkOk w a n G := by
  rcases h with h | ⟨g, h1, h2, h3⟩
  · exact .inl h
  · exact .inr ⟨g, h1, fun hm => h2 (hs g hm), h3⟩

theorem lev_open {w : World} {x : Lev} (h : LevAt w x) : ∃ fq xs, EncB w x.b xs fq ∧ (0 < x.b.len → ∃ gx, x.a = some ⟨gx, 0, none⟩ ∧ gx < w.heap.size ∧ w.rangeAt gx 0 xs) ∧ fq.length + 1 ≤ max 1 x.fp.length ∧
    (∀ F : List Nat, (F ++ x.fp).Nodup → (F ++ fq).Nodup ∧ MarkOk w x.a x.b.len (F ++ fq)) ∧ (∀ k ∈ fq, k ∈ x.fp) := by
  rcases h with ⟨h1, h2, h3⟩ | ⟨g, c, fq, xs, h1, hc, hn, h3, ⟨cs, t, hg⟩, hr, he⟩
  · have hb := Blk.len_zero x.b h2
    rw [hb, h3]
    exact ⟨[], [], ⟨rfl, rfl⟩, fun h => by simp [Blk.len] at h, by simp, fun F hF => ⟨hF, .inl rfl⟩, by simp⟩
  · injection h1 with h4 h5 h6
    refine ⟨fq, xs, he, fun _ => ⟨g, h4, hg.lt, hr⟩, by rw [h3]; simp only [List.length_cons]; omega, fun F hF => ?_, fun k hk => by rw [h3]; simp [hk]⟩
    rw [h3] at hF
    obtain ⟨n1, n2, n3⟩ := List.nodup_append.1 hF
    obtain ⟨n4, n5⟩ := List.nodup_cons.1 n2
    refine ⟨List.nodup_append.2 ⟨n1, n5, fun a ha b hb => n3 a ha b (by simp [hb])⟩, .inr ⟨g, h4, fun hm => ?_, cs, t, hg⟩⟩
    rcases List.mem_append.1 hm with hm | hm
    · exact n3 g hm g (by simp) rfl
    · exact n4 hm

end Go.Proofs.YtildkedplmjdaaaGreatDoor
namespace Go.Proofs.YtildkedplmjdaaaGreatDoor
set_option maxRecDepth 100000
set_option linter.unusedVariables false
open Go.RowKit Go.Sort

/-- What has turned is the writer's own, or new. -/
def WrO (w0 : World) (p : Nat) (w w' : World) : Prop := p < w0.heap.size ∧ ∃ T, Only (p :: T) w w' ∧ ∀ k ∈ T, w0.heap.size ≤ k ∧ (k < w.heap.size → ∃ cs, IsBlk w k (.cells cs 5))
theorem WrO.refl {w0 : World} {p : Nat} (hp : p < w0.heap.size) (w : World) : WrO w0 p w w := ⟨hp, [], Only.refl _ _, by simp⟩
theorem WrO.of {w0 w w' : World} {p : Nat} (hp : p < w0.heap.size) (h : Only [] w w') : WrO w0 p w w' := ⟨hp, [], h.into (by simp), by simp⟩
theorem WrO.trans {w0 a b c : World} {p : Nat} (h : WrO w0 p a b) (k : WrO w0 p b c) : WrO w0 p a c := by
  obtain ⟨hp, T, h1, h2⟩ := h
  obtain ⟨-, U, k1, k2⟩ := k
  refine ⟨hp, T ++ U, h1.then k1 _ (fun i hi => .inl (by simp at hi ⊢; rcases hi with h | h <;> simp [h])) (fun i hi => .inl (by simp at hi ⊢; rcases hi with h | h <;> simp [h])), fun i hi => ?_⟩
  rcases List.mem_append.1 hi with h | h
  · exact h2 i h
  · refine ⟨(k2 i h).1, fun hlt => ?_⟩
    by_cases hT : i ∈ T
    · exact (h2 i hT).2 hlt
    · obtain ⟨cs, hb⟩ := (k2 i h).2 (Nat.lt_of_lt_of_le hlt h1.size)
      refine ⟨cs, (h1.block i hlt (fun hm => ?_)).symm.trans hb⟩
      rcases List.mem_cons.1 hm with e | e
      · have := (k2 i h).1; omega
      · exact hT e
theorem WrO.size {w0 a b : World} {p : Nat} (h : WrO w0 p a b) : a.heap.size ≤ b.heap.size := by obtain ⟨-, T, h1, -⟩ := h; exact h1.size
/-- From the world in which the writer was made nothing has turned but it. -/
theorem WrO.only {w0 b : World} {p : Nat} (h : WrO w0 p w0 b) : Only [p] w0 b := by
  obtain ⟨-, T, h1, h2⟩ := h
  exact h1.into (fun i hi => by rcases List.mem_cons.1 hi with h | h; exact .inl (by simp [h]); exact .inr (h2 i h).1)
/-- A block of another type stays. -/
theorem WrO.blk {w0 a b : World} {p g : Nat} {cs : Array Value} {t : TypeId} (h : WrO w0 p a b) (hg : IsBlk a g (.cells cs t)) (hgp : g ≠ p) (ht : t ≠ 5) : IsBlk b g (.cells cs t) := by
  obtain ⟨-, T, h1, h2⟩ := h
  refine hg.only h1 (fun hm => ?_)
  rcases List.mem_cons.1 hm with e | e
  · exact hgp e
  · obtain ⟨cs', hb⟩ := (h2 g e).2 hg.lt
    have := hg.same hb
    injection this with _ h3 _
    exact ht h3
/-- What lies ahead of the writer stays. -/
theorem WrO.old {w0 a b : World} {p : Nat} (h : WrO w0 p a b) : ∀ k, k < w0.heap.size → k ≠ p → k < a.heap.size → b.heap[k]? = a.heap[k]? := by
  obtain ⟨-, T, h1, h2⟩ := h
  intro k hk hkp hka
  exact h1.block k hka (fun hm => by rcases List.mem_cons.1 hm with e | e; exact hkp e; have := (h2 k e).1; omega)
theorem owns_u8 {w : World} {base n : Nat} {v : Value} {xs : List Value} (h : w.ownsRow base 5 1 v n xs) : ∀ k ∈ ownL v, base ≤ k ∧ ∃ cs, IsBlk w k (.cells cs 5) := fun k hk => by
  rcases h.2 with ⟨rfl, -⟩ | ⟨g, cap, cur, rfl, hb, hg, -⟩
  · simp [ownL, Value.ownBlock] at hk
  · have := mem_ownL.1 hk
    simp only [Value.ownBlock, Option.some.injEq] at this
    subst this
    exact ⟨hb, cur, hg⟩

theorem infoU8 : (Tryz.prog.info? 5).map (fun i => (i.zero, i.size, i.bytes)) = some (some (.int .u8 0), 1, 1) := by kernel_rfl

theorem bv_snoc (L : List UInt8) (c : UInt8) : bv (L ++ [c]) = bv L ++ [.int .u8 c.toNat] := by simp [bv]
theorem bv_append (L M : List UInt8) : bv (L ++ M) = bv L ++ bv M := by simp [bv]

/-- Words written behind L, a blank ahead of each that begins no line. -/
def putM : Bool → List (List UInt8) → List UInt8
  | _, [] => []
  | inl, s :: r => (if inl then [32] else []) ++ s ++ putM true r
def inlM (inl : Bool) (ws : List (List UInt8)) : Bool := inl || decide (0 < ws.length)
theorem putM_snoc : ∀ (ws : List (List UInt8)) (inl : Bool) (s : List UInt8), putM inl (ws ++ [s]) = putM inl ws ++ (if inlM inl ws then [32] else []) ++ s
  | [], inl, s => by cases inl <;> simp [putM, inlM]
  | x :: r, inl, s => by
    rw [List.cons_append, putM, putM_snoc r true s, putM]
    simp [inlM]

theorem putM_append : ∀ (a b : List (List UInt8)) (inl : Bool), putM inl (a ++ b) = putM inl a ++ putM (inlM inl a) b
  | [], b, inl => by cases inl <;> simp [putM, inlM]
  | x :: r, b, inl => by
    rw [List.cons_append, putM, putM_append r b true, putM]
    simp [inlM]
/-- Strings in a block of their own. -/
def strsO (ws : List (List UInt8)) : Obj := .cells (ws.map encStr).toArray 9
theorem strs_cell {w : World} {g : Nat} {ws : List (List UInt8)} (h : IsBlk w g (strsO ws)) {i : Nat} {s : List UInt8} (hs : ws[i]? = some s) : w.cell? ⟨g, i, none⟩ = some (encStr s) := by
  rw [h.cell i]; simp [hs]

end Go.Proofs.YtildkedplmjdaaaGreatDoor
namespace Go.Proofs.YtildkedplmjdaaaGreatDoor
set_option maxRecDepth 100000
set_option linter.unusedVariables false
open Go.RowKit Go.Sort

def openW : List UInt8 := [123]
def closeW : List UInt8 := [125]
/-- The words of statements. -/
def innerM : Blk → List (List UInt8)
  | .nil => []
  | .cons k _ n a b r =>
    (if k = 7 then [verbM k, openW] ++ innerM a ++ (if b.len = 0 then [] else [closeW, elseM, openW] ++ innerM b) ++ [closeW]
     else if k = 8 then [verbM k, openW] ++ innerM a ++ [closeW]
     else [verbM k, n]) ++ innerM r
def wordsB (b : Blk) : List (List UInt8) := [openW] ++ innerM b ++ [closeW]

/-- Statements in a slice that may begin within a row; their blocks lie ahead of p. -/
def RestAt (w : World) (p : Nat) (v : Value) (b : Blk) : Prop := ∃ a c, v = .slice a b.len c ∧ b.len ≤ c ∧ (0 < b.len → ∃ g o xs fp, a = some ⟨g, o, none⟩ ∧ g < p ∧ g < w.heap.size ∧ w.rangeAt g o xs ∧ EncB w b xs fp ∧ ∀ k ∈ fp, k < p)
theorem RowE.rest {w : World} {p : Nat} {b : Blk} {v : Value} {fp : List Nat} (h : BlkAt w v b fp) (hp : ∀ k ∈ fp, k < p) : RestAt w p v b := by
  rcases h with ⟨rfl, h0, rfl⟩ | ⟨g, c, fq, xs, rfl, hc, hn, rfl, ⟨cs, t, hg⟩, hr, he⟩
  · exact ⟨none, 0, by rw [h0], by omega, fun h => by omega⟩
  · exact ⟨_, c, rfl, hc, fun _ => ⟨g, 0, xs, fq, rfl, hp g (by simp), hg.lt, hr, he, fun k hk => hp k (by simp [hk])⟩⟩
/-- The blocks ahead of p are as they were. -/
def SameTo (p : Nat) (w w' : World) : Prop := ∀ k, k < p → w'.heap[k]? = w.heap[k]?
theorem SameTo.refl (p : Nat) (w : World) : SameTo p w w := fun _ _ => rfl
theorem SameTo.trans {p : Nat} {a b c : World} (h : SameTo p a b) (k : SameTo p b c) : SameTo p a c := fun i hi => (k i hi).trans (h i hi)
theorem SameTo.only {p : Nat} {w w' : World} {S : List Nat} (hO : Only S w w') (hS : ∀ k ∈ S, p ≤ k) (hp : p ≤ w.heap.size) : SameTo p w w' := fun k hk => hO.block k (by omega) (fun hm => by have := hS k hm; omega)
theorem WrO.same {w0 a b : World} {p : Nat} (h : WrO w0 p a b) (hp : p ≤ a.heap.size) : SameTo p a b := fun k hk => h.old k (by have := h.1; omega) (by omega) (by omega)

/-- A statement taken off. -/
theorem rest_cons {w : World} {p k pl : Nat} {nm : List UInt8} {A B r : Blk} {v : Value} (h : RestAt w p v (.cons k pl nm A B r)) : ∃ g o c va vb, v = .slice (some ⟨g, o, none⟩) (r.len + 1) c ∧ r.len + 1 ≤ c ∧ g < p ∧ g < w.heap.size ∧
    w.cell? ⟨g, o, none⟩ = some (.int .i64 k) ∧ w.cell? ⟨g, o + 1, none⟩ = some (.int .i64 pl) ∧ w.cell? ⟨g, o + 2, none⟩ = some (encStr nm) ∧ w.cell? ⟨g, o + 3, none⟩ = some va ∧ w.cell? ⟨g, o + 4, none⟩ = some vb ∧
    RestAt w p va A ∧ RestAt w p vb B ∧ (∀ a' c', (0 < r.len → a' = some ⟨g, o + 5, none⟩) → r.len ≤ c' → RestAt w p (.slice a' r.len c') r) := by
  obtain ⟨a, c, rfl, hc, h⟩ := h
  obtain ⟨g, o, xs, fp, rfl, hg, hgl, hr, he, hfp⟩ := h (by simp [Blk.len])
  obtain ⟨va, vb, fa, fb, fr, xr, rfl, rfl, hA, hB, hE⟩ := he
  refine ⟨g, o, c, va, vb, rfl, hc, hg, hgl, hr 0 _ rfl, hr 1 _ rfl, hr 2 _ rfl, hr 3 _ rfl, hr 4 _ rfl, RowE.rest hA (fun k hk => hfp k (by simp [hk])), RowE.rest hB (fun k hk => hfp k (by simp [hk])), fun a' c' ha hc' => ⟨a', c', rfl, hc', fun hp => ⟨g, o + 5, xr, fr, ha hp, hg, hgl, fun j u hu => ?_, hE, fun k hk => hfp k (by simp [hk])⟩⟩⟩
  have := hr (j + 5) u hu
  rw [show o + (j + 5) = o + 5 + j by omega] at this
  exact this

theorem owns_wr {w0 w w' : World} {base s n p : Nat} {e : TypeId} {v : Value} {xs : List Value} (h : w.ownsRow base e s v n xs) (hO : WrO w0 p w w') (hb : p < base) (he : e ≠ 5) : w'.ownsRow base e s v n xs := by
  refine ⟨h.1, ?_⟩
  rcases h.2 with hn | ⟨g, cap, cur, rfl, hb2, hg, rest⟩
  · exact .inl hn
  · exact .inr ⟨g, cap, cur, rfl, hb2, hO.blk hg (by omega) he, rest⟩
theorem owns_type {w : World} {base s n : Nat} {e : TypeId} {v : Value} {xs : List Value} (h : w.ownsRow base e s v n xs) : ∀ k ∈ ownL v, base ≤ k ∧ ∃ cs, IsBlk w k (.cells cs e) := fun k hk => by
  rcases h.2 with ⟨rfl, -⟩ | ⟨g, cap, cur, rfl, hb, hg, -⟩
  · simp [ownL, Value.ownBlock] at hk
  · have := mem_ownL.1 hk
    simp only [Value.ownBlock, Option.some.injEq] at this
    subst this
    exact ⟨hb, cur, hg⟩

/-- What has turned is the writer, or new. -/
def WrN (w0 : World) (p : Nat) (w w' : World) : Prop := p < w0.heap.size ∧ ∃ T, Only (p :: T) w w' ∧ ∀ k ∈ T, w0.heap.size ≤ k
theorem WrO.n {w0 a b : World} {p : Nat} (h : WrO w0 p a b) : WrN w0 p a b := by obtain ⟨hp, T, h1, h2⟩ := h; exact ⟨hp, T, h1, fun k hk => (h2 k hk).1⟩
theorem WrN.refl {w0 : World} {p : Nat} (hp : p < w0.heap.size) (w : World) : WrN w0 p w w := ⟨hp, [], Only.refl _ _, by simp⟩
theorem WrN.of {w0 w w' : World} {p : Nat} (hp : p < w0.heap.size) {S : List Nat} (h : Only S w w') (hS : ∀ k ∈ S, w0.heap.size ≤ k) : WrN w0 p w w' := ⟨hp, S, h.into (fun i hi => .inl (by simp [hi])), hS⟩
theorem WrN.trans {w0 a b c : World} {p : Nat} (h : WrN w0 p a b) (k : WrN w0 p b c) : WrN w0 p a c := by
  obtain ⟨hp, T, h1, h2⟩ := h
  obtain ⟨-, U, k1, k2⟩ := k
  exact ⟨hp, T ++ U, h1.then k1 _ (fun i hi => .inl (by simp at hi ⊢; rcases hi with h | h <;> simp [h])) (fun i hi => .inl (by simp at hi ⊢; rcases hi with h | h <;> simp [h])), fun i hi => by rcases List.mem_append.1 hi with h | h; exact h2 i h; exact k2 i h⟩
theorem WrN.size {w0 a b : World} {p : Nat} (h : WrN w0 p a b) : a.heap.size ≤ b.heap.size := by obtain ⟨-, T, h1, -⟩ := h; exact h1.size
theorem WrN.only {w0 b : World} {p : Nat} (h : WrN w0 p w0 b) : Only [p] w0 b := by
  obtain ⟨-, T, h1, h2⟩ := h
  exact h1.into (fun i hi => by rcases List.mem_cons.1 hi with h | h; exact .inl (by simp [h]); exact .inr (h2 i h))
theorem WrN.same {w0 a b : World} {p : Nat} (h : WrN w0 p a b) (hp : p ≤ a.heap.size) : SameTo p a b := by
  obtain ⟨hp0, T, h1, h2⟩ := h
  exact SameTo.only h1 (fun k hk => by rcases List.mem_cons.1 hk with e | e; omega; have := h2 k e; omega) hp

def begW (k : Nat) (nm : List UInt8) : List (List UInt8) := if k = 7 ∨ k = 8 then [verbM k, openW] else [verbM k, nm]
def begX (k : Nat) (va vb : Value) : List Value := if k = 7 then [va, vb] else if k = 8 then [va, .slice none 0 0] else []

end Go.Proofs.YtildkedplmjdaaaGreatDoor
namespace Go.Proofs.YtildkedplmjdaaaGreatDoor
set_option maxRecDepth 100000
set_option linter.unusedVariables false
open Go.RowKit Go.Sort

/-- Kinds that there are. -/
def KOk : Blk → Prop
  | .nil => True
  | .cons k _ _ a b r => k ≤ 8 ∧ KOk a ∧ KOk b ∧ KOk r

/-- A block that is being written: what is left of it, the block behind its else. -/
structure OB where
  ra : Option Addr
  rc : Nat
  rest : Blk
  oa : Option Addr
  oc : Nat
  other : Blk
def obCells (l : List OB) : List Value := l.flatMap fun x => [.slice x.ra x.rest.len x.rc, .slice x.oa x.other.len x.oc]
theorem obCells_snoc (l : List OB) (x : OB) : obCells (l ++ [x]) = obCells l ++ [.slice x.ra x.rest.len x.rc, .slice x.oa x.other.len x.oc] := by simp [obCells]
def ObAt (w : World) (p : Nat) (x : OB) : Prop := RestAt w p (.slice x.ra x.rest.len x.rc) x.rest ∧ RestAt w p (.slice x.oa x.other.len x.oc) x.other ∧ KOk x.rest ∧ KOk x.other
/-- The words that are still to be written. -/
def itemM (x : OB) : List (List UInt8) := innerM x.rest ++ (if x.other.len = 0 then [] else [closeW, elseM, openW] ++ innerM x.other) ++ [closeW]
def remM : List OB → List (List UInt8)
  | [] => []
  | x :: r => remM r ++ itemM x
theorem remM_snoc : ∀ (l : List OB) (x : OB), remM (l ++ [x]) = itemM x ++ remM l
  | [], x => by simp [remM]
  | y :: r, x => by rw [List.cons_append, remM, remM_snoc r x, remM, List.append_assoc]
def wtM : Blk → Nat
  | .nil => 0
  | .cons _ _ _ a b r => wtM a + wtM b + wtM r + 4
def wtO (x : OB) : Nat := wtM x.rest + wtM x.other + (if x.other.len = 0 then 0 else 1) + 2
def wtL (l : List OB) : Nat := (l.map wtO).sum
theorem wtL_snoc (l : List OB) (x : OB) : wtL (l ++ [x]) = wtL l + wtO x := by simp [wtL]
theorem wtL_len : ∀ (l : List OB), l.length ≤ wtL l
  | [] => Nat.le_refl _
  | x :: r => by have := wtL_len r; simp only [wtL, List.map_cons, List.sum_cons, List.length_cons, wtO] at *; omega
theorem wtM_cnt : ∀ (b : Blk), wtM b = 4 * b.cnt
  | .nil => rfl
  | .cons _ _ _ a b r => by rw [wtM, wtM_cnt a, wtM_cnt b, wtM_cnt r, Blk.cnt]; omega

theorem own_set {w : World} {base n g k : Nat} {e : TypeId} {c : Nat} {xs : List Value} (h : w.ownsRow base e 2 (.slice (some ⟨g, 0, none⟩) n c) n xs) (hk : k < n * 2) (u : Value) :
    (w.setCell ⟨g, k, none⟩ u).ownsRow base e 2 (.slice (some ⟨g, 0, none⟩) n c) n (xs.set k u) := by
  refine ⟨by rw [List.length_set]; exact h.1, ?_⟩
  rcases h.2 with ⟨h1, h2⟩ | ⟨g', cap, cur, h1, hb, hg, hc, hm, hsz, ht⟩
  · omega
  · injection h1 with h1 h2 h3
    injection h1 with h1
    injection h1 with h1
    subst h1
    refine .inr ⟨g, cap, cur.setIfInBounds k u, by rw [h3], hb, heap_setCell_same w g k cur e u hg, hc, hm, by simpa using hsz, ?_⟩
    rw [Array.toList_setIfInBounds, ← ht, List.take_set]
theorem set_snoc0 (xs : List Value) (u1 u2 v : Value) (n : Nat) (h : xs.length = n * 2) : (xs ++ [u1, u2]).set (n * 2) v = xs ++ [v, u2] := by
  rw [List.set_append_right _ _ (by omega), h, Nat.sub_self]; rfl
theorem set_snoc1 (xs : List Value) (u1 u2 v : Value) (n : Nat) (h : xs.length = n * 2) : (xs ++ [u1, u2]).set (n * 2 + 1) v = xs ++ [u1, v] := by
  rw [List.set_append_right _ _ (by omega), show n * 2 + 1 - xs.length = 1 by omega]; rfl

/-- What a statement with blocks opens. -/
def pushM (k : Nat) (aa ab : Option Addr) (ca cb : Nat) (A B : Blk) : List OB := if k = 7 then [⟨aa, ca, A, ab, cb, B⟩] else if k = 8 then [⟨aa, ca, A, none, 0, .nil⟩] else []
theorem item_cons (ra : Option Addr) (rc : Nat) (kd pl : Nat) (nm : List UInt8) (A B r : Blk) (oa : Option Addr) (oc : Nat) (ot : Blk) (rb : Option Addr) (rd : Nat) (aa ab : Option Addr) (ca cb : Nat) :
    itemM ⟨ra, rc, .cons kd pl nm A B r, oa, oc, ot⟩ = begW kd nm ++ (remM (pushM kd aa ab ca cb A B) ++ itemM ⟨rb, rd, r, oa, oc, ot⟩) := by
  unfold itemM pushM begW
  simp only [innerM]
  by_cases h7 : kd = 7
  · subst h7; simp [remM, itemM]
  · by_cases h8 : kd = 8
    · subst h8; simp [remM, itemM, Blk.len]
    · simp [h7, h8, remM]
theorem push_cells (k : Nat) (aa ab : Option Addr) (ca cb : Nat) (A B : Blk) : obCells (pushM k aa ab ca cb A B) = begX k (.slice aa A.len ca) (.slice ab B.len cb) ∧ (pushM k aa ab ca cb A B).length = (begX k (.slice aa A.len ca) (.slice ab B.len cb)).length / 2 := by
  unfold pushM begX
  by_cases h7 : k = 7
  · subst h7; simp [obCells]
  · by_cases h8 : k = 8
    · subst h8; simp [obCells, Blk.len]
    · simp [h7, h8, obCells]
theorem push_wt (k : Nat) (aa ab : Option Addr) (ca cb : Nat) (A B : Blk) : wtL (pushM k aa ab ca cb A B) ≤ wtM A + wtM B + 3 := by
  unfold pushM
  split
  · simp only [wtL, List.map_cons, List.map_nil, List.sum_cons, List.sum_nil, wtO]; split <;> omega
  · split
    · simp only [wtL, List.map_cons, List.map_nil, List.sum_cons, List.sum_nil, wtO, wtM, Blk.len]; simp; omega
    · simp [wtL]
theorem obCells_append (l m : List OB) : obCells (l ++ m) = obCells l ++ obCells m := by simp [obCells]
theorem wtL_append (l m : List OB) : wtL (l ++ m) = wtL l + wtL m := by simp [wtL]
theorem remM_append : ∀ (l m : List OB), remM (l ++ m) = remM m ++ remM l
  | [], m => by simp [remM]
  | x :: r, m => by rw [List.cons_append, remM, remM_append r m, remM, List.append_assoc]
theorem RestAt.slice {w : World} {p : Nat} {v : Value} {b : Blk} (h : RestAt w p v b) : ∃ a c, v = .slice a b.len c := by obtain ⟨a, c, h, -⟩ := h; exact ⟨a, c, h⟩

end Go.Proofs.YtildkedplmjdaaaGreatDoor
namespace Go.Proofs.YtildkedplmjdaaaGreatDoor
set_option maxRecDepth 100000
set_option linter.unusedVariables false
open Go.RowKit Go.Sort

/-- The text of a program. -/
def lineD (W : List UInt8) (d : DeclM) : List UInt8 := putM false [W, d.name] ++ [10]
def lineF (f : FuncM) : List UInt8 := putM false ([funcW, f.name] ++ wordsB f.body) ++ [10]
def progT (P : ProgM) : List UInt8 := P.vars.flatMap (lineD varW) ++ P.locks.flatMap (lineD lockW) ++ P.funcs.flatMap lineF

theorem dcells_get : ∀ (l : List DeclM) (i : Nat) (d : DeclM), l[i]? = some d → (dcells l)[i * 2]? = some (encStr d.name) ∧ (dcells l)[i * 2 + 1]? = some (.int .i64 d.at_)
  | [], i, d, h => by simp at h
  | x :: r, 0, d, h => by simp at h; subst h; exact ⟨rfl, rfl⟩
  | x :: r, i + 1, d, h => by
    have ih := dcells_get r i d (by simpa using h)
    have e : dcells (x :: r) = encStr x.name :: .int .i64 x.at_ :: dcells r := by simp [dcells]
    rw [e, show (i + 1) * 2 = i * 2 + 1 + 1 by omega, show i * 2 + 1 + 1 + 1 = (i * 2 + 1) + 1 + 1 by omega]
    simpa using ih
theorem EncF.get {w : World} : ∀ {l : List FuncM} {xs : List Value} {fp : List Nat}, EncF w l xs fp → ∀ (i : Nat) (f : FuncM), l[i]? = some f → ∃ va fa, xs[i * 3]? = some (encStr f.name) ∧ xs[i * 3 + 1]? = some (.int .i64 f.at_) ∧ xs[i * 3 + 2]? = some va ∧ BlkAt w va f.body fa ∧ fa.Nodup
  | [], xs, fp, h, i, f, hf => by simp at hf
  | g :: r, xs, fp, h, i, f, hf => by
    obtain ⟨va, fa, fr, xr, rfl, rfl, h1, hn, h3⟩ := h
    cases i with
    | zero => simp at hf; subst hf; exact ⟨va, fa, rfl, rfl, rfl, h1, hn⟩
    | succ i =>
      obtain ⟨vb, fb, e1, e2, e3, e4, e5⟩ := EncF.get h3 i f (by simpa using hf)
      refine ⟨vb, fb, ?_, ?_, ?_, e4, e5⟩
      · rw [show (i + 1) * 3 = i * 3 + 1 + 1 + 1 by omega]; simpa using e1
      · rw [show (i + 1) * 3 + 1 = (i * 3 + 1) + 1 + 1 + 1 by omega]; simpa using e2
      · rw [show (i + 1) * 3 + 2 = (i * 3 + 2) + 1 + 1 + 1 by omega]; simpa using e3
theorem flat_len {α : Type} (f : α → List UInt8) (l : List α) (i : Nat) : ((l.take i).flatMap f).length ≤ (l.flatMap f).length := by
  conv => rhs; rw [← List.take_append_drop i l, List.flatMap_append, List.length_append]
  omega
theorem flat_snoc {α : Type} (f : α → List UInt8) (l : List α) (i : Nat) (x : α) (h : l[i]? = some x) : (l.take (i + 1)).flatMap f = (l.take i).flatMap f ++ f x := by
  rw [List.take_add_one, h, List.flatMap_append]; simp

/-- What Text asks of a program's bodies. -/
def BodyOk (f : FuncM) : Prop := f.body.cnt ≤ 100000 ∧ KOk f.body

end Go.Proofs.YtildkedplmjdaaaGreatDoor
namespace Go.Proofs.YtildkedplmjdaaaGreatDoor
set_option maxRecDepth 100000
set_option linter.unusedVariables false
open Go.RowKit Go.Sort

set_option maxHeartbeats 400000 in
theorem within6_nat (w : World) (x : Int) (n : Nat) (hn0 : 0 < n) (hn : n < 1000000) :
    Calls Tryz.prog 23 #[.int .i64 x, .int .i64 n] w fun e w' => e = .returned (.int .i64 (x % n)) ∧ w = w' := by
  obtain ⟨h1, h2, h3, h4⟩ := tmod_bounds x n hn0
  have H3 := Lib.hid h3
  have H4 := Lib.hid h4
  clear h3 h4
  have hnz : ((n : Int) == 0) = false := by simp; omega
  by_cases hs : x.tmod n < 0
  · have e1 := H4.out hs
    rw [← e1]
    clear H3 H4 e1
    go_enter Tryz.func23, Tryz.ntmps23
    go_wp2
    go_ret
    exact ⟨rfl, rfl⟩
  · have e1 := H3.out (by omega)
    rw [← e1]
    clear H3 H4 e1
    go_enter Tryz.func23, Tryz.ntmps23
    go_wp2
    go_ret
    exact ⟨rfl, rfl⟩
theorem within6_to (w : World) (x n : Int) (hn0 : 0 < n) (hn : n < 1000000) :
    Calls Tryz.prog 23 #[.int .i64 x, .int .i64 n] w fun e w' => e = .returned (.int .i64 (inM x n.toNat)) ∧ w = w' := by
  obtain ⟨k, rfl⟩ := Int.eq_ofNat_of_zero_le (show 0 ≤ n by omega)
  refine (within6_nat w x k (by omega) (by omega)).mono ?_
  rintro e w' ⟨rfl, rfl⟩
  have h1 := Int.emod_nonneg x (show (k : Int) ≠ 0 by omega)
  exact ⟨by unfold inM; rw [Int.toNat_natCast, Int.toNat_of_nonneg h1], rfl⟩

def knP : ProgM := ⟨[⟨[120], 0⟩], [], [⟨[102], 6, .cons 1 15 [120] .nil .nil .nil⟩]⟩
theorem kn_parse : parseM [118, 97, 114, 32, 120, 32, 102, 117, 110, 99, 32, 102, 32, 123, 32, 117, 115, 101, 32, 120, 32, 125] = (knP, 0, 0) := by decide +kernel
theorem kn_text : progT knP = [118, 97, 114, 32, 120, 10, 102, 117, 110, 99, 32, 102, 32, 123, 32, 117, 115, 101, 32, 120, 32, 125, 10] := by decide +kernel

end Go.Proofs.YtildkedplmjdaaaGreatDoor
namespace Go.Proofs.YtildkedplmjdaaaGreatDoor
set_option maxRecDepth 100000
set_option linter.unusedVariables false
open Go.RowKit Go.Sort

def pknS : List (List UInt8) := [[], [118, 97, 114], [118, 97, 114, 32, 57], [118, 97, 114, 32, 117, 115, 101], [108, 111, 99, 107, 32, 108, 32, 108], [102, 117, 110, 99], [102, 117, 110, 99, 32, 102], [102, 117, 110, 99, 32, 102, 32, 123], [102, 117, 110, 99, 32, 102, 32, 123, 32, 117, 115, 101, 32, 125], [102, 117, 110, 99, 32, 102, 32, 123, 32, 120, 32, 125], [102, 117, 110, 99, 32, 102, 32, 123, 32, 105, 102, 32, 125], [102, 117, 110, 99, 32, 102, 32, 123, 32, 105, 102, 32, 123, 32, 125, 32, 101, 108, 115, 101, 32, 125], [102, 117, 110, 99, 32, 102, 32, 123, 32, 101, 108, 115, 101, 32, 123, 32, 125, 32, 125], [102, 117, 110, 99, 32, 102, 32, 123, 32, 108, 111, 111, 112, 32, 123, 32, 125, 32, 125, 32, 125], [102, 117, 110, 99, 32, 102, 32, 123, 32, 125, 32, 103], [117, 115, 101, 32, 120], [102, 117, 110, 99, 32, 102, 32, 123, 32, 105, 102, 32, 123, 32, 117, 115, 101, 32, 120, 32, 125, 32, 101, 108, 115, 101, 32, 123, 32, 125, 32, 125], [108, 111, 99, 107, 32, 32, 97, 32, 118, 97, 114, 32, 98], [102, 117, 110, 99, 32, 102, 32, 123, 32, 118, 97, 114, 32, 120, 32, 125], [102, 117, 110, 99, 32, 102, 32, 123, 32, 105, 102, 32, 123, 32, 125, 32, 101, 108, 115, 101, 32, 123, 32, 115, 101, 116, 32, 121, 32, 125, 32, 108, 111, 111, 112, 32, 123, 32, 99, 97, 108, 108, 32, 102, 32, 125, 32, 125], [102, 117, 110, 99, 32, 97, 98, 99, 100, 101, 102, 103, 104, 105, 106, 107, 108, 109, 32, 123, 32, 125], [123, 32, 125]]
def pknA : List Nat := [0, 3, 4, 4, 7, 4, 6, 8, 13, 9, 12, 21, 9, 20, 11, 0, 0, 0, 9, 0, 5, 0]
def pknW : List (List UInt8) := [[], [102, 111, 114, 109], [116, 111, 107, 101, 110], [102, 111, 114, 109], [102, 111, 114, 109], [102, 111, 114, 109], [102, 111, 114, 109], [102, 111, 114, 109], [102, 111, 114, 109], [102, 111, 114, 109], [102, 111, 114, 109], [102, 111, 114, 109], [102, 111, 114, 109], [102, 111, 114, 109], [102, 111, 114, 109], [102, 111, 114, 109], [102, 117, 110, 99, 32, 102, 32, 123, 32, 105, 102, 32, 123, 32, 117, 115, 101, 32, 120, 32, 125, 32, 125, 10], [118, 97, 114, 32, 98, 10, 108, 111, 99, 107, 32, 97, 10], [102, 111, 114, 109], [102, 117, 110, 99, 32, 102, 32, 123, 32, 105, 102, 32, 123, 32, 125, 32, 101, 108, 115, 101, 32, 123, 32, 115, 101, 116, 32, 121, 32, 125, 32, 108, 111, 111, 112, 32, 123, 32, 99, 97, 108, 108, 32, 102, 32, 125, 32, 125, 10], [102, 111, 114, 109], [102, 111, 114, 109]]
def kokB : Blk → Bool
  | .nil => true
  | .cons k _ _ a b r => decide (k ≤ 8) && kokB a && kokB b && kokB r
theorem kokB_ok : ∀ b, kokB b = true → KOk b
  | .nil, _ => trivial
  | .cons k _ _ a b r, h => by
    simp only [kokB, Bool.and_eq_true, decide_eq_true_eq] at h
    exact ⟨h.1.1.1, kokB_ok a h.1.1.2, kokB_ok b h.1.2, kokB_ok r h.2⟩
def okP (P : ProgM) : Bool := P.funcs.all (fun f => decide (f.body.cnt ≤ 100000) && kokB f.body) && decide (P.vars.length ≤ 1000) && decide (P.locks.length ≤ 1000) && decide (P.funcs.length ≤ 1000) && decide ((progT P).length ≤ 1000)
theorem okP_ok {P : ProgM} (h : okP P = true) : (∀ f ∈ P.funcs, BodyOk f) ∧ P.vars.length ≤ 1000 ∧ P.locks.length ≤ 1000 ∧ P.funcs.length ≤ 1000 ∧ (progT P).length ≤ 1000 := by
  simp only [okP, Bool.and_eq_true, decide_eq_true_eq, List.all_eq_true] at h
  exact ⟨fun f hf => ⟨(h.1.1.1.1 f hf).1, kokB_ok _ (h.1.1.1.1 f hf).2⟩, h.1.1.1.2, h.1.1.2, h.1.2, h.2⟩
def factB (k : Nat) : Bool :=
  decide ((pknS.getD k []).length ≤ 100) && ((decide ((parseM (pknS.getD k [])).2.2 = 0) && decide ((parseM (pknS.getD k [])).2.1 = 0) && decide (progT (parseM (pknS.getD k [])).1 = pknW.getD k []) && okP (parseM (pknS.getD k [])).1) ||
    (decide ((parseM (pknS.getD k [])).2.1 = pknA.getD k 0) && decide ((parseM (pknS.getD k [])).1 = ⟨[], [], []⟩) && ((decide ((parseM (pknS.getD k [])).2.2 = 6) && decide (pknW.getD k [] = [116, 111, 107, 101, 110])) || (decide ((parseM (pknS.getD k [])).2.2 = 7) && decide (pknW.getD k [] = [102, 111, 114, 109])))))
theorem fact_all : (List.range 22).all factB = true := by decide +kernel
theorem fact_at (k : Nat) (hk : k < 22) : (pknS.getD k []).length ≤ 100 ∧ (((parseM (pknS.getD k [])).2.2 = 0 ∧ (parseM (pknS.getD k [])).2.1 = 0 ∧ progT (parseM (pknS.getD k [])).1 = pknW.getD k [] ∧ okP (parseM (pknS.getD k [])).1 = true) ∨
    ((parseM (pknS.getD k [])).2.1 = pknA.getD k 0 ∧ (parseM (pknS.getD k [])).1 = ⟨[], [], []⟩ ∧ ((parseM (pknS.getD k [])).2.2 = 6 ∧ pknW.getD k [] = [116, 111, 107, 101, 110] ∨ (parseM (pknS.getD k [])).2.2 = 7 ∧ pknW.getD k [] = [102, 111, 114, 109]))) := by
  have h := List.all_eq_true.1 fact_all k (List.mem_range.2 hk)
  unfold factB at h
  simp only [Bool.and_eq_true, Bool.or_eq_true, decide_eq_true_eq] at h
  obtain ⟨h1, h2⟩ := h
  refine ⟨h1, ?_⟩
  rcases h2 with ⟨⟨⟨a, b⟩, c⟩, d⟩ | ⟨⟨a, b⟩, c⟩
  · exact .inl ⟨a, b, c, d⟩
  · exact .inr ⟨a, b, c⟩
theorem aint_cell {w : World} {g : Nat} {t : TypeId} (T : List Nat) (h : IsBlk w g (.cells (T.map (fun n : Nat => Value.int .i64 (n : Int))).toArray t)) (i : Nat) (hi : i < T.length) : w.cell? ⟨g, i, none⟩ = some (.int .i64 (T.getD i 0)) := by
  rw [h.cell]
  simp [hi]

end Go.Proofs.YtildkedplmjdaaaGreatDoor
