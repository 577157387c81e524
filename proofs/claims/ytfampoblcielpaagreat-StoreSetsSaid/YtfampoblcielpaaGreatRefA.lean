/-
  The document's own disk (package deadboltref1): what it holds, in plain words; its small functions; an append of a sector onto nothing.
-/
import Derived.Test.YtfampoblcielpaaGreatDiskI
import Derived.Maps.AppendAt
import Derived.Deep.RegionHeld3
namespace Go.Proofs.YtfampoblcielpaaGreat
set_option linter.unusedVariables false
set_option maxRecDepth 100000
open Go.RowKit

theorem Only.andMore {S : List Nat} {a b c : World} (h : Only S a b) (k : Only [] b c) : Only S a c := (h.trans k).into (fun i hi => .inl (by simpa using hi))
theorem Only.andSame {S : List Nat} {a b c : World} (h : Only S a b) (k : Only S b c) : Only S a c := (h.trans k).into (fun i hi => .inl (by simpa using hi))
/-- What the document's disk is. -/
structure RS where
  n : Nat
  now : Secs
  last : Secs
  new : Nat → Bool
  dead : Bool
  left : Int
  ops : Int

/-- Where its parts lie. -/
structure RefP where
  q : Nat
  gN : Nat
  gL : Nat
  gB : Nat
  cN : Nat
  cL : Nat
  cB : Nat

/-- A table of sectors, each in a block from B on. -/
def TabR (w : World) (B g n : Nat) (f : Secs) : Prop :=
  ∀ i, i < n → ∃ gi ci, w.cell? ⟨g, i, none⟩ = some (.slice (some ⟨gi, 0, none⟩) 64 ci) ∧ B ≤ gi ∧ gi < w.heap.size ∧ w.rangeAt gi 0 (bv (f i)) ∧ (f i).length = 64

/-- No block of bytes. -/
def NB (w : World) (k : Nat) : Prop := ∀ m : Int, w.cell? ⟨k, 0, none⟩ ≠ some (.int .u8 m)

theorem byte_first {w : World} {g : Nat} {b : List UInt8} (hr : w.rangeAt g 0 (bv b)) (hb : b.length = 64) : ∃ m : Int, w.cell? ⟨g, 0, none⟩ = some (.int .u8 m) :=
  ⟨(b[0]'(by omega)).toNat, by have := hr 0 (.int .u8 (b[0]'(by omega)).toNat) (by simp [bv, List.getElem?_eq_getElem (show 0 < b.length by omega)]); simpa using this⟩

theorem TabR.keep {w w' : World} {B g n : Nat} {f : Secs} {S : List Nat} (h : TabR w B g n f) (ho : Only S w w') (hg : g < w.heap.size) (h1 : g ∉ S) (h2 : ∀ k ∈ S, k < B ∨ NB w k) : TabR w' B g n f := fun i hi => by
  obtain ⟨gi, ci, hc, hB, hlt, hr, hl⟩ := h i hi
  have hn : gi ∉ S := fun hm => by
    rcases h2 gi hm with h3 | h3
    · omega
    · obtain ⟨m, hm⟩ := byte_first hr hl; exact h3 m hm
  exact ⟨gi, ci, (ho.cell (p := ⟨g, i, none⟩) hg h1).trans hc, hB, Nat.lt_of_lt_of_le hlt ho.size, rangeAt_only hr ho hlt hn, hl⟩

/-- One sector of a table stored anew. -/
theorem TabR.put {w : World} {B g n : Nat} {f : Secs} (h : TabR w B g n f) (x g' c' : Nat) (b : List UInt8) (hx : x < n) (hB : B ≤ g') (hlt : g' < w.heap.size) (hr : w.rangeAt g' 0 (bv b)) (hb : b.length = 64) (hnb : NB w g) :
    TabR (w.setCell ⟨g, x, none⟩ (.slice (some ⟨g', 0, none⟩) 64 c')) B g n (fun i => if i = x then b else f i) := fun i hi => by
  have hO : Only [g] w (w.setCell ⟨g, x, none⟩ (.slice (some ⟨g', 0, none⟩) 64 c')) := (Only.refl _ _).setCell (by simp) _
  obtain ⟨gx, cx, hcx, _⟩ := h x hx
  by_cases e : i = x
  · subst e
    have hn : g' ∉ [g] := by
      simp; rintro rfl
      obtain ⟨m, hm⟩ := byte_first hr hb; exact hnb m hm
    exact ⟨g', c', World.cell?_setCell_same _ _ _ hcx, hB, by simpa using hlt, by simpa using rangeAt_only hr hO hlt hn, by simpa using hb⟩
  · obtain ⟨gi, ci, hc, hBi, hlti, hri, hl⟩ := h i hi
    have hn : gi ∉ [g] := by
      simp; rintro rfl
      obtain ⟨m, hm⟩ := byte_first hri hl; exact hnb m hm
    refine ⟨gi, ci, ?_, hBi, by simpa using hlti, ?_, ?_⟩
    · rw [World.cell?_setCell_other _ _ _ _ (fun h => e (by injection h with _ h2; exact h2.symm))]; exact hc
    · simp only [e, if_false]; exact rangeAt_only hri hO hlti hn
    · simp only [e, if_false]; exact hl

def rcells (R : RefP) (D : RS) : Array Value :=
  #[.slice (some ⟨R.gN, 0, none⟩) D.n R.cN, .slice (some ⟨R.gL, 0, none⟩) D.n R.cL, .slice (some ⟨R.gB, 0, none⟩) D.n R.cB, .bool D.dead, .int .i64 D.left, .int .i64 D.ops]

/-- The document's disk behind pointer R.q is D; all of it lies from block B on. -/
structure RefAt (w : World) (B : Nat) (R : RefP) (D : RS) : Prop where
  blk : IsBlk w R.q (.cells (rcells R D) 75)
  now : TabR w B R.gN D.n D.now
  last : TabR w B R.gL D.n D.last
  new : ∀ i, i < D.n → w.cell? ⟨R.gB, i, none⟩ = some (.bool (D.new i))
  fN : ∀ i, w.frozen? ⟨R.gN, i, none⟩ = false
  fL : ∀ i, w.frozen? ⟨R.gL, i, none⟩ = false
  fB : ∀ i, w.frozen? ⟨R.gB, i, none⟩ = false
  gq : B ≤ R.q
  gN : B ≤ R.gN
  gL : B ≤ R.gL
  gB : B ≤ R.gB
  lN : R.gN < w.heap.size
  lL : R.gL < w.heap.size
  lB : R.gB < w.heap.size
  qN : R.q ≠ R.gN
  qL : R.q ≠ R.gL
  qB : R.q ≠ R.gB
  NL : R.gN ≠ R.gL
  NB_ : R.gN ≠ R.gB
  LB : R.gL ≠ R.gB
  pos : 0 < D.n
  small : D.n ≤ 256

section
variable {w w' : World} {B : Nat} {R : RefP} {D : RS}
theorem RefAt.c0 (h : RefAt w B R D) : w.cell? ⟨R.q, 0, none⟩ = some (.slice (some ⟨R.gN, 0, none⟩) D.n R.cN) := IsBlk.cell h.blk 0
theorem RefAt.c1 (h : RefAt w B R D) : w.cell? ⟨R.q, 1, none⟩ = some (.slice (some ⟨R.gL, 0, none⟩) D.n R.cL) := IsBlk.cell h.blk 1
theorem RefAt.c2 (h : RefAt w B R D) : w.cell? ⟨R.q, 2, none⟩ = some (.slice (some ⟨R.gB, 0, none⟩) D.n R.cB) := IsBlk.cell h.blk 2
theorem RefAt.c3 (h : RefAt w B R D) : w.cell? ⟨R.q, 3, none⟩ = some (.bool D.dead) := IsBlk.cell h.blk 3
theorem RefAt.c4 (h : RefAt w B R D) : w.cell? ⟨R.q, 4, none⟩ = some (.int .i64 D.left) := IsBlk.cell h.blk 4
theorem RefAt.c5 (h : RefAt w B R D) : w.cell? ⟨R.q, 5, none⟩ = some (.int .i64 D.ops) := IsBlk.cell h.blk 5
theorem RefAt.fz (h : RefAt w B R D) (i : Nat) : w.frozen? ⟨R.q, i, none⟩ = false := IsBlk.notFrozen h.blk i
theorem RefAt.lq (h : RefAt w B R D) : R.q < w.heap.size := h.blk.lt
theorem RefAt.nbq (h : RefAt w B R D) : NB w R.q := fun m e => by rw [h.c0] at e; cases e
theorem RefAt.nbN (h : RefAt w B R D) : NB w R.gN := fun m e => by obtain ⟨_, _, hc, _⟩ := h.now 0 h.pos; rw [hc] at e; cases e
theorem RefAt.nbL (h : RefAt w B R D) : NB w R.gL := fun m e => by obtain ⟨_, _, hc, _⟩ := h.last 0 h.pos; rw [hc] at e; cases e
theorem RefAt.nbB (h : RefAt w B R D) : NB w R.gB := fun m e => by rw [h.new 0 h.pos] at e; cases e

/-- What has turned elsewhere does not touch it. -/
theorem RefAt.keep {S : List Nat} (h : RefAt w B R D) (ho : Only S w w') (hS : ∀ k ∈ S, k < B) : RefAt w' B R D := by
  have hn : ∀ k, B ≤ k → k ∉ S := fun k hk hm => by have := hS k hm; omega
  exact ⟨h.blk.only ho (hn _ h.gq), h.now.keep ho h.lN (hn _ h.gN) (fun k hk => .inl (hS k hk)), h.last.keep ho h.lL (hn _ h.gL) (fun k hk => .inl (hS k hk)),
    fun i hi => (ho.cell (p := ⟨R.gB, i, none⟩) h.lB (hn _ h.gB)).trans (h.new i hi), fun i => (ho.frozen (p := ⟨R.gN, i, none⟩) h.lN (hn _ h.gN)).trans (h.fN i), fun i => (ho.frozen (p := ⟨R.gL, i, none⟩) h.lL (hn _ h.gL)).trans (h.fL i),
    fun i => (ho.frozen (p := ⟨R.gB, i, none⟩) h.lB (hn _ h.gB)).trans (h.fB i), h.gq, h.gN, h.gL, h.gB, Nat.lt_of_lt_of_le h.lN ho.size, Nat.lt_of_lt_of_le h.lL ho.size, Nat.lt_of_lt_of_le h.lB ho.size, h.qN, h.qL, h.qB, h.NL, h.NB_, h.LB, h.pos, h.small⟩
theorem RefAt.more (h : RefAt w B R D) (ho : Only [] w w') : RefAt w' B R D := h.keep ho (by simp)

/-- New blocks have turned, whatever their number. -/
theorem RefAt.newer {S : List Nat} (h : RefAt w B R D) (ho : Only S w w') (hS : ∀ k ∈ S, w.heap.size ≤ k) : RefAt w' B R D := h.more (ho.into (fun k hk => .inr (hS k hk)))

/-- Its own block turned. -/
theorem RefAt.reblk (h : RefAt w B R D) (ho : Only [R.q] w w') (d : Bool) (l k : Int) (hb : IsBlk w' R.q (.cells (rcells R { D with dead := d, left := l, ops := k }) 75)) : RefAt w' B R { D with dead := d, left := l, ops := k } := by
  have hS : ∀ k ∈ [R.q], k < B ∨ NB w k := by simp; exact .inr h.nbq
  exact ⟨hb, h.now.keep ho h.lN (by simp; exact h.qN.symm) hS, h.last.keep ho h.lL (by simp; exact h.qL.symm) hS,
    fun i hi => (ho.cell (p := ⟨R.gB, i, none⟩) h.lB (by simp; exact h.qB.symm)).trans (h.new i hi), fun i => (ho.frozen (p := ⟨R.gN, i, none⟩) h.lN (by simp; exact h.qN.symm)).trans (h.fN i), fun i => (ho.frozen (p := ⟨R.gL, i, none⟩) h.lL (by simp; exact h.qL.symm)).trans (h.fL i),
    fun i => (ho.frozen (p := ⟨R.gB, i, none⟩) h.lB (by simp; exact h.qB.symm)).trans (h.fB i), h.gq, h.gN, h.gL, h.gB, Nat.lt_of_lt_of_le h.lN ho.size, Nat.lt_of_lt_of_le h.lL ho.size, Nat.lt_of_lt_of_le h.lB ho.size, h.qN, h.qL, h.qB, h.NL, h.NB_, h.LB, h.pos, h.small⟩
end

section
variable {w : World} {B : Nat} {R : RefP} {D : RS}
/-- A sector of Now stored anew. -/
theorem RefAt.putNow (h : RefAt w B R D) (x g' c' : Nat) (b : List UInt8) (hx : x < D.n) (hB : B ≤ g') (hlt : g' < w.heap.size) (hr : w.rangeAt g' 0 (bv b)) (hb : b.length = 64) :
    RefAt (w.setCell ⟨R.gN, x, none⟩ (.slice (some ⟨g', 0, none⟩) 64 c')) B R { D with now := fun i => if i = x then b else D.now i } := by
  have ho : Only [R.gN] w (w.setCell ⟨R.gN, x, none⟩ (.slice (some ⟨g', 0, none⟩) 64 c')) := (Only.refl _ _).setCell (by simp) _
  have hS : ∀ k ∈ [R.gN], k < B ∨ NB w k := by simp; exact .inr h.nbN
  exact ⟨h.blk.only ho (by simp; exact h.qN), h.now.put x g' c' b hx hB hlt hr hb h.nbN, h.last.keep ho h.lL (by simp; exact h.NL.symm) hS,
    fun i hi => (ho.cell (p := ⟨R.gB, i, none⟩) h.lB (by simp; exact h.NB_.symm)).trans (h.new i hi), fun i => by rw [World.frozen?_setCell]; exact h.fN i, fun i => by rw [World.frozen?_setCell]; exact h.fL i,
    fun i => by rw [World.frozen?_setCell]; exact h.fB i, h.gq, h.gN, h.gL, h.gB, Nat.lt_of_lt_of_le h.lN ho.size, Nat.lt_of_lt_of_le h.lL ho.size, Nat.lt_of_lt_of_le h.lB ho.size, h.qN, h.qL, h.qB, h.NL, h.NB_, h.LB, h.pos, h.small⟩
/-- A sector of Last stored anew. -/
theorem RefAt.putLast (h : RefAt w B R D) (x g' c' : Nat) (b : List UInt8) (hx : x < D.n) (hB : B ≤ g') (hlt : g' < w.heap.size) (hr : w.rangeAt g' 0 (bv b)) (hb : b.length = 64) :
    RefAt (w.setCell ⟨R.gL, x, none⟩ (.slice (some ⟨g', 0, none⟩) 64 c')) B R { D with last := fun i => if i = x then b else D.last i } := by
  have ho : Only [R.gL] w (w.setCell ⟨R.gL, x, none⟩ (.slice (some ⟨g', 0, none⟩) 64 c')) := (Only.refl _ _).setCell (by simp) _
  have hS : ∀ k ∈ [R.gL], k < B ∨ NB w k := by simp; exact .inr h.nbL
  exact ⟨h.blk.only ho (by simp; exact h.qL), h.now.keep ho h.lN (by simp; exact h.NL) hS, h.last.put x g' c' b hx hB hlt hr hb h.nbL,
    fun i hi => (ho.cell (p := ⟨R.gB, i, none⟩) h.lB (by simp; exact h.LB.symm)).trans (h.new i hi), fun i => by rw [World.frozen?_setCell]; exact h.fN i, fun i => by rw [World.frozen?_setCell]; exact h.fL i,
    fun i => by rw [World.frozen?_setCell]; exact h.fB i, h.gq, h.gN, h.gL, h.gB, Nat.lt_of_lt_of_le h.lN ho.size, Nat.lt_of_lt_of_le h.lL ho.size, Nat.lt_of_lt_of_le h.lB ho.size, h.qN, h.qL, h.qB, h.NL, h.NB_, h.LB, h.pos, h.small⟩
/-- A mark of New stored anew. -/
theorem RefAt.putNew (h : RefAt w B R D) (x : Nat) (v : Bool) (hx : x < D.n) : RefAt (w.setCell ⟨R.gB, x, none⟩ (.bool v)) B R { D with new := fun i => if i = x then v else D.new i } := by
  have ho : Only [R.gB] w (w.setCell ⟨R.gB, x, none⟩ (.bool v)) := (Only.refl _ _).setCell (by simp) _
  have hS : ∀ k ∈ [R.gB], k < B ∨ NB w k := by simp; exact .inr h.nbB
  refine ⟨h.blk.only ho (by simp; exact h.qB), h.now.keep ho h.lN (by simp; exact h.NB_) hS, h.last.keep ho h.lL (by simp; exact h.LB) hS,
    fun i hi => ?_, fun i => by rw [World.frozen?_setCell]; exact h.fN i, fun i => by rw [World.frozen?_setCell]; exact h.fL i,
    fun i => by rw [World.frozen?_setCell]; exact h.fB i, h.gq, h.gN, h.gL, h.gB, Nat.lt_of_lt_of_le h.lN ho.size, Nat.lt_of_lt_of_le h.lL ho.size, Nat.lt_of_lt_of_le h.lB ho.size, h.qN, h.qL, h.qB, h.NL, h.NB_, h.LB, h.pos, h.small⟩
  by_cases e : i = x
  · subst e; simp only [if_true]; exact World.cell?_setCell_same _ _ _ (h.new i hx)
  · simp only [e, if_false]
    rw [World.cell?_setCell_other _ _ _ _ (fun h => e (by injection h with _ h2; exact h2.symm))]
    exact h.new i hi
end

/-- The blocks that its functions may turn. -/
def RefP.own (R : RefP) : List Nat := [R.q, R.gN, R.gL, R.gB]

section
variable {w : World} {B : Nat} {R : RefP} {D : RS}
theorem rput3 (h : RefAt w B R D) (d : Bool) : IsBlk (w.setCell ⟨R.q, 3, none⟩ (.bool d)) R.q (.cells (rcells R { D with dead := d }) 75) := IsBlk.put h.blk 3 _
theorem rput4 (h : RefAt w B R D) (l : Int) : IsBlk (w.setCell ⟨R.q, 4, none⟩ (.int .i64 l)) R.q (.cells (rcells R { D with left := l }) 75) := IsBlk.put h.blk 4 _
theorem rput5 (h : RefAt w B R D) (k : Int) : IsBlk (w.setCell ⟨R.q, 5, none⟩ (.int .i64 k)) R.q (.cells (rcells R { D with ops := k }) 75) := IsBlk.put h.blk 5 _
theorem rput45 (h : RefAt w B R D) (l k : Int) : IsBlk ((w.setCell ⟨R.q, 4, none⟩ (.int .i64 l)).setCell ⟨R.q, 5, none⟩ (.int .i64 k)) R.q (.cells (rcells R { D with left := l, ops := k }) 75) := IsBlk.put (rput4 h l) 5 _
end

/-- What a function of it leaves. -/
def RefOk (w : World) (B : Nat) (R : RefP) (D : RS) (v : Value) (e : Ending) (w' : World) : Prop := e = .returned v ∧ RefAt w' B R D ∧ Only R.own w w'

/-- An append of a sector onto an empty row of bytes. -/
theorem info5b : (Tryz.prog.info? 5).map (fun i => (i.zero, i.size, i.bytes)) = some (some (.int .u8 0), 1, 1) := by kernel_rfl
theorem wp_app {op : Oper} {a : Act} {w : World} {K : Act → World → Prop} {Q : Exit → Act → World → Prop} (b : List UInt8) (hb : b.length = 64) (s x : Operand)
    (ho : op.op = .call { callee := .builtin .append, args := #[s, x], argTypes := #[37, 37] }) (g0 : Nat) (hs : a.eval s = .slice (some ⟨g0, 0, none⟩) 0 0) (hb0 : IsBlk w g0 (.cells #[] 5))
    (g o c : Nat) (hx : a.eval x = .slice (some ⟨g, o, none⟩) 64 c) (hr : w.rangeAt g o (bv b))
    (h : ∀ g' c' w', g0 ≤ g' → w'.rangeAt g' 0 (bv b) → g' < w'.heap.size → Only [g0] w w' → K (a.put op.dst (.slice (some ⟨g', 0, none⟩) 64 c')) w') : op.wp Tryz.prog a w K Q := by
  obtain ⟨i0, hi, hz0, hz1, hz2⟩ := info_parts info5b
  have hlt := hb0.lt
  have hown : w.ownsRow g0 5 1 (.slice (some ⟨g0, 0, none⟩) 0 0) 0 [] := ⟨rfl, .inr ⟨g0, 0, #[], rfl, Nat.le_refl _, hb0, Nat.le_refl _, by simp, rfl, rfl⟩⟩
  obtain ⟨v', w', hrun, ho', hg', _, _⟩ := run_append_own_at (P := Tryz.prog) w g0 37 op.type 5 i0 _ 1 1 Tryz.underlying37 hi hz0 hz1 hz2 rfl (by omega) _ 0 [] hown ⟨g, o, none⟩ 64 c (bv b)
    (by rw [length_bv, hb]) (fun j u hu => by rw [Addr.add_mid]; exact hr j u hu) (bv_one b) (by simp [maxLen]) (by omega) (by omega)
  rcases ho'.2 with ⟨_, h0⟩ | ⟨g', c', cur, rfl, hge, hcur, _, _, _, htk⟩
  · simp at h0
  · unfold Oper.wp execOp
    simp only [ho, resolve, invoke, builtin, Sem.run_bind, Sem.run_pure, Result.andThen_ok, List.map_toArray, List.map_cons, List.map_nil, hs, hx, hrun]
    have hblk : IsBlk w' g' (.cells cur 5) := hcur
    refine h g' c' w' hge (fun j v hv => ?_) hblk.lt ⟨hg'.os, hg'.tape, hg'.output, hg'.size, fun k hk hn => hg'.block k hk (by simp [Value.ownBlock]; simpa using hn)⟩
    rw [hblk.cell]
    have h64 : cur.toList.take 64 = bv b := by simpa using htk
    rw [← h64, List.getElem?_take] at hv
    split at hv
    · simpa using hv
    · cases hv
theorem wpList_app {ops : Array Oper} {rest : List Oper} {op : Oper} {a : Act} {w : World} {Q : Exit → Act → World → Prop} (b : List UInt8) (hb : b.length = 64) (hgd : op.guard = none) (s x : Operand)
    (ho : op.op = .call { callee := .builtin .append, args := #[s, x], argTypes := #[37, 37] }) (g0 : Nat) (hs : a.eval s = .slice (some ⟨g0, 0, none⟩) 0 0) (hb0 : IsBlk w g0 (.cells #[] 5))
    (g o c : Nat) (hx : a.eval x = .slice (some ⟨g, o, none⟩) 64 c) (hr : w.rangeAt g o (bv b))
    (h : ∀ g' c' w', g0 ≤ g' → w'.rangeAt g' 0 (bv b) → g' < w'.heap.size → Only [g0] w w' → wpList Tryz.prog ops Q rest (a.put op.dst (.slice (some ⟨g', 0, none⟩) 64 c')) w') : wpList Tryz.prog ops Q (op :: rest) a w :=
  wpList_plain hgd fun _ hK => wp_app b hb s x ho g0 hs hb0 g o c hx hr fun g' c' w' h1 h2 h3 h4 => hK _ _ (h g' c' w' h1 h2 h3 h4)
theorem step_app {ops : Array Oper} {op : Oper} {a : Act} {w : World} {K : Act → World → Prop} {Q : Exit → Act → World → Prop} {E : Prop} (b : List UInt8) (hb : b.length = 64) (hgd : op.guard = none) (s x : Operand)
    (ho : op.op = .call { callee := .builtin .append, args := #[s, x], argTypes := #[37, 37] }) (g0 : Nat) (hs : a.eval s = .slice (some ⟨g0, 0, none⟩) 0 0) (hb0 : IsBlk w g0 (.cells #[] 5))
    (g o c : Nat) (hx : a.eval x = .slice (some ⟨g, o, none⟩) 64 c) (hr : w.rangeAt g o (bv b))
    (h : ∀ g' c' w', g0 ≤ g' → w'.rangeAt g' 0 (bv b) → g' < w'.heap.size → Only [g0] w w' → K (a.put op.dst (.slice (some ⟨g', 0, none⟩) 64 c')) w') : if Region.wanted op (yielded ops a.tmps) = true then Oper.wp Tryz.prog op a w K Q else E := by
  have hw : Region.wanted op (yielded ops a.tmps) = true := by simp [Region.wanted, hgd]
  rw [if_pos hw]
  exact wp_app b hb s x ho g0 hs hb0 g o c hx hr h

end Go.Proofs.YtfampoblcielpaaGreat
