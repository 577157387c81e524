/-
  Plain facts on worlds that later texts use: a block known whole, and what has turned between two worlds. No program is named here.
-/
import Derived.Below
import Derived.Deep.MidRow
import Derived.Laws.Rows
import Derived.Deep.Draws
import Derived.Lib.Hide
namespace Go.Proofs.Ytgkddbpfjbgelaa
set_option linter.unusedVariables false
set_option maxRecDepth 100000
open Go.RowKit

/-- Block b of w is the object o. -/
def IsBlk (w : World) (b : Nat) (o : Obj) : Prop := w.heap[b]? = some o

theorem IsBlk.lt {w : World} {b : Nat} {o : Obj} (h : IsBlk w b o) : b < w.heap.size := by
  rcases Nat.lt_or_ge b w.heap.size with hlt | hge
  · exact hlt
  · unfold IsBlk at h; rw [Array.getElem?_eq_none hge] at h; cases h

theorem IsBlk.cell {w : World} {b : Nat} {cs : Array Value} {t : TypeId} (h : IsBlk w b (.cells cs t)) (i : Nat) : w.cell? ⟨b, i, none⟩ = cs[i]? :=
  cell_of_row w b i cs t (0, 0) h

theorem IsBlk.notFrozen {w : World} {b : Nat} {cs : Array Value} {t : TypeId} (h : IsBlk w b (.cells cs t)) (i : Nat) : w.frozen? ⟨b, i, none⟩ = false :=
  frozen_of_row w b i cs t h

theorem IsBlk.put {w : World} {b : Nat} {cs : Array Value} {t : TypeId} (h : IsBlk w b (.cells cs t)) (i : Nat) (v : Value) :
    IsBlk (w.setCell ⟨b, i, none⟩ v) b (.cells (cs.setIfInBounds i v) t) := heap_setCell_same w b i cs t v h

theorem IsBlk.drew {w : World} {b : Nat} {o : Obj} (h : IsBlk w b o) : IsBlk w.drew b o := h
theorem IsBlk.made (w : World) (o : Obj) : IsBlk (w.alloc o) w.heap.size o := heap_alloc_new w o
theorem IsBlk.alloc {w : World} {b : Nat} {o : Obj} (h : IsBlk w b o) (o' : Obj) : IsBlk (w.alloc o') b o := (heap_alloc_old w o' b h.lt).trans h
theorem IsBlk.away {w : World} {b : Nat} {o : Obj} (h : IsBlk w b o) {a : Addr} (ha : b ≠ a.block) (v : Value) : IsBlk (w.setCell a v) b o :=
  (heap_setCell_other w a b v ha).trans h
theorem IsBlk.same {w : World} {b : Nat} {o o' : Obj} (h : IsBlk w b o) (h' : IsBlk w b o') : o = o' := by
  unfold IsBlk at h h'; rw [h] at h'; injection h'

/-- Between w and w' only the blocks of S, and new ones, have turned. -/
structure Only (S : List Nat) (w w' : World) : Prop where
  os : w'.os = w.os
  tape : w'.tape = w.tape
  output : w'.output = w.output
  size : w.heap.size ≤ w'.heap.size
  block : ∀ k, k < w.heap.size → k ∉ S → w'.heap[k]? = w.heap[k]?

theorem Only.refl (S : List Nat) (w : World) : Only S w w := ⟨rfl, rfl, rfl, Nat.le_refl _, fun _ _ _ => rfl⟩

theorem Only.trans {S T : List Nat} {a b c : World} (h : Only S a b) (k : Only T b c) : Only (S ++ T) a c :=
  ⟨k.os.trans h.os, k.tape.trans h.tape, k.output.trans h.output, Nat.le_trans h.size k.size, fun i hi hn => by
    simp only [List.mem_append, not_or] at hn
    exact (k.block i (Nat.lt_of_lt_of_le hi h.size) hn.2).trans (h.block i hi hn.1)⟩

/-- What has turned lies in T, or is new. -/
theorem Only.into {S T : List Nat} {a b : World} (h : Only S a b) (hs : ∀ k ∈ S, k ∈ T ∨ a.heap.size ≤ k) : Only T a b :=
  ⟨h.os, h.tape, h.output, h.size, fun i hi hn => h.block i hi (fun hm => by rcases hs i hm with h1 | h1; exact hn h1; omega)⟩

theorem Only.then {S T : List Nat} {a b c : World} (h : Only S a b) (k : Only T b c) (U : List Nat) (hS : ∀ i ∈ S, i ∈ U ∨ a.heap.size ≤ i) (hT : ∀ i ∈ T, i ∈ U ∨ a.heap.size ≤ i) : Only U a c :=
  (h.trans k).into (fun i hi => by rcases List.mem_append.1 hi with h1 | h1; exact hS i h1; exact hT i h1)

theorem Only.drew {S : List Nat} {a b : World} (h : Only S a b) : Only S a b.drew := ⟨h.os, h.tape, h.output, h.size, h.block⟩

theorem Only.alloc {S : List Nat} {a b : World} (h : Only S a b) (o : Obj) : Only S a (b.alloc o) :=
  ⟨h.os, h.tape, h.output, by simp; exact Nat.le_succ_of_le h.size, fun i hi hn => (heap_alloc_old b o i (Nat.lt_of_lt_of_le hi h.size)).trans (h.block i hi hn)⟩

theorem Only.setCell {S : List Nat} {a b : World} (h : Only S a b) {p : Addr} (hp : p.block ∈ S ∨ a.heap.size ≤ p.block) (v : Value) : Only S a (b.setCell p v) :=
  ⟨h.os, h.tape, h.output, by simp; exact h.size, fun i hi hn => (heap_setCell_other b p i v (fun e => by subst e; rcases hp with hp | hp; exact hn hp; omega)).trans (h.block i hi hn)⟩

theorem IsBlk.only {S : List Nat} {a b : World} {k : Nat} {o : Obj} (h : IsBlk a k o) (ho : Only S a b) (hn : k ∉ S) : IsBlk b k o := (ho.block k h.lt hn).trans h

/-- Nothing old has turned. -/
theorem Only.below {S : List Nat} {a b : World} (h : Only S a b) (hs : ∀ k ∈ S, a.heap.size ≤ k) : Below a.heap.size a b :=
  ⟨h.os, h.tape, h.output, h.size, fun i hi => h.block i hi (fun hm => by have := hs i hm; omega)⟩

theorem Only.cell {S : List Nat} {a b : World} (h : Only S a b) {p : Addr} (hp : p.block < a.heap.size) (hn : p.block ∉ S) : b.cell? p = a.cell? p :=
  World.cell?_of_block (w := a) (h.block p.block hp hn)
theorem Only.frozen {S : List Nat} {a b : World} (h : Only S a b) {p : Addr} (hp : p.block < a.heap.size) (hn : p.block ∉ S) : b.frozen? p = a.frozen? p :=
  World.frozen?_of_block (w := a) (h.block p.block hp hn)

/-- Many cells set: a block elsewhere, the sizes, the rest. -/
theorem heap_setCells_other (b : Nat) : ∀ (vs : List Value) (o : Nat) (w : World) (k : Nat), k ≠ b → (w.setCells b o vs).heap[k]? = w.heap[k]?
  | [], _, _, _, _ => rfl
  | v :: r, o, w, k, h => by rw [World.setCells, heap_setCells_other b r (o + 1) _ k h, heap_setCell_other _ _ _ _ h]
theorem size_setCells (b : Nat) : ∀ (vs : List Value) (o : Nat) (w : World), (w.setCells b o vs).heap.size = w.heap.size
  | [], _, _ => rfl
  | v :: r, o, w => by rw [World.setCells, size_setCells b r]; simp
theorem os_setCells (b : Nat) : ∀ (vs : List Value) (o : Nat) (w : World), (w.setCells b o vs).os = w.os ∧ (w.setCells b o vs).tape = w.tape ∧ (w.setCells b o vs).output = w.output
  | [], _, _ => ⟨rfl, rfl, rfl⟩
  | v :: r, o, w => by rw [World.setCells]; exact os_setCells b r (o + 1) _

theorem Only.setCells {S : List Nat} {a b : World} (h : Only S a b) (g o : Nat) (vs : List Value) (hp : g ∈ S ∨ a.heap.size ≤ g) : Only S a (b.setCells g o vs) := by
  obtain ⟨h1, h2, h3⟩ := os_setCells g vs o b
  exact ⟨h1.trans h.os, h2.trans h.tape, h3.trans h.output, by rw [size_setCells]; exact h.size,
    fun i hi hn => (heap_setCells_other g vs o b i (fun e => by subst e; rcases hp with hp | hp; exact hn hp; omega)).trans (h.block i hi hn)⟩

/-- The object of a block set (a map's, say). -/
def withObj (w : World) (b : Nat) (o : Obj) : World := { w with heap := w.heap.setIfInBounds b o }
theorem withObj_same {w : World} {b : Nat} {o' : Obj} (h : IsBlk w b o') (o : Obj) : IsBlk (withObj w b o) b o := by
  have := h.lt
  simp [IsBlk, withObj, this]
theorem withObj_other (w : World) (b k : Nat) (o : Obj) (h : k ≠ b) : (withObj w b o).heap[k]? = w.heap[k]? := by
  simp [withObj, Array.getElem?_setIfInBounds_ne (Ne.symm h)]
theorem Only.withObj {S : List Nat} {a b : World} (h : Only S a b) (g : Nat) (o : Obj) (hp : g ∈ S ∨ a.heap.size ≤ g) : Only S a (withObj b g o) :=
  ⟨h.os, h.tape, h.output, by simp [Proofs.Ytgkddbpfjbgelaa.withObj]; exact h.size,
    fun i hi hn => (withObj_other b g i o (fun e => by subst e; rcases hp with hp | hp; exact hn hp; omega)).trans (h.block i hi hn)⟩

/-- Ranges over what has not turned. -/
theorem rangeAt_only {S : List Nat} {a b : World} {g o : Nat} {cs : List Value} (h : a.rangeAt g o cs) (ho : Only S a b) (hg : g < a.heap.size) (hn : g ∉ S) : b.rangeAt g o cs :=
  fun j v hv => (ho.cell (p := ⟨g, o + j, none⟩) hg hn).trans (h j v hv)
theorem there_only {S : List Nat} {a b : World} {g o n : Nat} (h : a.there g o n) (ho : Only S a b) (hg : g < a.heap.size) (hn : g ∉ S) : b.there g o n :=
  fun j hj => ⟨by rw [ho.cell (p := ⟨g, o + j, none⟩) hg hn]; exact (h j hj).1, by rw [ho.frozen (p := ⟨g, o + j, none⟩) hg hn]; exact (h j hj).2⟩

/-- Bytes as cells. -/
def bv (l : List UInt8) : List Value := l.map fun b => .int .u8 b.toNat
theorem length_bv (l : List UInt8) : (bv l).length = l.length := by simp [bv]
theorem bv_one (l : List UInt8) : ∀ v ∈ bv l, v.oneCell' = true := by
  intro v hv
  simp only [bv, List.mem_map] at hv
  obtain ⟨b, _, rfl⟩ := hv
  rfl

theorem ret_int {k : IntKind} {a b : Int} (h : a = b) : Ending.returned (.int k a) = .returned (.int k b) := by rw [h]
theorem ret_bool {a b : Bool} (h : a = b) : Ending.returned (.bool a) = .returned (.bool b) := by rw [h]

end Go.Proofs.Ytgkddbpfjbgelaa
