/-
  Tables of sectors that a law keeps beside a disk: what lies in them, what becomes of it.
-/
import Derived.Test.YtlnmpbfalflbgaaPlaysW
namespace Go.Proofs.Ytlnmpbfalflbgaa
open Go.RowKit

/-- Place i of table g holds the bytes b, in a block from B on. -/
def SecAt (w : World) (B g i : Nat) (b : List UInt8) : Prop :=
  ∃ gi ci, w.cell? ⟨g, i, none⟩ = some (.slice (some ⟨gi, 0, none⟩) 64 ci) ∧ B ≤ gi ∧ gi < w.heap.size ∧ w.rangeAt gi 0 (bv b) ∧ b.length = 64
/-- Sixteen places, each a slice. -/
def SlT (w : World) (g : Nat) : Prop := ∀ i, i < 16 → ∃ a l c, w.cell? ⟨g, i, none⟩ = some (.slice a l c)
/-- Sixteen marks. -/
def BoT (w : World) (g : Nat) (f : Nat → Bool) : Prop := ∀ i, i < 16 → w.cell? ⟨g, i, none⟩ = some (.bool (f i))

/-- Two tables of sectors and one of marks. -/
structure T3 (w : World) (B gW gN gF : Nat) : Prop where
  sW : SlT w gW
  sN : SlT w gN
  sF : ∀ i, i < 16 → ∃ b, w.cell? ⟨gF, i, none⟩ = some (.bool b)
  fW : ∀ i, w.frozen? ⟨gW, i, none⟩ = false
  fN : ∀ i, w.frozen? ⟨gN, i, none⟩ = false
  fF : ∀ i, w.frozen? ⟨gF, i, none⟩ = false
  geW : B ≤ gW
  geN : B ≤ gN
  geF : B ≤ gF
  lW : gW < w.heap.size
  lN : gN < w.heap.size
  lF : gF < w.heap.size
  WN : gW ≠ gN
  WF : gW ≠ gF
  NF : gN ≠ gF

section
variable {w w' : World} {B gW gN gF : Nat}
theorem SlT.nb {g : Nat} (h : SlT w g) : NB w g := fun m e => by obtain ⟨a, l, c, hc⟩ := h 0 (by omega); rw [hc] at e; cases e
theorem T3.nbF (h : T3 w B gW gN gF) : NB w gF := fun m e => by obtain ⟨b, hc⟩ := h.sF 0 (by omega); rw [hc] at e; cases e
theorem T3.keep {S : List Nat} (h : T3 w B gW gN gF) (ho : Only S w w') (hS : ∀ k ∈ S, k < B) : T3 w' B gW gN gF := by
  have hn : ∀ k, B ≤ k → k ∉ S := fun k hk hm => by have := hS k hm; omega
  exact ⟨fun i hi => by obtain ⟨a, l, c, hc⟩ := h.sW i hi; exact ⟨a, l, c, (ho.cell (p := ⟨gW, i, none⟩) h.lW (hn _ h.geW)).trans hc⟩,
    fun i hi => by obtain ⟨a, l, c, hc⟩ := h.sN i hi; exact ⟨a, l, c, (ho.cell (p := ⟨gN, i, none⟩) h.lN (hn _ h.geN)).trans hc⟩,
    fun i hi => by obtain ⟨b, hc⟩ := h.sF i hi; exact ⟨b, (ho.cell (p := ⟨gF, i, none⟩) h.lF (hn _ h.geF)).trans hc⟩,
    fun i => (ho.frozen (p := ⟨gW, i, none⟩) h.lW (hn _ h.geW)).trans (h.fW i), fun i => (ho.frozen (p := ⟨gN, i, none⟩) h.lN (hn _ h.geN)).trans (h.fN i), fun i => (ho.frozen (p := ⟨gF, i, none⟩) h.lF (hn _ h.geF)).trans (h.fF i),
    h.geW, h.geN, h.geF, Nat.lt_of_lt_of_le h.lW ho.size, Nat.lt_of_lt_of_le h.lN ho.size, Nat.lt_of_lt_of_le h.lF ho.size, h.WN, h.WF, h.NF⟩

theorem set_slT {g g' i : Nat} {a : Option Addr} {l c : Nat} (h : SlT w g) (hi : i < 16) (hi' : SlT w g') : SlT (w.setCell ⟨g', i, none⟩ (.slice a l c)) g := fun j hj => by
  obtain ⟨a0, l0, c0, h0⟩ := h j hj
  by_cases e : (⟨g', i, none⟩ : Addr) = ⟨g, j, none⟩
  · obtain ⟨a1, l1, c1, h1⟩ := hi' i hi
    rw [← e]; exact ⟨a, l, c, World.cell?_setCell_same _ _ _ h1⟩
  · exact ⟨a0, l0, c0, (World.cell?_setCell_other _ _ _ _ e).trans h0⟩
/-- A slice stored into the first, or the second table. -/
theorem T3.putW (h : T3 w B gW gN gF) (i : Nat) (hi : i < 16) (a : Option Addr) (l c : Nat) : T3 (w.setCell ⟨gW, i, none⟩ (.slice a l c)) B gW gN gF :=
  ⟨set_slT h.sW hi h.sW, set_slT h.sN hi h.sW, fun j hj => by obtain ⟨b, hc⟩ := h.sF j hj; exact ⟨b, (cell_far _ h.WF.symm).trans hc⟩,
    fun j => by rw [World.frozen?_setCell]; exact h.fW j, fun j => by rw [World.frozen?_setCell]; exact h.fN j, fun j => by rw [World.frozen?_setCell]; exact h.fF j,
    h.geW, h.geN, h.geF, by simpa using h.lW, by simpa using h.lN, by simpa using h.lF, h.WN, h.WF, h.NF⟩
theorem T3.putN (h : T3 w B gW gN gF) (i : Nat) (hi : i < 16) (a : Option Addr) (l c : Nat) : T3 (w.setCell ⟨gN, i, none⟩ (.slice a l c)) B gW gN gF :=
  ⟨set_slT h.sW hi h.sN, set_slT h.sN hi h.sN, fun j hj => by obtain ⟨b, hc⟩ := h.sF j hj; exact ⟨b, (cell_far _ h.NF.symm).trans hc⟩,
    fun j => by rw [World.frozen?_setCell]; exact h.fW j, fun j => by rw [World.frozen?_setCell]; exact h.fN j, fun j => by rw [World.frozen?_setCell]; exact h.fF j,
    h.geW, h.geN, h.geF, by simpa using h.lW, by simpa using h.lN, by simpa using h.lF, h.WN, h.WF, h.NF⟩
theorem T3.putF (h : T3 w B gW gN gF) (i : Nat) (hi : i < 16) (v : Bool) : T3 (w.setCell ⟨gF, i, none⟩ (.bool v)) B gW gN gF :=
  ⟨fun j hj => by obtain ⟨a, l, c, hc⟩ := h.sW j hj; exact ⟨a, l, c, (cell_far _ h.WF).trans hc⟩, fun j hj => by obtain ⟨a, l, c, hc⟩ := h.sN j hj; exact ⟨a, l, c, (cell_far _ h.NF).trans hc⟩,
    fun j hj => by
      obtain ⟨b, hc⟩ := h.sF j hj
      by_cases e : (⟨gF, i, none⟩ : Addr) = ⟨gF, j, none⟩
      · obtain ⟨b1, h1⟩ := h.sF i hi
        rw [← e]; exact ⟨v, World.cell?_setCell_same _ _ _ h1⟩
      · exact ⟨b, (World.cell?_setCell_other _ _ _ _ e).trans hc⟩,
    fun j => by rw [World.frozen?_setCell]; exact h.fW j, fun j => by rw [World.frozen?_setCell]; exact h.fN j, fun j => by rw [World.frozen?_setCell]; exact h.fF j,
    h.geW, h.geN, h.geF, by simpa using h.lW, by simpa using h.lN, by simpa using h.lF, h.WN, h.WF, h.NF⟩

theorem SecAt.keep {g i : Nat} {b : List UInt8} {S : List Nat} (h : SecAt w B g i b) (ho : Only S w w') (hg : g < w.heap.size) (h1 : g ∉ S) (h2 : ∀ k ∈ S, k < B ∨ NB w k) : SecAt w' B g i b := by
  obtain ⟨gi, ci, hc, hB, hlt, hr, hl⟩ := h
  have hn : gi ∉ S := fun hm => by
    rcases h2 gi hm with h3 | h3
    · omega
    · obtain ⟨m, hm⟩ := byte_first hr hl; exact h3 m hm
  exact ⟨gi, ci, (ho.cell (p := ⟨g, i, none⟩) hg h1).trans hc, hB, Nat.lt_of_lt_of_le hlt ho.size, rangeAt_only hr ho hlt hn, hl⟩
/-- A sector's slice stored. -/
theorem SecAt.put {g x g' c' : Nat} {b : List UInt8} (hT : SlT w g) (hx : x < 16) (hB : B ≤ g') (hlt : g' < w.heap.size) (hr : w.rangeAt g' 0 (bv b)) (hb : b.length = 64) :
    SecAt (w.setCell ⟨g, x, none⟩ (.slice (some ⟨g', 0, none⟩) 64 c')) B g x b := by
  have hO : Only [g] w (w.setCell ⟨g, x, none⟩ (.slice (some ⟨g', 0, none⟩) 64 c')) := (Only.refl _ _).setCell (by simp) _
  have hn : g' ∉ [g] := by
    simp; rintro rfl
    obtain ⟨m, hm⟩ := byte_first hr hb; exact hT.nb m hm
  obtain ⟨a0, l0, c0, h0⟩ := hT x hx
  exact ⟨g', c', World.cell?_setCell_same _ _ _ h0, hB, by simpa using hlt, rangeAt_only hr hO hlt hn, hb⟩
/-- Elsewhere. -/
theorem SecAt.other {g i g2 x : Nat} {v : Value} {b : List UInt8} (h : SecAt w B g i b) (hne : g ≠ g2 ∨ i ≠ x) (hnb : NB w g2) : SecAt (w.setCell ⟨g2, x, none⟩ v) B g i b := by
  have hO : Only [g2] w (w.setCell ⟨g2, x, none⟩ v) := (Only.refl _ _).setCell (by simp) _
  obtain ⟨gi, ci, hc, hB, hlt, hr, hl⟩ := h
  have hn : gi ∉ [g2] := by
    simp; rintro rfl
    obtain ⟨m, hm⟩ := byte_first hr hl; exact hnb m hm
  exact ⟨gi, ci, (World.cell?_setCell_other _ _ _ _ (fun e => by injection e with e1 e2; rcases hne with h1 | h1; exact h1 e1.symm; exact h1 e2.symm)).trans hc, hB, by simpa using hlt, rangeAt_only hr hO hlt hn, hl⟩
end

def nil16 : Array Value := Array.replicate 16 (.slice none 0 0)
def no16 : Array Value := Array.replicate 16 (.bool false)
theorem make_tab (w : World) : (Instr.makeSlice 45 (.int .i64 16) (.int .i64 16)).run Try.prog w = .ok (.slice (some ⟨w.heap.size, 0, none⟩) 16 16) (w.alloc (.cells nil16 34)) := by kernel_rfl
theorem make_marks (w : World) : (Instr.makeSlice 46 (.int .i64 16) (.int .i64 16)).run Try.prog w = .ok (.slice (some ⟨w.heap.size, 0, none⟩) 16 16) (w.alloc (.cells no16 4)) := by kernel_rfl
theorem nil_cell {w : World} {g : Nat} {t : TypeId} (h : IsBlk w g (.cells nil16 t)) (i : Nat) (hi : i < 16) : w.cell? ⟨g, i, none⟩ = some (.slice none 0 0) := by
  rw [h.cell]
  have hg : ∀ m : Nat, i < m → (Array.replicate m (Value.slice none 0 0))[i]? = some (.slice none 0 0) := fun m hm => by simp [hm]
  exact hg 16 hi
theorem no_cell {w : World} {g : Nat} {t : TypeId} (h : IsBlk w g (.cells no16 t)) (i : Nat) (hi : i < 16) : w.cell? ⟨g, i, none⟩ = some (.bool false) := by
  rw [h.cell]
  have hg : ∀ m : Nat, i < m → (Array.replicate m (Value.bool false))[i]? = some (.bool false) := fun m hm => by simp [hm]
  exact hg 16 hi
theorem tabs_made {w : World} {B gW gN gF : Nat} (hW : IsBlk w gW (.cells nil16 34)) (hN : IsBlk w gN (.cells nil16 34)) (hF : IsBlk w gF (.cells no16 4)) (h1 : B ≤ gW) (h2 : B ≤ gN) (h3 : B ≤ gF) (h4 : gW ≠ gN) (h5 : gW ≠ gF) (h6 : gN ≠ gF) : T3 w B gW gN gF :=
  ⟨fun i hi => ⟨_, _, _, nil_cell hW i hi⟩, fun i hi => ⟨_, _, _, nil_cell hN i hi⟩, fun i hi => ⟨_, no_cell hF i hi⟩, hW.notFrozen, hN.notFrozen, hF.notFrozen, h1, h2, h3, hW.lt, hN.lt, hF.lt, h4, h5, h6⟩

/-- What the law holds beside the disk: each sector as it was flushed, as it was written since, and whether. -/
structure LTab (w : World) (B gW gN gF : Nat) (was : Secs) (fr : Nat → Option (List UInt8)) : Prop where
  t3 : T3 w B gW gN gF
  was_ : ∀ i, i < 16 → SecAt w B gW i (was i)
  now : ∀ i b, i < 16 → fr i = some b → SecAt w B gN i b
  mark : BoT w gF (fun i => (fr i).isSome)
theorem LTab.keep {w w' : World} {B gW gN gF : Nat} {was : Secs} {fr : Nat → Option (List UInt8)} {S : List Nat} (h : LTab w B gW gN gF was fr) (ho : Only S w w') (hS : ∀ k ∈ S, k < B) : LTab w' B gW gN gF was fr := by
  have hn : ∀ k, B ≤ k → k ∉ S := fun k hk hm => by have := hS k hm; omega
  exact ⟨h.t3.keep ho hS, fun i hi => (h.was_ i hi).keep ho h.t3.lW (hn _ h.t3.geW) (fun k hk => .inl (hS k hk)), fun i b hi hb => (h.now i b hi hb).keep ho h.t3.lN (hn _ h.t3.geN) (fun k hk => .inl (hS k hk)),
    fun i hi => (ho.cell (p := ⟨gF, i, none⟩) h.t3.lF (hn _ h.t3.geF)).trans (h.mark i hi)⟩
theorem LTab.more {w w' : World} {B gW gN gF : Nat} {was : Secs} {fr : Nat → Option (List UInt8)} (h : LTab w B gW gN gF was fr) (ho : Only [] w w') : LTab w' B gW gN gF was fr := h.keep ho (by simp)
/-- A sector as it was, anew. -/
theorem LTab.putW {w : World} {B gW gN gF : Nat} {was : Secs} {fr : Nat → Option (List UInt8)} (h : LTab w B gW gN gF was fr) {x g' c' : Nat} {b : List UInt8} (hx : x < 16) (hB : B ≤ g') (hlt : g' < w.heap.size) (hr : w.rangeAt g' 0 (bv b)) (hb : b.length = 64) :
    LTab (w.setCell ⟨gW, x, none⟩ (.slice (some ⟨g', 0, none⟩) 64 c')) B gW gN gF (fun i => if i = x then b else was i) fr := by
  refine ⟨h.t3.putW x hx _ _ _, fun i hi => ?_, fun i b' hi hb' => (h.now i b' hi hb').other (.inl h.t3.WN.symm) h.t3.sW.nb, fun i hi => (cell_far _ h.t3.WF.symm).trans (h.mark i hi)⟩
  by_cases e : i = x
  · subst e; simp only [if_true]; exact SecAt.put h.t3.sW hx hB hlt hr hb
  · simp only [e, if_false]; exact (h.was_ i hi).other (.inr e) h.t3.sW.nb
/-- A sector as it is now, and its mark. -/
theorem LTab.putN {w : World} {B gW gN gF : Nat} {was : Secs} {fr : Nat → Option (List UInt8)} (h : LTab w B gW gN gF was fr) {x g' c' : Nat} {b : List UInt8} (hx : x < 16) (hB : B ≤ g') (hlt : g' < w.heap.size) (hr : w.rangeAt g' 0 (bv b)) (hb : b.length = 64) :
    LTab ((w.setCell ⟨gN, x, none⟩ (.slice (some ⟨g', 0, none⟩) 64 c')).setCell ⟨gF, x, none⟩ (.bool true)) B gW gN gF was (fun i => if i = x then some b else fr i) := by
  have h1 := h.t3.putN x hx (some ⟨g', 0, none⟩) 64 c'
  refine ⟨h1.putF x hx true, fun i hi => ((h.was_ i hi).other (.inl h.t3.WN) h.t3.sN.nb).other (.inl h.t3.WF) h1.nbF, fun i b' hi hb' => ?_, fun i hi => ?_⟩
  · by_cases e : i = x
    · subst e; simp at hb'; subst hb'
      exact (SecAt.put h.t3.sN hx hB hlt hr hb).other (.inl h.t3.NF) h1.nbF
    · simp [e] at hb'
      exact ((h.now i b' hi hb').other (.inr e) h.t3.sN.nb).other (.inl h.t3.NF) h1.nbF
  · by_cases e : i = x
    · subst e
      obtain ⟨b0, hb0⟩ := h1.sF i hx
      simp only [if_true, Option.isSome_some]
      exact World.cell?_setCell_same _ _ _ hb0
    · rw [World.cell?_setCell_other _ _ _ _ (fun h => e (by injection h with _ h2; exact h2.symm)), cell_far _ h.t3.NF.symm]
      simp only [e, if_false]; exact h.mark i hi

end Go.Proofs.Ytlnmpbfalflbgaa
