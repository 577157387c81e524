/-
  The document's own disk (package deadboltref1): what it holds, in plain words; its small functions; an append of a sector onto nothing.
-/
import Derived.Test.YtkpfplejooplfaaDiskI
import Derived.Maps.AppendAt
import Derived.Deep.RegionHeld3
namespace Go.Proofs.Ytkpfplejooplfaa
set_option linter.unusedVariables false
set_option maxRecDepth 100000
open Go.RowKit

theorem Only.andMore {S : List Nat} {a b c : World} (h : Only S a b) (k : Only [] b c) : Only S a c := (h.trans k).into (fun i hi => .inl (by simpa using hi))
theorem Only.andSame {S : List Nat} {a b c : World} (h : Only S a b) (k : Only S b c) : Only S a c := (h.trans k).into (fun i hi => .inl (by simpa using hi))
/-- What the document's disk is. -/
structure RS where
  n : Nat
  now : Secs
  last : Secs
  new : Nat → Bool
  dead : Bool
  left : Int
  ops : Int

/-- Where its parts lie. -/
structure RefP where
  q : Nat
  gN : Nat
  gL : Nat
  gB : Nat
  cN : Nat
  cL : Nat
  cB : Nat

/-- A table of sectors, each in a block from B on. -/
def TabR (w : World) (B g n : Nat) (f : Secs) : Prop :=
  ∀ i, i < n → ∃ gi ci, w.cell? ⟨g, i, none⟩ = some (.slice (some ⟨gi, 0, none⟩) 64 ci) ∧ B ≤ gi ∧ gi < w.heap.size ∧ w.rangeAt gi 0 (bv (f i)) ∧ (f i).length = 64

/-- No block of bytes. -/
def NB (w : World) (k : Nat) : Prop := ∀ m : Int, w.cell? ⟨k, 0, none⟩ ≠ some (.int .u8 m)

theorem byte_first {w : World} {g : Nat} {b : List UInt8} (hr : w.rangeAt g 0 (bv b)) (hb : b.length = 64) : ∃ m : Int, w.cell? ⟨g, 0, none⟩ = some (.int .u8 m) :=
  ⟨(b[0]'(by omega)).toNat, by have := hr 0 (.int .u8 (b[0]'(by omega)).toNat) (by simp [bv, List.getElem?_eq_getElem (show 0 < b.length by omega)]); simpa using this⟩

theorem TabR.keep {w w' : World} {B g n : Nat} {f : Secs} {S : List Nat} (h : TabR w B g n f) (ho : Only S w w') (hg : g < w.heap.size) (h1 : g ∉ S) (h2 : ∀ k ∈ S, k < B ∨ NB w k) : TabR w' B g n f := fun i hi => by
  obtain ⟨gi, ci, hc, hB, hlt, hr, hl⟩ := h i hi
  have hn : gi ∉ S := fun hm => by
    rcases h2 gi hm with h3 | h3
    · omega
    · obtain ⟨m, hm⟩ := byte_first hr hl; exact h3 m hm
  exact ⟨gi, ci, (ho.cell (p := ⟨g, i, none⟩) hg h1).trans hc, hB, Nat.lt_of_lt_of_le hlt ho.size, rangeAt_only hr ho hlt hn, hl⟩

/-- One sector of a table stored anew. -/
theorem TabR.put {w : World} {B g n : Nat} {f : Secs} (h : TabR w B g n f) (x g' c' : Nat) (b : List UInt8) (hx : x < n) (hB : B ≤ g') (hlt : g' < w.heap.size) (hr : w.rangeAt g' 0 (bv b)) (hb : b.length = 64) (hnb : NB w g) :
    TabR (w.setCell ⟨g, x, none⟩ (.slice (some ⟨g', 0, none⟩) 64 c')) B g n (fun i => if i = x then b else f i) := fun i hi => by
  have hO : Only [g] w (w.setCell ⟨g, x, none⟩ (.slice (some ⟨g', 0, none⟩) 64 c')) := (Only.refl _ _).setCell (by simp) _
  obtain ⟨gx, cx, hcx, _⟩ := h x hx
  by_cases e : i = x
  · subst e
    have hn : g' ∉ [g] := by
      simp; rintro rfl
      obtain ⟨m, hm⟩ := byte_first hr hb; exact hnb m hm
    exact ⟨g', c', World.cell?_setCell_same _ _ _ hcx, hB, by simpa using hlt, by simpa using rangeAt_only hr hO hlt hn, by simpa using hb⟩
  · obtain ⟨gi, ci, hc, hBi, hlti, hri, hl⟩ := h i hi
    have hn : gi ∉ [g] := by
      simp; rintro rfl
      obtain ⟨m, hm⟩ := byte_first hri hl; exact hnb m hm
    refine ⟨gi, ci, ?_, hBi, by simpa using hlti, ?_, ?_⟩
    · rw [World.cell?_setCell_other _ _ _ _ (fun h => e (by injection h with _ h2; exact h2.symm))]; exact hc
    · simp only [e, if_false]; exact rangeAt_only hri hO hlti hn
    · simp only [e, if_false]; exact hl

def rcells (R : RefP) (D : RS) : Array Value :=
  #[.slice (some ⟨R.gN, 0, none⟩) D.n R.cN, .slice (some ⟨R.gL, 0, none⟩) D.n R.cL, .slice (some ⟨R.gB, 0, none⟩) D.n R.cB, .bool D.dead, .int .i64 D.left, .int .i64 D.ops]

section
variable {w w' : World} {B : Nat} {R : RefP} {D : RS}
end

section
variable {w : World} {B : Nat} {R : RefP} {D : RS}
end

/-- The blocks that its functions may turn. -/
def RefP.own (R : RefP) : List Nat := [R.q, R.gN, R.gL, R.gB]

section
variable {w : World} {B : Nat} {R : RefP} {D : RS}
end

/-- An append of a sector onto an empty row of bytes. -/
theorem info5b : (Try.prog.info? 5).map (fun i => (i.zero, i.size, i.bytes)) = some (some (.int .u8 0), 1, 1) := by kernel_rfl
theorem wp_app {op : Oper} {a : Act} {w : World} {K : Act → World → Prop} {Q : Exit → Act → World → Prop} (b : List UInt8) (hb : b.length = 64) (s x : Operand)
    (ho : op.op = .call { callee := .builtin .append, args := #[s, x], argTypes := #[31, 31] }) (g0 : Nat) (hs : a.eval s = .slice (some ⟨g0, 0, none⟩) 0 0) (hb0 : IsBlk w g0 (.cells #[] 5))
    (g o c : Nat) (hx : a.eval x = .slice (some ⟨g, o, none⟩) 64 c) (hr : w.rangeAt g o (bv b))
    (h : ∀ g' c' w', g0 ≤ g' → w'.rangeAt g' 0 (bv b) → g' < w'.heap.size → Only [g0] w w' → K (a.put op.dst (.slice (some ⟨g', 0, none⟩) 64 c')) w') : op.wp Try.prog a w K Q := by
  obtain ⟨i0, hi, hz0, hz1, hz2⟩ := info_parts info5b
  have hlt := hb0.lt
  have hown : w.ownsRow g0 5 1 (.slice (some ⟨g0, 0, none⟩) 0 0) 0 [] := ⟨rfl, .inr ⟨g0, 0, #[], rfl, Nat.le_refl _, hb0, Nat.le_refl _, by simp, rfl, rfl⟩⟩
  obtain ⟨v', w', hrun, ho', hg', _, _⟩ := run_append_own_at (P := Try.prog) w g0 31 op.type 5 i0 _ 1 1 Try.underlying31 hi hz0 hz1 hz2 rfl (by omega) _ 0 [] hown ⟨g, o, none⟩ 64 c (bv b)
    (by rw [length_bv, hb]) (fun j u hu => by rw [Addr.add_mid]; exact hr j u hu) (bv_one b) (by simp [maxLen]) (by omega) (by omega)
  rcases ho'.2 with ⟨_, h0⟩ | ⟨g', c', cur, rfl, hge, hcur, _, _, _, htk⟩
  · simp at h0
  · unfold Oper.wp execOp
    simp only [ho, resolve, invoke, builtin, Sem.run_bind, Sem.run_pure, Result.andThen_ok, List.map_toArray, List.map_cons, List.map_nil, hs, hx, hrun]
    have hblk : IsBlk w' g' (.cells cur 5) := hcur
    refine h g' c' w' hge (fun j v hv => ?_) hblk.lt ⟨hg'.os, hg'.tape, hg'.output, hg'.size, fun k hk hn => hg'.block k hk (by simp [Value.ownBlock]; simpa using hn)⟩
    rw [hblk.cell]
    have h64 : cur.toList.take 64 = bv b := by simpa using htk
    rw [← h64, List.getElem?_take] at hv
    split at hv
    · simpa using hv
    · cases hv
theorem wpList_app {ops : Array Oper} {rest : List Oper} {op : Oper} {a : Act} {w : World} {Q : Exit → Act → World → Prop} (b : List UInt8) (hb : b.length = 64) (hgd : op.guard = none) (s x : Operand)
    (ho : op.op = .call { callee := .builtin .append, args := #[s, x], argTypes := #[31, 31] }) (g0 : Nat) (hs : a.eval s = .slice (some ⟨g0, 0, none⟩) 0 0) (hb0 : IsBlk w g0 (.cells #[] 5))
    (g o c : Nat) (hx : a.eval x = .slice (some ⟨g, o, none⟩) 64 c) (hr : w.rangeAt g o (bv b))
    (h : ∀ g' c' w', g0 ≤ g' → w'.rangeAt g' 0 (bv b) → g' < w'.heap.size → Only [g0] w w' → wpList Try.prog ops Q rest (a.put op.dst (.slice (some ⟨g', 0, none⟩) 64 c')) w') : wpList Try.prog ops Q (op :: rest) a w :=
  wpList_plain hgd fun _ hK => wp_app b hb s x ho g0 hs hb0 g o c hx hr fun g' c' w' h1 h2 h3 h4 => hK _ _ (h g' c' w' h1 h2 h3 h4)
theorem step_app {ops : Array Oper} {op : Oper} {a : Act} {w : World} {K : Act → World → Prop} {Q : Exit → Act → World → Prop} {E : Prop} (b : List UInt8) (hb : b.length = 64) (hgd : op.guard = none) (s x : Operand)
    (ho : op.op = .call { callee := .builtin .append, args := #[s, x], argTypes := #[31, 31] }) (g0 : Nat) (hs : a.eval s = .slice (some ⟨g0, 0, none⟩) 0 0) (hb0 : IsBlk w g0 (.cells #[] 5))
    (g o c : Nat) (hx : a.eval x = .slice (some ⟨g, o, none⟩) 64 c) (hr : w.rangeAt g o (bv b))
    (h : ∀ g' c' w', g0 ≤ g' → w'.rangeAt g' 0 (bv b) → g' < w'.heap.size → Only [g0] w w' → K (a.put op.dst (.slice (some ⟨g', 0, none⟩) 64 c')) w') : if Region.wanted op (yielded ops a.tmps) = true then Oper.wp Try.prog op a w K Q else E := by
  have hw : Region.wanted op (yielded ops a.tmps) = true := by simp [Region.wanted, hgd]
  rw [if_pos hw]
  exact wp_app b hb s x ho g0 hs hb0 g o c hx hr h

end Go.Proofs.Ytkpfplejooplfaa
