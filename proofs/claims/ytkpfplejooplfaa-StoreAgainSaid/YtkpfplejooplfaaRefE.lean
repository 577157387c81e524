/-
  The document's own disk: New by its contract.
-/
import Derived.Test.YtkpfplejooplfaaRefD
import Derived.Deep.RegionLaw
namespace Go.Proofs.Ytkpfplejooplfaa
set_option linter.unusedVariables false
set_option maxRecDepth 100000
open Go.RowKit

/-- The block of a slice's own row. -/
def ownL (v : Value) : List Nat := match v.ownBlock with | some g => [g] | none => []
theorem mem_ownL {v : Value} {k : Nat} : k ∈ ownL v ↔ v.ownBlock = some k := by
  unfold ownL; cases v.ownBlock <;> simp; exact ⟨fun e => e.symm, fun e => e.symm⟩
theorem only_grown {w w' : World} {v : Value} (h : w.grownBy w' v.ownBlock) : Only (ownL v) w w' :=
  ⟨h.os, h.tape, h.output, h.size, fun k hk hn => h.block k hk (fun e => hn (mem_ownL.2 e.symm))⟩
theorem owns_only {w w' : World} {base : Nat} {e : TypeId} {v : Value} {n : Nat} {xs : List Value} {S : List Nat} (h : w.ownsRow base e 1 v n xs) (ho : Only S w w') (hn : ∀ g, v.ownBlock = some g → g ∉ S) : w'.ownsRow base e 1 v n xs := by
  obtain ⟨h1, h2⟩ := h
  refine ⟨h1, ?_⟩
  rcases h2 with h2 | ⟨g, cap, cur, rfl, hb, hg, r⟩
  · exact .inl h2
  · exact .inr ⟨g, cap, cur, rfl, hb, IsBlk.only (o := .cells cur e) hg ho (hn g rfl), r⟩
/-- A block of another make is none of the row's. -/
theorem owns_ne {w : World} {base : Nat} {e t : TypeId} {v : Value} {n : Nat} {xs : List Value} {k : Nat} {cs : Array Value} (h : w.ownsRow base e 1 v n xs) (hk : IsBlk w k (.cells cs t)) (hne : e ≠ t) : v.ownBlock ≠ some k := by
  rcases h.2 with ⟨rfl, _⟩ | ⟨g, cap, cur, rfl, hb, hg, r⟩
  · simp [Value.ownBlock]
  · intro e1
    have : g = k := by simpa [Value.ownBlock] using e1
    subst this
    have := IsBlk.same (o := .cells cur e) hg hk
    injection this with _ h2
    exact hne h2
theorem owns_lt {w : World} {base : Nat} {e : TypeId} {v : Value} {n : Nat} {xs : List Value} (h : w.ownsRow base e 1 v n xs) {g : Nat} (hg : v.ownBlock = some g) : base ≤ g ∧ g < w.heap.size := by
  rcases h.2 with ⟨rfl, _⟩ | ⟨g', cap, cur, rfl, hb, hg', r⟩
  · simp [Value.ownBlock] at hg
  · have : g' = g := by simpa [Value.ownBlock] using hg
    subst this
    exact ⟨hb, IsBlk.lt (o := .cells cur e) hg'⟩

/-- An append of one element onto a row of the call's own. -/
theorem wp_app1 {P : Program} {op : Oper} {a : Act} {w : World} {K : Act → World → Prop} {Q : Exit → Act → World → Prop} (t e : TypeId) (z : Value) (bytes : Nat) (ht : P.underlying t = some (.slice e)) (hinfo : (P.info? e).map (fun i => (i.zero, i.size, i.bytes)) = some (some z, 1, bytes)) (hz : z.cells.size = 1) (hby : bytes ≤ 1000)
    (s x : Operand) (ho : op.op = .call { callee := .builtin .append, args := #[s, x], argTypes := #[t, t] }) (base : Nat) (v : Value) (n : Nat) (xs : List Value) (hs : a.eval s = v) (hown : w.ownsRow base e 1 v n xs) (hn : n ≤ 1000)
    (g c : Nat) (y : Value) (hx : a.eval x = .slice (some ⟨g, 0, none⟩) 1 c) (hy : w.cell? ⟨g, 0, none⟩ = some y) (hone : y.oneCell' = true) (hbase : base ≤ w.heap.size)
    (h : ∀ g' c' w', w'.ownsRow base e 1 (.slice (some ⟨g', 0, none⟩) (n + 1) c') (n + 1) (xs ++ [y]) → Only (ownL v) w w' → (some g' = v.ownBlock ∨ g' = w.heap.size) → K (a.put op.dst (.slice (some ⟨g', 0, none⟩) (n + 1) c')) w') : op.wp P a w K Q := by
  obtain ⟨i0, hi, hz0, hz1, hz2⟩ := info_parts hinfo
  obtain ⟨v', w', hrun, ho', hg', _, hat⟩ := run_append_own_at (P := P) w base t op.type e i0 z 1 bytes ht hi hz0 hz1 hz2 hz (by omega) v n xs hown ⟨g, 0, none⟩ 1 c [y] rfl
    (fun j u hu => by
      have hj : j = 0 := by have := (List.getElem?_eq_some_iff.1 hu).1; simp at this; exact this
      subst hj; simp at hu; subst hu; simpa [Addr.add] using hy) (by simpa using hone) (by simp [maxLen]; omega)
    (by have : (n + 1) * bytes ≤ 1001 * 1000 := Nat.mul_le_mul (by omega) hby; omega) hbase
  have hsh : ∃ g' c', v' = .slice (some ⟨g', 0, none⟩) (n + 1) c' := by
    rcases ho'.2 with ⟨_, h0⟩ | ⟨g', c', cur, e1, _⟩
    · omega
    · exact ⟨g', c', e1⟩
  obtain ⟨g', c', rfl⟩ := hsh
  unfold Oper.wp execOp
  simp only [ho, resolve, invoke, builtin, Sem.run_bind, Sem.run_pure, Result.andThen_ok, List.map_toArray, List.map_cons, List.map_nil, hs, hx, hrun]
  exact h g' c' w' ho' (only_grown hg') (by simpa [Value.ownBlock] using hat)
theorem wpList_app1 {P : Program} {ops : Array Oper} {rest : List Oper} {op : Oper} {a : Act} {w : World} {Q : Exit → Act → World → Prop} (t e : TypeId) (z : Value) (bytes : Nat) (ht : P.underlying t = some (.slice e)) (hinfo : (P.info? e).map (fun i => (i.zero, i.size, i.bytes)) = some (some z, 1, bytes)) (hz : z.cells.size = 1) (hby : bytes ≤ 1000)
    (hgd : op.guard = none) (s x : Operand) (ho : op.op = .call { callee := .builtin .append, args := #[s, x], argTypes := #[t, t] }) (base : Nat) (v : Value) (n : Nat) (xs : List Value) (hs : a.eval s = v) (hown : w.ownsRow base e 1 v n xs) (hn : n ≤ 1000)
    (g c : Nat) (y : Value) (hx : a.eval x = .slice (some ⟨g, 0, none⟩) 1 c) (hy : w.cell? ⟨g, 0, none⟩ = some y) (hone : y.oneCell' = true) (hbase : base ≤ w.heap.size)
    (h : ∀ g' c' w', w'.ownsRow base e 1 (.slice (some ⟨g', 0, none⟩) (n + 1) c') (n + 1) (xs ++ [y]) → Only (ownL v) w w' → (some g' = v.ownBlock ∨ g' = w.heap.size) → wpList P ops Q rest (a.put op.dst (.slice (some ⟨g', 0, none⟩) (n + 1) c')) w') : wpList P ops Q (op :: rest) a w :=
  wpList_plain hgd fun _ hK => wp_app1 t e z bytes ht hinfo hz hby s x ho base v n xs hs hown hn g c y hx hy hone hbase fun g' c' w' h1 h2 h3 => hK _ _ (h g' c' w' h1 h2 h3)
theorem step_app1 {P : Program} {ops : Array Oper} {op : Oper} {a : Act} {w : World} {K : Act → World → Prop} {Q : Exit → Act → World → Prop} {E : Prop} (t e : TypeId) (z : Value) (bytes : Nat) (ht : P.underlying t = some (.slice e)) (hinfo : (P.info? e).map (fun i => (i.zero, i.size, i.bytes)) = some (some z, 1, bytes)) (hz : z.cells.size = 1) (hby : bytes ≤ 1000)
    (hgd : op.guard = none) (s x : Operand) (ho : op.op = .call { callee := .builtin .append, args := #[s, x], argTypes := #[t, t] }) (base : Nat) (v : Value) (n : Nat) (xs : List Value) (hs : a.eval s = v) (hown : w.ownsRow base e 1 v n xs) (hn : n ≤ 1000)
    (g c : Nat) (y : Value) (hx : a.eval x = .slice (some ⟨g, 0, none⟩) 1 c) (hy : w.cell? ⟨g, 0, none⟩ = some y) (hone : y.oneCell' = true) (hbase : base ≤ w.heap.size)
    (h : ∀ g' c' w', w'.ownsRow base e 1 (.slice (some ⟨g', 0, none⟩) (n + 1) c') (n + 1) (xs ++ [y]) → Only (ownL v) w w' → (some g' = v.ownBlock ∨ g' = w.heap.size) → K (a.put op.dst (.slice (some ⟨g', 0, none⟩) (n + 1) c')) w') : if Region.wanted op (yielded ops a.tmps) = true then Oper.wp P op a w K Q else E := by
  have hw : Region.wanted op (yielded ops a.tmps) = true := by simp [Region.wanted, hgd]
  rw [if_pos hw]
  exact wp_app1 t e z bytes ht hinfo hz hby s x ho base v n xs hs hown hn g c y hx hy hone hbase h

/-- Sectors of noughts in blocks behind q. -/
def Zs (w : World) (q : Nat) (xs : List Value) : Prop := ∀ x ∈ xs, ∃ gi, x = .slice (some ⟨gi, 0, none⟩) 64 64 ∧ q < gi ∧ IsBlk w gi (.cells (bv zeros).toArray 5)
theorem Zs.keep {w w' : World} {q : Nat} {xs : List Value} {S : List Nat} (h : Zs w q xs) (ho : Only S w w') (hS : ∀ k ∈ S, ∀ cs, ¬ IsBlk w k (.cells cs 5)) : Zs w' q xs := fun x hx => by
  obtain ⟨gi, rfl, hq, hb⟩ := h x hx
  exact ⟨gi, rfl, hq, hb.only ho (fun hm => hS gi hm _ hb)⟩

theorem Only.moreAnd {S : List Nat} {a b c : World} (h : Only [] a b) (k : Only S b c) : Only S a c := (h.trans k).into (fun i hi => .inl (by simpa using hi))
theorem Zs.app {w : World} {q : Nat} {xs : List Value} (h : Zs w q xs) {A : Nat} (hq : q < A) (hA : IsBlk w A (.cells (bv zeros).toArray 5)) : Zs w q (xs ++ [.slice (some ⟨A, 0, none⟩) 64 64]) := fun x hx => by
  rcases List.mem_append.1 hx with h1 | h1
  · exact h x h1
  · simp at h1; exact ⟨A, h1, hq, hA⟩

section
variable {w W w' : World} {q a b c g' c' : Nat} {vN vL vB : Value} {xN xL : List Value}
/-- Old rows keep their blocks apart from new ones. -/
theorem owns_old {base : Nat} {e : TypeId} {v : Value} {n : Nat} {xs : List Value} (h : w.ownsRow base e 1 v n xs) {k : Nat} (hk : w.heap.size ≤ k) : v.ownBlock ≠ some k := fun e => by have := (owns_lt h e).2; omega
theorem not_bytes {base : Nat} {e : TypeId} {v : Value} {n : Nat} {xs : List Value} (h : w.ownsRow base e 1 v n xs) (hne : e ≠ 5) : ∀ k ∈ ownL v, ∀ cs, ¬ IsBlk w k (.cells cs 5) := fun _ hk _ hb => owns_ne h hb hne (mem_ownL.1 hk)

end

theorem info34 : (Try.prog.info? 31).map (fun i => (i.zero, i.size, i.bytes)) = some (some (.slice none 0 0), 1, 24) := by kernel_rfl
theorem info4 : (Try.prog.info? 4).map (fun i => (i.zero, i.size, i.bytes)) = some (some (.bool false), 1, 1) := by kernel_rfl

theorem owns_none {w : World} {base : Nat} {e : TypeId} : w.ownsRow base e 1 (.slice none 0 0) 0 [] := ⟨rfl, .inl ⟨rfl, rfl⟩⟩

theorem tab_made {w : World} {q n g c : Nat} {xs : List Value} (h : w.ownsRow (q + 1) 31 1 (.slice (some ⟨g, 0, none⟩) n c) n xs) (hz : Zs w q xs) : TabR w q g n (fun _ => zeros) ∧ (∀ i, w.frozen? ⟨g, i, none⟩ = false) ∧ q < g ∧ g < w.heap.size := by
  rcases h.2 with ⟨e, _⟩ | ⟨g', cap, cur, e, hb, hg, _, _, _, htk⟩
  · cases e
  · injection e with e1 e2 e3
    injection e1 with e1
    injection e1 with e1
    subst e1
    have hblk : IsBlk w g (.cells cur 31) := hg
    refine ⟨fun i hi => ?_, fun i => hblk.notFrozen i, by omega, hblk.lt⟩
    have hl : xs.length = n := by have := h.1; omega
    have hx : xs[i]? = some (xs[i]'(by omega)) := List.getElem?_eq_getElem (by omega)
    obtain ⟨gi, ex, hq, hbi⟩ := hz _ (List.getElem_mem (show i < xs.length by omega))
    refine ⟨gi, 64, ?_, by omega, hbi.lt, blk_range hbi, rfl⟩
    rw [hblk.cell, ← ex, ← hx]
    have htk' : cur.toList.take n = xs := by simpa using htk
    rw [← htk', List.getElem?_take, if_pos hi]; simp
end Go.Proofs.Ytkpfplejooplfaa
