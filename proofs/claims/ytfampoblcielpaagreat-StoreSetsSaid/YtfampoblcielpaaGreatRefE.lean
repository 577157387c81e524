/-
  The document's own disk: New by its contract.
-/
import Derived.Test.YtfampoblcielpaaGreatRefD
import Derived.Deep.RegionLaw
namespace Go.Proofs.YtfampoblcielpaaGreat
set_option linter.unusedVariables false
set_option maxRecDepth 100000
open Go.RowKit

/-- The block of a slice's own row. -/
def ownL (v : Value) : List Nat := match v.ownBlock with | some g => [g] | none => []
theorem mem_ownL {v : Value} {k : Nat} : k ∈ ownL v ↔ v.ownBlock = some k := by
  unfold ownL; cases v.ownBlock <;> simp; exact ⟨fun e => e.symm, fun e => e.symm⟩
theorem only_grown {w w' : World} {v : Value} (h : w.grownBy w' v.ownBlock) : Only (ownL v) w w' :=
  ⟨h.os, h.tape, h.output, h.size, fun k hk hn => h.block k hk (fun e => hn (mem_ownL.2 e.symm))⟩
theorem owns_only {w w' : World} {base : Nat} {e : TypeId} {v : Value} {n : Nat} {xs : List Value} {S : List Nat} (h : w.ownsRow base e 1 v n xs) (ho : Only S w w') (hn : ∀ g, v.ownBlock = some g → g ∉ S) : w'.ownsRow base e 1 v n xs := by
  obtain ⟨h1, h2⟩ := h
  refine ⟨h1, ?_⟩
  rcases h2 with h2 | ⟨g, cap, cur, rfl, hb, hg, r⟩
  · exact .inl h2
  · exact .inr ⟨g, cap, cur, rfl, hb, IsBlk.only (o := .cells cur e) hg ho (hn g rfl), r⟩
/-- A block of another make is none of the row's. -/
theorem owns_ne {w : World} {base : Nat} {e t : TypeId} {v : Value} {n : Nat} {xs : List Value} {k : Nat} {cs : Array Value} (h : w.ownsRow base e 1 v n xs) (hk : IsBlk w k (.cells cs t)) (hne : e ≠ t) : v.ownBlock ≠ some k := by
  rcases h.2 with ⟨rfl, _⟩ | ⟨g, cap, cur, rfl, hb, hg, r⟩
  · simp [Value.ownBlock]
  · intro e1
    have : g = k := by simpa [Value.ownBlock] using e1
    subst this
    have := IsBlk.same (o := .cells cur e) hg hk
    injection this with _ h2
    exact hne h2
theorem owns_lt {w : World} {base : Nat} {e : TypeId} {v : Value} {n : Nat} {xs : List Value} (h : w.ownsRow base e 1 v n xs) {g : Nat} (hg : v.ownBlock = some g) : base ≤ g ∧ g < w.heap.size := by
  rcases h.2 with ⟨rfl, _⟩ | ⟨g', cap, cur, rfl, hb, hg', r⟩
  · simp [Value.ownBlock] at hg
  · have : g' = g := by simpa [Value.ownBlock] using hg
    subst this
    exact ⟨hb, IsBlk.lt (o := .cells cur e) hg'⟩

/-- An append of one element onto a row of the call's own. -/
theorem wp_app1 {P : Program} {op : Oper} {a : Act} {w : World} {K : Act → World → Prop} {Q : Exit → Act → World → Prop} (t e : TypeId) (z : Value) (bytes : Nat) (ht : P.underlying t = some (.slice e)) (hinfo : (P.info? e).map (fun i => (i.zero, i.size, i.bytes)) = some (some z, 1, bytes)) (hz : z.cells.size = 1) (hby : bytes ≤ 1000)
    (s x : Operand) (ho : op.op = .call { callee := .builtin .append, args := #[s, x], argTypes := #[t, t] }) (base : Nat) (v : Value) (n : Nat) (xs : List Value) (hs : a.eval s = v) (hown : w.ownsRow base e 1 v n xs) (hn : n ≤ 1000)
    (g c : Nat) (y : Value) (hx : a.eval x = .slice (some ⟨g, 0, none⟩) 1 c) (hy : w.cell? ⟨g, 0, none⟩ = some y) (hone : y.oneCell' = true) (hbase : base ≤ w.heap.size)
    (h : ∀ g' c' w', w'.ownsRow base e 1 (.slice (some ⟨g', 0, none⟩) (n + 1) c') (n + 1) (xs ++ [y]) → Only (ownL v) w w' → (some g' = v.ownBlock ∨ g' = w.heap.size) → K (a.put op.dst (.slice (some ⟨g', 0, none⟩) (n + 1) c')) w') : op.wp P a w K Q := by
  obtain ⟨i0, hi, hz0, hz1, hz2⟩ := info_parts hinfo
  obtain ⟨v', w', hrun, ho', hg', _, hat⟩ := run_append_own_at (P := P) w base t op.type e i0 z 1 bytes ht hi hz0 hz1 hz2 hz (by omega) v n xs hown ⟨g, 0, none⟩ 1 c [y] rfl
    (fun j u hu => by
      have hj : j = 0 := by have := (List.getElem?_eq_some_iff.1 hu).1; simp at this; exact this
      subst hj; simp at hu; subst hu; simpa [Addr.add] using hy) (by simpa using hone) (by simp [maxLen]; omega)
    (by have : (n + 1) * bytes ≤ 1001 * 1000 := Nat.mul_le_mul (by omega) hby; omega) hbase
  have hsh : ∃ g' c', v' = .slice (some ⟨g', 0, none⟩) (n + 1) c' := by
    rcases ho'.2 with ⟨_, h0⟩ | ⟨g', c', cur, e1, _⟩
    · omega
    · exact ⟨g', c', e1⟩
  obtain ⟨g', c', rfl⟩ := hsh
  unfold Oper.wp execOp
  simp only [ho, resolve, invoke, builtin, Sem.run_bind, Sem.run_pure, Result.andThen_ok, List.map_toArray, List.map_cons, List.map_nil, hs, hx, hrun]
  exact h g' c' w' ho' (only_grown hg') (by simpa [Value.ownBlock] using hat)
theorem wpList_app1 {P : Program} {ops : Array Oper} {rest : List Oper} {op : Oper} {a : Act} {w : World} {Q : Exit → Act → World → Prop} (t e : TypeId) (z : Value) (bytes : Nat) (ht : P.underlying t = some (.slice e)) (hinfo : (P.info? e).map (fun i => (i.zero, i.size, i.bytes)) = some (some z, 1, bytes)) (hz : z.cells.size = 1) (hby : bytes ≤ 1000)
    (hgd : op.guard = none) (s x : Operand) (ho : op.op = .call { callee := .builtin .append, args := #[s, x], argTypes := #[t, t] }) (base : Nat) (v : Value) (n : Nat) (xs : List Value) (hs : a.eval s = v) (hown : w.ownsRow base e 1 v n xs) (hn : n ≤ 1000)
    (g c : Nat) (y : Value) (hx : a.eval x = .slice (some ⟨g, 0, none⟩) 1 c) (hy : w.cell? ⟨g, 0, none⟩ = some y) (hone : y.oneCell' = true) (hbase : base ≤ w.heap.size)
    (h : ∀ g' c' w', w'.ownsRow base e 1 (.slice (some ⟨g', 0, none⟩) (n + 1) c') (n + 1) (xs ++ [y]) → Only (ownL v) w w' → (some g' = v.ownBlock ∨ g' = w.heap.size) → wpList P ops Q rest (a.put op.dst (.slice (some ⟨g', 0, none⟩) (n + 1) c')) w') : wpList P ops Q (op :: rest) a w :=
  wpList_plain hgd fun _ hK => wp_app1 t e z bytes ht hinfo hz hby s x ho base v n xs hs hown hn g c y hx hy hone hbase fun g' c' w' h1 h2 h3 => hK _ _ (h g' c' w' h1 h2 h3)
theorem step_app1 {P : Program} {ops : Array Oper} {op : Oper} {a : Act} {w : World} {K : Act → World → Prop} {Q : Exit → Act → World → Prop} {E : Prop} (t e : TypeId) (z : Value) (bytes : Nat) (ht : P.underlying t = some (.slice e)) (hinfo : (P.info? e).map (fun i => (i.zero, i.size, i.bytes)) = some (some z, 1, bytes)) (hz : z.cells.size = 1) (hby : bytes ≤ 1000)
    (hgd : op.guard = none) (s x : Operand) (ho : op.op = .call { callee := .builtin .append, args := #[s, x], argTypes := #[t, t] }) (base : Nat) (v : Value) (n : Nat) (xs : List Value) (hs : a.eval s = v) (hown : w.ownsRow base e 1 v n xs) (hn : n ≤ 1000)
    (g c : Nat) (y : Value) (hx : a.eval x = .slice (some ⟨g, 0, none⟩) 1 c) (hy : w.cell? ⟨g, 0, none⟩ = some y) (hone : y.oneCell' = true) (hbase : base ≤ w.heap.size)
    (h : ∀ g' c' w', w'.ownsRow base e 1 (.slice (some ⟨g', 0, none⟩) (n + 1) c') (n + 1) (xs ++ [y]) → Only (ownL v) w w' → (some g' = v.ownBlock ∨ g' = w.heap.size) → K (a.put op.dst (.slice (some ⟨g', 0, none⟩) (n + 1) c')) w') : if Region.wanted op (yielded ops a.tmps) = true then Oper.wp P op a w K Q else E := by
  have hw : Region.wanted op (yielded ops a.tmps) = true := by simp [Region.wanted, hgd]
  rw [if_pos hw]
  exact wp_app1 t e z bytes ht hinfo hz hby s x ho base v n xs hs hown hn g c y hx hy hone hbase h

/-- Sectors of noughts in blocks behind q. -/
def Zs (w : World) (q : Nat) (xs : List Value) : Prop := ∀ x ∈ xs, ∃ gi, x = .slice (some ⟨gi, 0, none⟩) 64 64 ∧ q < gi ∧ IsBlk w gi (.cells (bv zeros).toArray 5)
theorem Zs.keep {w w' : World} {q : Nat} {xs : List Value} {S : List Nat} (h : Zs w q xs) (ho : Only S w w') (hS : ∀ k ∈ S, ∀ cs, ¬ IsBlk w k (.cells cs 5)) : Zs w' q xs := fun x hx => by
  obtain ⟨gi, rfl, hq, hb⟩ := h x hx
  exact ⟨gi, rfl, hq, hb.only ho (fun hm => hS gi hm _ hb)⟩

theorem Only.moreAnd {S : List Nat} {a b c : World} (h : Only [] a b) (k : Only S b c) : Only S a c := (h.trans k).into (fun i hi => .inl (by simpa using hi))
theorem Zs.app {w : World} {q : Nat} {xs : List Value} (h : Zs w q xs) {A : Nat} (hq : q < A) (hA : IsBlk w A (.cells (bv zeros).toArray 5)) : Zs w q (xs ++ [.slice (some ⟨A, 0, none⟩) 64 64]) := fun x hx => by
  rcases List.mem_append.1 hx with h1 | h1
  · exact h x h1
  · simp at h1; exact ⟨A, h1, hq, hA⟩

/-- The document's disk in the making: so many sectors of Now, of Last, of New. -/
structure RMk (w : World) (q a b c : Nat) (vN vL vB : Value) (xN xL : List Value) : Prop where
  blk : IsBlk w q (.cells #[vN, vL, vB, .bool false, .int .i64 (-1), .int .i64 0] 75)
  now : w.ownsRow (q + 1) 37 1 vN a xN
  last : w.ownsRow (q + 1) 37 1 vL b xL
  new : w.ownsRow (q + 1) 4 1 vB c (List.replicate c (.bool false))
  zN : Zs w q xN
  zL : Zs w q xL
  ne : ∀ g, vN.ownBlock = some g → vL.ownBlock ≠ some g
def RNew (w : World) (q k : Nat) : Prop := ∃ vN vL vB xN xL, RMk w q k k k vN vL vB xN xL

section
variable {w W w' : World} {q a b c g' c' : Nat} {vN vL vB : Value} {xN xL : List Value}
/-- Old rows keep their blocks apart from new ones. -/
theorem owns_old {base : Nat} {e : TypeId} {v : Value} {n : Nat} {xs : List Value} (h : w.ownsRow base e 1 v n xs) {k : Nat} (hk : w.heap.size ≤ k) : v.ownBlock ≠ some k := fun e => by have := (owns_lt h e).2; omega
theorem not_bytes {base : Nat} {e : TypeId} {v : Value} {n : Nat} {xs : List Value} (h : w.ownsRow base e 1 v n xs) (hne : e ≠ 5) : ∀ k ∈ ownL v, ∀ cs, ¬ IsBlk w k (.cells cs 5) := fun _ hk _ hb => owns_ne h hb hne (mem_ownL.1 hk)

/-- Now grown by a sector. -/
theorem RMk.growN (h : RMk w q a b c vN vL vB xN xL) (hW : Only [] w W) (hA : IsBlk W w.heap.size (.cells (bv zeros).toArray 5)) (hlt : w.heap.size < W.heap.size)
    (hown : w'.ownsRow (q + 1) 37 1 (.slice (some ⟨g', 0, none⟩) (a + 1) c') (a + 1) (xN ++ [.slice (some ⟨w.heap.size, 0, none⟩) 64 64])) (hO : Only (ownL vN) W w') (hat : some g' = vN.ownBlock ∨ g' = W.heap.size) :
    RMk (w'.setCell ⟨q, 0, none⟩ (.slice (some ⟨g', 0, none⟩) (a + 1) c')) q (a + 1) b c (.slice (some ⟨g', 0, none⟩) (a + 1) c') vL vB (xN ++ [.slice (some ⟨w.heap.size, 0, none⟩) 64 64]) xL ∧
    Only (q :: ownL vN) w (w'.setCell ⟨q, 0, none⟩ (.slice (some ⟨g', 0, none⟩) (a + 1) c')) := by
  have hq := h.blk.lt
  have hnq : vN.ownBlock ≠ some q := owns_ne h.now h.blk (by decide)
  have hOw : Only (ownL vN) w w' := hW.moreAnd hO
  have hbq : IsBlk w' q _ := h.blk.only hOw (by rw [mem_ownL]; exact hnq)
  have hA' : IsBlk w' w.heap.size (.cells (bv zeros).toArray 5) := hA.only hO (by rw [mem_ownL]; exact owns_old h.now (Nat.le_refl _))
  have hl' : w'.ownsRow (q + 1) 37 1 vL b xL := owns_only h.last hOw (fun g hg => by rw [mem_ownL]; exact fun e => h.ne g e hg)
  have hb' : w'.ownsRow (q + 1) 4 1 vB c (List.replicate c (.bool false)) := owns_only h.new hOw (fun g hg => by
    rw [mem_ownL]; intro e
    rcases h.now.2 with ⟨rfl, _⟩ | ⟨g2, cap, cur, rfl, _, hg2, _⟩
    · simp [Value.ownBlock] at e
    · have : g2 = g := by simpa [Value.ownBlock] using e
      subst this
      exact owns_ne (t := 37) h.new hg2 (by decide) hg)
  have hS : Only [q] w' (w'.setCell ⟨q, 0, none⟩ (.slice (some ⟨g', 0, none⟩) (a + 1) c')) := (Only.refl _ _).setCell (by simp) _
  have hqb : ∀ k ∈ [q], ∀ cs, ¬ IsBlk w' k (.cells cs 5) := by
    intro k hk cs hb; simp at hk; subst hk
    have := hbq.same hb; injection this with _ h2; cases h2
  refine ⟨⟨hbq.put 0 _, owns_only hown hS (fun g hg => ?_), owns_only hl' hS (fun g hg => ?_), owns_only hb' hS (fun g hg => ?_), ?_, ?_, fun g hg => ?_⟩, ?_⟩
  · simp; rintro rfl; exact owns_ne hown hbq (by decide) hg
  · simp; rintro rfl; exact owns_ne hl' hbq (by decide) hg
  · simp; rintro rfl; exact owns_ne hb' hbq (by decide) hg
  · exact ((h.zN.keep hOw (not_bytes h.now (by decide))).app (by omega) hA').keep hS hqb
  · exact (h.zL.keep hOw (not_bytes h.now (by decide))).keep hS hqb
  · have hgg : g' = g := by simpa [Value.ownBlock] using hg
    subst hgg
    rcases hat with e | e
    · exact h.ne _ e.symm
    · exact owns_old h.last (by omega)
  · exact (hOw.trans hS).into (fun k hk => by rcases List.mem_append.1 hk with h1 | h1; exact .inl (List.mem_cons_of_mem _ h1); simp at h1; subst h1; exact .inl (List.mem_cons_self))

/-- Last grown by a sector. -/
theorem RMk.growL (h : RMk w q a b c vN vL vB xN xL) (hW : Only [] w W) (hA : IsBlk W w.heap.size (.cells (bv zeros).toArray 5)) (hlt : w.heap.size < W.heap.size)
    (hown : w'.ownsRow (q + 1) 37 1 (.slice (some ⟨g', 0, none⟩) (b + 1) c') (b + 1) (xL ++ [.slice (some ⟨w.heap.size, 0, none⟩) 64 64])) (hO : Only (ownL vL) W w') (hat : some g' = vL.ownBlock ∨ g' = W.heap.size) :
    RMk (w'.setCell ⟨q, 1, none⟩ (.slice (some ⟨g', 0, none⟩) (b + 1) c')) q a (b + 1) c vN (.slice (some ⟨g', 0, none⟩) (b + 1) c') vB xN (xL ++ [.slice (some ⟨w.heap.size, 0, none⟩) 64 64]) ∧
    Only (q :: ownL vL) w (w'.setCell ⟨q, 1, none⟩ (.slice (some ⟨g', 0, none⟩) (b + 1) c')) := by
  have hq := h.blk.lt
  have hnq : vL.ownBlock ≠ some q := owns_ne h.last h.blk (by decide)
  have hOw : Only (ownL vL) w w' := hW.moreAnd hO
  have hbq : IsBlk w' q _ := h.blk.only hOw (by rw [mem_ownL]; exact hnq)
  have hA' : IsBlk w' w.heap.size (.cells (bv zeros).toArray 5) := hA.only hO (by rw [mem_ownL]; exact owns_old h.last (Nat.le_refl _))
  have hl' : w'.ownsRow (q + 1) 37 1 vN a xN := owns_only h.now hOw (fun g hg => by rw [mem_ownL]; exact h.ne g hg)
  have hb' : w'.ownsRow (q + 1) 4 1 vB c (List.replicate c (.bool false)) := owns_only h.new hOw (fun g hg => by
    rw [mem_ownL]; intro e
    rcases h.last.2 with ⟨rfl, _⟩ | ⟨g2, cap, cur, rfl, _, hg2, _⟩
    · simp [Value.ownBlock] at e
    · have : g2 = g := by simpa [Value.ownBlock] using e
      subst this
      exact owns_ne (t := 37) h.new hg2 (by decide) hg)
  have hS : Only [q] w' (w'.setCell ⟨q, 1, none⟩ (.slice (some ⟨g', 0, none⟩) (b + 1) c')) := (Only.refl _ _).setCell (by simp) _
  have hqb : ∀ k ∈ [q], ∀ cs, ¬ IsBlk w' k (.cells cs 5) := by
    intro k hk cs hb; simp at hk; subst hk
    have := hbq.same hb; injection this with _ h2; cases h2
  refine ⟨⟨hbq.put 1 _, owns_only hl' hS (fun g hg => ?_), owns_only hown hS (fun g hg => ?_), owns_only hb' hS (fun g hg => ?_), ?_, ?_, fun g hg => ?_⟩, ?_⟩
  · simp; rintro rfl; exact owns_ne hl' hbq (by decide) hg
  · simp; rintro rfl; exact owns_ne hown hbq (by decide) hg
  · simp; rintro rfl; exact owns_ne hb' hbq (by decide) hg
  · exact (h.zN.keep hOw (not_bytes h.last (by decide))).keep hS hqb
  · exact ((h.zL.keep hOw (not_bytes h.last (by decide))).app (by omega) hA').keep hS hqb
  · intro hg2
    have hgg : g' = g := by simpa [Value.ownBlock] using hg2
    subst hgg
    rcases hat with e | e
    · exact h.ne _ hg e.symm
    · exact owns_old h.now (show w.heap.size ≤ g' by omega) hg
  · exact (hOw.trans hS).into (fun k hk => by rcases List.mem_append.1 hk with h1 | h1; exact .inl (List.mem_cons_of_mem _ h1); simp at h1; subst h1; exact .inl (List.mem_cons_self))

/-- New grown by a mark. -/
theorem RMk.growB (h : RMk w q a b c vN vL vB xN xL) (hW : Only [] w W)
    (hown : w'.ownsRow (q + 1) 4 1 (.slice (some ⟨g', 0, none⟩) (c + 1) c') (c + 1) (List.replicate c (.bool false) ++ [.bool false])) (hO : Only (ownL vB) W w') :
    RMk (w'.setCell ⟨q, 2, none⟩ (.slice (some ⟨g', 0, none⟩) (c + 1) c')) q a b (c + 1) vN vL (.slice (some ⟨g', 0, none⟩) (c + 1) c') xN xL ∧
    Only (q :: ownL vB) w (w'.setCell ⟨q, 2, none⟩ (.slice (some ⟨g', 0, none⟩) (c + 1) c')) := by
  have hnq : vB.ownBlock ≠ some q := owns_ne h.new h.blk (by decide)
  have hOw : Only (ownL vB) w w' := hW.moreAnd hO
  have hbq : IsBlk w' q _ := h.blk.only hOw (by rw [mem_ownL]; exact hnq)
  have far : ∀ {v : Value} {n : Nat} {xs : List Value}, w.ownsRow (q + 1) 37 1 v n xs → ∀ g, v.ownBlock = some g → g ∉ ownL vB := by
    intro v n xs hv g hg
    rw [mem_ownL]; intro e
    rcases hv.2 with ⟨rfl, _⟩ | ⟨g2, cap, cur, rfl, _, hg2, _⟩
    · simp [Value.ownBlock] at hg
    · have : g2 = g := by simpa [Value.ownBlock] using hg
      subst this
      exact owns_ne (t := 37) h.new hg2 (by decide) e
  have hn' := owns_only h.now hOw (far h.now)
  have hl' := owns_only h.last hOw (far h.last)
  have hS : Only [q] w' (w'.setCell ⟨q, 2, none⟩ (.slice (some ⟨g', 0, none⟩) (c + 1) c')) := (Only.refl _ _).setCell (by simp) _
  have hqb : ∀ k ∈ [q], ∀ cs, ¬ IsBlk w' k (.cells cs 5) := by
    intro k hk cs hb; simp at hk; subst hk
    have := hbq.same hb; injection this with _ h2; cases h2
  have er : List.replicate c (Value.bool false) ++ [.bool false] = List.replicate (c + 1) (.bool false) := by rw [List.replicate_succ']
  rw [er] at hown
  refine ⟨⟨hbq.put 2 _, owns_only hn' hS (fun g hg => ?_), owns_only hl' hS (fun g hg => ?_), owns_only hown hS (fun g hg => ?_), ?_, ?_, h.ne⟩, ?_⟩
  · simp; rintro rfl; exact owns_ne hn' hbq (by decide) hg
  · simp; rintro rfl; exact owns_ne hl' hbq (by decide) hg
  · simp; rintro rfl; exact owns_ne hown hbq (by decide) hg
  · exact (h.zN.keep hOw (not_bytes h.new (by decide))).keep hS hqb
  · exact (h.zL.keep hOw (not_bytes h.new (by decide))).keep hS hqb
  · exact (hOw.trans hS).into (fun k hk => by rcases List.mem_append.1 hk with h1 | h1; exact .inl (List.mem_cons_of_mem _ h1); simp at h1; subst h1; exact .inl (List.mem_cons_self))
end

theorem info34 : (Tryz.prog.info? 37).map (fun i => (i.zero, i.size, i.bytes)) = some (some (.slice none 0 0), 1, 24) := by kernel_rfl
theorem info4 : (Tryz.prog.info? 4).map (fun i => (i.zero, i.size, i.bytes)) = some (some (.bool false), 1, 1) := by kernel_rfl

theorem owns_none {w : World} {base : Nat} {e : TypeId} : w.ownsRow base e 1 (.slice none 0 0) 0 [] := ⟨rfl, .inl ⟨rfl, rfl⟩⟩

set_option maxHeartbeats 1000000 in
theorem rnew_bad (w : World) (x : Int) (h : newBad x = true) :
    Calls Tryz.prog 17 #[.int .i64 x] w fun e w' => e = .returned (.tuple #[.pointer none, .int .i64 1]) ∧ w = w' := by
  by_cases h1 : x < 8
  · clear h
    have t1 : decide (x < 8) = true := by simpa using h1
    go_enter Tryz.func17, Tryz.ntmps17
    go_wp2
    go_ret2
    exact ⟨rfl, rfl⟩
  by_cases h2 : 256 < x
  · clear h
    have t1 : decide (x < 8) = false := by simpa using h1
    have t2 : decide (256 < x) = true := by simpa using h2
    go_enter Tryz.func17, Tryz.ntmps17
    go_wp2
    go_ret2
    exact ⟨rfl, rfl⟩
  · have t3 : (x % 2 != 0) = true := by simpa [newBad, h1, h2] using h
    clear h
    have t1 : decide (x < 8) = false := by simpa using h1
    have t2 : decide (256 < x) = false := by simpa using h2
    have h8 : 8 ≤ x := by omega
    have h9 : x ≤ 256 := by omega
    go_enter Tryz.func17, Tryz.ntmps17
    go_wp2
    go_ret2
    exact ⟨rfl, rfl⟩

/-- What New answers where it makes one. -/
def RNewOk (w : World) (n : Nat) (e : Ending) (w' : World) : Prop :=
  ∃ R, e = .returned (.tuple #[.pointer (some ⟨R.q, 0, none⟩), .int .i64 0]) ∧ RefAt w' w.heap.size R { n := n, now := fun _ => zeros, last := fun _ => zeros, new := fun _ => false, dead := false, left := -1, ops := 0 } ∧ Only [] w w'

theorem tab_made {w : World} {q n g c : Nat} {xs : List Value} (h : w.ownsRow (q + 1) 37 1 (.slice (some ⟨g, 0, none⟩) n c) n xs) (hz : Zs w q xs) : TabR w q g n (fun _ => zeros) ∧ (∀ i, w.frozen? ⟨g, i, none⟩ = false) ∧ q < g ∧ g < w.heap.size := by
  rcases h.2 with ⟨e, _⟩ | ⟨g', cap, cur, e, hb, hg, _, _, _, htk⟩
  · cases e
  · injection e with e1 e2 e3
    injection e1 with e1
    injection e1 with e1
    subst e1
    have hblk : IsBlk w g (.cells cur 37) := hg
    refine ⟨fun i hi => ?_, fun i => hblk.notFrozen i, by omega, hblk.lt⟩
    have hl : xs.length = n := by have := h.1; omega
    have hx : xs[i]? = some (xs[i]'(by omega)) := List.getElem?_eq_getElem (by omega)
    obtain ⟨gi, ex, hq, hbi⟩ := hz _ (List.getElem_mem (show i < xs.length by omega))
    refine ⟨gi, 64, ?_, by omega, hbi.lt, blk_range hbi, rfl⟩
    rw [hblk.cell, ← ex, ← hx]
    have htk' : cur.toList.take n = xs := by simpa using htk
    rw [← htk', List.getElem?_take, if_pos hi]; simp
theorem ref_made {w : World} {q n : Nat} (h : RNew w q n) (h0 : 0 < n) (hn : n ≤ 256) :
    ∃ R : RefP, R.q = q ∧ RefAt w q R { n := n, now := fun _ => zeros, last := fun _ => zeros, new := fun _ => false, dead := false, left := -1, ops := 0 } := by
  obtain ⟨vN, vL, vB, xN, xL, hM⟩ := h
  have hsh : ∀ {e : TypeId} {v : Value} {xs : List Value}, w.ownsRow (q + 1) e 1 v n xs → ∃ g c, v = .slice (some ⟨g, 0, none⟩) n c := by
    intro e v xs hv
    rcases hv.2 with ⟨_, h2⟩ | ⟨g, c, _, e1, _⟩
    · omega
    · exact ⟨g, c, e1⟩
  obtain ⟨gN, cN, rfl⟩ := hsh hM.now
  obtain ⟨gL, cL, rfl⟩ := hsh hM.last
  obtain ⟨gB, cB, rfl⟩ := hsh hM.new
  obtain ⟨tN, fN, qN, lN⟩ := tab_made hM.now hM.zN
  obtain ⟨tL, fL, qL, lL⟩ := tab_made hM.last hM.zL
  have hNL : gN ≠ gL := fun e => hM.ne gN rfl (by simp [Value.ownBlock, e])
  rcases hM.new.2 with ⟨e, _⟩ | ⟨g', cap, cur, e, hb, hg, _, _, _, htk⟩
  · cases e
  injection e with e1 e2 e3
  injection e1 with e1
  injection e1 with e1
  subst e1
  have hblk : IsBlk w gB (.cells cur 4) := hg
  have ne : ∀ {g : Nat} {c : Nat} {xs : List Value}, w.ownsRow (q + 1) 37 1 (.slice (some ⟨g, 0, none⟩) n c) n xs → g ≠ gB := by
    intro g c xs hv e
    exact owns_ne hv hblk (by decide) (by simp [Value.ownBlock, e])
  refine ⟨⟨q, gN, gL, gB, cN, cL, cB⟩, rfl, hM.blk, tN, tL, fun i hi => ?_, fN, fL, fun i => hblk.notFrozen i, Nat.le_refl _, by show q ≤ gN; omega, by show q ≤ gL; omega, by show q ≤ gB; omega, lN, lL, hblk.lt,
    by show q ≠ gN; omega, by show q ≠ gL; omega, by show q ≠ gB; omega, hNL, ne hM.now, ne hM.last, h0, hn⟩
  have htk' : cur.toList.take n = List.replicate n (.bool false) := by simpa using htk
  have h1 : (cur.toList.take n)[i]? = some (.bool false) := by rw [htk']; simp [show i < n from hi]
  rw [List.getElem?_take, if_pos (show i < n from hi)] at h1
  show w.cell? ⟨gB, i, none⟩ = _
  rw [hblk.cell]; simpa using h1

set_option maxRecDepth 100000 in
set_option maxHeartbeats 4000000 in
theorem rnew_ok (w : World) (n : Nat) (h8 : 8 ≤ n) (hn : n ≤ 256) (h2 : n % 2 = 0) :
    Calls Tryz.prog 17 #[.int .i64 n] w (RNewOk w n) := by
  have hmk : ∀ W : World, (Instr.makeSlice 37 (.int .i64 64) (.int .i64 64)).run Tryz.prog W = .ok (.slice (some ⟨W.heap.size, 0, none⟩) 64 64) (W.alloc (.cells (bv zeros).toArray 5)) := fun _ => by kernel_rfl
  have t1 : decide ((n : Int) < 8) = false := by simp; omega
  have t2 : decide ((256 : Int) < (n : Int)) = false := by simp; omega
  have t3 : ((n : Int) % 2 != 0) = false := by simp; omega
  have hstart : RNew (w.alloc (.cells #[.slice none 0 0, .slice none 0 0, .slice none 0 0, .bool false, .int .i64 (-1), .int .i64 0] 75)) w.heap.size 0 :=
    ⟨_, _, _, [], [], IsBlk.made w _, owns_none, owns_none, owns_none, fun x hx => by simp at hx, fun x hx => by simp at hx, fun g hg => by simp [Value.ownBlock] at hg⟩
  have hO0 : Only [] w (w.alloc (.cells #[.slice none 0 0, .slice none 0 0, .slice none 0 0, .bool false, .int .i64 (-1), .int .i64 0] 75)) := (Only.refl _ _).alloc _
  go_enter Tryz.func17, Tryz.ntmps17
  go_wp2_with fail
  go_loopw [5] (fun i wr => ∃ k : Nat, k ≤ n ∧ i = .int .i64 k ∧ RNew wr w.heap.size k ∧ Only [] w wr) (fun i _ => n - (intOf i).toNat)
  case atStart => exact ⟨0, Nat.zero_le _, rfl, hstart, hO0⟩
  case round =>
    obtain ⟨k, hk, rfl, hRk, hOk⟩ := hrel
    clear hstart hO0
    by_cases hlt : k < n
    · have hlti : (k : Int) < (n : Int) := by omega
      obtain ⟨vN, vL, vB, xN, xL, hM⟩ := hRk
      have cc : wr.cell? ⟨w.heap.size, 0, none⟩ = some vN := hM.blk.cell 0
      have hlq := hM.blk.lt
      have hff := hM.blk.notFrozen 0
      have HM := Lib.hid hM
      generalize hq : w.heap.size = q at *
      have Hq := Lib.hid hq
      clear hM hq
      go_wp2_with fail
      go_region_law (first
        | (refine step_app1 53 37 _ 24 Tryz.underlying53 info34 rfl (by omega) rfl _ _ rfl (q + 1) vN k xN rfl ?_ (by omega) _ _ (.slice (some ⟨wr.heap.size, 0, none⟩) 64 64) rfl ?_ rfl ?_ ?_
           (exact owns_only HM.out.now (S := []) (by repeat (first | exact Only.refl _ _ | refine Only.alloc ?_ _ | refine Only.drew ?_)) (by simp))
           (first | (simp; done) | (rw [World.cell?_drew, World.cell?_alloc_at _ _ _ _ (by simp)]; rfl))
           (simp; omega)
           intro g' c' w' hown' hO' hat'
           have hnq : vN.ownBlock ≠ some q := owns_ne HM.out.now HM.out.blk (by decide)
           have hOq : Only (ownL vN) wr w' := ((((Only.refl [] wr).alloc (.cells (bv zeros).toArray 5)).alloc (.cells #[.slice (some ⟨wr.heap.size, 0, none⟩) 64 64] 37)).drew).moreAnd hO'
           have cc' : w'.cell? ⟨q, 0, none⟩ = some vN := (hOq.cell (p := ⟨q, 0, none⟩) hlq (by rw [mem_ownL]; exact hnq)).trans cc
           have hff' : w'.frozen? ⟨q, 0, none⟩ = false := (hOq.frozen (p := ⟨q, 0, none⟩) hlq (by rw [mem_ownL]; exact hnq)).trans hff))
      all_goals
        have hgr := HM.out.growN (W := ((wr.alloc (.cells (bv zeros).toArray 5)).alloc (.cells #[.slice (some ⟨wr.heap.size, 0, none⟩) 64 64] 37)).drew) ((((Only.refl [] wr).alloc _).alloc _).drew) (((IsBlk.made wr _).alloc _).drew) (by simp; omega) hown' hO' (by simpa using hat')
        have hOn : Only [] w _ := (hOk.trans hgr.2).into (fun i hi => by
          have hq2 := Hq.out
          simp only [List.nil_append, List.mem_cons] at hi
          rcases hi with rfl | hi
          · exact .inr (by omega)
          · have := (owns_lt HM.out.now (mem_ownL.1 hi)).1
            exact .inr (by omega))
        obtain ⟨hM2, _⟩ := hgr
        clear cc' hff' hown' hO' hat' hOq hnq cc hff hOk HM
        generalize w'.setCell ⟨q, 0, none⟩ (.slice (some ⟨g', 0, none⟩) (k + 1) c') = w2 at *
        generalize Value.slice (some ⟨g', 0, none⟩) (k + 1) c' = vN2 at *
        have HM2 := Lib.hid hM2
        have hOk := hOn
        clear hM2 hOn
        have cc : w2.cell? ⟨q, 1, none⟩ = some vL := HM2.out.blk.cell 1
        have hlq := HM2.out.blk.lt
        have hff := HM2.out.blk.notFrozen 1
        go_wp2_with fail
        go_region_law (first
          | (refine step_app1 53 37 _ 24 Tryz.underlying53 info34 rfl (by omega) rfl _ _ rfl (q + 1) vL k xL rfl ?_ (by omega) _ _ (.slice (some ⟨w2.heap.size, 0, none⟩) 64 64) rfl ?_ rfl ?_ ?_
             (exact owns_only HM2.out.last (S := []) (by repeat (first | exact Only.refl _ _ | refine Only.alloc ?_ _ | refine Only.drew ?_)) (by simp))
             (first | (simp; done) | (rw [World.cell?_drew, World.cell?_alloc_at _ _ _ _ (by simp)]; rfl))
             (simp; omega)
             intro g' c' w' hown' hO' hat'
             have hnq : vL.ownBlock ≠ some q := owns_ne HM2.out.last HM2.out.blk (by decide)
             have hOq : Only (ownL vL) w2 w' := ((((Only.refl [] w2).alloc (.cells (bv zeros).toArray 5)).alloc (.cells #[.slice (some ⟨w2.heap.size, 0, none⟩) 64 64] 37)).drew).moreAnd hO'
             have cc' : w'.cell? ⟨q, 1, none⟩ = some vL := (hOq.cell (p := ⟨q, 1, none⟩) hlq (by rw [mem_ownL]; exact hnq)).trans cc
             have hff' : w'.frozen? ⟨q, 1, none⟩ = false := (hOq.frozen (p := ⟨q, 1, none⟩) hlq (by rw [mem_ownL]; exact hnq)).trans hff))
        all_goals
          have hgr := HM2.out.growL (W := ((w2.alloc (.cells (bv zeros).toArray 5)).alloc (.cells #[.slice (some ⟨w2.heap.size, 0, none⟩) 64 64] 37)).drew) ((((Only.refl [] w2).alloc _).alloc _).drew) (((IsBlk.made w2 _).alloc _).drew) (by simp; omega) hown' hO' (by simpa using hat')
          have hOn : Only [] w _ := (hOk.trans hgr.2).into (fun i hi => by
            have hq2 := Hq.out
            simp only [List.nil_append, List.mem_cons] at hi
            rcases hi with rfl | hi
            · exact .inr (by omega)
            · have := (owns_lt HM2.out.last (mem_ownL.1 hi)).1
              exact .inr (by omega))
          obtain ⟨hM2, _⟩ := hgr
          clear cc' hff' hown' hO' hat' hOq hnq cc hff hOk HM2
          generalize w'.setCell ⟨q, 1, none⟩ (.slice (some ⟨g', 0, none⟩) (k + 1) c') = w3 at *
          generalize Value.slice (some ⟨g', 0, none⟩) (k + 1) c' = vL2 at *
          have HM3 := Lib.hid hM2
          have hOk := hOn
          clear hM2 hOn
          have cc : w3.cell? ⟨q, 2, none⟩ = some vB := HM3.out.blk.cell 2
          have hlq := HM3.out.blk.lt
          have hff := HM3.out.blk.notFrozen 2
          go_wp2_with (refine wpList_app1 73 4 _ 1 Tryz.underlying73 info4 rfl (by omega) rfl _ _ rfl (q + 1) vB k (List.replicate k (.bool false)) rfl (owns_only HM3.out.new (S := []) ((Only.refl [] w3).alloc _) (by simp)) (by omega) _ _ (.bool false) rfl ?hy rfl ?hb ?_; (case hy => simp); (case hb => simp; omega); intro g' c' w' hown' hO' hat'; have hnq : vB.ownBlock ≠ some q := owns_ne HM3.out.new HM3.out.blk (by decide); have hOq : Only (ownL vB) w3 w' := ((Only.refl [] w3).alloc (.cells #[.bool false] 4)).moreAnd hO'; have cc' : w'.cell? ⟨q, 2, none⟩ = some vB := (hOq.cell (p := ⟨q, 2, none⟩) hlq (by rw [mem_ownL]; exact hnq)).trans cc; have hff' : w'.frozen? ⟨q, 2, none⟩ = false := (hOq.frozen (p := ⟨q, 2, none⟩) hlq (by rw [mem_ownL]; exact hnq)).trans hff)
          have hgr := HM3.out.growB (W := w3.alloc (.cells #[.bool false] 4)) ((Only.refl [] w3).alloc _) hown' hO'
          have hOn : Only [] w _ := (hOk.trans hgr.2).into (fun i hi => by
            have hq2 := Hq.out
            simp only [List.nil_append, List.mem_cons] at hi
            rcases hi with rfl | hi
            · exact .inr (by omega)
            · have := (owns_lt HM3.out.new (mem_ownL.1 hi)).1
              exact .inr (by omega))
          exact ⟨⟨k + 1, by omega, by go_num, ⟨_, _, _, _, _, hgr.1⟩, hOn⟩, by simp [intOf]; omega⟩
    · have hge : ¬ (k : Int) < (n : Int) := by omega
      obtain rfl : k = n := by omega
      have HR := Lib.hid hRk
      clear hRk
      go_wp2
      go_ret2
      obtain ⟨R, hRq, hRef⟩ := ref_made HR.out (by omega) (by omega)
      exact ⟨R, by rw [hRq]; rfl, hRef, hOk⟩

end Go.Proofs.YtfampoblcielpaaGreat
