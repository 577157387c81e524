/-
  Laws at single operations for the walks: a whole row stored into the newest block, a copy into the newest block. No program is named here.
-/
import Derived.Test.YtgkddbpfjbgelaaBase
import Derived.Deep.WholeRow
import Derived.Deep.MidRow
import Derived.Laws.CopyOwn
import Derived.Tactics
import Derived.WalkKit
import Derived.StillTailTactics
namespace Go.Proofs.Ytgkddbpfjbgelaa
set_option linter.unusedVariables false
set_option maxRecDepth 100000
open Go.RowKit
variable {P : Program}

theorem wpList_store_new {ops : Array Oper} {rest : List Oper} {op : Oper} {a : Act} {W : World} {Q : Exit → Act → World → Prop} (hgd : op.guard = none) (ty : TypeId) (x y : Operand) (ho : op.op = .store ty x y)
    (c c' : Array Value) (g : Nat) (hg : g = W.heap.size) (hx : a.eval x = .pointer (some ⟨g, 0, none⟩)) (hy : a.eval y = .agg c') (hi : (P.info? ty).map (·.size) = some c'.size) (hc : c.size = c'.size) (h1 : c'.all (·.oneCell') = true)
    (h : wpList P ops Q rest (a.put op.dst undef) (W.alloc (.cells c' ty))) : wpList P ops Q (op :: rest) a (W.alloc (.cells c ty)) := by
  subst hg
  refine wpList_plain hgd fun K hK => ?_
  unfold Oper.wp execOp
  have hr := run_storeAt_new (P := P) W ty c c' hi hc h1
  simp only [ho, hx, hy, Sem.run_bind, hr, Result.andThen_ok]
  exact hK _ _ h

theorem setRow_new (W : World) (c c' : Array Value) (e : TypeId) : (W.alloc (.cells c e)).setRow W.heap.size c' = W.alloc (.cells c' e) := World.setRow_alloc_new W c c' e

theorem wpList_copy_new {ops : Array Oper} {rest : List Oper} {o : Oper} {a : Act} {W : World} {Q : Exit → Act → World → Prop} (hgd : o.guard = none) (d s : Operand) (dT sT : TypeId)
    (ho : o.op = .call { callee := .builtin .copy, args := #[d, s], argTypes := #[dT, sT] }) (elem : TypeId) (hu : P.underlying dT = some (.slice elem)) (hsz : (P.info? elem).map (·.size) = some 1)
    (c : Array Value) (e : TypeId) (g m dCap : Nat) (hg : g = W.heap.size) (hd : a.eval d = .slice (some ⟨g, 0, none⟩) m dCap) (b off sCap : Nat) (hs : a.eval s = .slice (some ⟨b, off, none⟩) m sCap)
    (cs : List Value) (hn : cs.length = m) (hc : c.size = m) (hsrc : (W.alloc (.cells c e)).rangeAt b off cs) (h1 : ∀ v ∈ cs, v.oneCell' = true)
    (h : wpList P ops Q rest (a.put o.dst (goInt cs.length)) (W.alloc (.cells cs.toArray e))) : wpList P ops Q (o :: rest) a (W.alloc (.cells c e)) := by
  subst hg
  refine wpList_copy_own hgd d s dT sT ho elem hu hsz W.heap.size 0 m dCap ⟨b, off, none⟩ m sCap hd hs c e (heap_alloc_new W _) cs (by rw [hn]; exact (Nat.min_self m).symm)
    (fun j v hv => by rw [Addr.add_mid]; exact hsrc j v hv) (by omega) h1 ?_
  have e1 : (c.toList.take 0 ++ (cs ++ c.toList.drop (0 + cs.length))).toArray = cs.toArray := by
    have : c.toList.drop (0 + cs.length) = [] := List.drop_eq_nil_of_le (by simp; omega)
    simp only [List.take_zero, List.nil_append, this, List.append_nil]
  rw [e1, setRow_new]
  exact h

/-- A copy of whatever length into the newest block, from its head on. -/
theorem wpList_copy_part {ops : Array Oper} {rest : List Oper} {o : Oper} {a : Act} {W : World} {Q : Exit → Act → World → Prop} (hgd : o.guard = none) (d s : Operand) (dT sT : TypeId)
    (ho : o.op = .call { callee := .builtin .copy, args := #[d, s], argTypes := #[dT, sT] }) (elem : TypeId) (hu : P.underlying dT = some (.slice elem)) (hsz : (P.info? elem).map (·.size) = some 1)
    (c : Array Value) (e : TypeId) (g m dCap : Nat) (hg : g = W.heap.size) (hd : a.eval d = .slice (some ⟨g, 0, none⟩) m dCap) (sa : Option Addr) (len sCap : Nat) (hs : a.eval s = .slice sa len sCap)
    (cs : List Value) (hn : cs.length = Nat.min len m) (hc : c.size = m) (hsrc : 0 < cs.length → ∃ b off, sa = some ⟨b, off, none⟩ ∧ (W.alloc (.cells c e)).rangeAt b off cs) (h1 : ∀ v ∈ cs, v.oneCell' = true)
    (h : wpList P ops Q rest (a.put o.dst (goInt cs.length)) (W.alloc (.cells (cs ++ c.toList.drop cs.length).toArray e))) : wpList P ops Q (o :: rest) a (W.alloc (.cells c e)) := by
  subst hg
  by_cases h0 : cs.length = 0
  · obtain rfl : cs = [] := List.eq_nil_of_length_eq_zero h0
    refine wpList_copy_nothing hgd d s dT sT ho elem hu hsz _ _ m dCap len sCap hd hs (by simpa using hn.symm) ?_
    simpa using h
  · obtain ⟨b, off, rfl, hr⟩ := hsrc (by omega)
    have hmin : Nat.min len m ≤ m := Nat.min_le_right _ _
    refine wpList_copy_own hgd d s dT sT ho elem hu hsz W.heap.size 0 m dCap ⟨b, off, none⟩ len sCap hd hs c e (heap_alloc_new W _) cs hn
      (fun j v hv => by rw [Addr.add_mid]; exact hr j v hv) (by omega) h1 ?_
    have e1 : (c.toList.take 0 ++ (cs ++ c.toList.drop (0 + cs.length))).toArray = (cs ++ c.toList.drop cs.length).toArray := by simp
    rw [e1, setRow_new]
    exact h

/-- A region that draws its order and ends in operations of one order: the world behind the draw under its own name. -/
theorem still_tail {id : Nat} {Q : Exit → Act → World → Prop} {a : Act} {w : World} {l : List Oper} (n : Nat) (hm : P.follows .mixedOrders = true) (hB : Region.lexTailB .any l.toArray n = true)
    (h : wpStill P l.toArray w.drew (fun a' => wpList P l.toArray Q (l.drop n) a' w.drew) (l.take n) a) : (Code.region id l.toArray true).wp P Q a w := wp_region_still_tail n hm hB h

end Go.Proofs.Ytgkddbpfjbgelaa
