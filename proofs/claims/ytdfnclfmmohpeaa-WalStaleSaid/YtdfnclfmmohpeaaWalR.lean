/-
  A log with its rows written down beside it, told whole; the step that appends to both.
-/
import Derived.Test.YtdfnclfmmohpeaaWalO
import Derived.Test.YtdfnclfmmohpeaaWalQ
namespace Go.Proofs.Ytdfnclfmmohpeaa
set_option maxRecDepth 100000
set_option linter.unusedVariables false
open Go.RowKit

/-- A log with its rows written down beside it. -/
structure WX (w W : World) (lp pd bl bm base : Nat) (D : DS) (L : LS) (v : Value) (rs : List (List UInt8)) (k : Int) : Prop where
  log : WL W lp pd bl bm D L rs k
  row : OwnBs W base [lp, pd, bl, bm] v rs
  k0 : 0 ≤ k
  only : Only [] w W
  lpw : w.heap.size ≤ lp
  pdw : w.heap.size ≤ pd
  blw : w.heap.size ≤ bl
  bmw : w.heap.size ≤ bm
  lpb : lp < base
  pdb : pd < base
  blb : bl < base
  bmb : bm < base
  bsz : base ≤ W.heap.size

section
variable {w W W' : World} {lp pd bl bm base : Nat} {D D' : DS} {L L' : LS} {v : Value} {rs rs' : List (List UInt8)} {k k' : Int}
theorem WL.kept {S : List Nat} (h : WL W lp pd bl bm D L rs k) (hO : Only S W W') (h0 : lp ∉ S) (h1 : pd ∉ S) (h2 : bl ∉ S) (h3 : bm ∉ S) : WL W' lp pd bl bm D L rs k :=
  ⟨h.disk.keep hO h1 h2 h3, h.log.keep hO h0, h.live, h.ok, h.ne⟩
theorem WX.more (h : WX w W lp pd bl bm base D L v rs k) (hO : Only [] W W') : WX w W' lp pd bl bm base D L v rs k :=
  ⟨h.log.more hO, h.row.more hO, h.k0, h.only.plus hO, h.lpw, h.pdw, h.blw, h.bmw, h.lpb, h.pdb, h.blb, h.bmb, Nat.le_trans h.bsz hO.size⟩
/-- The blocks of the disk and the log are new, and older than the rows. -/
theorem WX.news (h : WX w W lp pd bl bm base D L v rs k) : ∀ i ∈ [lp, pd, bl, bm], w.heap.size ≤ i ∧ i < base := by
  have := h.lpw; have := h.pdw; have := h.blw; have := h.bmw; have := h.lpb; have := h.pdb; have := h.blb; have := h.bmb
  simp; omega
/-- The log has turned, its rows stand as they were written down. -/
theorem WX.turn (h : WX w W lp pd bl bm base D L v rs k) (hO : Only [lp, pd, bl, bm] W W') : OwnBs W' base [lp, pd, bl, bm] v rs ∧ Only [] w W' ∧ base ≤ W'.heap.size :=
  ⟨h.row.keep hO (fun i hi => ⟨hi, (h.news i hi).2⟩), h.only.then hO [] (by simp) (fun i hi => .inr (h.news i hi).1), Nat.le_trans h.bsz hO.size⟩
theorem WX.mk' (h : WX w W lp pd bl bm base D L v rs k) (hO : Only [lp, pd, bl, bm] W W') (hW : WL W' lp pd bl bm D' L' rs k') (hk : 0 ≤ k') : WX w W' lp pd bl bm base D' L' v rs k' :=
  ⟨hW, (h.turn hO).1, hk, (h.turn hO).2.1, h.lpw, h.pdw, h.blw, h.bmw, h.lpb, h.pdb, h.blb, h.bmb, (h.turn hO).2.2⟩
end

/-- The row's append as the walk meets it: a new one beside a log to which the same was appended. -/
theorem wpList_push {ops : Array Oper} {rest : List Oper} {op : Oper} {a : Act} {Q : Exit → Act → World → Prop} {w W0 W : World} {lp pd bl bm base : Nat} {D D' : DS} {L L' : LS} {v : Value} {rs : List (List UInt8)} {k k' : Int} {da : Option Addr} {dc : Nat} {c : List UInt8}
    (h : WX w W0 lp pd bl bm base D L v rs k) (hO : Only [lp, pd, bl, bm] W0 W) (hW : WL W lp pd bl bm D' L' (rs ++ [c]) k') (hk : 0 ≤ k') (hs : Src W da c.length c) (hd : 0 < c.length → ∀ x y, da = some ⟨x, y, none⟩ → x < w.heap.size)
    (hgd : op.guard = none) (s x : Operand) (ho : op.op = .call { callee := .builtin .append, args := #[s, x], argTypes := #[32, 32] }) (hs' : a.eval s = v) (g cc : Nat) (hx : a.eval x = .slice (some ⟨g, 0, none⟩) 1 cc) (hg : g = W.heap.size)
    (hn : ∀ v' W', WX w W' lp pd bl bm base D' L' v' (rs ++ [c]) k' → wpList Try.prog ops Q rest (a.put op.dst v') W') :
    wpList Try.prog ops Q (op :: rest) a (W.alloc (.cells #[.slice da c.length dc] 23)) := by
  subst hg
  obtain ⟨hB, hOw, hbz⟩ := h.turn hO
  obtain ⟨xs, hown, hxs⟩ := hB
  have hA : Only [] W (W.alloc (.cells #[.slice da c.length dc] 23)) := (Only.refl [] W).alloc _
  have hrl : rs.length ≤ 128 := by have := hW.seqB; simp at this; omega
  have Hxs : ∀ (i : Nat) (r : List UInt8), rs[i]? = some r → ∃ da' dc', xs[i]? = some (Value.slice da' r.length dc') ∧ Src (W.alloc (.cells #[.slice da c.length dc] 23)) da' r.length r ∧ (0 < r.length → ∀ b o, da' = some ⟨b, o, none⟩ → b ∉ [lp, pd, bl, bm] ∧ v.ownBlock ≠ some b) :=
    fun i r hi => by obtain ⟨d1, c1, h1, h2, h3⟩ := hxs i r hi; exact ⟨d1, c1, h1, h2.more hA, h3⟩
  have Hdb : 0 < c.length → ∀ b' o, da = some ⟨b', o, none⟩ → b' ∉ [lp, pd, bl, bm] ∧ v.ownBlock ≠ some b' := fun hp b' o e => by
    have h1 := hd hp b' o e
    refine ⟨fun hm => by have := (h.news b' hm).1; omega, fun e2 => ?_⟩
    have h2 := (owns_lt hown e2).1
    have := h.lpb; have := h.lpw; omega
  refine wpList_app1 32 23 (.slice none 0 0) 24 Try.underlying32 info34 rfl (by omega) hgd s x ho base v rs.length xs hs' (hown.alloc _) (by omega) W.heap.size cc (.slice da c.length dc) hx (IsBlk.cell (IsBlk.made W _) 0) rfl (by have := hA.size; omega) ?_
  intro g2 c2 w2 ho2 hO2 hat2
  have hown2 : ∀ x, x < base → x ∉ ownL v := fun x hx hm => by have := (owns_lt hown (mem_ownL.1 hm)).1; omega
  exact hn _ _ ⟨(hW.more hA).kept hO2 (hown2 _ h.lpb) (hown2 _ h.pdb) (hown2 _ h.blb) (hown2 _ h.bmb), OwnBs.app (hown.alloc _) Hxs (hs.more hA) Hdb ho2 hO2 hat2, hk,
    (hOw.plus hA).then hO2 [] (by simp) (fun i hi => .inr (by have := (owns_lt hown (mem_ownL.1 hi)).1; have := h.lpw; have := h.lpb; omega)), h.lpw, h.pdw, h.blw, h.bmw, h.lpb, h.pdb, h.blb, h.bmb, by have := hA.size; have := hO2.size; omega⟩

/-- The bytes at the head of a slice, as many as may be. -/
theorem take_len (r : List UInt8) (m : Nat) : r.take (r.take m).length = r.take m := by
  rw [List.length_take]
  by_cases hx : m ≤ r.length
  · rw [Nat.min_eq_left hx]
  · rw [Nat.min_eq_right (by omega), List.take_of_length_le (Nat.le_refl _), List.take_of_length_le (by omega)]

end Go.Proofs.Ytdfnclfmmohpeaa
