/-
  Rows of the package sect's Parts; from the reference's rows to rows that are written.
-/
import Derived.Test.YtiegkdkbkkbjpaaSectZ
namespace Go.Proofs.Ytiegkdkbkkbjpaa
open Go.RowKit

/-- Parts of the package sect in a row of one's own. -/
def SecRow (w : World) (B : Nat) (v : Value) (ps : List PartM) : Prop :=
  ∃ xs, w.ownsRow B 33 5 v ps.length xs ∧ ∀ i p, ps[i]? = some p → PieceAt w B xs i p
theorem SecRow.nil (w : World) (B : Nat) : SecRow w B (.slice none 0 0) [] := ⟨[], World.ownsRow_nil _ _ _ _, fun i p h => by simp at h⟩
theorem SecRow.parts {w : World} {B : Nat} {v : Value} {ps : List PartM} (h : SecRow w B v ps) : ∃ a cap, v = .slice a ps.length cap ∧ PartsAt w a ps.length ps := by
  obtain ⟨xs, ho, hp⟩ := h
  rcases ho.2 with ⟨rfl, h0⟩ | ⟨g, cap, cur, rfl, hb, hg, hnc, _, hsz, htake⟩
  · exact ⟨none, 0, by rw [h0], rfl, fun h => by omega⟩
  · refine ⟨_, cap, rfl, rfl, fun _ => ⟨g, 0, rfl, IsBlk.lt hg, fun i p hi => ?_⟩⟩
    obtain ⟨gi, ci, cur', hc, hb', hr, _⟩ := hp i p hi
    refine ⟨some ⟨gi, 0, none⟩, ci, fun j u hu => ?_, rfl, fun _ => ⟨gi, 0, rfl, hb'.lt, hr⟩⟩
    have := World.ownsRow.cells ho (g := g) rfl (i * 5 + j) u (hc j u hu)
    rw [Addr.add_mid] at this
    rw [Nat.zero_add, ← Nat.zero_add (i * 5 + j)] at *
    exact this
theorem SecRow.more {w w' : World} {B : Nat} {v : Value} {ps : List PartM} (h : SecRow w B v ps) (hO : Only [] w w') : SecRow w' B v ps := by
  obtain ⟨xs, ho, hp⟩ := h
  refine ⟨xs, ⟨ho.1, ?_⟩, fun i p hi => ?_⟩
  · rcases ho.2 with hn | ⟨g, cap, cur, rfl, hb, hg, rest⟩
    · exact .inl hn
    · exact .inr ⟨g, cap, cur, rfl, hb, IsBlk.only hg hO (by simp), rest⟩
  · obtain ⟨gi, ci, cur', hc, hb', hr, hB⟩ := hp i p hi
    exact ⟨gi, ci, cur', hc, hb'.only hO (by simp), rangeAt_only hr hO hb'.lt (by simp), hB⟩

/-- One Part more. -/
theorem SecRow.snoc {w w' : World} {B : Nat} {v v' : Value} {ps : List PartM} {xs : List Value} {p : PartM} {gi ci : Nat} {cur : Array Value}
    (hxs : w.ownsRow B 33 5 v ps.length xs) (hp : ∀ i q, ps[i]? = some q → PieceAt w B xs i q)
    (hg : IsBlk w gi (.cells cur 5)) (hr : w.rangeAt gi 0 (bv p.d)) (hB : B ≤ gi) (hci : p.d.length ≤ ci)
    (ho : w'.ownsRow B 33 5 v' (ps.length + 1) (xs ++ partC p.g p.r p.n p.o (some ⟨gi, 0, none⟩) p.d.length ci)) (hgr : w.grownBy w' v.ownBlock) : SecRow w' B v' (ps ++ [p]) := by
  have hfar : ∀ x c, IsBlk w x (.cells c 5) → some x ≠ v.ownBlock := fun x c hx e => by
    rcases hxs.2 with ⟨rfl, _⟩ | ⟨g, cap, cur', rfl, _, hg', _⟩
    · simp [Value.ownBlock] at e
    · simp [Value.ownBlock] at e; subst e
      have := IsBlk.same hx hg'
      injection this with _ h2 _
      exact absurd h2 (by decide)
  have hkeep : ∀ x c l, IsBlk w x (.cells c 5) → w.rangeAt x 0 (bv l) → IsBlk w' x (.cells c 5) ∧ w'.rangeAt x 0 (bv l) := fun x c l hx hl => by
    have e := hgr.block x hx.lt (hfar x c hx)
    exact ⟨e.trans hx, fun j u hu => (World.cell?_of_block (w := w) (a := ⟨x, 0 + j, none⟩) e).trans (hl j u hu)⟩
  have hlx := hxs.1
  refine ⟨_, by simpa using ho, fun i q hi => ?_⟩
  rcases Nat.lt_or_ge i ps.length with hlt | hge
  · rw [List.getElem?_append_left hlt] at hi
    obtain ⟨gj, cj, cur', hc, hb', hr', hB'⟩ := hp i q hi
    obtain ⟨k1, k2⟩ := hkeep gj cur' q.d hb' hr'
    refine ⟨gj, cj, cur', fun j u hu => ?_, k1, k2, hB'⟩
    have := hc j u hu
    rw [List.getElem?_append_left (List.getElem?_eq_some_iff.1 this).1]
    exact this
  · rw [List.getElem?_append_right hge] at hi
    have hi0 : i = ps.length := by have := (List.getElem?_eq_some_iff.1 hi).1; simp at this; omega
    subst hi0
    simp at hi
    subst hi
    obtain ⟨k1, k2⟩ := hkeep gi cur p.d hg hr
    refine ⟨gi, ci, cur, fun j u hu => ?_, k1, k2, hB, hci⟩
    rw [List.getElem?_append_right (by omega), show ps.length * 5 + j - xs.length = j by omega]
    exact hu


theorem RefRow.mrow {w : World} {B : Nat} {v : Value} {ps : List PartM} (h : RefRow w B v ps) (hp : 0 < ps.length) : ∃ g c, v = .slice (some ⟨g, 0, none⟩) ps.length c ∧ MRow w g ps ∧ ps.length ≤ c ∧ B ≤ g := by
  obtain ⟨xs, ho, hpt⟩ := h
  rcases ho.2 with ⟨_, h0⟩ | ⟨g, cap, cur, rfl, hb, hg, hnc, _, hsz, htake⟩
  · omega
  · refine ⟨g, cap, rfl, ⟨⟨cur, hg, by rw [hsz]; exact Nat.mul_le_mul_right _ hnc⟩, fun i p hi => ?_⟩, hnc, hb⟩
    obtain ⟨gi, ci, cu, hc, hbi, hr, _, hcl⟩ := hpt i p hi
    refine ⟨gi, ci, cu, fun j u hu => ?_, hbi, hr, hcl⟩
    have := World.ownsRow.cells ho (g := g) rfl (i * 5 + j) u (hc j u hu)
    rw [Addr.add_mid, Nat.zero_add] at this
    exact this

end Go.Proofs.Ytiegkdkbkkbjpaa
