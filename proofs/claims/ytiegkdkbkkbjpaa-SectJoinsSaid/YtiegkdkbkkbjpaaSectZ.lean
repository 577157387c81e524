/-
  A row of Parts that is written: what the law SectJoins does to one, as facts on worlds.
-/
import Derived.Test.YtiegkdkbkkbjpaaSectY
namespace Go.Proofs.Ytiegkdkbkkbjpaa
open Go.RowKit

theorem blk_setCells {g : Nat} {t : TypeId} : ∀ (vs : List Value) (o : Nat) (w : World) (cur : Array Value), IsBlk w g (.cells cur t) → ∃ cur', IsBlk (w.setCells g o vs) g (.cells cur' t) ∧ cur'.size = cur.size
  | [], _, _, cur, h => ⟨cur, h, rfl⟩
  | v :: r, o, w, cur, h => by
    obtain ⟨cur', h1, h2⟩ := blk_setCells r (o + 1) _ _ (h.put o v)
    exact ⟨cur', h1, by rw [h2]; simp⟩
theorem rangeAt_set1 {w : World} {g o j : Nat} {cs : List Value} {cur : Array Value} {t : TypeId} (hb : IsBlk w g (.cells cur t)) (h : w.rangeAt g o cs) (hj : j < cs.length) (v : Value) : (w.setCell ⟨g, o + j, none⟩ v).rangeAt g o (cs.set j v) := by
  intro i u hu
  have hoj : o + j < cur.size := by
    have := h j _ (List.getElem?_eq_getElem hj)
    rw [hb.cell] at this
    exact (Array.getElem?_eq_some_iff.1 this).1
  rw [(hb.put (o + j) v).cell]
  rw [List.getElem?_set] at hu
  by_cases hij : j = i
  · subst hij
    rw [if_pos rfl, if_pos hj] at hu
    rw [Array.getElem?_setIfInBounds_self_of_lt hoj]; exact hu
  · rw [if_neg hij] at hu
    rw [Array.getElem?_setIfInBounds_ne (by omega), ← hb.cell]
    exact h i u hu
theorem rangeAt_setFar {w : World} {g o x : Nat} {cs : List Value} (h : w.rangeAt g o cs) (v : Value) (hx : x < o ∨ o + cs.length ≤ x) : (w.setCell ⟨g, x, none⟩ v).rangeAt g o cs := by
  have := World.rangeAt_setCells_apart h g x [v] (.inr (by simp; omega))
  exact this

/-- A row of the reference's Parts whose block is known, each one's bytes in a block of bytes. -/
structure MRow (w : World) (g : Nat) (ps : List PartM) : Prop where
  row : ∃ cur, IsBlk w g (.cells cur 28) ∧ ps.length * 5 ≤ cur.size
  pt : ∀ i p, ps[i]? = some p → ∃ gi ci cu, w.rangeAt g (i * 5) (partC p.g p.r p.n p.o (some ⟨gi, 0, none⟩) p.d.length ci) ∧ IsBlk w gi (.cells cu 5) ∧ w.rangeAt gi 0 (bv p.d) ∧ p.d.length ≤ ci
theorem MRow.parts {w : World} {g : Nat} {ps : List PartM} (h : MRow w g ps) : PartsAt w (some ⟨g, 0, none⟩) ps.length ps := by
  obtain ⟨cur, hb, _⟩ := h.row
  refine ⟨rfl, fun _ => ⟨g, 0, rfl, hb.lt, fun i p hi => ?_⟩⟩
  obtain ⟨gi, ci, cu, hr, hbi, hri, _⟩ := h.pt i p hi
  exact ⟨some ⟨gi, 0, none⟩, ci, by rw [Nat.zero_add]; exact hr, rfl, fun _ => ⟨gi, 0, rfl, hbi.lt, hri⟩⟩
theorem MRow.more {w w' : World} {g : Nat} {ps : List PartM} (h : MRow w g ps) (hO : Only [] w w') : MRow w' g ps := by
  obtain ⟨cur, hb, hs⟩ := h.row
  refine ⟨⟨cur, hb.only hO (by simp), hs⟩, fun i p hi => ?_⟩
  obtain ⟨gi, ci, cu, hr, hbi, hri, hc⟩ := h.pt i p hi
  exact ⟨gi, ci, cu, rangeAt_only hr hO hb.lt (by simp), hbi.only hO (by simp), rangeAt_only hri hO hbi.lt (by simp), hc⟩
theorem ref_ne_bytes {w : World} {g x : Nat} {c c' : Array Value} (h : IsBlk w g (.cells c 28)) (h' : IsBlk w x (.cells c' 5)) : x ≠ g := by
  intro e; subst e
  have := IsBlk.same h h'
  injection this with _ h2 _
  exact absurd h2 (by decide)

/-- A Part stored at place k. -/
theorem MRow.setPart {w : World} {g k : Nat} {ps : List PartM} (h : MRow w g ps) (hk : k < ps.length) (q : PartM) (gq cq : Nat) (cu : Array Value) (hq : IsBlk w gq (.cells cu 5)) (hrq : w.rangeAt gq 0 (bv q.d)) (hcq : q.d.length ≤ cq) :
    MRow (w.setCells g (k * 5) (partC q.g q.r q.n q.o (some ⟨gq, 0, none⟩) q.d.length cq)) g (ps.set k q) := by
  obtain ⟨cur, hb, hs⟩ := h.row
  obtain ⟨cur', hb', hs'⟩ := blk_setCells (partC q.g q.r q.n q.o (some ⟨gq, 0, none⟩) q.d.length cq) (k * 5) w cur hb
  have far : ∀ x c l, IsBlk w x (.cells c 5) → w.rangeAt x 0 (bv l) → IsBlk (w.setCells g (k * 5) (partC q.g q.r q.n q.o (some ⟨gq, 0, none⟩) q.d.length cq)) x (.cells c 5) ∧ (w.setCells g (k * 5) (partC q.g q.r q.n q.o (some ⟨gq, 0, none⟩) q.d.length cq)).rangeAt x 0 (bv l) := fun x c l hx hl => by
    have hne := ref_ne_bytes hb hx
    exact ⟨(heap_setCells_other g _ _ _ x hne).trans hx, World.rangeAt_setCells_apart hl g _ _ (.inl hne)⟩
  refine ⟨⟨cur', hb', by rw [hs', List.length_set]; exact hs⟩, fun i p hi => ?_⟩
  rw [List.getElem?_set] at hi
  by_cases hik : k = i
  · subst hik
    rw [if_pos rfl, if_pos hk] at hi
    injection hi with hi
    subst hi
    obtain ⟨h1, h2⟩ := far gq cu q.d hq hrq
    exact ⟨gq, cq, cu, World.rangeAt_setCells_same w g (k * 5) _ (there_blk hb (k * 5) 5 (by omega)), h1, h2, hcq⟩
  · rw [if_neg hik] at hi
    obtain ⟨gi, ci, cu', hr, hbi, hri, hc⟩ := h.pt i p hi
    obtain ⟨h1, h2⟩ := far gi cu' p.d hbi hri
    exact ⟨gi, ci, cu', World.rangeAt_setCells_apart hr g _ _ (.inr (by simp [partC]; omega)), h1, h2, hc⟩

/-- One cell of a Part's stored. -/
theorem MRow.setOne {w : World} {g k j : Nat} {ps : List PartM} (h : MRow w g ps) (hk : k < ps.length) (hj : j < 5) (v : Value) (q : PartM)
    (hq : ∀ gi ci cu, w.rangeAt g (k * 5) (partC (ps[k]).g (ps[k]).r (ps[k]).n (ps[k]).o (some ⟨gi, 0, none⟩) (ps[k]).d.length ci) → IsBlk w gi (.cells cu 5) → w.rangeAt gi 0 (bv (ps[k]).d) → (ps[k]).d.length ≤ ci →
      ∃ ci', (partC (ps[k]).g (ps[k]).r (ps[k]).n (ps[k]).o (some ⟨gi, 0, none⟩) (ps[k]).d.length ci).set j v = partC q.g q.r q.n q.o (some ⟨gi, 0, none⟩) q.d.length ci' ∧ w.rangeAt gi 0 (bv q.d) ∧ q.d.length ≤ ci') :
    MRow (w.setCell ⟨g, k * 5 + j, none⟩ v) g (ps.set k q) := by
  obtain ⟨cur, hb, hs⟩ := h.row
  have far : ∀ x c l, IsBlk w x (.cells c 5) → w.rangeAt x 0 (bv l) → IsBlk (w.setCell ⟨g, k * 5 + j, none⟩ v) x (.cells c 5) ∧ (w.setCell ⟨g, k * 5 + j, none⟩ v).rangeAt x 0 (bv l) := fun x c l hx hl => by
    have hne := ref_ne_bytes hb hx
    exact ⟨hx.away hne v, World.rangeAt_setCells_apart hl g (k * 5 + j) [v] (.inl hne)⟩
  refine ⟨⟨_, hb.put _ v, by simpa using hs⟩, fun i p hi => ?_⟩
  rw [List.getElem?_set] at hi
  by_cases hik : k = i
  · subst hik
    rw [if_pos rfl, if_pos hk] at hi
    injection hi with hi
    subst hi
    obtain ⟨gi, ci, cu, hr, hbi, hri, hc⟩ := h.pt k ps[k] (List.getElem?_eq_getElem hk)
    obtain ⟨ci', e1, h1, h2⟩ := hq gi ci cu hr hbi hri hc
    obtain ⟨f1, f2⟩ := far gi cu q.d hbi h1
    refine ⟨gi, ci', cu, ?_, f1, f2, h2⟩
    rw [← e1]
    exact rangeAt_set1 hb hr (by simp [partC]; omega) v
  · rw [if_neg hik] at hi
    obtain ⟨gi, ci, cu', hr, hbi, hri, hc⟩ := h.pt i p hi
    obtain ⟨f1, f2⟩ := far gi cu' p.d hbi hri
    exact ⟨gi, ci, cu', rangeAt_setFar hr v (by simp [partC]; omega), f1, f2, hc⟩

/-- A byte of a block of bytes stored: the row's Parts are some Parts again, as many. -/
theorem MRow.byte {w : World} {g x y m : Nat} {ps : List PartM} {cx : Array Value} (h : MRow w g ps) (hx : IsBlk w x (.cells cx 5)) (hm : m < 256) : ∃ ps', ps'.length = ps.length ∧ (∀ q ∈ ps', ∃ p ∈ ps, q.d.length = p.d.length) ∧ MRow (w.setCell ⟨x, y, none⟩ (.int .u8 (m : Int))) g ps' := by
  obtain ⟨cur, hb, hs⟩ := h.row
  have hne := ref_ne_bytes hb hx
  have key : ∀ k, k ≤ ps.length → ∃ qs : List PartM, qs.length = k ∧ (∀ q ∈ qs, ∃ p ∈ ps, q.d.length = p.d.length) ∧ ∀ i q, qs[i]? = some q → ∃ gi ci cu, (w.setCell ⟨x, y, none⟩ (.int .u8 (m : Int))).rangeAt g (i * 5) (partC q.g q.r q.n q.o (some ⟨gi, 0, none⟩) q.d.length ci) ∧ IsBlk (w.setCell ⟨x, y, none⟩ (.int .u8 (m : Int))) gi (.cells cu 5) ∧ (w.setCell ⟨x, y, none⟩ (.int .u8 (m : Int))).rangeAt gi 0 (bv q.d) ∧ q.d.length ≤ ci := by
    intro k
    induction k with
    | zero => intro _; exact ⟨[], rfl, (fun q h => by simp at h), fun i q h => by simp at h⟩
    | succ k ih =>
      intro hk
      obtain ⟨qs, hl, hdd, hall⟩ := ih (by omega)
      obtain ⟨gi, ci, cu, hr, hbi, hri, hc⟩ := h.pt k ps[k] (List.getElem?_eq_getElem (by omega))
      have hr' : (w.setCell ⟨x, y, none⟩ (.int .u8 (m : Int))).rangeAt g (k * 5) (partC (ps[k]).g (ps[k]).r (ps[k]).n (ps[k]).o (some ⟨gi, 0, none⟩) (ps[k]).d.length ci) := World.rangeAt_setCells_apart hr x y [.int .u8 (m : Int)] (.inl (Ne.symm hne))
      obtain ⟨q, hqd, hq⟩ : ∃ q : PartM, q.d.length = (ps[k]).d.length ∧ ∃ gi ci cu, (w.setCell ⟨x, y, none⟩ (.int .u8 (m : Int))).rangeAt g (k * 5) (partC q.g q.r q.n q.o (some ⟨gi, 0, none⟩) q.d.length ci) ∧ IsBlk (w.setCell ⟨x, y, none⟩ (.int .u8 (m : Int))) gi (.cells cu 5) ∧ (w.setCell ⟨x, y, none⟩ (.int .u8 (m : Int))).rangeAt gi 0 (bv q.d) ∧ q.d.length ≤ ci := by
        by_cases hgx : gi = x
        · subst hgx
          by_cases hy : y < (ps[k]).d.length
          · refine ⟨⟨(ps[k]).g, (ps[k]).r, (ps[k]).n, (ps[k]).o, (ps[k]).d.set y (UInt8.ofNat m)⟩, by simp, gi, ci, _, by simpa using hr', hbi.put y _, ?_, by simpa using hc⟩
            have := rangeAt_set1 hbi hri (j := y) (by rw [length_bv]; exact hy) (.int .u8 (m : Int))
            rw [Nat.zero_add] at this
            rw [bv_set, show (((UInt8.ofNat m).toNat : Nat) : Int) = (m : Int) by simp; omega]
            exact this
          · exact ⟨ps[k], rfl, gi, ci, _, hr', hbi.put y _, rangeAt_setFar hri _ (by rw [length_bv]; omega), hc⟩
        · exact ⟨ps[k], rfl, gi, ci, cu, hr', hbi.away hgx _, World.rangeAt_setCells_apart hri x y [.int .u8 (m : Int)] (.inl hgx), hc⟩
      refine ⟨qs ++ [q], by simp [hl], fun q' hq' => ?_, fun i p hi => ?_⟩
      · simp at hq'
        rcases hq' with h' | h'
        · exact hdd q' h'
        · subst h'; exact ⟨_, List.getElem_mem _, hqd⟩
      rcases Nat.lt_or_ge i qs.length with hlt | hge
      · rw [List.getElem?_append_left hlt] at hi; exact hall i p hi
      · rw [List.getElem?_append_right hge] at hi
        have hik : i = k := by have := (List.getElem?_eq_some_iff.1 hi).1; simp at this; omega
        subst hik
        simp [hl] at hi
        subst hi
        exact hq
  obtain ⟨qs, hl, hdd, hall⟩ := key ps.length (Nat.le_refl _)
  exact ⟨qs, hl, hdd, ⟨cur, hb.away (a := ⟨x, y, none⟩) (Ne.symm hne) _, by rw [hl]; exact hs⟩, hall⟩

end Go.Proofs.Ytiegkdkbkkbjpaa
