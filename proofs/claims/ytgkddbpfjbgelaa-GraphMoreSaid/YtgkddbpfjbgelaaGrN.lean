/-
  Parts of the package graph.
-/
import Derived.Test.YtgkddbpfjbgelaaGrM
namespace Go.Proofs.Ytgkddbpfjbgelaa
set_option maxRecDepth 100000
set_option linter.unusedVariables false
open Go.RowKit Go.Sort Go.Maps

/-- Edges in a slice, to be read. -/
def EdgesAt (w : World) (v : Value) (E : List (Nam × Nam)) : Prop :=
  ∃ a c, v = .slice a E.length c ∧ ∀ (i : Nat) (e : Nam × Nam), E[i]? = some e → ∃ g, a = some ⟨g, 0, none⟩ ∧ g < w.heap.size ∧ w.cell? ⟨g, i * 2, none⟩ = some (encStr e.1) ∧ w.cell? ⟨g, i * 2 + 1, none⟩ = some (encStr e.2)
theorem EdgesAt.more {w w' : World} {v : Value} {E : List (Nam × Nam)} (h : EdgesAt w v E) (hO : Only [] w w') : EdgesAt w' v E := by
  obtain ⟨a, c, e, h⟩ := h
  refine ⟨a, c, e, fun i x hx => ?_⟩
  obtain ⟨g, e, hg, h1, h2⟩ := h i x hx
  exact ⟨g, e, Nat.lt_of_lt_of_le hg hO.size, (hO.cell (p := ⟨g, i * 2, none⟩) hg (by simp)).trans h1, (hO.cell (p := ⟨g, i * 2 + 1, none⟩) hg (by simp)).trans h2⟩
/-- The edges between places. -/
def esOf (N : List Nam) (E : List (Nam × Nam)) : List Edg := E.flatMap (edgeI N)
theorem esOf_snoc (N : List Nam) (E : List (Nam × Nam)) (e : Nam × Nam) : esOf N (E ++ [e]) = esOf N E ++ edgeI N e := by simp [esOf]
theorem edgeI_len (N : List Nam) (e : Nam × Nam) : (edgeI N e).length ≤ 1 := by unfold edgeI; split <;> simp
theorem esOf_len (N : List Nam) : ∀ E : List (Nam × Nam), (esOf N E).length ≤ E.length
  | [] => by simp [esOf]
  | e :: r => by
    have := esOf_len N r
    have := edgeI_len N e
    simp only [esOf, List.flatMap_cons, List.length_append, List.length_cons] at *
    omega
theorem esOf_in (N : List Nam) (E : List (Nam × Nam)) : ∀ e ∈ esOf N E, e.1 < N.length ∧ e.2 < N.length := by
  intro e he
  unfold esOf at he
  rw [List.mem_flatMap] at he
  obtain ⟨x, hx, he⟩ := he
  unfold edgeI at he
  split at he
  · rename_i i j h1 h2
    simp at he
    subst he
    exact ⟨(idxN_some h1).1, (idxN_some h2).1⟩
  · simp at he

/-- Which places are in one part. -/
def samE (N : List Nam) (E : List (Nam × Nam)) : Nat → Nat → Prop := Same (nxF (nxOf N.length (esOf N E)))
/-- What Parts answers. -/
noncomputable def partsM (l : List Nam) (E : List (Nam × Nam)) : List (List Nam) := (partsF (sortS l).length (samE (sortS l) E)).map (tellM (sortS l))

def PartsRes (w : World) (l : List Nam) (E : List (Nam × Nam)) (r : Ending) (w' : World) : Prop := ∃ v, r = .returned v ∧ RowsN w' w.heap.size v (partsM l E) ∧ Only [] w w'

theorem partsF_lt (n : Nat) (E : Nat → Nat → Prop) : ∀ p ∈ partsF n E, p.length ≤ n ∧ ∀ k ∈ p, k < n := by
  classical
  intro p hp
  simp only [partsF, List.mem_map] at hp
  obtain ⟨i, -, rfl⟩ := hp
  refine ⟨?_, fun k hk => ?_⟩
  · have := List.length_filter_le (fun j => decide (E i j)) (List.range n)
    simpa using this
  · simpa using (List.mem_filter.1 hk).1
theorem partsF_len (n : Nat) (E : Nat → Nat → Prop) : (partsF n E).length ≤ n := by
  classical
  unfold partsF
  rw [List.length_map]
  have := List.length_filter_le (fun i => decide (∀ j, j < i → ¬ E i j)) (List.range n)
  simpa using this

set_option maxHeartbeats 16000000 in
theorem parts8_any (w : World) (v u : Value) (l : List Nam) (E : List (Nam × Nam)) (hl : NamsAt w v l) (hE : EdgesAt w u E) (hnd : l.Nodup) (hn : l.length ≤ 12) (hs : ∀ s ∈ l, s.length ≤ 100000) (hEl : E.length ≤ 10000) (hEs : ∀ e ∈ E, e.1.length ≤ 100000 ∧ e.2.length ≤ 100000) :
    Calls Try.prog 13 #[v, u] w (PartsRes w l E) := by
  have Hl := Lib.hid hl
  have HE := Lib.hid hE
  obtain ⟨av, cv, rfl, -⟩ := hl
  obtain ⟨au, cu, rfl, hE'⟩ := hE
  have HEc := Lib.hid hE'
  clear hE'
  go_enter Try.func13, Try.ntmps13
  go_wp2_with fail
  refine (newNet_any w _ l Hl.out hnd (by omega) hs).mono ?_
  rintro e w1 ⟨vN, bm, vn, vb, fp, rfl, hN, hO1⟩
  unfold netV
  obtain ⟨hv1, hv2⟩ : vn.oneCell' = true ∧ vb.oneCell' = true := by
    obtain ⟨f1, f2, ⟨_, h1, -⟩, ⟨_, h2, -⟩, -⟩ := hN.2.2.1
    obtain ⟨a, c, rfl⟩ := owns_slice h1
    obtain ⟨a', c', rfl⟩ := owns_slice h2
    exact ⟨rfl, rfl⟩
  obtain ⟨aN, cN, eN⟩ := hN.1.slice
  have hsn : ∀ s ∈ sortS l, s.length ≤ 100000 := fun s h => hs s ((sortS_perm l).mem_iff.1 h)
  have hnl : (sortS l).length ≤ 12 := by rw [(sortS_perm l).length_eq]; exact hn
  have HM : Hid (partsM l E = (partsF (sortS l).length (samE (sortS l) E)).map (tellM (sortS l))) := Lib.hid rfl
  generalize hNN : sortS l = N at *
  clear hNN
  have hfp0 : ∀ k ∈ fp, w.heap.size ≤ k ∧ k < w1.heap.size := fun k hk => hN.2.2.1.lt k hk
  have hvN : ∀ b, vN.ownBlock = some b → b < w1.heap.size := fun b hb => (World.ownsRow.lt hN.1 b hb).2
  have hbm1 := hN.2.1.lt
  have HN := Lib.hid hN
  have HO1 := Lib.hid hO1
  clear hN hO1
  subst eN
  obtain ⟨an, cn, rfl⟩ : ∃ an cn, vn = .slice an N.length cn := by
    obtain ⟨f1, f2, ⟨_, h1, -⟩, -⟩ := HN.out.2.2.1
    obtain ⟨a, c, e⟩ := owns_slice h1
    rw [nxOf_len] at e
    exact ⟨a, c, e⟩
  obtain ⟨ab, cb, rfl⟩ : ∃ ab cb, vb = .slice ab N.length cb := by
    obtain ⟨f1, f2, -, ⟨_, h1, -⟩, -⟩ := HN.out.2.2.1
    obtain ⟨a, c, e⟩ := owns_slice h1
    rw [nxOf_len] at e
    exact ⟨a, c, e⟩
  go_upto_region 2 with fail
  have hO2 : Only [] w1 (w1.alloc (.cells #[.slice aN N.length cN, .map (some bm), .slice an N.length cn, .slice ab N.length cb] 67)) := (Only.refl _ _).alloc _
  have hB2 := IsBlk.made w1 (.cells #[.slice aN N.length cN, .map (some bm), .slice an N.length cn, .slice ab N.length cb] 67)
  generalize hW2 : w1.alloc (.cells #[.slice aN N.length cN, .map (some bm), .slice an N.length cn, .slice ab N.length cb] 67) = w2 at *
  have hs2 : w1.heap.size < w2.heap.size := by rw [← hW2]; simp
  clear hW2
  generalize hq5 : w1.heap.size = q5 at *
  have HN2 := Lib.hid (HN.out.more hO2)
  have HO2 := Lib.hid (HO1.out.plus hO2)
  have HB2 := Lib.hid hB2
  have hq5w : w.heap.size ≤ q5 := by have := HO1.out.size; omega
  clear hO2 hB2 HN HO1
  go_wp2_with fail
  go_loopw [12] (fun i wr => ∃ k : Nat, k ≤ E.length ∧ i = .int .i64 k ∧ ∃ fq, NetAt wr w.heap.size (.slice aN N.length cN) bm (.slice an N.length cn) (.slice ab N.length cb) N (esOf N (E.take k)) fq ∧ (∀ j ∈ fq, j ≠ q5) ∧ IsBlk wr q5 (.cells #[.slice aN N.length cN, .map (some bm), .slice an N.length cn, .slice ab N.length cb] 67) ∧ Only [] w wr) (fun i _ => E.length - (intOf i).toNat)
  case atStart => exact ⟨0, Nat.zero_le _, rfl, fp, HN2.out, fun j hj e => by have := (hfp0 j hj).2; omega, HB2.out, HO2.out⟩
  case round =>
    obtain ⟨k, hk, rfl, fq, hN, hfq, hB, hOr⟩ := hrel
    have HNr := Lib.hid hN
    have HBr := Lib.hid hB
    have HOr := Lib.hid hOr
    have hfl := hN.2.2.1.lt
    have c0 := hB.cell 0
    have c1 := hB.cell 1
    have c2 := hB.cell 2
    have c3 := hB.cell 3
    have lb := hB.lt
    clear hN hB hOr
    by_cases hlt : k < E.length
    · have hki : (k : Int) < (E.length : Int) := by omega
      have hk0 : (0 : Int) ≤ (k : Int) := by omega
      obtain ⟨x, hx⟩ : ∃ x, E[k]? = some x := ⟨E[k], by simp [hlt]⟩
      obtain ⟨g, rfl, hg, h1, h2⟩ := HEc.out k x hx
      have d1 := (HOr.out.cell (p := ⟨g, k * 2, none⟩) hg (by simp)).trans h1
      have d2 := (HOr.out.cell (p := ⟨g, k * 2 + 1, none⟩) hg (by simp)).trans h2
      obtain ⟨hx1, hx2⟩ := hEs x (List.mem_of_getElem? hx)
      have Htk : Hid (esOf N (E.take (k + 1)) = esOf N (E.take k) ++ edgeI N (x.1, x.2)) := Lib.hid (by rw [List.take_add_one, hx]; exact esOf_snoc N _ x)
      have hle : (esOf N (E.take k)).length ≤ 100000 := by have := esOf_len N (E.take k); have := List.length_take_le k E; omega
      clear h1 h2 hx
      generalize x.1 = s at *
      generalize x.2 = t at *
      unfold encStr at d1 d2
      have hOb : Only [] wr (wr.alloc (.cells #[.string ⟨s.toArray⟩, .string ⟨t.toArray⟩] 35)) := (Only.refl _ _).alloc _
      go_wp2_with fail
      refine (lead_any _ w.heap.size _ bm _ _ N (esOf N (E.take k)) fq (HNr.out.more hOb) (by omega) hle s t hx1 hx2).mono ?_
      rintro e w3 ⟨rfl, fr, hN3, hO3, hfr⟩
      have hszb := hOb.size
      have HN3 := Lib.hid hN3
      have hO3' := hOb.then hO3 fq (by simp) (fun i hi => .inl hi)
      have HB3 := Lib.hid (HBr.out.only hO3' (fun hm => hfq q5 hm rfl))
      have HO3 := Lib.hid (HOr.out.then hO3' [] (by simp) (fun i hi => .inr (hfl i hi).1))
      have Hfr := Lib.hid hfr
      clear hN3 hO3 hO3' hfr
      go_wp2
      go_roundw
      case rel =>
        exact ⟨k + 1, by omega, by go_num, fr, by rw [Htk.out]; exact HN3.out, fun j hj => by
          rcases Hfr.out j hj with h | h
          · exact hfq j h
          · omega, HB3.out, HO3.out⟩
      case measure => simp [intOf]; omega
    · obtain rfl : k = E.length := by omega
      have hki : ¬ (E.length : Int) < (E.length : Int) := by omega
      rw [List.take_length] at HNr
      go_upto_region 7 with fail
      have hdr : Only [] wr wr.drew := (Only.refl [] wr).drew
      have HS : Hid (∀ W, Only [] wr W → (W.cell? ⟨q5, 0, none⟩ = some (.slice aN N.length cN) ∧ W.cell? ⟨q5, 1, none⟩ = some (.map (some bm)) ∧ W.cell? ⟨q5, 2, none⟩ = some (.slice an N.length cn) ∧ W.cell? ⟨q5, 3, none⟩ = some (.slice ab N.length cb))) := Lib.hid (fun W hW => ⟨(HBr.out.only hW (by simp)).cell 0, (HBr.out.only hW (by simp)).cell 1, (HBr.out.only hW (by simp)).cell 2, (HBr.out.only hW (by simp)).cell 3⟩)
      have hs0 := HS.out _ hdr
      have hle := esOf_len N E
      have HNm : Hid (NamsAt wr (.slice aN N.length cN) N) := Lib.hid HNr.out.1.nams
      have hpF1 : (partsF N.length (samE N E)).length ≤ 100000 := by have := partsF_len N.length (samE N E); omega
      have hpF2 : ∀ p ∈ partsF N.length (samE N E), p.length ≤ 100000 := fun p hp => by have := (partsF_lt N.length (samE N E) p hp).1; omega
      have HP1 : Hid (Calls Try.prog 31 #[.agg #[.slice an N.length cn, .slice ab N.length cb]] wr.drew fun r w' => ∃ v cs, r = .returned v ∧ w'.ownsRow wr.drew.heap.size 22 1 v (partsF N.length (samE N E)).length cs ∧ (∀ (i : Nat) (p : List Nat), (partsF N.length (samE N E))[i]? = some p → ∃ u, cs[i]? = some u ∧ RowI w' wr.drew.heap.size u p) ∧ Only [] wr.drew w') := Lib.hid (parts_any wr.drew w.heap.size N.length (.slice an N.length cn) (.slice ab N.length cb) (esOf N E) fq (HNr.out.more hdr).2.2.1 (esOf_in N E) hnl (by omega))
      have hszr : w.heap.size ≤ wr.drew.heap.size := HOr.out.size
      go_region_held3 (fun W => (W.cell? ⟨q5, 0, none⟩ = some (.slice aN N.length cN) ∧ W.cell? ⟨q5, 1, none⟩ = some (.map (some bm)) ∧ W.cell? ⟨q5, 2, none⟩ = some (.slice an N.length cn) ∧ W.cell? ⟨q5, 3, none⟩ = some (.slice ab N.length cb))) (first | exact hs0 | assumption)
        (first
          | (go_at_call 31
             with_reducible refine HP1.out.mono ?_
             rintro e w4 ⟨v4, cs4, rfl, hr4, hp4, hO4⟩
             have hs4 := HS.out w4 (hdr.plus hO4))
          | (go_at_call 30
             with_reducible refine (tellAll_any w4 (.slice aN N.length cN) (.map (some bm)) (.slice an N.length cn) (.slice ab N.length cb) v4 N (partsF N.length (samE N E)) ((HNm.out.more hdr).more hO4) (numss_of hr4 hp4) hsn hpF1 hpF2 (fun p hp => (partsF_lt N.length (samE N E) p hp).2) ⟨rfl, rfl, rfl⟩).mono ?_
             rintro e w5 ⟨v5, rfl, hv5, hO5⟩
             have hs5 := HS.out w5 ((hdr.plus hO4).plus hO5)))
      go_wp2
      go_ret
      obtain ⟨cs5, h6, h7⟩ := hv5
      have h45 : w.heap.size ≤ w4.heap.size := by have := hO4.size; omega
      rw [← HM.out] at h6 h7
      exact ⟨_, rfl, ⟨cs5, owns_base h6 h45, fun i p hp => by
        obtain ⟨u, h1, h2⟩ := h7 i p hp
        exact ⟨u, h1, owns_base h2 h45⟩⟩, HOr.out.plus ((hdr.plus hO4).plus hO5)⟩

end Go.Proofs.Ytgkddbpfjbgelaa
