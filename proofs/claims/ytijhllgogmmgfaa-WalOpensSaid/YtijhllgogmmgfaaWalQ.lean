/-
  Logs by chapter 3 itself: a record of which a Part is lost; what a crash leaves. No program is walked here.
-/
import Derived.Test.YtijhllgogmmgfaaWalK
namespace Go.Proofs.Ytijhllgogmmgfaa
set_option maxRecDepth 100000
set_option linter.unusedVariables false
open Go.RowKit

/-- A record of which one Part is of another generation is none. -/
theorem rec_torn {ps : List PartM} {p0 q : PartM} {g r : Int} {t : Nat} (h0 : ps[0]? = some p0) (ht : ps[t]? = some q) (hq : q.g ≠ g) (hto : (t : Int) < p0.o) : recM ps g r = none := by
  by_cases hc : p0.g = g ∧ p0.r = r ∧ p0.o ≤ (ps.length : Int)
  · rw [recM_yes h0 hc]
    cases hj : joinB (ps.take p0.o.toNat) with
    | none => rfl
    | some b =>
      exfalso
      have h0' : (ps.take p0.o.toNat)[0]? = some p0 := by rw [List.getElem?_take, if_pos (by omega)]; exact h0
      obtain ⟨-, -, he, -⟩ := cut_join h0' hj
      have ht' : (ps.take p0.o.toNat)[t]? = some q := by rw [List.getElem?_take, if_pos (by omega)]; exact ht
      rw [he] at ht'
      have := (cutP_get _ _ _ _ _ ht').1
      rw [this] at hq
      exact hq hc.1
  · exact recM_no h0 hc

theorem halfP_congr {S S' : Secs} {a n : Nat} (h : ∀ i, i < n → S' (a + i) = S (a + i)) : halfP S' a n = halfP S a n := by
  unfold halfP
  apply List.map_congr_left
  intro i hi
  rw [h i (List.mem_range.1 hi)]

theorem other_half {h n i : Nat} (hh : h ≤ 1) (hi : i < n) : (1 - h) * n + i < h * n ∨ h * n + n ≤ (1 - h) * n + i := by
  rcases Nat.le_one_iff_eq_zero_or_eq_one.1 hh with rfl | rfl <;> simp <;> omega

/-- What Open finds where the last record has lost a Part, or was not all written: what there was ahead of it. -/
theorem torn_at {S' : Secs} {size half next : Nat} {gen seq : Int} {rs : List (List UInt8)} {b : List UInt8} {t : Nat} (hh : half ≤ 1) (hmay : MayRows gen 0 rs) (hne : rs ≠ []) (hseq : seq = rs.length) (hnx : next = (rowsP gen 0 rs).length) (hg : 1 ≤ gen)
    (hparts : ∀ i p, (rowsP gen 0 rs)[i]? = some p → secP (S' (half * size + i)) = p) (hs : next + partsN b.length ≤ size) (hother : ∀ i, i < size → (secP (S' ((1 - half) * size + i))).g < gen)
    (hnew : ∀ i p, (cutP gen seq b)[i]? = some p → i = t ∨ secP (S' (half * size + next + i)) = p ∨ (secP (S' (half * size + next + i))).g < gen)
    (ht : t < partsN b.length) (htg : (secP (S' (half * size + next + t))).g < gen) : (foundM S' size).1 = rs := by
  have hpos := partsN_pos b.length
  have e : size = next + (size - next) := by omega
  have hsplit : halfP S' (half * size) size = rowsP gen 0 rs ++ halfP S' (half * size + next) (size - next) := by
    have h1 := halfP_split S' (half * size) next (size - next)
    rw [← e] at h1
    rw [h1]
    congr 1
    have h2 := halfP_rows (S := S') (a := half * size) (ps := rowsP gen 0 rs) hparts
    rw [← hnx] at h2
    exact h2
  have hn : recM (halfP S' (half * size + next) (size - next)) gen rs.length = none := by
    have g0 := get_halfP (S := S') (at_ := half * size + next) (n := size - next) (i := 0) (by omega)
    have gt := get_halfP (S := S') (at_ := half * size + next) (n := size - next) (i := t) (by omega)
    rcases hnew 0 _ (cut_head gen seq b) with h0 | h0 | h0
    · subst h0
      exact recM_no g0 (fun hc => by have := hc.1; omega)
    · refine rec_torn g0 gt (by omega) ?_
      rw [h0]
      show (t : Int) < (partsN b.length : Int)
      omega
    · exact recM_no g0 (fun hc => by have := hc.1; omega)
  obtain ⟨-, h2⟩ := open_of (S := S') (post := halfP S' (half * size + next) (size - next)) hh hmay hne hsplit hn
    (begin_le (fun p hp => by obtain ⟨i, hi, rfl⟩ := halfP_mem hp; exact hother i hi) (by omega)) hg
  rw [h2]

theorem torn_open {S S' : Secs} {L : LS} {rs : List (List UInt8)} {b : List UInt8} {t : Nat} (h : LogOk S L rs) (hs : L.next + partsN b.length ≤ L.size)
    (hsame : ∀ i, i < 2 * L.size → ¬ (L.half * L.size + L.next ≤ i ∧ i < L.half * L.size + L.next + partsN b.length) → S' i = S i)
    (hnew : ∀ i p, (cutP L.gen L.seq b)[i]? = some p → i = t ∨ secP (S' (L.half * L.size + L.next + i)) = p ∨ (secP (S' (L.half * L.size + L.next + i))).g < L.gen)
    (ht : t < partsN b.length) (htg : (secP (S' (L.half * L.size + L.next + t))).g < L.gen) : (foundM S' L.size).1 = rs := by
  have hmul := half_mul (n := L.size) h.half
  refine torn_at h.half h.may h.ne h.seq h.next h.gen_pos.1 (fun i p hi => ?_) hs (fun i hi => ?_) hnew ht htg
  · have hil := (List.getElem?_eq_some_iff.1 hi).1
    rw [← h.next] at hil
    rw [hsame _ (by omega) (by omega)]
    exact h.parts i p hi
  · have h4 := half_mul (n := L.size) (h := 1 - L.half) (by omega)
    have h5 := other_half (n := L.size) h.half hi
    rw [hsame _ (by omega) (by omega)]
    exact h.older _ (by omega) (by omega)

/-- A record that was whole, with one of its sectors lost. -/
theorem torn_zero {S S' : Secs} {L : LS} {rs : List (List UInt8)} {b : List UInt8} {t : Nat} (h : LogOk S { L with next := L.next + partsN b.length, seq := L.seq + 1 } (rs ++ [b])) (hne : rs ≠ []) (hseq : L.seq = rs.length) (hnx : L.next = (rowsP L.gen 0 rs).length) (ht : t < partsN b.length)
    (hz : S' (L.half * L.size + L.next + t) = zeros) (hsame : ∀ i, i ≠ L.half * L.size + L.next + t → S' i = S i) : (foundM S' L.size).1 = rs := by
  have hg := h.gen_pos
  have hmul := half_mul (n := L.size) h.half
  have hfit := h.fit
  simp only at hg hmul hfit
  have hrow : rowsP L.gen 0 (rs ++ [b]) = rowsP L.gen 0 rs ++ cutP L.gen L.seq b := by
    rw [rowsP_append, Int.zero_add, ← hseq]; simp [rowsP]
  have hmay := h.may
  simp only at hmay
  have hp := h.parts
  simp only [hrow] at hp
  have hhf : L.half ≤ 1 := h.half
  refine torn_at (S' := S') (size := L.size) (half := L.half) (next := L.next) (gen := L.gen) (seq := L.seq) (b := b) (t := t) hhf ⟨fun i hi => hmay.1 i (by simp; omega), fun c hc => hmay.2 c (by simp [hc])⟩ hne hseq hnx hg.1 (fun i p hi => ?_) hfit (fun i hi => ?_) (fun i p hi => ?_) ht (by rw [hz, secP_zeros]; show (0 : Int) < _; omega)
  · have hil := (List.getElem?_eq_some_iff.1 hi).1
    rw [hsame _ (by omega)]
    exact hp i p (by rw [List.getElem?_append_left hil]; exact hi)
  · have h4 := half_mul (n := L.size) (h := 1 - L.half) (by omega)
    have h5 := other_half (n := L.size) hhf hi
    rw [hsame _ (by omega)]
    exact h.older _ (by show _ < 2 * L.size; omega) (by show ¬ (L.half * L.size ≤ _ ∧ _ < L.half * L.size + (L.next + partsN b.length)); omega)
  · by_cases hit : i = t
    · exact .inl hit
    · refine .inr (.inl ?_)
      rw [hsame _ (by omega), Nat.add_assoc]
      exact hp (L.next + i) p (by rw [List.getElem?_append_right (by omega), show L.next + i - (rowsP L.gen 0 rs).length = i by omega]; exact hi)

/-! ### What a crash leaves -/

/-- Sectors written on a disk that may die: all of them last, or what lasts is as it was. -/
theorem wr_fuse : ∀ (bs : List (List UInt8)) (D : DS) (x : Nat) (T : Secs), D.dead = false → x + bs.length ≤ D.n → (∀ b ∈ bs, b.length = 64) → (∀ i, D.now i = D.last i ∨ D.now i = T i) → (∀ i b, bs[i]? = some b → T (x + i) = b) →
    ((wrM D x bs).2 = 0 ∧ (wrM D x bs).1.fresh = (fun _ => none) ∧ (wrM D x bs).1.last = laidS D.now x bs) ∨
    ((wrM D x bs).2 = 3 ∧ (wrM D x bs).1.last = D.last ∧ ∀ i, (wrM D x bs).1.now i = D.last i ∨ (wrM D x bs).1.now i = T i)
  | [], D, x, T, hd, _, _, hn, _ => by
    simp only [wrM, DS.flushR, hd]
    by_cases hf : D.fuse = 0
    · right
      simp only [hf]
      exact ⟨rfl, rfl, hn⟩
    · left
      simp [hf]
      refine ⟨rfl, ?_⟩
      show D.now = _
      funext i; exact (laidS_out (by simp; omega)).symm
  | b :: l, D, x, T, hd, hx, hb, hn, hT => by
    simp only [List.length_cons] at hx
    have hbl : b.length = 64 := hb b (by simp)
    have hbad : badW (x : Int) D.n b.length = false := by simp [badW, hasB, hbl]; omega
    by_cases hf : D.fuse = 0
    · have hw : D.writeR x b = ({ D with fuse := 0, dead := true, ops := D.ops }, 3) := by
        unfold DS.writeR; simp [hd, hbad, hf]
      right
      simp only [wrM, hw]
      exact ⟨rfl, rfl, hn⟩
    · have hw : D.writeR x b = (D.put (burnt D.fuse) (D.ops + 1) x b, 0) := by
        unfold DS.writeR; simp [hd, hbad, hf]
      have hT0 : T x = b := hT 0 b rfl
      have ih := wr_fuse l (D.put (burnt D.fuse) (D.ops + 1) x b) (x + 1) T hd (by show x + 1 + l.length ≤ D.n; omega) (fun c hc => hb c (by simp [hc]))
        (fun i => by
          rw [put_now]
          by_cases hi : i = x
          · right; simp [hi, hT0]
          · simp only [hi, if_false]; exact hn i)
        (fun i c hc => by have := hT (i + 1) c (by simpa using hc); rw [show x + 1 + i = x + (i + 1) by omega]; exact this)
      simp only [wrM, hw, if_true]
      rcases ih with ⟨h1, h2, h3⟩ | ⟨h1, h2, h3⟩
      · left
        exact ⟨h1, h2, by rw [h3, put_now, laidS_cons]⟩
      · right
        exact ⟨h1, h2, h3⟩

/-- Behind a crash each sector is as it was, or as it was written; all of them are, where the writing was OK. -/
theorem crash_secs {D : DS} {x : Nat} {bs : List (List UInt8)} {l : List UInt8} (hd : D.dead = false) (hn : D.fresh = fun _ => none) (hx : x + bs.length ≤ D.n) (h64 : ∀ b ∈ bs, b.length = 64) :
    (∀ i, ((wrM D x bs).1.crashed l).now i = D.now i ∨ ((wrM D x bs).1.crashed l).now i = laidS D.now x bs i) ∧ ((wrM D x bs).2 = 0 ∨ (wrM D x bs).2 = 3) ∧ ((wrM D x bs).2 = 0 → ((wrM D x bs).1.crashed l).now = laidS D.now x bs) := by
  have hnow : D.now = D.last := by funext i; simp [DS.now, hn]
  have hc : ∀ E : DS, (E.crashed l).now = fun i => if pickB l (E.cnt i) = true then E.now i else E.last i := fun E => rfl
  rcases wr_fuse bs D x (laidS D.now x bs) hd hx h64 (fun i => .inl (by rw [hnow])) (fun i b hi => laidS_in hi) with ⟨h1, h2, h3⟩ | ⟨h1, h2, h3⟩
  · have hN : (wrM D x bs).1.now = (wrM D x bs).1.last := by funext i; simp [DS.now, h2]
    have hall : ((wrM D x bs).1.crashed l).now = laidS D.now x bs := by rw [hc, hN, h3]; funext i; simp
    exact ⟨fun i => .inr (by rw [hall]), .inl h1, fun _ => hall⟩
  · refine ⟨fun i => ?_, .inr h1, fun h => by omega⟩
    rw [hc]
    show (if _ then _ else _) = _ ∨ (if _ then _ else _) = _
    split
    · rcases h3 i with h | h
      · left; rw [h, hnow]
      · right; exact h
    · left; rw [h2, hnow]

/-- A crash within an Append. -/
theorem crash_append {S S' : Secs} {L : LS} {rs : List (List UInt8)} {b : List UInt8} (h : LogOk S L rs) (hb : partsN b.length ≤ 255) (hm : mayB L.gen L.seq = true) (hs : L.next + partsN b.length ≤ L.size) (hrs : rs.length ≤ 1000)
    (hc : ∀ i, S' i = S i ∨ S' i = laidS S (L.half * L.size + L.next) (secsB L.gen L.seq b) i) :
    (foundM S' L.size).1 = rs ∨ (foundM S' L.size).1 = rs ++ [b] := by
  have hlen := length_secsB L.gen L.seq b
  have hmul := half_mul (n := L.size) h.half
  have hlay : ∀ i p, (cutP L.gen L.seq b)[i]? = some p → secP (laidS S (L.half * L.size + L.next) (secsB L.gen L.seq b) (L.half * L.size + L.next + i)) = p := fun i p hi => by
    rw [laidS_in (secs_get hi)]; exact secP_bytes (cut_all_ok hm hb p (List.mem_of_getElem? hi))
  have hout : ∀ i, ¬ (L.half * L.size + L.next ≤ i ∧ i < L.half * L.size + L.next + partsN b.length) → laidS S (L.half * L.size + L.next) (secsB L.gen L.seq b) i = S i := fun i hi => laidS_out (by omega)
  by_cases hall : ∀ i, i < partsN b.length → S' (L.half * L.size + L.next + i) = laidS S (L.half * L.size + L.next) (secsB L.gen L.seq b) (L.half * L.size + L.next + i)
  · right
    have hE : S' = laidS S (L.half * L.size + L.next) (secsB L.gen L.seq b) := by
      funext i
      by_cases hi : L.half * L.size + L.next ≤ i ∧ i < L.half * L.size + L.next + partsN b.length
      · have := hall (i - (L.half * L.size + L.next)) (by omega)
        rwa [show L.half * L.size + L.next + (i - (L.half * L.size + L.next)) = i by omega] at this
      · rcases hc i with h1 | h1
        · rw [h1, hout i hi]
        · exact h1
    have hv : Live { n := 2 * L.size, last := S, fresh := fun _ => none, fuse := -1, dead := false, ops := 0 } (2 * L.size) 0 := ⟨rfl, rfl, rfl, rfl, rfl⟩
    have hk := (append_live (D := { n := 2 * L.size, last := S, fresh := fun _ => none, fuse := -1, dead := false, ops := 0 }) (b := b) hv h hrs hb hs).2
    rw [wrote_now] at hk
    have := hk.opens.2
    rw [hE]
    exact this
  · left
    have hall2 : ∃ t, t < partsN b.length ∧ S' (L.half * L.size + L.next + t) ≠ laidS S (L.half * L.size + L.next) (secsB L.gen L.seq b) (L.half * L.size + L.next + t) := by
      apply Classical.byContradiction
      intro hno
      exact hall (fun i hi => Classical.byContradiction fun hne => hno ⟨i, hi, hne⟩)
    obtain ⟨t, ht, hne⟩ := hall2
    have hold : S' (L.half * L.size + L.next + t) = S (L.half * L.size + L.next + t) := (hc _).resolve_right hne
    refine torn_open (t := t) h hs (fun i hi hn => ?_) (fun i p hi => ?_) ht ?_
    · rcases hc i with h1 | h1
      · exact h1
      · rw [h1, hout i hn]
    · rcases hc (L.half * L.size + L.next + i) with h1 | h1
      · right; right
        have hil : i < partsN b.length := by have := (List.getElem?_eq_some_iff.1 hi).1; rwa [length_cutP] at this
        rw [h1]; exact h.older _ (by omega) (by omega)
      · right; left; rw [h1]; exact hlay i p hi
    · rw [hold]; exact h.older _ (by omega) (by omega)

/-- A crash within a Fresh. -/
theorem crash_fresh {S S' : Secs} {L : LS} {rs : List (List UInt8)} {b : List UInt8} (h : LogOk S L rs) (hb : partsN b.length ≤ 255) (hg1 : L.gen < 4294967295) (hs : partsN b.length ≤ L.size)
    (hc : ∀ i, S' i = S i ∨ S' i = laidS S ((1 - L.half) * L.size) (secsB (L.gen + 1) 0 b) i) :
    (foundM S' L.size).1 = rs ∨ (foundM S' L.size).1 = [b] := by
  have hg := h.gen_pos
  have hm : mayB (L.gen + 1) 0 = true := mayB_iff.2 ⟨by omega, by omega, by omega, by omega⟩
  have hlen := length_secsB (L.gen + 1) 0 b
  have hpos := partsN_pos b.length
  have hoth : 1 - L.half ≤ 1 := by omega
  have hmul := half_mul (n := L.size) hoth
  have hmul0 := half_mul (n := L.size) h.half
  have hlay : ∀ i p, (cutP (L.gen + 1) 0 b)[i]? = some p → secP (laidS S ((1 - L.half) * L.size) (secsB (L.gen + 1) 0 b) ((1 - L.half) * L.size + i)) = p := fun i p hi => by
    rw [laidS_in (secs_get hi)]; exact secP_bytes (cut_all_ok hm hb p (List.mem_of_getElem? hi))
  have hout : ∀ i, ¬ ((1 - L.half) * L.size ≤ i ∧ i < (1 - L.half) * L.size + partsN b.length) → laidS S ((1 - L.half) * L.size) (secsB (L.gen + 1) 0 b) i = S i := fun i hi => laidS_out (by omega)
  by_cases hall : ∀ i, i < partsN b.length → S' ((1 - L.half) * L.size + i) = laidS S ((1 - L.half) * L.size) (secsB (L.gen + 1) 0 b) ((1 - L.half) * L.size + i)
  · right
    have hE : S' = laidS S ((1 - L.half) * L.size) (secsB (L.gen + 1) 0 b) := by
      funext i
      by_cases hi : (1 - L.half) * L.size ≤ i ∧ i < (1 - L.half) * L.size + partsN b.length
      · have := hall (i - (1 - L.half) * L.size) (by omega)
        rwa [show (1 - L.half) * L.size + (i - (1 - L.half) * L.size) = i by omega] at this
      · rcases hc i with h1 | h1
        · rw [h1, hout i hi]
        · exact h1
    have hv : Live { n := 2 * L.size, last := S, fresh := fun _ => none, fuse := -1, dead := false, ops := 0 } (2 * L.size) 0 := ⟨rfl, rfl, rfl, rfl, rfl⟩
    have e3 : otherM L = 1 - L.half := by unfold otherM; rw [if_neg (by omega)]
    have hk := (fresh_live (D := { n := 2 * L.size, last := S, fresh := fun _ => none, fuse := -1, dead := false, ops := 0 }) (L := L) (b := b) hv h.half h.tops (by rw [h.top]; omega) (by rw [h.top]; omega) hb hs).2
    rw [wrote_now, e3, h.top] at hk
    have := hk.opens.2
    rw [hE]
    exact this
  · left
    have hall2 : ∃ t, t < partsN b.length ∧ S' ((1 - L.half) * L.size + t) ≠ laidS S ((1 - L.half) * L.size) (secsB (L.gen + 1) 0 b) ((1 - L.half) * L.size + t) := by
      apply Classical.byContradiction
      intro hno
      exact hall (fun i hi => Classical.byContradiction fun hne => hno ⟨i, hi, hne⟩)
    obtain ⟨t, ht, hne⟩ := hall2
    have hold : S' ((1 - L.half) * L.size + t) = S ((1 - L.half) * L.size + t) := (hc _).resolve_right hne
    have hap : ∀ i, i < L.size → (secP (S ((1 - L.half) * L.size + i))).g < L.gen := fun i hi => h.older _ (by omega) (by have := half_apart h.half hi; have := h.fit; omega)
    have hmain : ∀ i, i < L.size → S' (L.half * L.size + i) = S (L.half * L.size + i) := fun i hi => by
      rcases hc (L.half * L.size + i) with h1 | h1
      · exact h1
      · rw [h1, hout _ (fun hx => by have := other_half (h := 1 - L.half) hoth hi; rw [show 1 - (1 - L.half) = L.half by have := h.half; omega] at this; omega)]
    have hbeg : beginM (halfP S' ((1 - L.half) * L.size) L.size) < L.gen := by
      have g0 := get_halfP (S := S') (at_ := (1 - L.half) * L.size) (n := L.size) (i := 0) (by omega)
      have gt := get_halfP (S := S') (at_ := (1 - L.half) * L.size) (n := L.size) (i := t) (by omega)
      generalize hps : halfP S' ((1 - L.half) * L.size) L.size = ps at *
      cases ps with
      | nil => simp [beginM]; omega
      | cons p r =>
        simp at g0
        simp only [beginM]
        rcases hc ((1 - L.half) * L.size) with h1 | h1
        · have := hap 0 (by omega)
          rw [Nat.add_zero] at this
          rw [g0, h1]
          split <;> omega
        · have hp : p = ⟨L.gen + 1, 0, 0, partsN b.length, pieceB (wholeB b) 0⟩ := by
            rw [g0, h1]; have := hlay 0 _ (cut_head (L.gen + 1) 0 b); rwa [Nat.add_zero] at this
          have : recM (p :: r) p.g 0 = none := by
            refine rec_torn (p0 := p) rfl gt ?_ ?_
            · rw [hold, hp]
              have := hap t (by omega)
              show _ ≠ L.gen + 1
              omega
            · rw [hp]; show (t : Int) < (partsN b.length : Int); omega
          rw [this]
          simp
          omega
    obtain ⟨-, h2⟩ := open_of (S := S') (post := halfP S' (L.half * L.size + L.next) (L.size - L.next)) h.half h.may h.ne
      (by
        rw [halfP_congr (S := S) hmain, halfP_congr (S := S) (S' := S') (a := L.half * L.size + L.next) (fun i hi => by have := hmain (L.next + i) (by omega); rwa [← Nat.add_assoc] at this)]
        exact h.split)
      (by
        rw [halfP_congr (S := S) (S' := S') (a := L.half * L.size + L.next) (fun i hi => by have := hmain (L.next + i) (by omega); rwa [← Nat.add_assoc] at this)]
        exact rec_older (fun p hp => by obtain ⟨i, hi, rfl⟩ := halfP_mem hp; exact h.older _ (by omega) (by omega)))
      hbeg hg.1
    rw [h2]

end Go.Proofs.Ytijhllgogmmgfaa
