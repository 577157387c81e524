/-
  Logs by chapter 3 itself: a log that is sound on its disk; what Open, Fresh and Append make of it. No program is walked here.
-/
import Derived.Test.YtfampoblcielpaaGreatWalI
namespace Go.Proofs.YtfampoblcielpaaGreat
set_option maxRecDepth 100000
open Go.RowKit

theorem halfP_split (S : Secs) (a m k : Nat) : halfP S a (m + k) = halfP S a m ++ halfP S (a + m) k := by
  induction k with
  | zero => simp [halfP]
  | succ k ih => rw [← Nat.add_assoc, halfP_succ, ih, halfP_succ, List.append_assoc, Nat.add_assoc]

theorem halfP_rows {S : Secs} {a : Nat} {ps : List PartM} (h : ∀ i p, ps[i]? = some p → secP (S (a + i)) = p) : halfP S a ps.length = ps := by
  apply List.ext_getElem?
  intro i
  by_cases hi : i < ps.length
  · rw [get_halfP hi, List.getElem?_eq_getElem hi, h i ps[i] (List.getElem?_eq_getElem hi)]
  · rw [List.getElem?_eq_none (by rw [length_halfP]; omega), List.getElem?_eq_none (by omega)]

theorem begin_le {ps : List PartM} {m : Int} (h : ∀ p ∈ ps, p.g < m) (h0 : 0 < m) : beginM ps < m := by
  cases ps with
  | nil => exact h0
  | cons p r => simp only [beginM]; split; exact h p (by simp); exact h0
theorem rec_older {ps : List PartM} {g j : Int} (h : ∀ p ∈ ps, p.g < g) : recM ps g j = none := by
  cases ps with
  | nil => rfl
  | cons p r => refine recM_no (p := p) rfl (fun hc => ?_); have := h p (by simp); omega

theorem begin_rows {g : Int} {b : List UInt8} {rs : List (List UInt8)} (hm : MayRows g 0 (b :: rs)) (post : List PartM) : beginM (rowsP g 0 (b :: rs) ++ post) = g := by
  simp only [rowsP, List.append_assoc]
  have hr := rec_here hm.head.1 hm.head.2 (rowsP g (0 + 1) rs ++ post)
  have h0 : (cutP g 0 b ++ (rowsP g (0 + 1) rs ++ post))[0]? = some ⟨g, 0, 0, partsN b.length, pieceB (wholeB b) 0⟩ := by rw [List.getElem?_append_left (by rw [length_cutP]; exact partsN_pos _)]; exact cut_head g 0 b
  generalize cutP g 0 b ++ (rowsP g (0 + 1) rs ++ post) = ps at *
  cases ps with
  | nil => cases h0
  | cons p r =>
    simp at h0
    subst h0
    simp only [beginM]
    rw [hr]
    rfl

/-- What Open finds where a half has records, and the other one begins with less. -/
theorem open_of {S : Secs} {size half : Nat} {gen : Int} {rs : List (List UInt8)} {post : List PartM} (hh : half ≤ 1) (hm : MayRows gen 0 rs) (hne : rs ≠ []) (hp : halfP S (half * size) size = rowsP gen 0 rs ++ post) (hr : recM post gen rs.length = none)
    (ho : beginM (halfP S ((1 - half) * size) size) < gen) (hg : 1 ≤ gen) : chooseM (halfP S 0 size) (halfP S size size) = (gen, half) ∧ foundM S size = (rs, (rowsP gen 0 rs).length, (rs.length : Int)) := by
  obtain ⟨b, r, rfl⟩ : ∃ b r, rs = b :: r := by cases rs with | nil => exact absurd rfl hne | cons b r => exact ⟨b, r, rfl⟩
  have hbg : beginM (halfP S (half * size) size) = gen := by rw [hp]; exact begin_rows hm post
  have hch : chooseM (halfP S 0 size) (halfP S size size) = (gen, half) := by
    rcases Nat.le_one_iff_eq_zero_or_eq_one.1 hh with rfl | rfl
    · simp only [Nat.zero_mul, Nat.sub_zero, Nat.one_mul] at hbg ho
      unfold chooseM; rw [if_neg (by omega), hbg]
    · simp only [Nat.one_mul, Nat.sub_self, Nat.zero_mul] at hbg ho
      unfold chooseM; rw [if_pos (by omega), hbg]
  refine ⟨hch, ?_⟩
  unfold foundM
  simp only [hch]
  rw [if_neg (by omega)]
  have hlen : (rowsP gen 0 (b :: r)).length ≤ size := by have := congrArg List.length hp; rw [length_halfP, List.length_append] at this; omega
  have hrl : ∀ (l : List (List UInt8)) (j : Int), l.length ≤ (rowsP gen j l).length := by
    intro l
    induction l with
    | nil => intro j; simp [rowsP]
    | cons c l ih => intro j; have := ih (j + 1); have := partsN_pos c.length; simp only [rowsP, List.length_append, length_cutP, List.length_cons]; omega
  have := follow_rows gen (halfP S (half * size) size) (b :: r) post (size + 1) 0 0 (by simpa using hp) (by simpa using hr) (by have := hrl (b :: r) 0; omega) hm
  rw [this]
  simp

/-- A log that is sound on its disk. -/
structure LogOk (S : Secs) (L : LS) (rs : List (List UInt8)) : Prop where
  half : L.half ≤ 1
  may : MayRows L.gen 0 rs
  ne : rs ≠ []
  seq : L.seq = rs.length
  next : L.next = (rowsP L.gen 0 rs).length
  fit : L.next ≤ L.size
  parts : ∀ i p, (rowsP L.gen 0 rs)[i]? = some p → secP (S (L.half * L.size + i)) = p
  older : ∀ i, i < 2 * L.size → ¬ (L.half * L.size ≤ i ∧ i < L.half * L.size + L.next) → (secP (S i)).g < L.gen
  top : L.top = L.gen

theorem topM_eq {m : Int} : ∀ {ps : List PartM} {t : Int}, t ≤ m → (∀ p ∈ ps, p.g ≤ m) → topM t ps ≤ m
  | [], t, h, _ => h
  | p :: r, t, h, hp => topM_eq (ps := r) (t := max t p.g) (by have := hp p (by simp); omega) (fun q hq => hp q (by simp [hq]))
theorem topM_ge : ∀ {ps : List PartM} {t : Int}, t ≤ topM t ps ∧ ∀ p ∈ ps, p.g ≤ topM t ps
  | [], t => ⟨Int.le_refl _, fun p hp => by cases hp⟩
  | p :: r, t => by
    have ih := topM_ge (ps := r) (t := max t p.g)
    refine ⟨by have := ih.1; show t ≤ topM (max t p.g) r; omega, fun q hq => ?_⟩
    show q.g ≤ topM (max t p.g) r
    rcases List.mem_cons.1 hq with rfl | hq
    · have := ih.1; omega
    · exact ih.2 q hq

theorem LogOk.gen_pos {S : Secs} {L : LS} {rs : List (List UInt8)} (h : LogOk S L rs) : 1 ≤ L.gen ∧ L.gen ≤ 4294967295 := by
  cases hr : rs with
  | nil => exact absurd hr h.ne
  | cons b r => have hm := h.may; rw [hr] at hm; have := mayB_iff.1 hm.head.1; omega

theorem LogOk.tops {S : Secs} {L : LS} {rs : List (List UInt8)} (h : LogOk S L rs) (i : Nat) (hi : i < 2 * L.size) : (secP (S i)).g ≤ L.top := by
  rw [h.top]
  by_cases hc : L.half * L.size ≤ i ∧ i < L.half * L.size + L.next
  · have hlt : i - L.half * L.size < (rowsP L.gen 0 rs).length := by rw [← h.next]; omega
    have := h.parts (i - L.half * L.size) _ (List.getElem?_eq_getElem hlt)
    rw [show L.half * L.size + (i - L.half * L.size) = i by omega] at this
    rw [this, (rows_all h.may _ (List.getElem_mem hlt)).2]
    exact Int.le_refl _
  · exact Int.le_of_lt (h.older i hi hc)

theorem LogOk.split {S : Secs} {L : LS} {rs : List (List UInt8)} (h : LogOk S L rs) : halfP S (L.half * L.size) L.size = rowsP L.gen 0 rs ++ halfP S (L.half * L.size + L.next) (L.size - L.next) := by
  have e : L.size = L.next + (L.size - L.next) := by have := h.fit; omega
  have hs := halfP_split S (L.half * L.size) L.next (L.size - L.next)
  rw [← e] at hs
  rw [hs]
  congr 1
  have := halfP_rows (S := S) (a := L.half * L.size) (ps := rowsP L.gen 0 rs) h.parts
  rw [← h.next] at this
  exact this

theorem halfP_mem {S : Secs} {a n : Nat} {p : PartM} (h : p ∈ halfP S a n) : ∃ i, i < n ∧ p = secP (S (a + i)) := by
  simp only [halfP, List.mem_map, List.mem_range] at h
  obtain ⟨i, hi, rfl⟩ := h
  exact ⟨i, hi, rfl⟩

theorem half_mul {h n : Nat} (hh : h ≤ 1) : h * n + n ≤ 2 * n := by
  rcases Nat.le_one_iff_eq_zero_or_eq_one.1 hh with rfl | rfl <;> omega
theorem half_apart {h n i : Nat} (hh : h ≤ 1) (hi : i < n) : ¬ (h * n ≤ (1 - h) * n + i ∧ (1 - h) * n + i < h * n + n) := by
  rcases Nat.le_one_iff_eq_zero_or_eq_one.1 hh with rfl | rfl <;> simp <;> omega

/-- Such a log is opened as it is. -/
theorem LogOk.opens {S : Secs} {L : LS} {rs : List (List UInt8)} (h : LogOk S L rs) : openL S L.size = L ∧ (foundM S L.size).1 = rs := by
  have hg := h.gen_pos
  have hmul := half_mul (n := L.size) h.half
  have hfit := h.fit
  obtain ⟨h1, h2⟩ := open_of (S := S) (post := halfP S (L.half * L.size + L.next) (L.size - L.next)) h.half h.may h.ne h.split
    (rec_older (fun p hp => by obtain ⟨i, hi, rfl⟩ := halfP_mem hp; exact h.older _ (by omega) (by omega)))
    (begin_le (fun p hp => by
      obtain ⟨i, hi, rfl⟩ := halfP_mem hp
      have h3 := half_apart h.half hi
      have h4 := half_mul (n := L.size) (h := 1 - L.half) (by omega)
      exact h.older _ (by omega) (by omega)) (by omega)) hg.1
  refine ⟨?_, by rw [h2]⟩
  have htop : topM (topM 0 (halfP S 0 L.size)) (halfP S L.size L.size) = L.top := by
    apply Int.le_antisymm
    · exact topM_eq (topM_eq (by rw [h.top]; omega) (fun p hp => by obtain ⟨i, hi, rfl⟩ := halfP_mem hp; exact h.tops _ (by omega))) (fun p hp => by obtain ⟨i, hi, rfl⟩ := halfP_mem hp; exact h.tops _ (by omega))
    · -- the log's first Part bears its generation
      have hlt : 0 < (rowsP L.gen 0 rs).length := by
        cases hr : rs with
        | nil => exact absurd hr h.ne
        | cons b r => have := partsN_pos b.length; simp only [rowsP, List.length_append, length_cutP]; omega
      have hp := h.parts 0 _ (List.getElem?_eq_getElem hlt)
      have hgp := (rows_all h.may _ (List.getElem_mem hlt)).2
      have hn0 : 0 < L.size := by have := h.next; omega
      rw [h.top]
      rw [← hp] at hgp
      rw [← hgp]
      rcases Nat.le_one_iff_eq_zero_or_eq_one.1 h.half with hz | hz
      · have := topM_ge (ps := halfP S 0 L.size) (t := 0)
        have h5 := this.2 (secP (S (0 + 0))) (List.mem_of_getElem? (get_halfP hn0))
        have h6 := (topM_ge (ps := halfP S L.size L.size) (t := topM 0 (halfP S 0 L.size))).1
        rw [hz, Nat.zero_mul]
        omega
      · have h5 := (topM_ge (ps := halfP S L.size L.size) (t := topM 0 (halfP S 0 L.size))).2 (secP (S (L.size + 0))) (List.mem_of_getElem? (get_halfP hn0))
        rw [hz, Nat.one_mul]
        exact h5
  unfold openL
  simp only [h1, h2, htop, ← h.next, ← h.seq]

/-- A disk that lives, and what it is told by. -/
structure Live (D : DS) (n : Nat) (k : Int) : Prop where
  n : D.n = n
  dead : D.dead = false
  fuse : D.fuse = -1
  ops : D.ops = k
  none : D.fresh = fun _ => none

theorem Live.wrote {D : DS} {n : Nat} {k : Int} (h : Live D n k) (x : Nat) (bs : List (List UInt8)) : Live (wroteD D x bs) n (k + bs.length + 1) := ⟨h.n, rfl, rfl, by show D.ops + _ + 1 = _; rw [h.ops], rfl⟩
theorem Live.calm {D : DS} {n : Nat} {k : Int} (h : Live D n k) (h0 : 0 ≤ k) : D.calm k := ⟨by rw [h.fuse]; omega, by rw [h.fuse]; omega, by rw [h.ops]; exact h0, by rw [h.ops]; exact Int.le_refl _⟩

theorem secs_len {g r : Int} {b : List UInt8} (hm : mayB g r = true) (hl : partsN b.length ≤ 255) : ∀ c ∈ secsB g r b, c.length = 64 := fun c hc => by
  simp only [secsB, List.mem_map] at hc
  obtain ⟨p, hp, rfl⟩ := hc
  exact length_bytesB (okB_iff.1 (cut_all_ok hm hl p hp)).2.2.2.2.2

theorem secs_get {g r : Int} {b : List UInt8} {i : Nat} {p : PartM} (h : (cutP g r b)[i]? = some p) : (secsB g r b)[i]? = some (bytesB p) := by
  simp only [secsB, List.getElem?_map, h, Option.map_some]

/-- Fresh on such a disk. -/
theorem fresh_live {D : DS} {L : LS} {b : List UInt8} {k : Int} (hv : Live D (2 * L.size) k) (hh : L.half ≤ 1) (htops : ∀ i, i < 2 * L.size → (secP (D.now i)).g ≤ L.top) (ht0 : 0 ≤ L.top) (ht1 : L.top < 4294967295) (hb : partsN b.length ≤ 255) (hs : partsN b.length ≤ L.size) :
    freshM L D b = ({ L with top := L.top + 1, gen := L.top + 1, half := otherM L, next := partsN b.length, seq := 1 }, wroteD D (otherM L * L.size) (secsB (L.top + 1) 0 b), 0) ∧
    LogOk (wroteD D (otherM L * L.size) (secsB (L.top + 1) 0 b)).now { L with top := L.top + 1, gen := L.top + 1, half := otherM L, next := partsN b.length, seq := 1 } [b] := by
  have hoth : otherM L ≤ 1 := by unfold otherM; split <;> omega
  have hmul := half_mul (n := L.size) hoth
  have hm : mayB (L.top + 1) 0 = true := mayB_iff.2 ⟨by omega, by omega, by omega, by omega⟩
  have hlen := length_secsB (L.top + 1) 0 b
  have hrow : rowsP (L.top + 1) 0 [b] = cutP (L.top + 1) 0 b := by simp [rowsP]
  refine ⟨?_, ?_⟩
  · unfold freshM
    rw [if_neg (by omega)]
    simp only
    rw [wr_live _ _ _ hv.dead hv.fuse (by rw [hv.n]; omega) (secs_len hm hb)]
    simp
  · refine ⟨hoth, ⟨fun i hi => ?_, fun c hc => by simp at hc; subst hc; exact hb⟩, by simp, rfl, ?_, hs, ?_, ?_, rfl⟩
    · simp at hi; subst hi; simpa using hm
    · simp only [hrow, length_cutP]
    · intro i p hi
      simp only [hrow] at hi
      rw [wrote_now, laidS_in (secs_get hi)]
      exact secP_bytes (cut_all_ok hm hb p (List.mem_of_getElem? hi))
    · intro i hi hc
      simp only at hi hc
      rw [wrote_now, laidS_out (by omega)]
      have := htops i hi
      show _ < L.top + 1
      omega

/-- Append on such a disk. -/
theorem append_live {D : DS} {L : LS} {rs : List (List UInt8)} {b : List UInt8} {k : Int} (hv : Live D (2 * L.size) k) (h : LogOk D.now L rs) (hrs : rs.length ≤ 1000) (hb : partsN b.length ≤ 255) (hs : L.next + partsN b.length ≤ L.size) :
    appM L D b = ({ L with next := L.next + partsN b.length, seq := L.seq + 1 }, wroteD D (L.half * L.size + L.next) (secsB L.gen L.seq b), true, 0) ∧
    LogOk (wroteD D (L.half * L.size + L.next) (secsB L.gen L.seq b)).now { L with next := L.next + partsN b.length, seq := L.seq + 1 } (rs ++ [b]) := by
  have hg := h.gen_pos
  have hmul := half_mul (n := L.size) h.half
  have hm : mayB L.gen L.seq = true := mayB_iff.2 ⟨by omega, by omega, by rw [h.seq]; omega, by rw [h.seq]; omega⟩
  have hlen := length_secsB L.gen L.seq b
  have hrow : rowsP L.gen 0 (rs ++ [b]) = rowsP L.gen 0 rs ++ cutP L.gen L.seq b := by
    rw [rowsP_append, Int.zero_add, ← h.seq]; simp [rowsP]
  refine ⟨?_, ?_⟩
  · unfold appM
    rw [if_neg (by omega)]
    simp only
    rw [wr_live _ _ _ hv.dead hv.fuse (by rw [hv.n]; omega) (secs_len hm hb)]
    simp
  · refine ⟨h.half, ⟨fun i hi => ?_, fun c hc => ?_⟩, by simp, ?_, ?_, hs, ?_, ?_, h.top⟩
    · simp at hi
      exact mayB_iff.2 ⟨by show 1 ≤ L.gen; omega, by show L.gen ≤ _; omega, by omega, by omega⟩
    · rcases List.mem_append.1 hc with hc | hc
      · exact h.may.2 c hc
      · simp at hc; subst hc; exact hb
    · show L.seq + 1 = _; rw [h.seq]; simp
    · show L.next + _ = _; simp only [hrow, List.length_append, length_cutP, h.next]
    · intro i p hi
      simp only [hrow] at hi
      rw [wrote_now]
      by_cases hil : i < (rowsP L.gen 0 rs).length
      · rw [List.getElem?_append_left hil] at hi
        rw [laidS_out (by show L.half * L.size + i < _ ∨ _; rw [← h.next] at hil; omega)]
        exact h.parts i p hi
      · rw [List.getElem?_append_right (by omega), ← h.next] at hi
        have := laidS_in (S := D.now) (x := L.half * L.size + L.next) (secs_get hi)
        rw [show L.half * L.size + L.next + (i - L.next) = L.half * L.size + i by rw [← h.next] at hil; omega] at this
        show secP (laidS D.now (L.half * L.size + L.next) (secsB L.gen L.seq b) (L.half * L.size + i)) = p
        rw [this]
        exact secP_bytes (cut_all_ok hm hb p (List.mem_of_getElem? hi))
    · intro i hi hc
      simp only at hi hc
      rw [wrote_now, laidS_out (by omega)]
      exact h.older i hi (by omega)

theorem append_full {D : DS} {L : LS} {b : List UInt8} (hs : L.size < L.next + partsN b.length) : appM L D b = (L, D, false, 0) := by unfold appM; rw [if_pos (.inr hs)]

/-! ### A new disk -/

theorem secP_zeros : secP zeros = noPart := by
  unfold secP
  have : parseB zeros = none := by decide
  rw [this]; rfl
theorem new_now (n : Nat) : (newDS n).now = fun _ => zeros := rfl
theorem new_live (n : Nat) : Live (newDS n) n 0 := ⟨rfl, rfl, rfl, rfl, rfl⟩
theorem open_new (n size : Nat) : openL (newDS n).now size = ⟨size, 0, 0, 0, 0, 0⟩ ∧ foundM (newDS n).now size = ([], 0, 0) := by
  have hz : ∀ a m : Nat, ∀ p ∈ halfP (newDS n).now a m, p.g = 0 := fun a m p hp => by
    obtain ⟨i, _, rfl⟩ := halfP_mem hp
    rw [new_now, secP_zeros]; rfl
  have hb : ∀ ps : List PartM, (∀ p ∈ ps, p.g = 0) → beginM ps = 0 := fun ps h => by
    cases ps with
    | nil => rfl
    | cons p r => simp only [beginM, h p (by simp)]; split <;> rfl
  have ht : ∀ ps : List PartM, (∀ p ∈ ps, p.g = 0) → topM 0 ps = 0 := fun ps h => Int.le_antisymm (topM_eq (Int.le_refl _) (fun p hp => by rw [h p hp]; exact Int.le_refl _)) topM_ge.1
  have hc : chooseM (halfP (newDS n).now 0 size) (halfP (newDS n).now size size) = (0, 0) := by
    unfold chooseM; rw [hb _ (hz 0 size), hb _ (hz size size)]; rfl
  have hf : foundM (newDS n).now size = ([], 0, 0) := by unfold foundM; simp only [hc]; rfl
  refine ⟨?_, hf⟩
  unfold openL
  simp only [hc, hf, ht _ (hz 0 size), ht _ (hz size size)]

end Go.Proofs.YtfampoblcielpaaGreat
