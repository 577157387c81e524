/-
  How Parts are joined: what chapter 2 says by itself.
-/
import Derived.Test.YtfampoblcielpaaGreatSectE
namespace Go.Proofs.YtfampoblcielpaaGreat
set_option linter.unusedVariables false
set_option maxRecDepth 100000
open Go.RowKit

def flatP (ps : List PartM) : List UInt8 := (ps.map (·.d)).flatten
theorem length_flatP : ∀ {ps : List PartM}, (∀ p ∈ ps, p.d.length = 52) → (flatP ps).length = ps.length * 52
  | [], _ => rfl
  | p :: ps, h => by
    have h1 := h p (by simp)
    have h2 := length_flatP (ps := ps) (fun q hq => h q (by simp [hq]))
    simp only [flatP, List.map_cons, List.flatten_cons, List.length_append, List.length_cons] at h2 ⊢
    omega
theorem flatP_snoc (ps : List PartM) (p : PartM) : flatP (ps ++ [p]) = flatP ps ++ p.d := by simp [flatP]
theorem piece_flat : ∀ {ps : List PartM} {i : Nat} (hi : i < ps.length), (∀ p ∈ ps, p.d.length = 52) → pieceB (flatP ps) i = ps[i].d
  | p :: ps, 0, _, h => by
    have h1 := h p (by simp)
    simp only [flatP, List.map_cons, List.flatten_cons, pieceB, Nat.zero_mul, List.drop_zero, List.getElem_cons_zero]
    rw [List.take_append_of_le_length (by omega), List.take_of_length_le (by omega)]
  | p :: ps, i + 1, hi, h => by
    have h1 := h p (by simp)
    have h2 := piece_flat (ps := ps) (i := i) (by simpa using hi) (fun q hq => h q (by simp [hq]))
    simp only [flatP, List.map_cons, List.flatten_cons, pieceB, List.getElem_cons_succ] at h2 ⊢
    rw [← h2, List.drop_append, List.drop_of_length_le (by omega), List.nil_append, h1, show (i + 1) * 52 - 52 = i * 52 by omega]
theorem pieces (t : List UInt8) : ∀ n, ((List.range n).map (pieceB t)).flatten = t.take (n * 52)
  | 0 => by simp
  | n + 1 => by
    rw [List.range_succ, List.map_append, List.flatten_append, pieces t n]
    simp only [List.map_cons, List.map_nil, List.flatten_cons, List.flatten_nil, List.append_nil, pieceB]
    rw [Nat.succ_mul, List.take_add]
theorem flat_cut (g r : Int) (b : List UInt8) : flatP (cutP g r b) = wholeB b := by
  have h := pieces (wholeB b) (partsN b.length)
  rw [List.take_of_length_le (by rw [length_wholeB]; exact Nat.le_refl _)] at h
  rw [← h]
  simp [flatP, cutP, Function.comp_def]

/-- Is Part k of these all that it must be? -/
def recOk (ps : List PartM) (k : Nat) : Bool :=
  match ps[k]?, ps[0]? with
  | some p, some p0 => okB p && decide (p.g = p0.g) && decide (p.r = p0.r) && decide (p.n = (k : Int)) && decide (p.o = (ps.length : Int))
  | _, _ => false
def oneRec (ps : List PartM) : Bool := (List.range ps.length).all (recOk ps) && decide (0 < ps.length)
theorem recOk_at {ps : List PartM} {k : Nat} {p p0 : PartM} (h : ps[k]? = some p) (h0 : ps[0]? = some p0) :
    recOk ps k = true ↔ okB p = true ∧ p.g = p0.g ∧ p.r = p0.r ∧ p.n = (k : Int) ∧ p.o = (ps.length : Int) := by
  unfold recOk; rw [h, h0]; simp [and_assoc]
theorem oneRec_iff {ps : List PartM} {p0 : PartM} (h0 : ps[0]? = some p0) :
    oneRec ps = true ↔ ∀ (k : Nat) (p : PartM), ps[k]? = some p → okB p = true ∧ p.g = p0.g ∧ p.r = p0.r ∧ p.n = (k : Int) ∧ p.o = (ps.length : Int) := by
  have hl := (List.getElem?_eq_some_iff.1 h0).1
  unfold oneRec
  simp only [Bool.and_eq_true, List.all_eq_true, List.mem_range, decide_eq_true_eq]
  constructor
  · rintro ⟨h, _⟩ k p hp
    exact (recOk_at hp h0).1 (h k (List.getElem?_eq_some_iff.1 hp).1)
  · intro h
    refine ⟨fun k hk => ?_, hl⟩
    exact (recOk_at (List.getElem?_eq_getElem hk) h0).2 (h k _ (List.getElem?_eq_getElem hk))

def toldP (ps : List PartM) : Nat := numB ((flatP ps).take 4)
def fitsP (ps : List PartM) : Prop := oneRec ps = true ∧ toldP ps ≤ ps.length * 52 - 4 ∧ partsN (toldP ps) = ps.length ∧ ((flatP ps).drop (4 + toldP ps)).all (· == 0) = true
instance (ps : List PartM) : Decidable (fitsP ps) := by unfold fitsP; infer_instance
/-- Which bytes were cut into these. -/
def joinB (ps : List PartM) : Option (List UInt8) := if fitsP ps then some (((flatP ps).drop 4).take (toldP ps)) else none

theorem cutP_get (g r : Int) (b : List UInt8) (k : Nat) (p : PartM) (h : (cutP g r b)[k]? = some p) : p = ⟨g, r, (k : Int), (partsN b.length : Int), pieceB (wholeB b) k⟩ ∧ k < partsN b.length := by
  have hk := (List.getElem?_eq_some_iff.1 h).1
  rw [length_cutP] at hk
  rw [cutP, List.getElem?_map, List.getElem?_range hk] at h
  simp at h
  exact ⟨h.symm, hk⟩
theorem partsN_pos (n : Nat) : 0 < partsN n := by unfold partsN; omega
theorem cut_okB {g r : Int} {b : List UInt8} (hm : mayB g r = true) (hl : partsN b.length ≤ 255) {k : Nat} (hk : k < partsN b.length) : okB ⟨g, r, (k : Int), (partsN b.length : Int), pieceB (wholeB b) k⟩ = true := by
  have hp := length_pieceB (wholeB b) k (by rw [length_wholeB]; omega)
  exact okB_iff.2 ⟨mayB_iff.1 hm, by simp only; omega, by simp only; omega, by simp only; omega, by simp only; omega, hp⟩
theorem told_cut (g r : Int) (b : List UInt8) (h : b.length < 4294967296) : toldP (cutP g r b) = b.length := by
  unfold toldP
  rw [flat_cut, wholeB, List.take_append_of_le_length (by rw [length_leB]; omega), List.take_of_length_le (by rw [length_leB]; omega), numB_leB_lt (by omega)]
theorem drop4_whole (b : List UInt8) : (wholeB b).drop 4 = b ++ List.replicate (partsN b.length * 52 - (4 + b.length)) 0 := by
  have e4 := length_leB 4 b.length
  rw [wholeB, List.drop_append, List.drop_of_length_le (by omega), List.nil_append, e4, Nat.sub_self, List.drop_zero]
theorem all_nul (n : Nat) : (List.replicate n (0 : UInt8)).all (· == 0) = true := by
  rw [List.all_eq_true]; intro x hx; rw [List.eq_of_mem_replicate hx]; rfl

theorem join_cut {g r : Int} {b : List UInt8} (hm : mayB g r = true) (hl : partsN b.length ≤ 255) : joinB (cutP g r b) = some b := by
  have hle := partsN_le b.length
  have ht := told_cut g r b (by omega)
  have hpos := partsN_pos b.length
  have hfit : fitsP (cutP g r b) := by
    refine ⟨?_, by rw [ht, length_cutP]; omega, by rw [ht, length_cutP], ?_⟩
    · have h0 : (cutP g r b)[0]? = some ((cutP g r b)[0]'(by rw [length_cutP]; exact hpos)) := List.getElem?_eq_getElem _
      rw [oneRec_iff h0]
      intro k p hp
      obtain ⟨rfl, hk⟩ := cutP_get g r b k p hp
      obtain ⟨e0, _⟩ := cutP_get g r b 0 _ h0
      rw [e0, length_cutP]
      exact ⟨cut_okB hm hl hk, rfl, rfl, rfl, rfl⟩
    · rw [ht, flat_cut, ← List.drop_drop, drop4_whole, List.drop_left]
      exact all_nul _
  unfold joinB
  rw [if_pos hfit, ht, flat_cut, drop4_whole, List.take_left]

theorem nul_of_all : ∀ {l : List UInt8}, l.all (· == 0) = true → l = List.replicate l.length 0
  | [], _ => rfl
  | x :: l, h => by
    simp only [List.all_cons, Bool.and_eq_true, beq_iff_eq] at h
    rw [List.length_cons, List.replicate_succ, ← nul_of_all h.2, h.1]

theorem cut_join {ps : List PartM} {b : List UInt8} {p0 : PartM} (h0 : ps[0]? = some p0) (h : joinB ps = some b) : mayB p0.g p0.r = true ∧ partsN b.length ≤ 255 ∧ ps = cutP p0.g p0.r b ∧ b.length = toldP ps := by
  unfold joinB at h
  split at h
  case isFalse => cases h
  rename_i hfit
  obtain ⟨h1, h2, h3, h4⟩ := hfit
  injection h with hb
  have hone := (oneRec_iff h0).1 h1
  have hlen := (List.getElem?_eq_some_iff.1 h0).1
  obtain ⟨hok0, _, _, _, ho0⟩ := hone 0 p0 h0
  have hk := okB_iff.1 hok0
  have hd : ∀ p ∈ ps, p.d.length = 52 := fun p hp => by
    obtain ⟨k, hk⟩ := List.getElem?_of_mem hp
    exact (okB_iff.1 (hone k p hk).1).2.2.2.2.2
  have hfl := length_flatP hd
  have hbl : b.length = toldP ps := by rw [← hb, List.length_take, List.length_drop, hfl]; omega
  have hwh : wholeB b = flatP ps := by
    have e1 : leB 4 b.length = (flatP ps).take 4 := by
      rw [hbl]
      have := leB_numB ((flatP ps).take 4)
      rw [List.length_take, hfl, Nat.min_eq_left (by omega)] at this
      exact this
    have e2 := nul_of_all h4
    rw [List.length_drop, hfl] at e2
    unfold wholeB
    rw [e1, hbl, h3, ← e2, ← hb, ← List.drop_drop, List.take_append_drop, List.take_append_drop]
  refine ⟨mayB_iff.2 hk.1, by rw [hbl, h3]; omega, ?_, hbl⟩
  apply List.ext_getElem?
  intro k
  rcases Nat.lt_or_ge k ps.length with hkl | hkl
  · obtain ⟨hok, e1, e2, e3, e4⟩ := hone k _ (List.getElem?_eq_getElem hkl)
    have hkl' : k < (cutP p0.g p0.r b).length := by rw [length_cutP, hbl, h3]; exact hkl
    rw [List.getElem?_eq_getElem hkl, List.getElem?_eq_getElem hkl']
    obtain ⟨e5, _⟩ := cutP_get p0.g p0.r b k _ (List.getElem?_eq_getElem hkl')
    rw [e5]
    congr 1
    refine PartM.same e1 e2 e3 ?_ ?_
    · rw [e4, hbl, h3]
    · simp only; rw [hwh, piece_flat hkl hd]
  · rw [List.getElem?_eq_none hkl, List.getElem?_eq_none (by rw [length_cutP, hbl, h3]; exact hkl)]

end Go.Proofs.YtfampoblcielpaaGreat
