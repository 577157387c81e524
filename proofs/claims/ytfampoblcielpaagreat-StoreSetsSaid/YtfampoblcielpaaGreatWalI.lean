/-
  Logs by chapter 3 itself: what lies on a disk on which records were written, and what Open finds there. No program is walked here.
-/
import Derived.Test.YtfampoblcielpaaGreatWalH
namespace Go.Proofs.YtfampoblcielpaaGreat
set_option maxRecDepth 100000
open Go.RowKit

/-! ### Sectors laid on a disk -/

/-- Sectors, with others laid from one on. -/
def laidS (S : Secs) (x : Nat) (bs : List (List UInt8)) : Secs := fun i => (if x ≤ i then bs[i - x]? else none).getD (S i)

theorem laidS_in {S : Secs} {x : Nat} {bs : List (List UInt8)} {i : Nat} {b : List UInt8} (h : bs[i]? = some b) : laidS S x bs (x + i) = b := by
  unfold laidS; rw [if_pos (by omega), Nat.add_sub_cancel_left, h]; rfl
theorem laidS_out {S : Secs} {x : Nat} {bs : List (List UInt8)} {i : Nat} (h : i < x ∨ x + bs.length ≤ i) : laidS S x bs i = S i := by
  unfold laidS
  by_cases hx : x ≤ i
  · rw [if_pos hx, List.getElem?_eq_none (by omega)]; rfl
  · rw [if_neg hx]; rfl
theorem laidS_cons (S : Secs) (x : Nat) (b : List UInt8) (l : List (List UInt8)) : laidS S x (b :: l) = laidS (fun i => if i = x then b else S i) (x + 1) l := by
  funext i
  unfold laidS
  by_cases h1 : x + 1 ≤ i
  · rw [if_pos (by omega), if_pos h1, show i - x = (i - (x + 1)) + 1 by omega, List.getElem?_cons_succ]
    cases l[i - (x + 1)]? with
    | none => simp; intro h; omega
    | some c => rfl
  · rw [if_neg h1]
    by_cases h2 : i = x
    · subst h2; simp
    · rw [if_neg (by omega)]; simp [h2]

theorem put_now (D : DS) (f k : Int) (x : Nat) (b : List UInt8) : (D.put f k x b).now = fun i => if i = x then b else D.now i := by
  funext i
  simp only [DS.now, DS.put]
  by_cases h : i = x
  · subst h; simp
  · rw [if_neg (by omega)]; simp [h]

/-- What writing leaves on a disk that lives without a fuse. -/
def wroteD (D : DS) (x : Nat) (bs : List (List UInt8)) : DS := { n := D.n, last := laidS D.now x bs, fresh := fun _ => none, fuse := -1, dead := false, ops := D.ops + bs.length + 1 }

theorem wr_live : ∀ (bs : List (List UInt8)) (D : DS) (x : Nat), D.dead = false → D.fuse = -1 → x + bs.length ≤ D.n → (∀ b ∈ bs, b.length = 64) → wrM D x bs = (wroteD D x bs, 0)
  | [], D, x, hd, hf, _, _ => by
    have e : laidS D.now x [] = D.now := by funext i; exact laidS_out (by simp; omega)
    simp only [wrM, DS.flushR, hd, hf, wroteD, DS.flushed, burnt, e]
    simp
    rfl
  | b :: l, D, x, hd, hf, hx, hb => by
    simp only [List.length_cons] at hx
    have hbl : b.length = 64 := hb b (by simp)
    have hbad : badW (x : Int) D.n b.length = false := by simp [badW, hasB, hbl]; omega
    have hw : D.writeR x b = (D.put (-1) (D.ops + 1) x b, 0) := by
      unfold DS.writeR
      simp [hd, hbad, hf, burnt]
    have ih := wr_live l (D.put (-1) (D.ops + 1) x b) (x + 1) hd rfl (by show x + 1 + l.length ≤ D.n; omega) (fun c hc => hb c (by simp [hc]))
    simp only [wrM, hw, if_true, ih]
    have e1 : laidS (D.put (-1) (D.ops + 1) x b).now (x + 1) l = laidS D.now x (b :: l) := by rw [put_now, laidS_cons]
    simp only [wroteD, e1, List.length_cons]
    congr 2
    show D.ops + 1 + (l.length : Int) + 1 = D.ops + ((l.length + 1 : Nat) : Int) + 1
    omega

theorem wrote_now (D : DS) (x : Nat) (bs : List (List UInt8)) : (wroteD D x bs).now = laidS D.now x bs := rfl

/-! ### Rows of Parts -/

/-- The Parts of records, one behind the other. -/
def rowsP (g : Int) : Int → List (List UInt8) → List PartM
  | _, [] => []
  | j, b :: l => cutP g j b ++ rowsP g (j + 1) l
def rowsB (g j : Int) (rs : List (List UInt8)) : List (List UInt8) := (rowsP g j rs).map bytesB

theorem rowsP_append (g : Int) : ∀ (a b : List (List UInt8)) (j : Int), rowsP g j (a ++ b) = rowsP g j a ++ rowsP g (j + a.length) b
  | [], b, j => by simp [rowsP]
  | x :: a, b, j => by simp only [List.cons_append, rowsP, rowsP_append g a b, List.append_assoc, List.length_cons]; congr 3; omega

theorem secP_bytes {p : PartM} (h : okB p = true) : secP (bytesB p) = p := by unfold secP; rw [parse_bytes h]; rfl

theorem cut_all_ok {g r : Int} {b : List UInt8} (hm : mayB g r = true) (hl : partsN b.length ≤ 255) : ∀ p ∈ cutP g r b, okB p = true := fun p hp => by
  obtain ⟨k, hk⟩ := List.getElem?_of_mem hp
  obtain ⟨rfl, h2⟩ := cutP_get g r b k p hk
  exact cut_okB hm hl h2
theorem cut_all_g {g r : Int} {b : List UInt8} : ∀ p ∈ cutP g r b, p.g = g := fun p hp => by
  obtain ⟨k, hk⟩ := List.getElem?_of_mem hp
  rw [(cutP_get g r b k p hk).1]

/-- Records that may be written: their numbers, their sizes. -/
def MayRows (g j : Int) (rs : List (List UInt8)) : Prop := (∀ i : Nat, i < rs.length → mayB g (j + i) = true) ∧ ∀ b ∈ rs, partsN b.length ≤ 255
theorem MayRows.tail {g j : Int} {b : List UInt8} {rs : List (List UInt8)} (h : MayRows g j (b :: rs)) : MayRows g (j + 1) rs :=
  ⟨fun i hi => by have := h.1 (i + 1) (by simp; omega); rw [show j + 1 + (i : Int) = j + ((i + 1 : Nat) : Int) by omega]; exact this, fun c hc => h.2 c (by simp [hc])⟩
theorem MayRows.head {g j : Int} {b : List UInt8} {rs : List (List UInt8)} (h : MayRows g j (b :: rs)) : mayB g j = true ∧ partsN b.length ≤ 255 :=
  ⟨by have := h.1 0 (by simp); simpa using this, h.2 b (by simp)⟩

theorem rows_all {g : Int} : ∀ {rs : List (List UInt8)} {j : Int}, MayRows g j rs → ∀ p ∈ rowsP g j rs, okB p = true ∧ p.g = g
  | [], _, _ => fun p hp => by cases hp
  | b :: rs, j, h => fun p hp => by
    simp only [rowsP, List.mem_append] at hp
    rcases hp with hp | hp
    · exact ⟨cut_all_ok h.head.1 h.head.2 p hp, cut_all_g p hp⟩
    · exact rows_all h.tail p hp

theorem cut_head (g r : Int) (b : List UInt8) : (cutP g r b)[0]? = some ⟨g, r, 0, partsN b.length, pieceB (wholeB b) 0⟩ := by
  have := partsN_pos b.length
  simp only [cutP, List.getElem?_map, List.getElem?_range this, Option.map_some]; rfl

/-- A record of which all Parts are there. -/
theorem rec_here {g r : Int} {b : List UInt8} (hm : mayB g r = true) (hl : partsN b.length ≤ 255) (post : List PartM) : recM (cutP g r b ++ post) g r = some (b, partsN b.length) := by
  have hpos := partsN_pos b.length
  have hlen := length_cutP g r b
  have h0 : (cutP g r b ++ post)[0]? = some ⟨g, r, 0, partsN b.length, pieceB (wholeB b) 0⟩ := by rw [List.getElem?_append_left (by omega)]; exact cut_head g r b
  rw [recM_yes h0 ⟨rfl, rfl, by simp [hlen]; omega⟩]
  simp only [Int.toNat_natCast]
  rw [List.take_append_of_le_length (by omega), List.take_of_length_le (by omega), join_cut hm hl]
  rfl

theorem follow_rows (g : Int) (ps : List PartM) : ∀ (rs : List (List UInt8)) (post : List PartM) (f next : Nat) (j : Int), ps.drop next = rowsP g j rs ++ post → recM post g (j + rs.length) = none → rs.length < f → MayRows g j rs →
    followM ps g f next j = (rs, next + (rowsP g j rs).length, j + rs.length)
  | [], post, f + 1, next, j, hd, hn, _, _ => by
    simp only [rowsP, List.nil_append] at hd
    simp only [List.length_nil] at hn
    rw [show j + ((0 : Nat) : Int) = j by omega] at hn
    simp only [followM, hd, hn, rowsP, List.length_nil]
    simp
  | b :: rs, post, f + 1, next, j, hd, hn, hf, hm => by
    simp only [rowsP, List.append_assoc] at hd
    have hr := rec_here hm.head.1 hm.head.2 (rowsP g (j + 1) rs ++ post)
    rw [← hd] at hr
    have hd2 : ps.drop (next + partsN b.length) = rowsP g (j + 1) rs ++ post := by
      rw [← List.drop_drop, hd, List.drop_append_of_le_length (by rw [length_cutP]; exact Nat.le_refl _), List.drop_of_length_le (by rw [length_cutP]; exact Nat.le_refl _), List.nil_append]
    have ih := follow_rows g ps rs post f (next + partsN b.length) (j + 1) hd2 (by rw [← hn]; congr 1; simp only [List.length_cons]; omega) (by simp only [List.length_cons] at hf; omega) hm.tail
    simp only [followM, hr, ih, rowsP, List.length_append, length_cutP, List.length_cons]
    refine Prod.ext rfl (Prod.ext ?_ ?_)
    · show next + partsN b.length + _ = next + (partsN b.length + _); omega
    · show j + 1 + (rs.length : Int) = j + ((rs.length + 1 : Nat) : Int); omega
  | _, _, 0, _, _, _, _, hf, _ => by omega

end Go.Proofs.YtfampoblcielpaaGreat
