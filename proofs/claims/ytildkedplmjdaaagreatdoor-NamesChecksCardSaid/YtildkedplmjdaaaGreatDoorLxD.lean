/-
  Tokens.
-/
import Derived.Test.YtildkedplmjdaaaGreatDoorLxA
import Derived.Test.YtildkedplmjdaaaGreatDoorShelf
namespace Go.Proofs.YtildkedplmjdaaaGreatDoor
set_option maxRecDepth 100000
set_option linter.unusedVariables false
open Go.RowKit Go.Sort

def letR (r : Nat) : Bool := decide (97 ≤ r) && decide (r ≤ 122)
def digR (r : Nat) : Bool := decide (48 ≤ r) && decide (r ≤ 57)
def blankR (r : Nat) : Bool := decide (r = 32) || decide (r = 9) || decide (r = 10)

theorem letter_any (w : World) (r : Nat) : Calls Tryz.prog 97 #[.int .i32 r] w fun e w' => e = .returned (.bool (letR r)) ∧ w = w' := by
  go_enter Tryz.func97, Tryz.ntmps97
  by_cases h1 : (97 : Int) ≤ (r : Int)
  · go_wp2
    go_ret
    refine ⟨?_, rfl⟩
    have : 97 ≤ r := by omega
    by_cases h2 : r ≤ 122 <;> simp [letR, this, h2] <;> omega
  · go_wp2
    go_ret
    refine ⟨?_, rfl⟩
    have : ¬ 97 ≤ r := by omega
    simp [letR, this]

theorem digit_any (w : World) (r : Nat) : Calls Tryz.prog 104 #[.int .i32 r] w fun e w' => e = .returned (.bool (digR r)) ∧ w = w' := by
  go_enter Tryz.func104, Tryz.ntmps104
  by_cases h1 : (48 : Int) ≤ (r : Int)
  · go_wp2
    go_ret
    refine ⟨?_, rfl⟩
    have : 48 ≤ r := by omega
    by_cases h2 : r ≤ 57 <;> simp [digR, this, h2] <;> omega
  · go_wp2
    go_ret
    refine ⟨?_, rfl⟩
    have : ¬ 48 ≤ r := by omega
    simp [digR, this]

theorem blank_any (w : World) (r : Nat) : Calls Tryz.prog 99 #[.int .i32 r] w fun e w' => e = .returned (.bool (blankR r)) ∧ w = w' := by
  go_enter Tryz.func99, Tryz.ntmps99
  by_cases h1 : (r : Int) = 32
  · go_wp2
    go_ret
    refine ⟨?_, rfl⟩
    have : r = 32 := by omega
    simp [blankR, this]
  · by_cases h2 : (r : Int) = 9
    · go_wp2
      go_ret
      refine ⟨?_, rfl⟩
      have : r = 9 := by omega
      simp [blankR, this]
    · by_cases h3 : (r : Int) = 10
      · go_wp2
        go_ret
        refine ⟨?_, rfl⟩
        have : r = 10 := by omega
        simp [blankR, this]
      · go_wp2
        go_ret
        refine ⟨?_, rfl⟩
        have a1 : ¬ r = 32 := by omega
        have a2 : ¬ r = 9 := by omega
        have a3 : ¬ r = 10 := by omega
        simp [blankR, a1, a2, a3]
        omega

theorem word_any (w : World) (s : List UInt8) : Calls Tryz.prog 92 #[encStr s] w fun e w' => e = .returned (.bool (wordM s)) ∧ w = w' := by
  unfold encStr
  go_enter Tryz.func92, Tryz.ntmps92
  go_wp2
  all_goals
    go_ret
    refine ⟨?_, rfl⟩
    simp_all [wordM, wordsM]

/-- What a range over a text hands out at a place. -/
theorem rune_at (s : List UInt8) (k : Nat) (hk : k < s.length) : ∃ r n : Nat, Utf8.decode ⟨s.toArray⟩ k = (r, n) ∧ r ≤ 2147483647 ∧ 1 ≤ n ∧ (s[k].toNat < 128 → n = 1) ∧ letR r = letB s[k] ∧ digR r = digB s[k] ∧ blankR r = blankB s[k] ∧ (r = 123 ↔ s[k].toNat = 123) ∧ (r = 125 ↔ s[k].toNat = 125) := by
  have hk' : k < (⟨s.toArray⟩ : ByteArray).size := by simpa [ByteArray.size] using hk
  have hget : (⟨s.toArray⟩ : ByteArray)[k]'hk' = s[k] := rfl
  have hle := decode_le ⟨s.toArray⟩ k
  have hlt := s[k].toNat_lt
  by_cases ha : s[k].toNat < 128
  · have h := decode_ascii ⟨s.toArray⟩ k hk' (by rw [hget]; exact ha)
    rw [hget] at h
    refine ⟨_, _, h, by omega, Nat.le_refl _, fun _ => rfl, rfl, rfl, rfl, Iff.rfl, Iff.rfl⟩
  · have h := decode_high ⟨s.toArray⟩ k hk' (by rw [hget]; omega)
    generalize hd : Utf8.decode ⟨s.toArray⟩ k = d at *
    obtain ⟨r, n⟩ := d
    simp only at h hle
    refine ⟨r, n, rfl, hle, h.2, fun h => absurd h ha, ?_, ?_, ?_, by omega, by omega⟩
    · have a1 : ¬ r ≤ 122 := by omega
      have a2 : ¬ s[k].toNat ≤ 122 := by omega
      simp [letR, letB, a1, a2]
    · have a1 : ¬ r ≤ 57 := by omega
      have a2 : ¬ s[k].toNat ≤ 57 := by omega
      simp [digR, digB, a1, a2]
    · have a1 : ¬ r = 32 := by omega
      have a2 : ¬ r = 9 := by omega
      have a3 : ¬ r = 10 := by omega
      have b1 : ¬ s[k].toNat = 32 := by omega
      have b2 : ¬ s[k].toNat = 9 := by omega
      have b3 : ¬ s[k].toNat = 10 := by omega
      simp [blankR, blankB, a1, a2, a3, b1, b2, b3]

theorem aln_ascii {c : UInt8} (h : alnB c = true) : c.toNat < 128 := by
  simp [alnB, letB, digB] at h
  omega

theorem extract_list (s : List UInt8) (i j : Nat) : (⟨s.toArray⟩ : ByteArray).extract i j = ⟨((s.drop i).take (j - i)).toArray⟩ := by
  apply ByteArray.ext
  simp [ByteArray.data_extract, List.take_drop, List.extract_toArray]

set_option maxHeartbeats 4000000 in
theorem row_any (w : World) (s : List UInt8) (hs : s.length ≤ 100000) : Calls Tryz.prog 91 #[encStr s] w fun e w' => e = .returned (encStr (rowM s)) ∧ Only [] w w' := by
  unfold encStr
  have hsz : (⟨s.toArray⟩ : ByteArray).size = s.length := by simp [ByteArray.size]
  go_enter Tryz.func91, Tryz.ntmps91
  go_wp2_with fail
  go_loopw [3, 4] (fun _ _ wr => ∃ k : Nat, k ≤ s.length ∧ wr.heap[w.heap.size]? = some (.stringIter ⟨s.toArray⟩ k) ∧ Only [] w wr ∧ Hid (∀ (j : Nat) (hj : j < s.length), j < k → (letB s[j] || decide (0 < j) && digB s[j]) = true)) (fun _ _ wr => s.length - wr.iterPos w.heap.size)
  case atStart => exact ⟨0, Nat.zero_le _, World.iter_heap w _ 0, (Only.refl [] w).alloc _, Lib.hid (fun j hj h => by omega)⟩
  case round =>
    obtain ⟨k, hk, hit, hO, hall⟩ := hrel
    have HO := Lib.hid hO
    clear hO
    by_cases hlt : k < s.length
    · have hnx : ∀ ty, (Instr.next (.pointer (some ⟨w.heap.size, 0, none⟩)) true ty).run Tryz.prog wr = _ := fun ty => Lib.run_next_any_at wr w.heap.size ⟨s.toArray⟩ k ty hit (by rw [hsz]; exact hlt)
      obtain ⟨r, n, hd, hr, hn, hasc, h1, h2, -⟩ := rune_at s k hlt
      rw [hd] at hnx
      simp only at hnx
      have hit2 := Lib.hid (Lib.iterAt_heap wr w.heap.size ⟨s.toArray⟩ k (k + n) hit)
      have HO2 := Lib.hid (HO.out.iterAt (k := w.heap.size) (Nat.le_refl _) ⟨s.toArray⟩ (k + n))
      have Hok : Hid (∀ b, (letB s[k] || decide (0 < k) && digB s[k]) = b → (letR r || decide (0 < k) && digR r) = b) := Lib.hid (fun b hb => by rw [h1, h2]; exact hb)
      have Hpos : Hid ((letR r || decide (0 < k) && digR r) = true → n = 1 ∧ ∀ (j : Nat) (hj : j < s.length), j < k + n → (letB s[j] || decide (0 < j) && digB s[j]) = true) := Lib.hid (fun hb => by
        rw [h1, h2] at hb
        have hn1 : n = 1 := hasc (aln_ascii (by unfold alnB; revert hb; cases letB s[k] <;> simp))
        refine ⟨hn1, fun j hj hjk => ?_⟩
        by_cases hjk' : j = k
        · subst hjk'; exact hb
        · exact hall.out j hj (by omega))
      have Hend : Hid ((letR r || decide (0 < k) && digR r) = false → rowM s = s.take k) := Lib.hid (fun hb => by
        rw [h1, h2] at hb
        exact row_take s k hk hall.out (fun _ => hb))
      have hip : Hid (wr.iterPos w.heap.size = k) := Lib.hid (by simp only [World.iterPos, hit])
      have hip2 : Hid ((wr.iterAt w.heap.size ⟨s.toArray⟩ (k + n)).iterPos w.heap.size = k + n) := Lib.hid (by simp only [World.iterPos, hit2.out])
      clear hit hd h1 h2 hasc hall Hok
      generalize hW : wr.iterAt w.heap.size ⟨s.toArray⟩ (k + n) = W at *
      clear hW
      go_wp2_with fail
      refine (letter_any _ r).mono ?_
      rintro e w' ⟨rfl, rfl⟩
      cases hl : letR r with
      | true =>
        obtain ⟨hn1, hall2⟩ := Hpos.out (by rw [hl]; rfl)
        have Hall2 := Lib.hid hall2
        clear hl Hpos Hend hall2
        go_wp2
        go_roundw
        case rel => exact ⟨k + n, by omega, hit2.out, HO2.out, Hall2⟩
        case measure => rw [hip2.out, hip.out]; omega
      | false =>
        by_cases h0 : (0 : Int) < (k : Int)
        · have h0' : 0 < k := by omega
          go_wp2_with fail
          refine (digit_any _ r).mono ?_
          rintro e w' ⟨rfl, rfl⟩
          cases hdg : digR r with
          | true =>
            obtain ⟨hn1, hall2⟩ := Hpos.out (by rw [hl, hdg]; simp [h0'])
            have Hall2 := Lib.hid hall2
            clear hl hdg Hpos Hend hall2
            go_wp2
            go_roundw
            case rel => exact ⟨k + n, by omega, hit2.out, HO2.out, Hall2⟩
            case measure => rw [hip2.out, hip.out]; omega
          | false =>
            have Hrow := Lib.hid (Hend.out (by rw [hl, hdg]; simp))
            clear hl hdg Hpos Hend
            go_wp2
            go_ret
            rw [Hrow.out]
            exact ⟨by simp [extract_list], HO2.out⟩
        · have h0' : ¬ 0 < k := by omega
          have Hrow := Lib.hid (Hend.out (by rw [hl]; simp [h0']))
          clear hl Hpos Hend
          go_wp2
          go_ret
          rw [Hrow.out]
          exact ⟨by simp [extract_list], HO2.out⟩
    · have hnx : ∀ ty, (Instr.next (.pointer (some ⟨w.heap.size, 0, none⟩)) true ty).run Tryz.prog wr = _ := fun ty => Lib.run_next_end_at wr w.heap.size ⟨s.toArray⟩ k ty hit (by rw [hsz]; exact hlt)
      have Hrow : Hid (rowM s = s) := Lib.hid (by
        have := row_take s k hk hall.out (fun h => absurd h hlt)
        rw [this, show k = s.length by omega, List.take_length])
      clear hall hit
      go_wp2
      go_ret
      rw [Hrow.out]
      exact ⟨rfl, HO.out⟩

theorem name_any (w : World) (s : List UInt8) (hs : s.length ≤ 100000) : Calls Tryz.prog 76 #[encStr s] w fun e w' => e = .returned (.bool (nameM s)) ∧ Only [] w w' := by
  unfold encStr
  go_enter Tryz.func76, Tryz.ntmps76
  by_cases h1 : (s.length : Int) < 1
  · have h0 : s.length = 0 := by omega
    go_wp2
    go_ret
    exact ⟨by simp [nameM, h0], Only.refl _ _⟩
  by_cases h2 : (12 : Int) < (s.length : Int)
  · go_wp2
    go_ret
    exact ⟨by have : ¬ s.length ≤ 12 := by omega
              simp [nameM, this], Only.refl _ _⟩
  go_wp2_with fail
  refine (row_any _ s hs).mono ?_
  rintro e w1 ⟨rfl, hO⟩
  have HO := Lib.hid hO
  clear hO
  unfold encStr
  by_cases hr : rowM s = s
  · have hr' : (rowM s == s) = true := by simpa using hr
    go_wp2_with fail
    refine (word_any _ s).mono ?_
    rintro e w' ⟨rfl, rfl⟩
    go_wp2
    go_ret
    refine ⟨?_, HO.out⟩
    have a1 : 1 ≤ s.length := by omega
    have a2 : s.length ≤ 12 := by omega
    simp [nameM, hr, a1, a2]
  · have hr' : (rowM s == s) = false := by simpa using hr
    go_wp2
    go_ret
    refine ⟨?_, HO.out⟩
    simp [nameM, hr]

end Go.Proofs.YtildkedplmjdaaaGreatDoor
namespace Go.Proofs.YtildkedplmjdaaaGreatDoor
set_option maxRecDepth 100000
set_option linter.unusedVariables false
open Go.RowKit Go.Sort

theorem clone_any (w : World) (s : List UInt8) (hs : s.length ≤ 100000) : Calls Tryz.prog 98 #[encStr s] w fun e w' => e = .returned (encStr s) ∧ Only [] w w' := by
  unfold encStr
  have hlim : (⟨s.toArray⟩ : ByteArray).size ≤ 281474976710656 := by simp [ByteArray.size]; omega
  go_enter Tryz.func98, Tryz.ntmps98
  go_wp2_with fail
  refine (Tryz.stringslite_Clone _ _ hlim).mono ?_
  rintro e w1 ⟨rfl, hB⟩
  go_wp2
  go_ret
  exact ⟨rfl, Below.toOnly hB⟩

end Go.Proofs.YtildkedplmjdaaaGreatDoor
namespace Go.Proofs.YtildkedplmjdaaaGreatDoor
set_option maxRecDepth 100000
set_option linter.unusedVariables false
open Go.RowKit Go.Sort

/-- Where a walk over a text stands: p is where the next token may begin, acc what has been found. -/
def Stand (s : List UInt8) (p f : Nat) (acc : List Tok) : Prop :=
  p ≤ s.length ∧ s.length ≤ p + f ∧ acc.length ≤ p ∧ tokF s.length 0 s = (acc ++ (tokF f p (s.drop p)).1, (tokF f p (s.drop p)).2)

theorem Stand.start (s : List UInt8) : Stand s 0 s.length [] := ⟨Nat.zero_le _, by omega, by simp, by simp⟩
theorem Stand.done {s : List UInt8} {p f : Nat} {acc : List Tok} (h : Stand s p f acc) (hp : ¬ p < s.length) : tokF s.length 0 s = (acc, none) := by
  have e : s.drop p = [] := List.drop_eq_nil_of_le (by omega)
  rw [h.2.2.2, e]
  cases f <;> simp [tokF]
section
variable {s : List UInt8} {p f : Nat} {acc : List Tok}
theorem Stand.succ (h : Stand s p f acc) (hp : p < s.length) : ∃ f', f = f' + 1 := ⟨f - 1, by have := h.2.1; omega⟩
theorem Stand.blank (h : Stand s p (f + 1) acc) (hp : p < s.length) (h1 : letB s[p] = false) (h2 : ¬ s[p].toNat = 123) (h3 : ¬ s[p].toNat = 125) (h4 : blankB s[p] = true) : Stand s (p + 1) f acc := by
  refine ⟨by omega, by have := h.2.1; omega, by have := h.2.2.1; omega, ?_⟩
  rw [h.2.2.2, List.drop_eq_getElem_cons hp, tokF, if_neg (by rw [h1]; simp), if_neg h2, if_neg h3, if_pos h4]
theorem Stand.open_ (h : Stand s p (f + 1) acc) (hp : p < s.length) (h1 : letB s[p] = false) (h2 : s[p].toNat = 123) : Stand s (p + 1) f (acc ++ [⟨2, p, []⟩]) := by
  refine ⟨by omega, by have := h.2.1; omega, by have := h.2.2.1; simp; omega, ?_⟩
  rw [h.2.2.2, List.drop_eq_getElem_cons hp, tokF, if_neg (by rw [h1]; simp), if_pos h2]
  simp
theorem Stand.close (h : Stand s p (f + 1) acc) (hp : p < s.length) (h1 : letB s[p] = false) (h2 : ¬ s[p].toNat = 123) (h3 : s[p].toNat = 125) : Stand s (p + 1) f (acc ++ [⟨3, p, []⟩]) := by
  refine ⟨by omega, by have := h.2.1; omega, by have := h.2.2.1; simp; omega, ?_⟩
  rw [h.2.2.2, List.drop_eq_getElem_cons hp, tokF, if_neg (by rw [h1]; simp), if_neg h2, if_pos h3]
  simp
theorem Stand.row (h : Stand s p (f + 1) acc) (hp : p < s.length) (h1 : letB s[p] = true) : Stand s (p + (rowM (s.drop p)).length) f (acc ++ [⟨1, p, rowM (s.drop p)⟩]) ∧ 0 < (rowM (s.drop p)).length ∧ p + (rowM (s.drop p)).length ≤ s.length := by
  have h0 : 0 < (rowM (s.drop p)).length := by rw [List.drop_eq_getElem_cons hp]; exact row_pos h1
  have h2 : p + (rowM (s.drop p)).length ≤ s.length := by have := (row_pre (s.drop p)).2; rw [List.length_drop] at this; omega
  refine ⟨⟨h2, by have := h.2.1; omega, by have := h.2.2.1; simp; omega, ?_⟩, h0, h2⟩
  rw [h.2.2.2]
  have e : ∀ q, tokF (f + 1) q (s.drop p) = (⟨1, q, rowM (s.drop p)⟩ :: (tokF f (q + (rowM (s.drop p)).length) ((s.drop p).drop (rowM (s.drop p)).length)).1, (tokF f (q + (rowM (s.drop p)).length) ((s.drop p).drop (rowM (s.drop p)).length)).2) := fun q => by
    rw [List.drop_eq_getElem_cons hp, tokF, if_pos h1]
  rw [e, List.drop_drop]
  simp
theorem Stand.bad (h : Stand s p (f + 1) acc) (hp : p < s.length) (h1 : letB s[p] = false) (h2 : ¬ s[p].toNat = 123) (h3 : ¬ s[p].toNat = 125) (h4 : blankB s[p] = false) : tokF s.length 0 s = (acc, some p) := by
  rw [h.2.2.2, List.drop_eq_getElem_cons hp, tokF, if_neg (by rw [h1]; simp), if_neg h2, if_neg h3, if_neg (by rw [h4]; simp)]
  simp
/-- Within a row: what stands between is ASCII. -/
theorem row_in (hp : p < s.length) {q : Nat} (hq : p ≤ q) (hq2 : q < p + (rowM (s.drop p)).length) (hqs : q < s.length) : s[q].toNat < 128 := by
  obtain ⟨e, hl⟩ := row_pre (s.drop p)
  have h1 : q - p < (rowM (s.drop p)).length := by omega
  have h2 : (rowM (s.drop p))[q - p] = s[q] := by
    have h3 : q - p < (s.drop p).length := by omega
    have h4 : (rowM (s.drop p))[q - p]? = ((s.drop p).take (rowM (s.drop p)).length)[q - p]? := by rw [← e]
    rw [List.getElem?_eq_getElem h1, List.getElem?_take, if_pos h1, List.getElem?_drop, show p + (q - p) = q by omega, List.getElem?_eq_getElem hqs] at h4
    injection h4
  rw [← h2]
  exact aln_ascii (row_all (s.drop p) _ (List.getElem_mem h1))
end

theorem tokF_len : ∀ (f i : Nat) (s : List UInt8), (tokF f i s).1.length ≤ s.length
  | 0, i, s => by simp [tokF]
  | f + 1, i, [] => by simp [tokF]
  | f + 1, i, c :: r => by
    have h1 := tokF_len f (i + 1) r
    have h2 := tokF_len f (i + (rowM (c :: r)).length) ((c :: r).drop (rowM (c :: r)).length)
    rw [tokF]
    split
    · rename_i hl
      have h3 := row_pos (r := r) hl
      have h4 := (row_pre (c :: r)).2
      rw [List.length_drop] at h2
      simp only [List.length_cons] at *
      omega
    · split
      · simp only [List.length_cons]; omega
      · split
        · simp only [List.length_cons]; omega
        · split
          · simp only [List.length_cons]; omega
          · simp
theorem tokM_len (s : List UInt8) : (tokM s).1.length ≤ s.length := by
  have h := tokF_len s.length 0 s
  unfold tokM
  split
  · simp
  · generalize tokF s.length 0 s = x at *
    obtain ⟨l, o⟩ := x
    cases o <;> simp_all

/-- What Tokens says. -/
def TokTo (w : World) (k : IntKind) (s : List UInt8) (e : Ending) (w' : World) : Prop :=
  ∃ v, e = .returned (.tuple #[v, .int .i64 (tokM s).2.1, .int k (tokM s).2.2]) ∧ OwnT w' w.heap.size v (tokM s).1 ∧ Only [] w w'

theorem tokM_ok {s : List UInt8} {l : List Tok} (hs : ¬ 2000 < s.length) (h : tokF s.length 0 s = (l, none)) : tokM s = (l, 0, 0) := by
  unfold tokM; rw [if_neg hs, h]
theorem tokM_bad {s : List UInt8} {l : List Tok} {i : Nat} (hs : ¬ 2000 < s.length) (h : tokF s.length 0 s = (l, some i)) : tokM s = ([], i, 6) := by
  unfold tokM; rw [if_neg hs, h]
theorem tokM_long {s : List UInt8} (hs : 2000 < s.length) : tokM s = ([], 0, 2) := by
  unfold tokM; rw [if_pos hs]

set_option maxHeartbeats 8000000 in
theorem tokens_any (w : World) (s : List UInt8) (hml : s.length ≤ 100000) : Calls Tryz.prog 81 #[encStr s] w (TokTo w .i64 s) := by
  unfold encStr
  have hsz : (⟨s.toArray⟩ : ByteArray).size = s.length := by simp [ByteArray.size]
  go_enter Tryz.func81, Tryz.ntmps81
  by_cases hs : 2000 < s.length
  · have hsi : (2000 : Int) < (s.length : Int) := by omega
    go_wp2
    go_ret3
    refine ⟨.slice none 0 0, ?_, ?_, Only.refl _ _⟩
    · rw [tokM_long hs]; rfl
    · rw [tokM_long hs]; exact OwnT.none _ _
  have hsi : ¬ (2000 : Int) < (s.length : Int) := by omega
  go_wp2_with fail
  go_loopw [2, 5, 6, 7] (fun l b _ _ wr => ∃ (pos f beh : Nat) (acc : List Tok), b = .int .i64 beh ∧ pos ≤ s.length ∧ wr.heap[w.heap.size]? = some (.stringIter ⟨s.toArray⟩ pos) ∧ OwnT wr w.heap.size l acc ∧ Only [] w wr ∧ Hid (Stand s (max pos beh) f acc ∧ beh ≤ s.length ∧ ∀ (q : Nat) (hq : q < s.length), pos ≤ q → q < beh → s[q].toNat < 128)) (fun _ _ _ _ wr => s.length - wr.iterPos w.heap.size)
  case atStart => exact ⟨0, s.length, 0, [], rfl, Nat.zero_le _, World.iter_heap w _ 0, OwnT.none _ _, (Only.refl [] w).alloc _, Lib.hid ⟨Stand.start s, by omega, fun q hq h1 h2 => by omega⟩⟩
  case round =>
    obtain ⟨pos, f, beh, acc, rfl, hpos, hit, hown, hO, hst⟩ := hrel
    have HO := Lib.hid hO
    have Hown := Lib.hid hown
    clear hO hown
    by_cases hlt : pos < s.length
    · have hnx : ∀ ty, (Instr.next (.pointer (some ⟨w.heap.size, 0, none⟩)) true ty).run Tryz.prog wr = _ := fun ty => Lib.run_next_any_at wr w.heap.size ⟨s.toArray⟩ pos ty hit (by rw [hsz]; exact hlt)
      obtain ⟨r, n, hd, hr, hn, hasc, h1, -, h3, h4, h5⟩ := rune_at s pos hlt
      rw [hd] at hnx
      simp only at hnx
      have hit2 := Lib.hid (Lib.iterAt_heap wr w.heap.size ⟨s.toArray⟩ pos (pos + n) hit)
      have HO2 := Lib.hid (HO.out.iterAt (k := w.heap.size) (Nat.le_refl _) ⟨s.toArray⟩ (pos + n))
      have Hown2 := Lib.hid (Hown.out.iterAt hit (pos + n))
      have hip : Hid (wr.iterPos w.heap.size = pos) := Lib.hid (by simp only [World.iterPos, hit])
      clear hit hd Hown HO
      generalize hW : wr.iterAt w.heap.size ⟨s.toArray⟩ (pos + n) = W at *
      clear hW
      have hbeh := hst.out.2.1
      have hacc : acc.length ≤ 1000000 := by have := hst.out.1.2.2.1; omega
      have hwsz := HO2.out.size
      by_cases hskip : pos < beh
      · have hskipi : (pos : Int) < (beh : Int) := by omega
        have hn1 : Hid (n = 1) := Lib.hid (hasc (hst.out.2.2 pos hlt (Nat.le_refl _) hskip))
        clear hasc h1 h3 h4 h5
        go_wp2
        go_roundw
        case rel =>
          have := hn1.out
          refine ⟨pos + n, f, beh, acc, rfl, by omega, hit2.out, Hown2.out, HO2.out, Lib.hid ⟨?_, hbeh, fun q hq a b => hst.out.2.2 q hq (by omega) b⟩⟩
          have h := hst.out.1
          rw [show max pos beh = beh by omega] at h
          rw [show max (pos + n) beh = beh by omega]
          exact h
        case measure =>
          have := hn1.out
          rw [hip.out]
          simp only [World.iterPos, hit2.out]
          omega
      · have hskipi : ¬ (pos : Int) < (beh : Int) := by omega
        have hS : Hid (Stand s pos f acc) := Lib.hid (by have h := hst.out.1; rw [show max pos beh = pos by omega] at h; exact h)
        obtain ⟨f', rfl⟩ := hS.out.succ hlt
        clear hst
        go_wp2_with fail
        refine (letter_any _ r).mono ?_
        rintro e w' ⟨rfl, rfl⟩
        cases hl : letR r with
        | true =>
          rw [h1] at hl
          obtain ⟨hS2, hr0, hrs⟩ := hS.out.row hlt hl
          have Hin : Hid (∀ (q : Nat) (hq : q < s.length), pos ≤ q → q < pos + (rowM (s.drop pos)).length → s[q].toNat < 128) := Lib.hid (fun q hq a b => row_in hlt a b hq)
          have HS2 := Lib.hid hS2
          have hn1 : Hid (n = 1) := Lib.hid (hasc (aln_ascii (by simp [alnB, hl])))
          have hposi : (pos : Int) ≤ (s.length : Int) := by omega
          have hex : (⟨s.toArray⟩ : ByteArray).extract pos s.length = ⟨(s.drop pos).toArray⟩ := by
            rw [extract_list, List.take_of_length_le (by rw [List.length_drop]; exact Nat.le_refl _)]
          clear hS hl h1 h3 h4 h5 hasc hS2
          have hdl : (s.drop pos).length ≤ 100000 := by rw [List.length_drop]; omega
          generalize hrow : rowM (s.drop pos) = row at *
          have Hrow := Lib.hid hrow
          clear hrow
          go_wp2_with fail
          refine (row_any _ (s.drop pos) hdl).mono ?_
          rintro e w1 ⟨rfl, hO1⟩
          rw [Hrow.out]
          have Hit3 : Hid (w1.heap[w.heap.size]? = some (.stringIter ⟨s.toArray⟩ (pos + n))) := Lib.hid ((hO1.block _ (IsBlk.lt hit2.out) (by simp)).trans hit2.out)
          have Hown3 := Lib.hid (Hown2.out.only hO1)
          have HO3 := Lib.hid (HO2.out.plus hO1)
          clear hO1
          unfold encStr
          go_wp2_with fail
          refine (clone_any _ row (by omega)).mono ?_
          rintro e w2 ⟨rfl, hO2⟩
          have Hit4 : Hid (w2.heap[w.heap.size]? = some (.stringIter ⟨s.toArray⟩ (pos + n))) := Lib.hid ((hO2.block _ (IsBlk.lt Hit3.out) (by simp)).trans Hit3.out)
          have Hown4 := Lib.hid (Hown3.out.only hO2)
          have HO4 := Lib.hid (HO3.out.plus hO2)
          clear hO2 Hown3 HO3 Hit3 Hown2 HO2 hit2
          have hsz4 := HO4.out.size
          have hq := IsBlk.made w2 (.cells #[.int .i64 1, .int .i64 pos, encStr row] 93)
          have hOa := Lib.hid ((Only.refl [] w2).alloc (.cells #[.int .i64 1, .int .i64 pos, encStr row] 93))
          have Hq0 := Lib.hid (hq.cell 0)
          have Hq1 := Lib.hid (hq.cell 1)
          have Hq2 := Lib.hid (hq.cell 2)
          clear hq
          go_wp2_with (at_builtin; refine wpList_append_t rfl _ _ rfl w.heap.size _ _ rfl (Hown4.out.only hOa.out) w2.heap.size 1 ⟨1, pos, row⟩ rfl Hq0.out Hq1.out Hq2.out hacc (Nat.le_trans hsz4 hOa.out.size) ?_; intro v' w4 h4 hg4)
          go_roundw
          case rel =>
            have := hn1.out
            refine ⟨pos + n, f', pos + row.length, acc ++ [⟨1, pos, row⟩], by go_num, by omega, (Hown4.out.only hOa.out).iter hg4 ((hOa.out.block _ (IsBlk.lt Hit4.out) (by simp)).trans Hit4.out), h4, (Hown4.out.only hOa.out).grown hg4 (HO4.out.plus hOa.out) (Nat.le_refl _), Lib.hid ⟨?_, hrs, fun q hq a b => Hin.out q hq (by omega) b⟩⟩
            rw [show max (pos + n) (pos + row.length) = pos + row.length by omega]
            exact HS2.out
          case measure =>
            have := hn1.out
            have hit5 := (Hown4.out.only hOa.out).iter hg4 ((hOa.out.block _ (IsBlk.lt Hit4.out) (by simp)).trans Hit4.out)
            rw [hip.out]
            simp only [World.iterPos, hit5]
            omega
        | false =>
          rw [h1] at hl
          by_cases h123 : s[pos].toNat = 123
          · have hr123 : (r : Int) = 123 := by have := h4.2 h123; omega
            have hn1 : Hid (n = 1) := Lib.hid (hasc (by omega))
            have HS2 := Lib.hid (hS.out.open_ hlt hl h123)
            have hq := IsBlk.made W (.cells #[.int .i64 2, .int .i64 pos, .string ⟨#[]⟩] 93)
            have hOa := Lib.hid ((Only.refl [] W).alloc (.cells #[.int .i64 2, .int .i64 pos, .string ⟨#[]⟩] 93))
            have Hq0 := Lib.hid (hq.cell 0)
            have Hq1 := Lib.hid (hq.cell 1)
            have Hq2 := Lib.hid (hq.cell 2)
            clear hq hS h1 h3 h4 h5 hasc hl
            go_wp2_with (at_builtin; refine wpList_append_t rfl _ _ rfl w.heap.size _ _ rfl (Hown2.out.only hOa.out) W.heap.size 1 ⟨2, pos, []⟩ rfl Hq0.out Hq1.out Hq2.out hacc (Nat.le_trans hwsz hOa.out.size) ?_; intro v' w4 h4 hg4)
            go_roundw
            case rel =>
              have := hn1.out
              refine ⟨pos + n, f', beh, acc ++ [⟨2, pos, []⟩], rfl, by omega, (Hown2.out.only hOa.out).iter hg4 ((hOa.out.block _ (IsBlk.lt hit2.out) (by simp)).trans hit2.out), h4, (Hown2.out.only hOa.out).grown hg4 (HO2.out.plus hOa.out) (Nat.le_refl _), Lib.hid ⟨?_, hbeh, fun q hq a b => by omega⟩⟩
              rw [show max (pos + n) beh = pos + 1 by omega]
              exact HS2.out
            case measure =>
              have := hn1.out
              have hit5 := (Hown2.out.only hOa.out).iter hg4 ((hOa.out.block _ (IsBlk.lt hit2.out) (by simp)).trans hit2.out)
              rw [hip.out]
              simp only [World.iterPos, hit5]
              omega
          by_cases h125 : s[pos].toNat = 125
          · have hr123 : ¬ (r : Int) = 123 := by have := fun h => h123 (h4.1 h); omega
            have hr125 : (r : Int) = 125 := by have := h5.2 h125; omega
            have hn1 : Hid (n = 1) := Lib.hid (hasc (by omega))
            have HS2 := Lib.hid (hS.out.close hlt hl h123 h125)
            have hq := IsBlk.made W (.cells #[.int .i64 3, .int .i64 pos, .string ⟨#[]⟩] 93)
            have hOa := Lib.hid ((Only.refl [] W).alloc (.cells #[.int .i64 3, .int .i64 pos, .string ⟨#[]⟩] 93))
            have Hq0 := Lib.hid (hq.cell 0)
            have Hq1 := Lib.hid (hq.cell 1)
            have Hq2 := Lib.hid (hq.cell 2)
            clear hq hS h1 h3 h4 h5 hasc hl
            go_wp2_with (at_builtin; refine wpList_append_t rfl _ _ rfl w.heap.size _ _ rfl (Hown2.out.only hOa.out) W.heap.size 1 ⟨3, pos, []⟩ rfl Hq0.out Hq1.out Hq2.out hacc (Nat.le_trans hwsz hOa.out.size) ?_; intro v' w4 h4 hg4)
            go_roundw
            case rel =>
              have := hn1.out
              refine ⟨pos + n, f', beh, acc ++ [⟨3, pos, []⟩], rfl, by omega, (Hown2.out.only hOa.out).iter hg4 ((hOa.out.block _ (IsBlk.lt hit2.out) (by simp)).trans hit2.out), h4, (Hown2.out.only hOa.out).grown hg4 (HO2.out.plus hOa.out) (Nat.le_refl _), Lib.hid ⟨?_, hbeh, fun q hq a b => by omega⟩⟩
              rw [show max (pos + n) beh = pos + 1 by omega]
              exact HS2.out
            case measure =>
              have := hn1.out
              have hit5 := (Hown2.out.only hOa.out).iter hg4 ((hOa.out.block _ (IsBlk.lt hit2.out) (by simp)).trans hit2.out)
              rw [hip.out]
              simp only [World.iterPos, hit5]
              omega
          have hr123 : ¬ (r : Int) = 123 := by have := fun h => h123 (h4.1 h); omega
          have hr125 : ¬ (r : Int) = 125 := by have := fun h => h125 (h5.1 h); omega
          go_wp2_with fail
          refine (blank_any _ r).mono ?_
          rintro e w' ⟨rfl, rfl⟩
          cases hb : blankR r with
          | true =>
            rw [h3] at hb
            have hn1 : Hid (n = 1) := Lib.hid (hasc (by simp [blankB] at hb; omega))
            have HS2 := Lib.hid (hS.out.blank hlt hl h123 h125 hb)
            clear hS h1 h3 h4 h5 hasc hl hb
            go_wp2
            go_roundw
            case rel =>
              have := hn1.out
              refine ⟨pos + n, f', beh, acc, rfl, by omega, hit2.out, Hown2.out, HO2.out, Lib.hid ⟨?_, hbeh, fun q hq a b => by omega⟩⟩
              rw [show max (pos + n) beh = pos + 1 by omega]
              exact HS2.out
            case measure =>
              have := hn1.out
              rw [hip.out]
              simp only [World.iterPos, hit2.out]
              omega
          | false =>
            rw [h3] at hb
            have HS2 := Lib.hid (tokM_bad hs (hS.out.bad hlt hl h123 h125 hb))
            clear hS h1 h3 h4 h5 hasc hl hb
            go_wp2
            go_ret3
            refine ⟨.slice none 0 0, ?_, ?_, HO2.out⟩
            · rw [HS2.out]; rfl
            · rw [HS2.out]; exact OwnT.none _ _
    · have hnx : ∀ ty, (Instr.next (.pointer (some ⟨w.heap.size, 0, none⟩)) true ty).run Tryz.prog wr = _ := fun ty => Lib.run_next_end_at wr w.heap.size ⟨s.toArray⟩ pos ty hit (by rw [hsz]; exact hlt)
      have HS2 : Hid (tokM s = (acc, 0, 0)) := Lib.hid (tokM_ok hs (hst.out.1.done (by have := hst.out.2.1; omega)))
      clear hst hit
      go_wp2
      go_ret3
      refine ⟨_, ?_, (by rw [HS2.out]; exact Hown.out), HO.out⟩
      rw [HS2.out]
      rfl

end Go.Proofs.YtildkedplmjdaaaGreatDoor
