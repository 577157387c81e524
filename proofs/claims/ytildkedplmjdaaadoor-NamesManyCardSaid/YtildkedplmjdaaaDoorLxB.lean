/-
  The program's small functions: isLetter, isDigit, isBlank, isWord; firstRow; Name.
-/
import Derived.Test.YtildkedplmjdaaaDoorLxA
namespace Go.Proofs.YtildkedplmjdaaaDoor
set_option maxRecDepth 100000
set_option linter.unusedVariables false
open Go.RowKit Go.Sort

def letR (r : Nat) : Bool := decide (97 ≤ r) && decide (r ≤ 122)
def digR (r : Nat) : Bool := decide (48 ≤ r) && decide (r ≤ 57)
def blankR (r : Nat) : Bool := decide (r = 32) || decide (r = 9) || decide (r = 10)

theorem letter_any (w : World) (r : Nat) : Calls Tryd.prog 54 #[.int .i32 r] w fun e w' => e = .returned (.bool (letR r)) ∧ w = w' := by
  go_enter Tryd.func54, Tryd.ntmps54
  by_cases h1 : (97 : Int) ≤ (r : Int)
  · go_wp2
    go_ret
    refine ⟨?_, rfl⟩
    have : 97 ≤ r := by omega
    by_cases h2 : r ≤ 122 <;> simp [letR, this, h2] <;> omega
  · go_wp2
    go_ret
    refine ⟨?_, rfl⟩
    have : ¬ 97 ≤ r := by omega
    simp [letR, this]

theorem digit_any (w : World) (r : Nat) : Calls Tryd.prog 61 #[.int .i32 r] w fun e w' => e = .returned (.bool (digR r)) ∧ w = w' := by
  go_enter Tryd.func61, Tryd.ntmps61
  by_cases h1 : (48 : Int) ≤ (r : Int)
  · go_wp2
    go_ret
    refine ⟨?_, rfl⟩
    have : 48 ≤ r := by omega
    by_cases h2 : r ≤ 57 <;> simp [digR, this, h2] <;> omega
  · go_wp2
    go_ret
    refine ⟨?_, rfl⟩
    have : ¬ 48 ≤ r := by omega
    simp [digR, this]

theorem blank_any (w : World) (r : Nat) : Calls Tryd.prog 56 #[.int .i32 r] w fun e w' => e = .returned (.bool (blankR r)) ∧ w = w' := by
  go_enter Tryd.func56, Tryd.ntmps56
  by_cases h1 : (r : Int) = 32
  · go_wp2
    go_ret
    refine ⟨?_, rfl⟩
    have : r = 32 := by omega
    simp [blankR, this]
  · by_cases h2 : (r : Int) = 9
    · go_wp2
      go_ret
      refine ⟨?_, rfl⟩
      have : r = 9 := by omega
      simp [blankR, this]
    · by_cases h3 : (r : Int) = 10
      · go_wp2
        go_ret
        refine ⟨?_, rfl⟩
        have : r = 10 := by omega
        simp [blankR, this]
      · go_wp2
        go_ret
        refine ⟨?_, rfl⟩
        have a1 : ¬ r = 32 := by omega
        have a2 : ¬ r = 9 := by omega
        have a3 : ¬ r = 10 := by omega
        simp [blankR, a1, a2, a3]
        omega

theorem word_any (w : World) (s : List UInt8) : Calls Tryd.prog 49 #[encStr s] w fun e w' => e = .returned (.bool (wordM s)) ∧ w = w' := by
  unfold encStr
  go_enter Tryd.func49, Tryd.ntmps49
  go_wp2
  all_goals
    go_ret
    refine ⟨?_, rfl⟩
    simp_all [wordM, wordsM]

/-- What a range over a text hands out at a place. -/
theorem rune_at (s : List UInt8) (k : Nat) (hk : k < s.length) : ∃ r n : Nat, Utf8.decode ⟨s.toArray⟩ k = (r, n) ∧ r ≤ 2147483647 ∧ 1 ≤ n ∧ (s[k].toNat < 128 → n = 1) ∧ letR r = letB s[k] ∧ digR r = digB s[k] ∧ blankR r = blankB s[k] ∧ (r = 123 ↔ s[k].toNat = 123) ∧ (r = 125 ↔ s[k].toNat = 125) := by
  have hk' : k < (⟨s.toArray⟩ : ByteArray).size := by simpa [ByteArray.size] using hk
  have hget : (⟨s.toArray⟩ : ByteArray)[k]'hk' = s[k] := rfl
  have hle := decode_le ⟨s.toArray⟩ k
  have hlt := s[k].toNat_lt
  by_cases ha : s[k].toNat < 128
  · have h := decode_ascii ⟨s.toArray⟩ k hk' (by rw [hget]; exact ha)
    rw [hget] at h
    refine ⟨_, _, h, by omega, Nat.le_refl _, fun _ => rfl, rfl, rfl, rfl, Iff.rfl, Iff.rfl⟩
  · have h := decode_high ⟨s.toArray⟩ k hk' (by rw [hget]; omega)
    generalize hd : Utf8.decode ⟨s.toArray⟩ k = d at *
    obtain ⟨r, n⟩ := d
    simp only at h hle
    refine ⟨r, n, rfl, hle, h.2, fun h => absurd h ha, ?_, ?_, ?_, by omega, by omega⟩
    · have a1 : ¬ r ≤ 122 := by omega
      have a2 : ¬ s[k].toNat ≤ 122 := by omega
      simp [letR, letB, a1, a2]
    · have a1 : ¬ r ≤ 57 := by omega
      have a2 : ¬ s[k].toNat ≤ 57 := by omega
      simp [digR, digB, a1, a2]
    · have a1 : ¬ r = 32 := by omega
      have a2 : ¬ r = 9 := by omega
      have a3 : ¬ r = 10 := by omega
      have b1 : ¬ s[k].toNat = 32 := by omega
      have b2 : ¬ s[k].toNat = 9 := by omega
      have b3 : ¬ s[k].toNat = 10 := by omega
      simp [blankR, blankB, a1, a2, a3, b1, b2, b3]

theorem aln_ascii {c : UInt8} (h : alnB c = true) : c.toNat < 128 := by
  simp [alnB, letB, digB] at h
  omega

theorem extract_list (s : List UInt8) (i j : Nat) : (⟨s.toArray⟩ : ByteArray).extract i j = ⟨((s.drop i).take (j - i)).toArray⟩ := by
  apply ByteArray.ext
  simp [ByteArray.data_extract, List.take_drop, List.extract_toArray]

set_option maxHeartbeats 4000000 in
theorem row_any (w : World) (s : List UInt8) (hs : s.length ≤ 100000) : Calls Tryd.prog 48 #[encStr s] w fun e w' => e = .returned (encStr (rowM s)) ∧ Only [] w w' := by
  unfold encStr
  have hsz : (⟨s.toArray⟩ : ByteArray).size = s.length := by simp [ByteArray.size]
  go_enter Tryd.func48, Tryd.ntmps48
  go_wp2_with fail
  go_loopw [3, 4] (fun _ _ wr => ∃ k : Nat, k ≤ s.length ∧ wr.heap[w.heap.size]? = some (.stringIter ⟨s.toArray⟩ k) ∧ Only [] w wr ∧ Hid (∀ (j : Nat) (hj : j < s.length), j < k → (letB s[j] || decide (0 < j) && digB s[j]) = true)) (fun _ _ wr => s.length - wr.iterPos w.heap.size)
  case atStart => exact ⟨0, Nat.zero_le _, World.iter_heap w _ 0, (Only.refl [] w).alloc _, Lib.hid (fun j hj h => by omega)⟩
  case round =>
    obtain ⟨k, hk, hit, hO, hall⟩ := hrel
    have HO := Lib.hid hO
    clear hO
    by_cases hlt : k < s.length
    · have hnx : ∀ ty, (Instr.next (.pointer (some ⟨w.heap.size, 0, none⟩)) true ty).run Tryd.prog wr = _ := fun ty => Lib.run_next_any_at wr w.heap.size ⟨s.toArray⟩ k ty hit (by rw [hsz]; exact hlt)
      obtain ⟨r, n, hd, hr, hn, hasc, h1, h2, -⟩ := rune_at s k hlt
      rw [hd] at hnx
      simp only at hnx
      have hit2 := Lib.hid (Lib.iterAt_heap wr w.heap.size ⟨s.toArray⟩ k (k + n) hit)
      have HO2 := Lib.hid (HO.out.iterAt (k := w.heap.size) (Nat.le_refl _) ⟨s.toArray⟩ (k + n))
      have Hok : Hid (∀ b, (letB s[k] || decide (0 < k) && digB s[k]) = b → (letR r || decide (0 < k) && digR r) = b) := Lib.hid (fun b hb => by rw [h1, h2]; exact hb)
      have Hpos : Hid ((letR r || decide (0 < k) && digR r) = true → n = 1 ∧ ∀ (j : Nat) (hj : j < s.length), j < k + n → (letB s[j] || decide (0 < j) && digB s[j]) = true) := Lib.hid (fun hb => by
        rw [h1, h2] at hb
        have hn1 : n = 1 := hasc (aln_ascii (by unfold alnB; revert hb; cases letB s[k] <;> simp))
        refine ⟨hn1, fun j hj hjk => ?_⟩
        by_cases hjk' : j = k
        · subst hjk'; exact hb
        · exact hall.out j hj (by omega))
      have Hend : Hid ((letR r || decide (0 < k) && digR r) = false → rowM s = s.take k) := Lib.hid (fun hb => by
        rw [h1, h2] at hb
        exact row_take s k hk hall.out (fun _ => hb))
      have hip : Hid (wr.iterPos w.heap.size = k) := Lib.hid (by simp only [World.iterPos, hit])
      have hip2 : Hid ((wr.iterAt w.heap.size ⟨s.toArray⟩ (k + n)).iterPos w.heap.size = k + n) := Lib.hid (by simp only [World.iterPos, hit2.out])
      clear hit hd h1 h2 hasc hall Hok
      generalize hW : wr.iterAt w.heap.size ⟨s.toArray⟩ (k + n) = W at *
      clear hW
      go_wp2_with fail
      refine (letter_any _ r).mono ?_
      rintro e w' ⟨rfl, rfl⟩
      cases hl : letR r with
      | true =>
        obtain ⟨hn1, hall2⟩ := Hpos.out (by rw [hl]; rfl)
        have Hall2 := Lib.hid hall2
        clear hl Hpos Hend hall2
        go_wp2
        go_roundw
        case rel => exact ⟨k + n, by omega, hit2.out, HO2.out, Hall2⟩
        case measure => rw [hip2.out, hip.out]; omega
      | false =>
        by_cases h0 : (0 : Int) < (k : Int)
        · have h0' : 0 < k := by omega
          go_wp2_with fail
          refine (digit_any _ r).mono ?_
          rintro e w' ⟨rfl, rfl⟩
          cases hdg : digR r with
          | true =>
            obtain ⟨hn1, hall2⟩ := Hpos.out (by rw [hl, hdg]; simp [h0'])
            have Hall2 := Lib.hid hall2
            clear hl hdg Hpos Hend hall2
            go_wp2
            go_roundw
            case rel => exact ⟨k + n, by omega, hit2.out, HO2.out, Hall2⟩
            case measure => rw [hip2.out, hip.out]; omega
          | false =>
            have Hrow := Lib.hid (Hend.out (by rw [hl, hdg]; simp))
            clear hl hdg Hpos Hend
            go_wp2
            go_ret
            rw [Hrow.out]
            exact ⟨by simp [extract_list], HO2.out⟩
        · have h0' : ¬ 0 < k := by omega
          have Hrow := Lib.hid (Hend.out (by rw [hl]; simp [h0']))
          clear hl Hpos Hend
          go_wp2
          go_ret
          rw [Hrow.out]
          exact ⟨by simp [extract_list], HO2.out⟩
    · have hnx : ∀ ty, (Instr.next (.pointer (some ⟨w.heap.size, 0, none⟩)) true ty).run Tryd.prog wr = _ := fun ty => Lib.run_next_end_at wr w.heap.size ⟨s.toArray⟩ k ty hit (by rw [hsz]; exact hlt)
      have Hrow : Hid (rowM s = s) := Lib.hid (by
        have := row_take s k hk hall.out (fun h => absurd h hlt)
        rw [this, show k = s.length by omega, List.take_length])
      clear hall hit
      go_wp2
      go_ret
      rw [Hrow.out]
      exact ⟨rfl, HO.out⟩

theorem name_any (w : World) (s : List UInt8) (hs : s.length ≤ 100000) : Calls Tryd.prog 34 #[encStr s] w fun e w' => e = .returned (.bool (nameM s)) ∧ Only [] w w' := by
  unfold encStr
  go_enter Tryd.func34, Tryd.ntmps34
  by_cases h1 : (s.length : Int) < 1
  · have h0 : s.length = 0 := by omega
    go_wp2
    go_ret
    exact ⟨by simp [nameM, h0], Only.refl _ _⟩
  by_cases h2 : (12 : Int) < (s.length : Int)
  · go_wp2
    go_ret
    exact ⟨by have : ¬ s.length ≤ 12 := by omega
              simp [nameM, this], Only.refl _ _⟩
  go_wp2_with fail
  refine (row_any _ s hs).mono ?_
  rintro e w1 ⟨rfl, hO⟩
  have HO := Lib.hid hO
  clear hO
  unfold encStr
  by_cases hr : rowM s = s
  · have hr' : (rowM s == s) = true := by simpa using hr
    go_wp2_with fail
    refine (word_any _ s).mono ?_
    rintro e w' ⟨rfl, rfl⟩
    go_wp2
    go_ret
    refine ⟨?_, HO.out⟩
    have a1 : 1 ≤ s.length := by omega
    have a2 : s.length ≤ 12 := by omega
    simp [nameM, hr, a1, a2]
  · have hr' : (rowM s == s) = false := by simpa using hr
    go_wp2
    go_ret
    refine ⟨?_, HO.out⟩
    simp [nameM, hr]

end Go.Proofs.YtildkedplmjdaaaDoor
