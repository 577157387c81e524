/-
  Files and sets of files by chapter 4 itself; whether a text is a name (isLetter, isDigit, isWord, isName).
-/
import Derived.Test.YtnieaeoijdmheaaWalK
import Derived.Sort.KeysCollected
namespace Go.Proofs.Ytnieaeoijdmheaa
set_option maxRecDepth 100000
set_option linter.unusedVariables false
open Go.RowKit Go.Sort

/-- A file: its name, its text. -/
abbrev FileM := List UInt8 × List UInt8

def letB (c : UInt8) : Bool := decide (97 ≤ c.toNat) && decide (c.toNat ≤ 122)
def digB (c : UInt8) : Bool := decide (48 ≤ c.toNat) && decide (c.toNat ≤ 57)
def wordsM : List (List UInt8) := [[118, 97, 114], [108, 111, 99, 107], [102, 117, 110, 99], [117, 115, 101], [115, 101, 116], [117, 110, 108, 111, 99, 107], [99, 97, 108, 108], [115, 112, 97, 119, 110], [105, 102], [101, 108, 115, 101], [108, 111, 111, 112]]
def wordM (s : List UInt8) : Bool := wordsM.contains s
def nameM (s : List UInt8) : Bool := decide (1 ≤ s.length) && decide (s.length ≤ 12) && letB (s.head?.getD 0) && !wordM s && s.all (fun c => letB c || digB c)

theorem letter_any (w : World) (c : UInt8) : Calls Try.prog 63 #[.int .u8 c.toNat] w fun e w' => e = .returned (.bool (letB c)) ∧ w = w' := by
  go_enter Try.func63, Try.ntmps63
  have h := c.toNat_lt
  by_cases h1 : (97 : Int) ≤ (c.toNat : Int)
  · go_wp2
    go_ret
    refine ⟨?_, rfl⟩
    have : 97 ≤ c.toNat := by omega
    by_cases h2 : c.toNat ≤ 122 <;> simp [letB, this, h2] <;> omega
  · go_wp2
    go_ret
    refine ⟨?_, rfl⟩
    have : ¬ 97 ≤ c.toNat := by omega
    simp [letB, this]

theorem digit_any (w : World) (c : UInt8) : Calls Try.prog 65 #[.int .u8 c.toNat] w fun e w' => e = .returned (.bool (digB c)) ∧ w = w' := by
  go_enter Try.func65, Try.ntmps65
  have h := c.toNat_lt
  by_cases h1 : (48 : Int) ≤ (c.toNat : Int)
  · go_wp2
    go_ret
    refine ⟨?_, rfl⟩
    have : 48 ≤ c.toNat := by omega
    by_cases h2 : c.toNat ≤ 57 <;> simp [digB, this, h2] <;> omega
  · go_wp2
    go_ret
    refine ⟨?_, rfl⟩
    have : ¬ 48 ≤ c.toNat := by omega
    simp [digB, this]

theorem word_any (w : World) (s : List UInt8) : Calls Try.prog 64 #[encStr s] w fun e w' => e = .returned (.bool (wordM s)) ∧ w = w' := by
  unfold encStr
  go_enter Try.func64, Try.ntmps64
  go_wp2
  all_goals
    go_ret
    refine ⟨?_, rfl⟩
    simp_all [wordM, wordsM]

theorem name_any (w : World) (s : List UInt8) (hs : s.length ≤ maxLen) : Calls Try.prog 41 #[encStr s] w fun e w' => e = .returned (.bool (nameM s)) ∧ w = w' := by
  unfold maxLen at hs
  unfold encStr
  go_enter Try.func41, Try.ntmps41
  by_cases h1 : (s.length : Int) < 1
  · have h0 : s.length = 0 := by omega
    go_wp2
    go_ret
    exact ⟨by simp [nameM, h0], rfl⟩
  by_cases h2 : (12 : Int) < (s.length : Int)
  · go_wp2
    go_ret
    exact ⟨by have : ¬ s.length ≤ 12 := by omega
              simp [nameM, this], rfl⟩
  have hpos : 0 < s.length := by omega
  have hhd : (⟨s.toArray⟩ : ByteArray)[0]'(by simpa [ByteArray.size] using hpos) = s.head?.getD 0 := by
    cases s with
    | nil => simp at hpos
    | cons a r => rfl
  go_wp2_with fail
  refine (letter_any _ _).mono ?_
  rintro e w' ⟨rfl, rfl⟩
  clear hhd
  cases hl : letB (s.head?.getD 0) with
  | false =>
    go_wp2
    go_ret
    exact ⟨by simp [nameM, hl], rfl⟩
  | true =>
    go_wp2_with fail
    refine (word_any _ s).mono ?_
    rintro e w' ⟨rfl, rfl⟩
    cases hw : wordM s with
    | true =>
      go_wp2
      go_ret
      exact ⟨by simp [nameM, hw], rfl⟩
    | false =>
      have Hl := Lib.hid hl
      have Hw := Lib.hid hw
      clear hl hw
      go_wp2_with fail
      go_loop [24] (fun i => ∃ k : Nat, k ≤ s.length ∧ i = .int .i64 k ∧ Hid ((s.take k).all (fun c => letB c || digB c) = true)) (fun i => s.length - (intOf i).toNat)
      case atStart => exact ⟨0, Nat.zero_le _, rfl, Lib.hid rfl⟩
      case round =>
        obtain ⟨k, hk, rfl, hall⟩ := hrel
        by_cases hlt : k < s.length
        · have hlti : (k : Int) < (s.length : Int) := by omega
          have hget : (⟨s.toArray⟩ : ByteArray)[k]'(by simpa [ByteArray.size] using hlt) = s[k] := rfl
          have Hst : Hid (s.take (k + 1) = s.take k ++ [s[k]]) := Lib.hid (by rw [List.take_add_one, List.getElem?_eq_getElem hlt]; rfl)
          have Hall : Hid (∀ b : Bool, (letB s[k] || digB s[k]) = b → (s.take (k + 1)).all (fun c => letB c || digB c) = b) := Lib.hid (fun b hb => by
            rw [Hst.out, List.all_append, hall.out]; simp [hb])
          have Hbad : Hid ((letB s[k] || digB s[k]) = false → nameM s = false) := Lib.hid (fun hb => by
            have : s.all (fun c => letB c || digB c) = false := by
              rw [List.all_eq_false]; exact ⟨s[k], List.getElem_mem hlt, by simp [hb]⟩
            simp [nameM, this])
          go_wp2_with fail
          refine (letter_any _ _).mono ?_
          rintro e w' ⟨rfl, rfl⟩
          cases hlk : letB s[k] with
          | true =>
            have Hlk := Lib.hid hlk
            clear hlk
            go_wp2
            go_round
            case rel => exact ⟨k + 1, by omega, by go_num, Lib.hid (Hall.out _ (by rw [Hlk.out]; rfl))⟩
            case measure => simp [intOf]; omega
          | false =>
            have Hlk := Lib.hid hlk
            clear hlk
            go_wp2_with fail
            refine (digit_any _ _).mono ?_
            rintro e w' ⟨rfl, rfl⟩
            cases hdk : digB s[k] with
            | true =>
              have Hdk := Lib.hid hdk
              clear hdk
              go_wp2
              go_round
              case rel => exact ⟨k + 1, by omega, by go_num, Lib.hid (Hall.out _ (by rw [Hlk.out, Hdk.out]; rfl))⟩
              case measure => simp [intOf]; omega
            | false =>
              have Hdk := Lib.hid hdk
              clear hdk
              go_wp2
              go_ret
              have hb := Hbad.out (by rw [Hlk.out, Hdk.out]; rfl)
              exact ⟨by rw [hb]; rfl, rfl⟩
        · have hge : ¬ (k : Int) < (s.length : Int) := by omega
          go_wp2
          go_ret
          have hk' : k = s.length := by omega
          refine ⟨?_, rfl⟩
          have := hall.out
          rw [hk', List.take_length] at this
          have q1 := Hl.out
          have q2 := Hw.out
          simp only [nameM, q1, q2, this]
          simp; omega

end Go.Proofs.Ytnieaeoijdmheaa
