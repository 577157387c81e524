/-
  The document's own names (deadboltref4); the walk of the law LexNames: it returns true, whatever its arguments are, and turns nothing that was there.
-/
import Derived.Test.YtdneaecahogmhaaLxG
namespace Go.Proofs.Ytdneaecahogmhaa
set_option maxRecDepth 100000
set_option linter.unusedVariables false
open Go.RowKit Go.Sort

set_option maxHeartbeats 4000000 in
theorem rword_any (w : World) (s : List UInt8) : Calls Try.prog 27 #[encStr s] w fun e w' => e = .returned (.bool (wordM s)) ∧ Only [] w w' := by
  unfold encStr
  have hq := IsBlk.made w (.cells #[.string ⟨#[118, 97, 114]⟩, .string ⟨#[108, 111, 99, 107]⟩, .string ⟨#[102, 117, 110, 99]⟩, .string ⟨#[117, 115, 101]⟩, .string ⟨#[115, 101, 116]⟩, .string ⟨#[117, 110, 108, 111, 99, 107]⟩, .string ⟨#[99, 97, 108, 108]⟩, .string ⟨#[115, 112, 97, 119, 110]⟩, .string ⟨#[105, 102]⟩, .string ⟨#[101, 108, 115, 101]⟩, .string ⟨#[108, 111, 111, 112]⟩] 9)
  have hO1 := (Only.refl [] w).alloc (.cells #[.string ⟨#[118, 97, 114]⟩, .string ⟨#[108, 111, 99, 107]⟩, .string ⟨#[102, 117, 110, 99]⟩, .string ⟨#[117, 115, 101]⟩, .string ⟨#[115, 101, 116]⟩, .string ⟨#[117, 110, 108, 111, 99, 107]⟩, .string ⟨#[99, 97, 108, 108]⟩, .string ⟨#[115, 112, 97, 119, 110]⟩, .string ⟨#[105, 102]⟩, .string ⟨#[101, 108, 115, 101]⟩, .string ⟨#[108, 111, 111, 112]⟩] 9)
  go_enter Try.func27, Try.ntmps27
  go_wp2_with fail
  have Hq : Hid (IsBlk (w.alloc (.cells #[.string ⟨#[118, 97, 114]⟩, .string ⟨#[108, 111, 99, 107]⟩, .string ⟨#[102, 117, 110, 99]⟩, .string ⟨#[117, 115, 101]⟩, .string ⟨#[115, 101, 116]⟩, .string ⟨#[117, 110, 108, 111, 99, 107]⟩, .string ⟨#[99, 97, 108, 108]⟩, .string ⟨#[115, 112, 97, 119, 110]⟩, .string ⟨#[105, 102]⟩, .string ⟨#[101, 108, 115, 101]⟩, .string ⟨#[108, 111, 111, 112]⟩] 9)) w.heap.size (.cells (wordsM.map encStr).toArray 9)) := Lib.hid hq
  have HO1 := Lib.hid hO1
  clear hq hO1
  generalize w.alloc (.cells #[.string ⟨#[118, 97, 114]⟩, .string ⟨#[108, 111, 99, 107]⟩, .string ⟨#[102, 117, 110, 99]⟩, .string ⟨#[117, 115, 101]⟩, .string ⟨#[115, 101, 116]⟩, .string ⟨#[117, 110, 108, 111, 99, 107]⟩, .string ⟨#[99, 97, 108, 108]⟩, .string ⟨#[115, 112, 97, 119, 110]⟩, .string ⟨#[105, 102]⟩, .string ⟨#[101, 108, 115, 101]⟩, .string ⟨#[108, 111, 111, 112]⟩] 9) = w1 at *
  go_loop [4] (fun i => ∃ k : Nat, k ≤ 11 ∧ i = .int .i64 k ∧ Hid (s ∉ wordsM.take k)) (fun i => 11 - (intOf i).toNat)
  case atStart => exact ⟨0, by omega, rfl, Lib.hid (by simp)⟩
  case round =>
    obtain ⟨k, hk, rfl, hno⟩ := hrel
    by_cases hlt : k < 11
    · have hlti : (k : Int) < 11 := by omega
      have hkT : k < wordsM.length := hlt
      have hc := table_cell wordsM Hq.out k hkT
      have e0 : wordsM.getD k [] = wordsM[k] := by simp [hkT]
      rw [e0] at hc
      have Htk : Hid (wordsM.take (k + 1) = wordsM.take k ++ [wordsM[k]]) := Lib.hid (by rw [List.take_add_one, List.getElem?_eq_getElem hkT]; rfl)
      have Hin : Hid (wordsM[k] ∈ wordsM) := Lib.hid (List.getElem_mem hkT)
      generalize wordsM[k] = x at *
      by_cases he : s = x
      · subst he
        go_wp2
        go_ret
        exact ⟨by simp [wordM, Hin.out], HO1.out⟩
      · have heb : (s == x) = false := by simpa using he
        go_wp2
        go_round
        case rel =>
          refine ⟨k + 1, by omega, by go_num, Lib.hid (fun hm => ?_)⟩
          rw [Htk.out] at hm
          rcases List.mem_append.1 hm with h1 | h1
          · exact hno.out h1
          · simp at h1; exact he h1
        case measure => simp [intOf]; omega
    · have hge : ¬ (k : Int) < 11 := by omega
      go_wp2
      go_ret
      have := hno.out
      rw [List.take_of_length_le (by show 11 ≤ k; omega)] at this
      exact ⟨by simp [wordM, this], HO1.out⟩

theorem takeWhile_self {p : UInt8 → Bool} : ∀ (r : List UInt8), r.takeWhile p = r ↔ r.all p = true
  | [] => by simp
  | x :: r => by
    have ih := takeWhile_self (p := p) r
    by_cases hx : p x = true
    · rw [List.takeWhile_cons_of_pos hx]; simp [hx, ih]
    · rw [List.takeWhile_cons_of_neg hx]; simp [hx]
theorem row_whole (c : UInt8) (r : List UInt8) : rowM (c :: r) = c :: r ↔ (letB c = true ∧ r.all alnB = true) := by
  by_cases hc : letB c = true
  · have e : rowM (c :: r) = c :: r.takeWhile alnB := by simp [rowM, hc]
    rw [e]; simp [hc, takeWhile_self]
  · have e : rowM (c :: r) = [] := by simp [rowM, hc]
    rw [e]; simp [hc]
/-- A name, byte by byte. -/
theorem name_bytes (s : List UInt8) : nameM s = (decide (1 ≤ s.length) && decide (s.length ≤ 12) && !wordM s && decide (97 ≤ (s.head?.getD 0).toNat) && s.all alnB) := by
  cases s with
  | nil => simp [nameM]
  | cons c r =>
    unfold nameM
    have h := row_whole c r
    by_cases hc : letB c = true
    · have h97 : 97 ≤ c.toNat := by simp [letB] at hc; exact hc.1
      have ha : alnB c = true := by simp [alnB, hc]
      have : decide (rowM (c :: r) = c :: r) = r.all alnB := by
        rw [Bool.eq_iff_iff, decide_eq_true_iff, h]; simp [hc]
      rw [this]
      simp only [List.head?_cons, Option.getD_some, h97, decide_true, Bool.and_true, List.all_cons, ha, Bool.true_and]
      cases r.all alnB <;> simp
    · have : decide (rowM (c :: r) = c :: r) = false := by
        rw [decide_eq_false_iff_not, h]; simp [hc]
      rw [this]
      have hx : (decide (97 ≤ c.toNat) && alnB c) = false := by
        simp [letB] at hc
        simp [alnB, letB, digB]
        omega
      have e1 : (c :: r).head?.getD 0 = c := rfl
      rw [e1, List.all_cons, Bool.and_assoc (b := decide (97 ≤ c.toNat)), ← Bool.and_assoc (decide (97 ≤ c.toNat)) (alnB c), hx]
      simp

set_option maxHeartbeats 4000000 in
theorem rname4_any (w : World) (s : List UInt8) (hs : s.length ≤ 100000) : Calls Try.prog 24 #[encStr s] w fun e w' => e = .returned (.bool (nameM s)) ∧ Only [] w w' := by
  unfold encStr
  go_enter Try.func24, Try.ntmps24
  by_cases h1 : (s.length : Int) < 1
  · have h0 : s.length = 0 := by omega
    go_wp2
    go_ret
    exact ⟨by simp [name_bytes, h0], Only.refl _ _⟩
  by_cases h2 : (12 : Int) < (s.length : Int)
  · go_wp2
    go_ret
    exact ⟨by have : ¬ s.length ≤ 12 := by omega
              simp [name_bytes, this], Only.refl _ _⟩
  have a1 : 1 ≤ s.length := by omega
  have a2 : s.length ≤ 12 := by omega
  have hhd : (⟨s.toArray⟩ : ByteArray)[0]'(by simp [ByteArray.size]; omega) = s.head?.getD 0 := by
    cases s with
    | nil => simp at a1
    | cons a r => rfl
  go_wp2_with fail
  refine (rword_any _ s).mono ?_
  rintro e w1 ⟨rfl, hO⟩
  have HO := Lib.hid hO
  clear hO
  cases hw : wordM s with
  | true =>
    go_wp2
    go_ret
    exact ⟨by simp [name_bytes, hw], HO.out⟩
  | false =>
    by_cases h97 : (s.head?.getD 0).toNat < 97
    · have h97i : ((s.head?.getD 0).toNat : Int) < 97 := by omega
      go_wp2
      go_ret
      exact ⟨by have : ¬ 97 ≤ (s.head?.getD 0).toNat := by omega
                simp [name_bytes, this], HO.out⟩
    have h97i : ¬ ((s.head?.getD 0).toNat : Int) < 97 := by omega
    have Hres : Hid (∀ b, s.all alnB = b → nameM s = b) := Lib.hid (fun b hb => by
      have : 97 ≤ (s.head?.getD 0).toNat := by omega
      simp [name_bytes, hw, a1, a2, this, hb])
    clear hw
    go_wp2_with fail
    go_loop [3] (fun i => ∃ k : Nat, k ≤ s.length ∧ i = .int .i64 k ∧ Hid ((s.take k).all alnB = true)) (fun i => s.length - (intOf i).toNat)
    case atStart => exact ⟨0, Nat.zero_le _, rfl, Lib.hid rfl⟩
    case round =>
      obtain ⟨k, hk, rfl, hall⟩ := hrel
      by_cases hlt : k < s.length
      · have hlti : (k : Int) < (s.length : Int) := by omega
        have hget : (⟨s.toArray⟩ : ByteArray)[k]'(by simpa [ByteArray.size] using hlt) = s[k] := rfl
        have Hst : Hid (s.take (k + 1) = s.take k ++ [s[k]]) := Lib.hid (by rw [List.take_add_one, List.getElem?_eq_getElem hlt]; rfl)
        have Hall : Hid (alnB s[k] = true → (s.take (k + 1)).all alnB = true) := Lib.hid (fun hb => by
          rw [Hst.out, List.all_append, hall.out]; simp [hb])
        have Hbad : Hid (alnB s[k] = false → s.all alnB = false) := Lib.hid (fun hb => by
          rw [List.all_eq_false]; exact ⟨s[k], List.getElem_mem hlt, by simp [hb]⟩)
        have Hdef : Hid (alnB s[k] = (decide (97 ≤ s[k].toNat) && decide (s[k].toNat ≤ 122) || decide (48 ≤ s[k].toNat) && decide (s[k].toNat ≤ 57))) := Lib.hid rfl
        have hc := s[k].toNat_lt
        by_cases c1 : (s[k].toNat : Int) < 97
        · have c2 : ¬ (122 : Int) < (s[k].toNat : Int) := by omega
          by_cases c3 : (s[k].toNat : Int) < 48
          · have Hf := Lib.hid (Hres.out _ (Hbad.out (by rw [Hdef.out]; have q1 : ¬ 97 ≤ s[k].toNat := by omega
                                                         have q2 : ¬ 48 ≤ s[k].toNat := by omega
                                                         simp [q1, q2])))
            go_wp2
            go_ret
            exact ⟨congrArg (fun b => Ending.returned (.bool b)) Hf.out.symm, HO.out⟩
          · by_cases c4 : (57 : Int) < (s[k].toNat : Int)
            · have Hf := Lib.hid (Hres.out _ (Hbad.out (by rw [Hdef.out]; have q1 : ¬ 97 ≤ s[k].toNat := by omega
                                                           have q2 : ¬ s[k].toNat ≤ 57 := by omega
                                                           simp [q1, q2])))
              go_wp2
              go_ret
              exact ⟨congrArg (fun b => Ending.returned (.bool b)) Hf.out.symm, HO.out⟩
            · have Hf := Lib.hid (Hall.out (by rw [Hdef.out]; have q1 : 48 ≤ s[k].toNat := by omega
                                               have q2 : s[k].toNat ≤ 57 := by omega
                                               simp [q1, q2]))
              go_wp2
              go_round
              case rel => exact ⟨k + 1, by omega, by go_num, Hf⟩
              case measure => simp [intOf]; omega
        · by_cases c2 : (122 : Int) < (s[k].toNat : Int)
          · have c3 : ¬ (s[k].toNat : Int) < 48 := by omega
            have c4 : (57 : Int) < (s[k].toNat : Int) := by omega
            have Hf := Lib.hid (Hres.out _ (Hbad.out (by rw [Hdef.out]; have q1 : ¬ s[k].toNat ≤ 122 := by omega
                                                         have q2 : ¬ s[k].toNat ≤ 57 := by omega
                                                         simp [q1, q2])))
            go_wp2
            go_ret
            exact ⟨congrArg (fun b => Ending.returned (.bool b)) Hf.out.symm, HO.out⟩
          · have Hf := Lib.hid (Hall.out (by rw [Hdef.out]; have q1 : 97 ≤ s[k].toNat := by omega
                                             have q2 : s[k].toNat ≤ 122 := by omega
                                             simp [q1, q2]))
            go_wp2
            go_round
            case rel => exact ⟨k + 1, by omega, by go_num, Hf⟩
            case measure => simp [intOf]; omega
      · have hge : ¬ (k : Int) < (s.length : Int) := by omega
        have Hf : Hid (s.all alnB = true) := Lib.hid (by have := hall.out; rwa [List.take_of_length_le (by omega)] at this)
        go_wp2
        go_ret
        exact ⟨congrArg (fun b => Ending.returned (.bool b)) (Hres.out _ Hf.out).symm, HO.out⟩

theorem rname_any (w : World) (s : List UInt8) (hs : s.length ≤ 100000) : Calls Try.prog 16 #[encStr s] w fun e w' => e = .returned (.bool (nameM s)) ∧ Only [] w w' := by
  go_enter Try.func16, Try.ntmps16
  go_wp2_with fail
  refine (rname4_any _ s hs).mono ?_
  rintro e w1 ⟨rfl, hO⟩
  go_wp2
  go_ret
  exact ⟨rfl, hO⟩

def abcM : List UInt8 := [97, 98, 99, 100, 101, 102, 103, 104, 105, 106, 107, 108, 109, 110, 111, 112]
theorem abc_name : ∀ k : Fin 16, nameM (abcM.take k.1) = (decide (1 ≤ k.1) && decide (k.1 ≤ 12)) := by decide
theorem words_name : ∀ k : Fin 11, nameM (wordsM.getD k.1 []) = false ∧ nameM (wordsM.getD k.1 [] ++ [120]) = true ∧ nameM (57 :: wordsM.getD k.1 []) = false ∧ (wordsM.getD k.1 []).length ≤ 6 := by decide
theorem big_name : nameM [65] = false := by decide

set_option maxHeartbeats 8000000 in
theorem names_walk (raw : List UInt8) (n word : Int) (w : World) (hraw : raw.length ≤ maxLen) :
    Calls Try.prog 4 #[encStr raw, .int .i64 n, .int .i64 word] w fun e w' => e = .returned (.bool true) ∧ Only [] w w' := by
  unfold maxLen at hraw
  unfold encStr
  go_enter Try.func4, Try.ntmps4
  go_wp2_with fail
  refine (known5_any _).mono ?_
  rintro e w0 ⟨rfl, hO0⟩
  have HO0 := Lib.hid hO0
  clear hO0
  by_cases hlong : 100 < raw.length
  · have hlongi : (100 : Int) < (raw.length : Int) := by omega
    go_wp2
    go_ret
    exact ⟨rfl, HO0.out⟩
  have hlongi : ¬ (100 : Int) < (raw.length : Int) := by omega
  go_wp2_with fail
  refine (within5_to _ n 16 (by omega) (by omega)).mono ?_
  rintro e w' ⟨rfl, rfl⟩
  rw [show (16 : Int).toNat = 16 from rfl]
  have hk := inM_lt n 16 (by omega)
  have Hk : Hid (nameM (abcM.take (inM n 16)) = (decide (1 ≤ inM n 16) && decide (inM n 16 ≤ 12))) := Lib.hid (abc_name ⟨inM n 16, hk⟩)
  generalize inM n 16 = k at *
  have hki : (k : Int) < 16 := by omega
  have hex : (⟨#[97, 98, 99, 100, 101, 102, 103, 104, 105, 106, 107, 108, 109, 110, 111, 112]⟩ : ByteArray).extract 0 k = ⟨(abcM.take k).toArray⟩ := by
    have := extract_list abcM 0 k
    simpa [abcM] using this
  have hO1 := (Only.refl [] w0).alloc (.cells #[.string ⟨#[118, 97, 114]⟩, .string ⟨#[108, 111, 99, 107]⟩, .string ⟨#[102, 117, 110, 99]⟩, .string ⟨#[117, 115, 101]⟩, .string ⟨#[115, 101, 116]⟩, .string ⟨#[117, 110, 108, 111, 99, 107]⟩, .string ⟨#[99, 97, 108, 108]⟩, .string ⟨#[115, 112, 97, 119, 110]⟩, .string ⟨#[105, 102]⟩, .string ⟨#[101, 108, 115, 101]⟩, .string ⟨#[108, 111, 111, 112]⟩] 9)
  have hq := IsBlk.made w0 (.cells #[.string ⟨#[118, 97, 114]⟩, .string ⟨#[108, 111, 99, 107]⟩, .string ⟨#[102, 117, 110, 99]⟩, .string ⟨#[117, 115, 101]⟩, .string ⟨#[115, 101, 116]⟩, .string ⟨#[117, 110, 108, 111, 99, 107]⟩, .string ⟨#[99, 97, 108, 108]⟩, .string ⟨#[115, 112, 97, 119, 110]⟩, .string ⟨#[105, 102]⟩, .string ⟨#[101, 108, 115, 101]⟩, .string ⟨#[108, 111, 111, 112]⟩] 9)
  have hcT : (w0.alloc (.cells #[.string ⟨#[118, 97, 114]⟩, .string ⟨#[108, 111, 99, 107]⟩, .string ⟨#[102, 117, 110, 99]⟩, .string ⟨#[117, 115, 101]⟩, .string ⟨#[115, 101, 116]⟩, .string ⟨#[117, 110, 108, 111, 99, 107]⟩, .string ⟨#[99, 97, 108, 108]⟩, .string ⟨#[115, 112, 97, 119, 110]⟩, .string ⟨#[105, 102]⟩, .string ⟨#[101, 108, 115, 101]⟩, .string ⟨#[108, 111, 111, 112]⟩] 9)).cell? ⟨w0.heap.size, inM word 11, none⟩ = some (.string ⟨(wordsM.getD (inM word 11) []).toArray⟩) := table_cell wordsM hq (inM word 11) (inM_lt word 11 (by omega))
  have hiz := inM_lti word 11 (by omega)
  have HO1 := Lib.hid (HO0.out.plus hO1)
  obtain ⟨n1, n2, n3, hwl⟩ := words_name ⟨inM word 11, inM_lt word 11 (by omega)⟩
  have Hn1 := Lib.hid n1
  have Hn2 := Lib.hid n2
  have Hn3 := Lib.hid n3
  clear hO1 hq n1 n2 n3
  simp only at Hn1 Hn2 Hn3 hwl
  generalize wordsM.getD (inM word 11) [] = wd at *
  have hal : (abcM.take k).length ≤ 100000 := by rw [List.length_take]; omega
  have happ1 : (⟨wd.toArray⟩ : ByteArray) ++ ⟨#[120]⟩ = ⟨(wd ++ [120]).toArray⟩ := append_list wd [120]
  have happ2 : (⟨#[57]⟩ : ByteArray) ++ ⟨wd.toArray⟩ = ⟨(57 :: wd).toArray⟩ := append_list [57] wd
  generalize hab : abcM.take k = ab at *
  clear hab
  go_wp2_with fail
  refine (within5_to _ word 11 (by omega) (by omega)).mono ?_
  rintro e w' ⟨rfl, rfl⟩
  rw [show (11 : Int).toNat = 11 from rfl]
  go_wp2_with fail
  refine (name_any _ raw (by omega)).mono ?_
  rintro e w2 ⟨rfl, hO2⟩
  have HO2 := Lib.hid (HO1.out.plus hO2)
  clear hO2
  go_wp2_with fail
  refine (rname_any _ raw (by omega)).mono ?_
  rintro e w3 ⟨rfl, hO3⟩
  have HO3 := Lib.hid (HO2.out.plus hO3)
  clear hO3
  go_wp2_with fail
  refine (name_any _ ab hal).mono ?_
  rintro e w4 ⟨rfl, hO4⟩
  have HO4 := Lib.hid (HO3.out.plus hO4)
  clear hO4
  by_cases k1 : 1 ≤ k
  · have k1i : (1 : Int) ≤ (k : Int) := by omega
    by_cases k2 : k ≤ 12
    · have k2i : (k : Int) ≤ 12 := by omega
      have e1 : nameM ab = true := by rw [Hk.out]; simp [k1, k2]
      rw [e1]
      go_wp2_with fail
      refine (name_any _ wd (by omega)).mono ?_
      rintro e w5 ⟨rfl, hO5⟩
      have HO5 := Lib.hid (HO4.out.plus hO5)
      clear hO5
      rw [Hn1.out]
      go_wp2_with fail
      refine (name_any _ (wd ++ [120]) (by simp; omega)).mono ?_
      rintro e w6 ⟨rfl, hO6⟩
      have HO6 := Lib.hid (HO5.out.plus hO6)
      clear hO6
      rw [Hn2.out]
      go_wp2_with fail
      refine (name_any _ (57 :: wd) (by simp; omega)).mono ?_
      rintro e w7 ⟨rfl, hO7⟩
      have HO7 := Lib.hid (HO6.out.plus hO7)
      clear hO7
      rw [Hn3.out]
      go_wp2_with fail
      refine (name_any _ [65] (by simp)).mono ?_
      rintro e w8 ⟨rfl, hO8⟩
      rw [big_name]
      have HO8 := Lib.hid (HO7.out.plus hO8)
      clear hO8
      go_wp2
      go_ret
      exact ⟨rfl, HO8.out⟩
    · have k2i : ¬ (k : Int) ≤ 12 := by omega
      have e1 : nameM ab = false := by rw [Hk.out]; simp [k2]
      rw [e1]
      go_wp2_with fail
      refine (name_any _ wd (by omega)).mono ?_
      rintro e w5 ⟨rfl, hO5⟩
      have HO5 := Lib.hid (HO4.out.plus hO5)
      clear hO5
      rw [Hn1.out]
      go_wp2_with fail
      refine (name_any _ (wd ++ [120]) (by simp; omega)).mono ?_
      rintro e w6 ⟨rfl, hO6⟩
      have HO6 := Lib.hid (HO5.out.plus hO6)
      clear hO6
      rw [Hn2.out]
      go_wp2_with fail
      refine (name_any _ (57 :: wd) (by simp; omega)).mono ?_
      rintro e w7 ⟨rfl, hO7⟩
      have HO7 := Lib.hid (HO6.out.plus hO7)
      clear hO7
      rw [Hn3.out]
      go_wp2_with fail
      refine (name_any _ [65] (by simp)).mono ?_
      rintro e w8 ⟨rfl, hO8⟩
      rw [big_name]
      have HO8 := Lib.hid (HO7.out.plus hO8)
      clear hO8
      go_wp2
      go_ret
      refine ⟨?_, HO8.out⟩
      show Ending.returned (.bool (!decide ((k : Int) ≤ 12))) = _
      rw [decide_eq_false (show ¬ (k : Int) ≤ 12 by omega)]
      rfl
  · have k1i : ¬ (1 : Int) ≤ (k : Int) := by omega
    have e1 : nameM ab = false := by rw [Hk.out]; simp [k1]
    rw [e1]
    go_wp2_with fail
    refine (name_any _ wd (by omega)).mono ?_
    rintro e w5 ⟨rfl, hO5⟩
    have HO5 := Lib.hid (HO4.out.plus hO5)
    clear hO5
    rw [Hn1.out]
    go_wp2_with fail
    refine (name_any _ (wd ++ [120]) (by simp; omega)).mono ?_
    rintro e w6 ⟨rfl, hO6⟩
    have HO6 := Lib.hid (HO5.out.plus hO6)
    clear hO6
    rw [Hn2.out]
    go_wp2_with fail
    refine (name_any _ (57 :: wd) (by simp; omega)).mono ?_
    rintro e w7 ⟨rfl, hO7⟩
    have HO7 := Lib.hid (HO6.out.plus hO7)
    clear hO7
    rw [Hn3.out]
    go_wp2_with fail
    refine (name_any _ [65] (by simp)).mono ?_
    rintro e w8 ⟨rfl, hO8⟩
    rw [big_name]
    have HO8 := Lib.hid (HO7.out.plus hO8)
    clear hO8
    go_wp2
    go_ret
    exact ⟨rfl, HO8.out⟩

end Go.Proofs.Ytdneaecahogmhaa
