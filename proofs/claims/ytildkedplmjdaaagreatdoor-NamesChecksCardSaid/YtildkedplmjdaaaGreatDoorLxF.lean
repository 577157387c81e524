/-
  The laws' helpers: within, known, same.
-/
import Derived.Test.YtildkedplmjdaaaGreatDoorLxD
import Derived.Laws.StructEq
import Derived.Sort.BigQuietIn
namespace Go.Proofs.YtildkedplmjdaaaGreatDoor
set_option maxRecDepth 100000
set_option linter.unusedVariables false
open Go.RowKit Go.Sort

theorem rletter_any (w : World) (c : UInt8) : Calls Tryz.prog 44 #[.int .u8 c.toNat] w fun e w' => e = .returned (.bool (letB c)) ∧ w = w' := by
  go_enter Tryz.func44, Tryz.ntmps44
  have h := c.toNat_lt
  by_cases h1 : (97 : Int) ≤ (c.toNat : Int)
  · go_wp2
    go_ret
    refine ⟨?_, rfl⟩
    have : 97 ≤ c.toNat := by omega
    by_cases h2 : c.toNat ≤ 122 <;> simp [letB, this, h2] <;> omega
  · go_wp2
    go_ret
    refine ⟨?_, rfl⟩
    have : ¬ 97 ≤ c.toNat := by omega
    simp [letB, this]

theorem rdigit_any (w : World) (c : UInt8) : Calls Tryz.prog 45 #[.int .u8 c.toNat] w fun e w' => e = .returned (.bool (digB c)) ∧ w = w' := by
  go_enter Tryz.func45, Tryz.ntmps45
  have h := c.toNat_lt
  by_cases h1 : (48 : Int) ≤ (c.toNat : Int)
  · go_wp2
    go_ret
    refine ⟨?_, rfl⟩
    have : 48 ≤ c.toNat := by omega
    by_cases h2 : c.toNat ≤ 57 <;> simp [digB, this, h2] <;> omega
  · go_wp2
    go_ret
    refine ⟨?_, rfl⟩
    have : ¬ 48 ≤ c.toNat := by omega
    simp [digB, this]

/-- The row that begins at p ends at k. -/
theorem row_to (s : List UInt8) (p k : Nat) (hp : p < s.length) (hk : p + 1 ≤ k) (hks : k ≤ s.length) (h0 : letB s[p] = true) (ha : ∀ (j : Nat) (hj : j < s.length), p + 1 ≤ j → j < k → alnB s[j] = true) (hb : ∀ h : k < s.length, alnB s[k] = false) : rowM (s.drop p) = (s.drop p).take (k - p) := by
  refine row_take (s.drop p) (k - p) (by rw [List.length_drop]; omega) (fun j hj hjk => ?_) (fun h => ?_)
  · rw [List.length_drop] at hj
    rw [List.getElem_drop]
    by_cases hj0 : j = 0
    · subst hj0
      simp only [Nat.add_zero, h0, Bool.true_or]
    · have := ha (p + j) (by omega) (by omega) (by omega)
      simpa [alnB, Nat.pos_of_ne_zero hj0] using this
  · rw [List.length_drop] at h
    rw [List.getElem_drop]
    have := hb (by omega)
    have e : p + (k - p) = k := by omega
    have h0' : 0 < k - p := by omega
    simp only [e]
    simpa [alnB, h0'] using this

set_option maxHeartbeats 8000000 in
theorem rtokens_any (w : World) (s : List UInt8) (hml : s.length ≤ 100000) : Calls Tryz.prog 25 #[encStr s] w (TokTo w .i64 s) := by
  unfold encStr
  go_enter Tryz.func25, Tryz.ntmps25
  by_cases hs : 2000 < s.length
  · have hsi : (2000 : Int) < (s.length : Int) := by omega
    go_wp2
    go_ret3
    refine ⟨.slice none 0 0, ?_, ?_, Only.refl _ _⟩
    · rw [tokM_long hs]; rfl
    · rw [tokM_long hs]; exact OwnT.none _ _
  have hsi : ¬ (2000 : Int) < (s.length : Int) := by omega
  go_wp2_with fail
  go_loopw [5, 6] (fun l i wr => ∃ (pos f : Nat) (acc : List Tok), i = .int .i64 pos ∧ pos ≤ s.length ∧ OwnT wr w.heap.size l acc ∧ Only [] w wr ∧ Hid (Stand s pos f acc)) (fun _ i _ => s.length - (intOf i).toNat)
  case atStart => exact ⟨0, s.length, [], rfl, Nat.zero_le _, OwnT.none _ _, Only.refl [] w, Lib.hid (Stand.start s)⟩
  case round =>
    obtain ⟨pos, f, acc, rfl, hpos, hown, hO, hst⟩ := hrel
    have HO := Lib.hid hO
    have Hown := Lib.hid hown
    have hwsz := hO.size
    clear hO hown
    by_cases hlt : pos < s.length
    · have hlti : (pos : Int) < (s.length : Int) := by omega
      have hget : (⟨s.toArray⟩ : ByteArray)[pos]'(by simpa [ByteArray.size] using hlt) = s[pos] := rfl
      obtain ⟨f', rfl⟩ := hst.out.succ hlt
      have hacc : acc.length ≤ 1000000 := by have := hst.out.2.2.1; omega
      have hc := s[pos].toNat_lt
      by_cases hb : blankB s[pos] = true
      · have HS2 : Hid (Stand s (pos + 1) f' acc) := Lib.hid (hst.out.blank hlt (by simp [blankB] at hb; simp [letB]; omega) (by simp [blankB] at hb; omega) (by simp [blankB] at hb; omega) hb)
        have hb3 : s[pos].toNat = 32 ∨ s[pos].toNat = 9 ∨ s[pos].toNat = 10 := by simp [blankB] at hb; omega
        clear hst hb
        rcases hb3 with hb3 | hb3 | hb3
        · have hb3i : (s[pos].toNat : Int) = 32 := by omega
          go_wp2
          go_roundw
          case rel => exact ⟨pos + 1, f', acc, by go_num, by omega, Hown.out, HO.out, HS2⟩
          case measure => simp [intOf]; omega
        · have hb3i : ¬ (s[pos].toNat : Int) = 32 := by omega
          have hb3j : (s[pos].toNat : Int) = 9 := by omega
          go_wp2
          go_roundw
          case rel => exact ⟨pos + 1, f', acc, by go_num, by omega, Hown.out, HO.out, HS2⟩
          case measure => simp [intOf]; omega
        · have hb3i : ¬ (s[pos].toNat : Int) = 32 := by omega
          have hb3j : ¬ (s[pos].toNat : Int) = 9 := by omega
          have hb3k : (s[pos].toNat : Int) = 10 := by omega
          go_wp2
          go_roundw
          case rel => exact ⟨pos + 1, f', acc, by go_num, by omega, Hown.out, HO.out, HS2⟩
          case measure => simp [intOf]; omega
      · have hbf : blankB s[pos] = false := by simpa using hb
        have n1 : ¬ (s[pos].toNat : Int) = 32 := by simp [blankB] at hb; omega
        have n2 : ¬ (s[pos].toNat : Int) = 9 := by simp [blankB] at hb; omega
        have n3 : ¬ (s[pos].toNat : Int) = 10 := by simp [blankB] at hb; omega
        clear hb
        by_cases h123 : s[pos].toNat = 123
        · have h123i : (s[pos].toNat : Int) = 123 := by omega
          have hl : letB s[pos] = false := by simp [letB]; omega
          have HS2 := Lib.hid (hst.out.open_ hlt hl h123)
          have hq := IsBlk.made wr (.cells #[.int .i64 2, .int .i64 pos, .string ⟨#[]⟩] 93)
          have hOa := Lib.hid ((Only.refl [] wr).alloc (.cells #[.int .i64 2, .int .i64 pos, .string ⟨#[]⟩] 93))
          have Hq0 := Lib.hid (hq.cell 0)
          have Hq1 := Lib.hid (hq.cell 1)
          have Hq2 := Lib.hid (hq.cell 2)
          clear hq hst hl hbf h123
          go_wp2_with (at_builtin; refine wpList_append_t rfl _ _ rfl w.heap.size _ _ rfl (Hown.out.only hOa.out) wr.heap.size 1 ⟨2, pos, []⟩ rfl Hq0.out Hq1.out Hq2.out hacc (Nat.le_trans hwsz hOa.out.size) ?_; intro v' w4 h4 hg4)
          go_roundw
          case rel => exact ⟨pos + 1, f', acc ++ [⟨2, pos, []⟩], by go_num, by omega, h4, (Hown.out.only hOa.out).grown hg4 (HO.out.plus hOa.out) (Nat.le_refl _), HS2⟩
          case measure => simp [intOf]; omega
        have h123i : ¬ (s[pos].toNat : Int) = 123 := by omega
        by_cases h125 : s[pos].toNat = 125
        · have h125i : (s[pos].toNat : Int) = 125 := by omega
          have hl : letB s[pos] = false := by simp [letB]; omega
          have HS2 := Lib.hid (hst.out.close hlt hl h123 h125)
          have hq := IsBlk.made wr (.cells #[.int .i64 3, .int .i64 pos, .string ⟨#[]⟩] 93)
          have hOa := Lib.hid ((Only.refl [] wr).alloc (.cells #[.int .i64 3, .int .i64 pos, .string ⟨#[]⟩] 93))
          have Hq0 := Lib.hid (hq.cell 0)
          have Hq1 := Lib.hid (hq.cell 1)
          have Hq2 := Lib.hid (hq.cell 2)
          clear hq hst hl hbf h123 h125
          go_wp2_with (at_builtin; refine wpList_append_t rfl _ _ rfl w.heap.size _ _ rfl (Hown.out.only hOa.out) wr.heap.size 1 ⟨3, pos, []⟩ rfl Hq0.out Hq1.out Hq2.out hacc (Nat.le_trans hwsz hOa.out.size) ?_; intro v' w4 h4 hg4)
          go_roundw
          case rel => exact ⟨pos + 1, f', acc ++ [⟨3, pos, []⟩], by go_num, by omega, h4, (Hown.out.only hOa.out).grown hg4 (HO.out.plus hOa.out) (Nat.le_refl _), HS2⟩
          case measure => simp [intOf]; omega
        have h125i : ¬ (s[pos].toNat : Int) = 125 := by omega
        have Hbad : Hid (letB s[pos] = false → tokM s = ([], pos, 6)) := Lib.hid (fun hl => tokM_bad hs (hst.out.bad hlt hl h123 h125 hbf))
        have m1 : ((s[pos].toNat : Int) == 32) = false := by simpa using n1
        have m2 : ((s[pos].toNat : Int) == 9) = false := by simpa using n2
        have m3 : ((s[pos].toNat : Int) == 10) = false := by simpa using n3
        clear h123 h125 hbf
        go_wp2_with fail
        refine (rletter_any _ _).mono ?_
        rintro e w' ⟨rfl, rfl⟩
        cases hl : letB s[pos] with
        | false =>
          have HS2 := Lib.hid (Hbad.out hl)
          clear Hbad hst hl
          go_wp2
          go_ret3
          refine ⟨.slice none 0 0, ?_, ?_, HO.out⟩
          · rw [HS2.out]; rfl
          · rw [HS2.out]; exact OwnT.none _ _
        | true =>
          obtain ⟨hS2, hr0, hrs⟩ := hst.out.row hlt hl
          have HS2 := Lib.hid hS2
          have Hto : Hid (∀ k : Nat, pos + 1 ≤ k → k ≤ s.length → (∀ (j : Nat) (hj : j < s.length), pos + 1 ≤ j → j < k → alnB s[j] = true) → (∀ h : k < s.length, alnB s[k] = false) → rowM (s.drop pos) = (s.drop pos).take (k - pos) ∧ pos + (rowM (s.drop pos)).length = k) := Lib.hid (fun k a b c d => by
            have h := row_to s pos k hlt a b hl c d
            refine ⟨h, ?_⟩
            rw [h, List.length_take, List.length_drop]
            omega)
          clear Hbad hst hl hS2 hget n1 n2 n3 h123i h125i hc
          generalize rowM (s.drop pos) = row at *
          generalize s[pos].toNat = c0 at *
          go_wp2_with fail
          go_loopw [8] (fun i wz => wr = wz ∧ ∃ k : Nat, pos + 1 ≤ k ∧ k ≤ s.length ∧ i = .int .i64 k ∧ Hid (∀ (j : Nat) (hj : j < s.length), pos + 1 ≤ j → j < k → alnB s[j] = true)) (fun i _ => s.length - (intOf i).toNat)
          case atStart => exact ⟨rfl, pos + 1, Nat.le_refl _, by omega, by go_num, Lib.hid (fun j hj a b => by omega)⟩
          case round =>
            obtain ⟨rfl, k, hk, hks, rfl, hall⟩ := hrel
            by_cases hltk : k < s.length
            · have hltki : (k : Int) < (s.length : Int) := by omega
              have hgetk : (⟨s.toArray⟩ : ByteArray)[k]'(by simpa [ByteArray.size] using hltk) = s[k] := rfl
              have Hmore : Hid (alnB s[k] = true → ∀ (j : Nat) (hj : j < s.length), pos + 1 ≤ j → j < k + 1 → alnB s[j] = true) := Lib.hid (fun h j hj a b => by
                by_cases e : j = k
                · subst e; exact h
                · exact hall.out j hj a (by omega))
              have Hstop : Hid (alnB s[k] = false → row = (s.drop pos).take (k - pos) ∧ pos + row.length = k) := Lib.hid (fun h => Hto.out k hk hks hall.out (fun _ => h))
              clear hall Hto
              go_wp2_with fail
              refine (rletter_any _ _).mono ?_
              rintro e w' ⟨rfl, rfl⟩
              cases hlk : letB s[k] with
              | true =>
                have HS3 := Lib.hid (Hmore.out (by simp [alnB, hlk]))
                clear hlk Hstop Hmore
                go_wp2
                go_roundw
                case rel => exact ⟨trivial, k + 1, by omega, by omega, by go_num, HS3⟩
                case measure => simp [intOf]; omega
              | false =>
                go_wp2_with fail
                refine (rdigit_any _ _).mono ?_
                rintro e w' ⟨rfl, rfl⟩
                cases hdk : digB s[k] with
                | true =>
                  have HS3 := Lib.hid (Hmore.out (by simp [alnB, hdk]))
                  clear hlk hdk Hstop Hmore
                  go_wp2
                  go_roundw
                  case rel => exact ⟨trivial, k + 1, by omega, by omega, by go_num, HS3⟩
                  case measure => simp [intOf]; omega
                | false =>
                  have HS3 := Lib.hid (Hstop.out (by simp [alnB, hlk, hdk]))
                  clear hlk hdk Hstop Hmore
                  obtain ⟨hrow, hend⟩ := HS3.out
                  clear HS3
                  have hki : (pos : Int) ≤ (k : Int) := by omega
                  have hex : (⟨s.toArray⟩ : ByteArray).extract pos k = ⟨row.toArray⟩ := by rw [extract_list, ← hrow]
                  have hq := IsBlk.made wr (.cells #[.int .i64 1, .int .i64 pos, encStr row] 93)
                  have hOa := Lib.hid ((Only.refl [] wr).alloc (.cells #[.int .i64 1, .int .i64 pos, encStr row] 93))
                  have Hq0 := Lib.hid (hq.cell 0)
                  have Hq1 := Lib.hid (hq.cell 1)
                  have Hq2 := Lib.hid (hq.cell 2)
                  clear hq hrow
                  go_wp2_with (at_builtin; refine wpList_append_t rfl _ _ rfl w.heap.size _ _ rfl (Hown.out.only hOa.out) wr.heap.size 1 ⟨1, pos, row⟩ rfl Hq0.out Hq1.out Hq2.out hacc (Nat.le_trans hwsz hOa.out.size) ?_; intro v' w4 h4 hg4)
                  go_roundw
                  case rel => exact ⟨k, f', acc ++ [⟨1, pos, row⟩], rfl, hks, h4, (Hown.out.only hOa.out).grown hg4 (HO.out.plus hOa.out) (Nat.le_refl _), by rw [hend] at HS2; exact HS2⟩
                  case measure => simp [intOf]; omega
            · have hgek : ¬ (k : Int) < (s.length : Int) := by omega
              have HS3 := Lib.hid (Hto.out k hk hks hall.out (fun h => absurd h hltk))
              clear hall Hto
              obtain ⟨hrow, hend⟩ := HS3.out
              clear HS3
              have hki : (pos : Int) ≤ (k : Int) := by omega
              have hex : (⟨s.toArray⟩ : ByteArray).extract pos k = ⟨row.toArray⟩ := by rw [extract_list, ← hrow]
              have hq := IsBlk.made wr (.cells #[.int .i64 1, .int .i64 pos, encStr row] 93)
              have hOa := Lib.hid ((Only.refl [] wr).alloc (.cells #[.int .i64 1, .int .i64 pos, encStr row] 93))
              have Hq0 := Lib.hid (hq.cell 0)
              have Hq1 := Lib.hid (hq.cell 1)
              have Hq2 := Lib.hid (hq.cell 2)
              clear hq hrow
              go_wp2_with (at_builtin; refine wpList_append_t rfl _ _ rfl w.heap.size _ _ rfl (Hown.out.only hOa.out) wr.heap.size 1 ⟨1, pos, row⟩ rfl Hq0.out Hq1.out Hq2.out hacc (Nat.le_trans hwsz hOa.out.size) ?_; intro v' w4 h4 hg4)
              go_roundw
              case rel => exact ⟨k, f', acc ++ [⟨1, pos, row⟩], rfl, hks, h4, (Hown.out.only hOa.out).grown hg4 (HO.out.plus hOa.out) (Nat.le_refl _), by rw [hend] at HS2; exact HS2⟩
              case measure => simp [intOf]; omega
    · have hge : ¬ (pos : Int) < (s.length : Int) := by omega
      have HS2 : Hid (tokM s = (acc, 0, 0)) := Lib.hid (tokM_ok hs (hst.out.done hlt))
      clear hst
      go_wp2
      go_ret3
      refine ⟨_, ?_, (by rw [HS2.out]; exact Hown.out), HO.out⟩
      rw [HS2.out]
      rfl

end Go.Proofs.YtildkedplmjdaaaGreatDoor
namespace Go.Proofs.YtildkedplmjdaaaGreatDoor
set_option maxRecDepth 100000
set_option linter.unusedVariables false
open Go.RowKit Go.Sort

theorem tmod_bounds (x : Int) (n : Nat) (hn0 : 0 < n) : -(n : Int) < x.tmod n ∧ x.tmod n < n ∧ (0 ≤ x.tmod n → x.tmod n = x % n) ∧ (x.tmod n < 0 → x.tmod n + n = x % n) := by
  have h1 := Int.tmod_lt_of_pos x (show (0 : Int) < n by omega)
  have h2 := Int.lt_tmod_of_pos x (show (0 : Int) < n by omega)
  have h3 : (x.tmod n) % (n : Int) = x % n := by rw [Int.tmod_eq_emod]; split <;> simp
  refine ⟨h2, h1, fun h => ?_, fun h => ?_⟩
  · rw [← h3]; exact (Int.emod_eq_of_lt h h1).symm
  · rw [← h3, ← Int.add_emod_right]; exact (Int.emod_eq_of_lt (by omega) (by omega)).symm

set_option maxHeartbeats 400000 in
theorem within5_nat (w : World) (x : Int) (n : Nat) (hn0 : 0 < n) (hn : n < 1000000) :
    Calls Tryz.prog 24 #[.int .i64 x, .int .i64 n] w fun e w' => e = .returned (.int .i64 (x % n)) ∧ w = w' := by
  obtain ⟨h1, h2, h3, h4⟩ := tmod_bounds x n hn0
  have H3 := Lib.hid h3
  have H4 := Lib.hid h4
  clear h3 h4
  have hnz : ((n : Int) == 0) = false := by simp; omega
  by_cases hs : x.tmod n < 0
  · have e1 := H4.out hs
    rw [← e1]
    clear H3 H4 e1
    go_enter Tryz.func24, Tryz.ntmps24
    go_wp2
    go_ret
    exact ⟨rfl, rfl⟩
  · have e1 := H3.out (by omega)
    rw [← e1]
    clear H3 H4 e1
    go_enter Tryz.func24, Tryz.ntmps24
    go_wp2
    go_ret
    exact ⟨rfl, rfl⟩
/-- A number within n. -/
def inM (x : Int) (n : Nat) : Nat := (x % n).toNat
theorem inM_lt (x : Int) (n : Nat) (hn0 : 0 < n) : inM x n < n := by
  have h2 := Int.emod_lt_of_pos x (show (0 : Int) < n by omega)
  unfold inM
  omega
theorem within5_to (w : World) (x n : Int) (hn0 : 0 < n) (hn : n < 1000000) :
    Calls Tryz.prog 24 #[.int .i64 x, .int .i64 n] w fun e w' => e = .returned (.int .i64 (inM x n.toNat)) ∧ w = w' := by
  obtain ⟨k, rfl⟩ := Int.eq_ofNat_of_zero_le (show 0 ≤ n by omega)
  refine (within5_nat w x k (by omega) (by omega)).mono ?_
  rintro e w' ⟨rfl, rfl⟩
  have h1 := Int.emod_nonneg x (show (k : Int) ≠ 0 by omega)
  exact ⟨by unfold inM; rw [Int.toNat_natCast, Int.toNat_of_nonneg h1], rfl⟩

theorem known_tok : tokM [120, 32, 123] = ([⟨1, 0, [120]⟩, ⟨2, 2, []⟩], 0, 0) := by decide
theorem known_name : nameM [97] = true := by decide

theorem tok_ext {a b : Tok} (h1 : a.kind = b.kind) (h2 : a.at_ = b.at_) (h3 : a.s = b.s) : a = b := by
  cases a; cases b; simp_all

end Go.Proofs.YtildkedplmjdaaaGreatDoor
