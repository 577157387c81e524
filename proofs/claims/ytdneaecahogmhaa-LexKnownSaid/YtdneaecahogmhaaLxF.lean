/-
  The laws' helpers: within, known, same.
-/
import Derived.Test.YtdneaecahogmhaaLxE
import Derived.Laws.StructEq
import Derived.Sort.BigQuietIn
namespace Go.Proofs.Ytdneaecahogmhaa
set_option maxRecDepth 100000
set_option linter.unusedVariables false
open Go.RowKit Go.Sort

theorem tmod_bounds (x : Int) (n : Nat) (hn0 : 0 < n) : -(n : Int) < x.tmod n ∧ x.tmod n < n ∧ (0 ≤ x.tmod n → x.tmod n = x % n) ∧ (x.tmod n < 0 → x.tmod n + n = x % n) := by
  have h1 := Int.tmod_lt_of_pos x (show (0 : Int) < n by omega)
  have h2 := Int.lt_tmod_of_pos x (show (0 : Int) < n by omega)
  have h3 : (x.tmod n) % (n : Int) = x % n := by rw [Int.tmod_eq_emod]; split <;> simp
  refine ⟨h2, h1, fun h => ?_, fun h => ?_⟩
  · rw [← h3]; exact (Int.emod_eq_of_lt h h1).symm
  · rw [← h3, ← Int.add_emod_right]; exact (Int.emod_eq_of_lt (by omega) (by omega)).symm

set_option maxHeartbeats 400000 in
theorem within5_nat (w : World) (x : Int) (n : Nat) (hn0 : 0 < n) (hn : n < 1000000) :
    Calls Try.prog 10 #[.int .i64 x, .int .i64 n] w fun e w' => e = .returned (.int .i64 (x % n)) ∧ w = w' := by
  obtain ⟨h1, h2, h3, h4⟩ := tmod_bounds x n hn0
  have H3 := Lib.hid h3
  have H4 := Lib.hid h4
  clear h3 h4
  have hnz : ((n : Int) == 0) = false := by simp; omega
  by_cases hs : x.tmod n < 0
  · have e1 := H4.out hs
    rw [← e1]
    clear H3 H4 e1
    go_enter Try.func10, Try.ntmps10
    go_wp2
    go_ret
    exact ⟨rfl, rfl⟩
  · have e1 := H3.out (by omega)
    rw [← e1]
    clear H3 H4 e1
    go_enter Try.func10, Try.ntmps10
    go_wp2
    go_ret
    exact ⟨rfl, rfl⟩
/-- A number within n. -/
def inM (x : Int) (n : Nat) : Nat := (x % n).toNat
theorem inM_lt (x : Int) (n : Nat) (hn0 : 0 < n) : inM x n < n := by
  have h2 := Int.emod_lt_of_pos x (show (0 : Int) < n by omega)
  unfold inM
  omega
theorem within5_to (w : World) (x n : Int) (hn0 : 0 < n) (hn : n < 1000000) :
    Calls Try.prog 10 #[.int .i64 x, .int .i64 n] w fun e w' => e = .returned (.int .i64 (inM x n.toNat)) ∧ w = w' := by
  obtain ⟨k, rfl⟩ := Int.eq_ofNat_of_zero_le (show 0 ≤ n by omega)
  refine (within5_nat w x k (by omega) (by omega)).mono ?_
  rintro e w' ⟨rfl, rfl⟩
  have h1 := Int.emod_nonneg x (show (k : Int) ≠ 0 by omega)
  exact ⟨by unfold inM; rw [Int.toNat_natCast, Int.toNat_of_nonneg h1], rfl⟩

theorem known_tok : tokM [120, 32, 123] = ([⟨1, 0, [120]⟩, ⟨2, 2, []⟩], 0, 0) := by decide
theorem known_name : nameM [97] = true := by decide

set_option maxHeartbeats 4000000 in
theorem known5_any (w : World) : Calls Try.prog 9 #[] w fun e w' => e = .returned (.bool true) ∧ Only [] w w' := by
  go_enter Try.func9, Try.ntmps9
  go_wp2_with fail
  refine (tokens_any _ [120, 32, 123] (by simp)).mono ?_
  rintro e w1 ⟨v, rfl, hv, hO⟩
  rw [known_tok] at hv ⊢
  obtain ⟨a, c, rfl, ht⟩ := hv.toks
  obtain ⟨g, rfl, hg, hc⟩ := ht (by simp)
  obtain ⟨c0, c1, c2⟩ := hc 0 _ rfl
  obtain ⟨d0, d1, d2⟩ := hc 1 _ rfl
  have HO := Lib.hid hO
  clear hv ht hc hO
  unfold encStr at c2 d2
  simp only [Nat.zero_mul, Nat.zero_add, Nat.one_mul] at c0 c1 c2 d0 d1 d2
  go_wp2_with fail
  refine (name_any _ [97] (by simp)).mono ?_
  rintro e w2 ⟨rfl, hO2⟩
  rw [known_name]
  go_wp2
  go_ret
  exact ⟨rfl, HO.out.plus hO2⟩

theorem tok_ext {a b : Tok} (h1 : a.kind = b.kind) (h2 : a.at_ = b.at_) (h3 : a.s = b.s) : a = b := by
  cases a; cases b; simp_all

set_option maxHeartbeats 4000000 in
theorem same5_any (w : World) (a b : Option Addr) (ca cb : Nat) (l m : List Tok) (h : ToksAt w a l) (k : ToksAt w b m) (hml : l.length ≤ 1000000) :
    Calls Try.prog 14 #[.slice a l.length ca, .slice b m.length cb] w fun e w' => e = .returned (.bool (decide (l = m))) ∧ Only [] w w' := by
  have H := Lib.hid h
  have K := Lib.hid k
  clear h k
  by_cases hne : l.length = m.length
  · have hnei : (l.length : Int) = (m.length : Int) := by omega
    have Hne := Lib.hid hne
    clear hne
    go_enter Try.func14, Try.ntmps14
    go_wp2_with fail
    go_loopw [5] (fun i wr => ∃ j : Nat, j ≤ l.length ∧ i = .int .i64 j ∧ Hid (l.take j = m.take j) ∧ Only [] w wr) (fun i _ => l.length - (intOf i).toNat)
    case atStart => exact ⟨0, Nat.zero_le _, rfl, Lib.hid rfl, Only.refl _ _⟩
    case round =>
      obtain ⟨j, hj, rfl, hall, hO⟩ := hrel
      have HO := Lib.hid hO
      clear hO
      by_cases hlt : j < l.length
      · have hlti : (j : Int) < (l.length : Int) := by omega
        have hltm : j < m.length := by have := Hne.out; omega
        have hltmi : (j : Int) < (m.length : Int) := by omega
        obtain ⟨ga, rfl, hba, hca⟩ := (H.out.more HO.out) (by omega)
        obtain ⟨gb, rfl, hbb, hcb⟩ := (K.out.more HO.out) (by omega)
        obtain ⟨c0, c1, c2⟩ := hca j _ (List.getElem?_eq_getElem hlt)
        obtain ⟨d0, d1, d2⟩ := hcb j _ (List.getElem?_eq_getElem hltm)
        have Hl : Hid (l.take (j + 1) = l.take j ++ [l[j]]) := Lib.hid (by rw [List.take_add_one, List.getElem?_eq_getElem hlt]; rfl)
        have Hm : Hid (m.take (j + 1) = m.take j ++ [m[j]]) := Lib.hid (by rw [List.take_add_one, List.getElem?_eq_getElem hltm]; rfl)
        have Hbad : Hid (¬ l[j] = m[j] → ¬ l = m) := Lib.hid (fun hn e => hn (by subst e; rfl))
        generalize l[j] = f at *
        generalize m[j] = g at *
        obtain ⟨fk, fa, fs⟩ := f
        obtain ⟨gk, gt, gs⟩ := g
        unfold encStr at c2 d2
        simp only at c0 c1 c2 d0 d1 d2
        clear hca hcb
        by_cases e1 : fk = gk
        · subst e1
          by_cases e2 : fa = gt
          · subst e2
            by_cases e3 : fs = gs
            · subst e3
              go_wp2_with fail
              go_quiet (fail)
              go_wp2
              go_roundw
              case rel => exact ⟨j + 1, by omega, by go_num, Lib.hid (by rw [Hl.out, Hm.out, hall.out]), HO.out.plus ((Only.refl [] wr).drewN _)⟩
              case measure => simp [intOf]; omega
            · have e3' : (fs == gs) = false := by simpa using e3
              go_wp2_with fail
              go_quiet (fail)
              go_wp2
              go_ret
              have := Hbad.out (fun e => by injection e with e4 e5 e6; exact e3 e6)
              exact ⟨by simp [this], HO.out.plus ((Only.refl [] wr).drewN _)⟩
          · have e2' : ((fa : Int) == (gt : Int)) = false := by simp; omega
            go_wp2_with fail
            go_quiet (fail)
            go_wp2
            go_ret
            have := Hbad.out (fun e => by injection e with e4 e5 e6; exact e2 e5)
            exact ⟨by simp [this], HO.out.plus ((Only.refl [] wr).drewN _)⟩
        · have e1' : ((fk : Int) == (gk : Int)) = false := by simp; omega
          go_wp2_with fail
          go_quiet (fail)
          go_wp2
          go_ret
          have := Hbad.out (fun e => by injection e with e4 e5 e6; exact e1 e4)
          exact ⟨by simp [this], HO.out.plus ((Only.refl [] wr).drewN _)⟩
      · have hge : ¬ (j : Int) < (l.length : Int) := by omega
        go_wp2
        go_ret
        have h1 := hall.out
        have h2 := Hne.out
        rw [show j = l.length by omega, List.take_length, h2, List.take_length] at h1
        exact ⟨by simp [h1], HO.out⟩
  · have hnei : ¬ (l.length : Int) = (m.length : Int) := by omega
    go_enter Try.func14, Try.ntmps14
    go_wp2
    go_ret
    have : ¬ l = m := fun e => hne (by rw [e])
    exact ⟨by simp [this], Only.refl _ _⟩

end Go.Proofs.Ytdneaecahogmhaa
