/-
  NamesKinds: a statement with a name of another kind is refused, wherever it stands.
-/
import Derived.Test.YtildkedplmjdaaaDoorNbA
namespace Go.Proofs.YtildkedplmjdaaaDoor
set_option maxRecDepth 100000
set_option linter.unusedVariables false
open Go.RowKit Go.Sort

set_option maxHeartbeats 16000000 in
theorem nkinds_walk (kind name deep : Int) (w : World) (hg : ErrT w) :
    Calls Tryd.prog 5 #[.int .i64 kind, .int .i64 name, .int .i64 deep] w fun e w' => e = .returned (.bool true) ∧ Only [] w w' := by
  go_enter Tryd.func5, Tryd.ntmps5
  go_wp2_with fail
  refine (known7_any _ hg).mono ?_
  rintro e w0 ⟨rfl, hO0⟩
  have HO0 := Lib.hid hO0
  have HG0 := Lib.hid (hg.only hO0 (by simp))
  clear hO0 hg
  have hk6 := inM_lt kind 6 (by omega)
  have hn4 := inM_lt name 4 (by omega)
  have hd15 := inM_lt deep 15 (by omega)
  go_wp2_with fail
  refine (within7_to w0 kind 6 (by omega) (by omega)).mono ?_
  rintro e w' ⟨rfl, rfl⟩
  rw [show (6 : Int).toNat = 6 from rfl]
  generalize inM kind 6 = k at *
  go_wp2_with fail
  refine (within7_to w0 name 4 (by omega) (by omega)).mono ?_
  rintro e w' ⟨rfl, rfl⟩
  rw [show (4 : Int).toNat = 4 from rfl]
  generalize inM name 4 = n at *
  have hOv := (Only.refl [] w0).alloc (.cells #[.string ⟨#[117, 115, 101]⟩, .string ⟨#[115, 101, 116]⟩, .string ⟨#[108, 111, 99, 107]⟩, .string ⟨#[117, 110, 108, 111, 99, 107]⟩, .string ⟨#[99, 97, 108, 108]⟩, .string ⟨#[115, 112, 97, 119, 110]⟩] 9)
  have hbv := IsBlk.made w0 (.cells #[.string ⟨#[117, 115, 101]⟩, .string ⟨#[115, 101, 116]⟩, .string ⟨#[108, 111, 99, 107]⟩, .string ⟨#[117, 110, 108, 111, 99, 107]⟩, .string ⟨#[99, 97, 108, 108]⟩, .string ⟨#[115, 112, 97, 119, 110]⟩] 9)
  have cv := table7_cell kdV hbv k hk6
  have hvl : (kdV.getD k []).length ≤ 6 := by
    rcases (show k = 0 ∨ k = 1 ∨ k = 2 ∨ k = 3 ∨ k = 4 ∨ k = 5 by omega) with rfl | rfl | rfl | rfl | rfl | rfl <;> decide
  generalize hvs : kdV.getD k [] = vs at cv hvl
  have Hvs := Lib.hid hvs
  clear hvs
  have hki : (k : Int) < 6 := by omega
  have HOv := Lib.hid (HO0.out.plus hOv)
  have HGv := Lib.hid (HG0.out.only hOv (by simp))
  clear hOv hbv HO0 HG0
  go_upto_region 5 with fail
  generalize hWv : w0.alloc (.cells #[.string ⟨#[117, 115, 101]⟩, .string ⟨#[115, 101, 116]⟩, .string ⟨#[108, 111, 99, 107]⟩, .string ⟨#[117, 110, 108, 111, 99, 107]⟩, .string ⟨#[99, 97, 108, 108]⟩, .string ⟨#[115, 112, 97, 119, 110]⟩] 9) = w1 at *
  clear hWv cv
  have hOn := (Only.refl [] w1).alloc (.cells #[.string ⟨#[120]⟩, .string ⟨#[108]⟩, .string ⟨#[102]⟩, .string ⟨#[110, 111, 110, 101]⟩] 9)
  have hbn := IsBlk.made w1 (.cells #[.string ⟨#[120]⟩, .string ⟨#[108]⟩, .string ⟨#[102]⟩, .string ⟨#[110, 111, 110, 101]⟩] 9)
  have cn := table7_cell kdN hbn n hn4
  have hnl : (kdN.getD n []).length ≤ 4 := by
    rcases (show n = 0 ∨ n = 1 ∨ n = 2 ∨ n = 3 by omega) with rfl | rfl | rfl | rfl <;> decide
  generalize hns : kdN.getD n [] = ns at cn hnl
  have Hns := Lib.hid hns
  clear hns
  have hni : (n : Int) < 4 := by omega
  have HOn := Lib.hid (HOv.out.plus hOn)
  have HGn := Lib.hid (HGv.out.only hOn (by simp))
  clear hOn hbn HOv HGv
  go_upto_region 7 with fail
  generalize hWn : w1.alloc (.cells #[.string ⟨#[120]⟩, .string ⟨#[108]⟩, .string ⟨#[102]⟩, .string ⟨#[110, 111, 110, 101]⟩] 9) = w2 at *
  clear hWn cn
  have es : (⟨vs.toArray⟩ ++ ⟨#[32]⟩ ++ ⟨ns.toArray⟩ : ByteArray) = ⟨(vs ++ ([32] ++ ns)).toArray⟩ := by
    rw [show (⟨#[32]⟩ : ByteArray) = ⟨[32].toArray⟩ from rfl, append7_list, append7_list, List.append_assoc]
  obtain ⟨qs, hqs⟩ : ∃ q, q = vs ++ ([32] ++ ns) := ⟨_, rfl⟩
  rw [← hqs] at es
  rw [es]
  have hql : qs.length ≤ 20 := by rw [hqs]; simp; omega
  have Hqs := Lib.hid hqs
  clear es hqs
  generalize hD : inM deep 15 = D at *
  have HD := Lib.hid hD
  clear hD
  go_wp2_with fail
  go_loopw [11, 12] (fun sv iv wr => ∃ d : Nat, sv = .string ⟨(aheadK d).toArray⟩ ∧ iv = .int .i64 d ∧ d ≤ D ∧ wr = w2) (fun _ iv _ => D - (intOf iv).toNat)
  case atStart => exact ⟨0, by simp [aheadK, kdA], rfl, Nat.zero_le _, rfl⟩
  case round =>
    obtain ⟨d, rfl, rfl, hdD, rfl⟩ := hrel
    have hal : (aheadK d).length ≤ 200 := by
      have : ∀ d, d < 15 → (aheadK d).length ≤ 200 := by decide
      exact this d (by omega)
    go_wp2_with fail
    refine (within7_to wr deep 15 (by omega) (by omega)).mono ?_
    rintro e w' ⟨rfl, rfl⟩
    rw [show (15 : Int).toNat = 15 from rfl, HD.out]
    by_cases hlt : d < D
    · have hi : (d : Int) < (D : Int) := by omega
      have ea : (⟨(aheadK d).toArray⟩ ++ ⟨#[108, 111, 111, 112, 32, 123, 32]⟩ : ByteArray) = ⟨(aheadK (d + 1)).toArray⟩ := by
        rw [ahead_succ, ← append7_list]
      go_wp2
      go_roundw
      case rel => exact ⟨d + 1, rfl, by go_num, by omega, by simp⟩
      case measure => simp [intOf]; omega
    · obtain rfl : d = D := by omega
      have hi : ¬ (d : Int) < (d : Int) := by omega
      obtain ⟨tq, htq⟩ : ∃ tq : Nat → List UInt8, tq = fun e => aheadK d ++ qs ++ (List.replicate e [32, 125]).flatten := ⟨_, rfl⟩
      have et : (⟨(aheadK d).toArray⟩ ++ ⟨qs.toArray⟩ : ByteArray) = ⟨(tq 0).toArray⟩ := by
        rw [append7_list, htq]; simp
      have ht1 : ∀ e, (⟨(tq e).toArray⟩ ++ ⟨#[32, 125]⟩ : ByteArray) = ⟨(tq (e + 1)).toArray⟩ := fun e => by
        rw [show (⟨#[32, 125]⟩ : ByteArray) = ⟨([32, 125] : List UInt8).toArray⟩ from rfl, append7_list, htq]
        simp only
        rw [List.replicate_succ', List.flatten_append, ← List.append_assoc]; simp
      have htl : ∀ e, e ≤ 16 → (tq e).length ≤ 300 := fun e he => by
        rw [htq]; simp; omega
      have Htq := Lib.hid htq
      have hD15 : d < 15 := hd15
      clear htq
      go_wp2_with fail
      go_loopw [13, 14] (fun sv iv wz => ∃ e : Nat, sv = .string ⟨(tq e).toArray⟩ ∧ iv = .int .i64 e ∧ e ≤ d + 1 ∧ wz = wr) (fun _ iv _ => d + 1 - (intOf iv).toNat)
      case atStart => exact ⟨0, rfl, rfl, Nat.zero_le _, rfl⟩
      case round =>
        obtain ⟨e, rfl, rfl, heD, rfl⟩ := hrel
        have hel := htl e (by omega)
        have hte := ht1 e
        go_wp2_with fail
        refine (within7_to wr deep 15 (by omega) (by omega)).mono ?_
        rintro e' w' ⟨rfl, rfl⟩
        rw [show (15 : Int).toNat = 15 from rfl, HD.out]
        by_cases hle : e ≤ d
        · have hi2 : (e : Int) ≤ (d : Int) := by omega
          go_wp2
          go_roundw
          case rel => exact ⟨e + 1, rfl, by go_num, by omega, by simp⟩
          case measure => simp [intOf]; omega
        · obtain rfl : e = d + 1 := by omega
          have hi2 : ¬ (((d + 1 : Nat) : Int)) ≤ (d : Int) := by omega
          have htx : tq (d + 1) = textJ k n d (d + 1) := by
            rw [Htq.out, Hqs.out, ← Hvs.out, ← Hns.out]; rfl
          have hkx := kinds_all k hk6 n hn4 d hd15
          rw [← htx] at hkx
          have hal : (aheadK d).length ≤ 200 := by
            have : ∀ d, d < 15 → (aheadK d).length ≤ 200 := by decide
            exact this d hd15
          have hsz := htl (d + 1) (by omega)
          generalize tq (d + 1) = tx at *
          have hOx := (Only.refl [] wr).alloc (.cells #[.string ⟨#[97]⟩, .string ⟨tx.toArray⟩] 41)
          have hbx := IsBlk.made wr (.cells #[.string ⟨#[97]⟩, .string ⟨tx.toArray⟩] 41)
          have Hfx := Lib.hid (FilAt.one (s := [97]) (t := tx) hbx)
          have HOx := Lib.hid (HOn.out.plus hOx)
          have HGx := Lib.hid (HGn.out.only hOx (by simp))
          have hsd : soundN [(([97], tx) : FilM)] = true := by
            unfold soundN goodF goodF
            simp
            exact ⟨by decide, by omega⟩
          have Hkx := Lib.hid (And.intro hkx hsd)
          clear htx hkx hOx hbx hsd hte hel ht1 htl Htq Hqs Hvs Hns HOn HGn
          go_wp2_with fail
          generalize hWx : wr.alloc (.cells #[.string ⟨#[97]⟩, .string ⟨tx.toArray⟩] 41) = wx at *
          clear hWx
          refine (join_any wx _ 1 [(([97], tx) : FilM)] Hfx.out (by simp) (by simp) HGx.out).mono ?_
          rintro e w5 ⟨X, hX, vv, vl, vf, rfl, hP, hO5⟩
          have hX2 := joinX_of (l := [(([97], tx) : FilM)]) hX Hkx.out.2 (List.Perm.refl _) (by simp)
          have hX3 : X.2 = if n = k / 2 then (0, 0) else ((aheadK d).length, 10) := by rw [hX2]; exact Hkx.out.1
          obtain ⟨P, at_, er⟩ := X
          obtain ⟨a1, c1, rfl, -⟩ := hP.1
          obtain ⟨a2, c2, rfl, -⟩ := hP.2.1
          obtain ⟨a3, c3, rfl, -⟩ := hP.2.2
          have HO5 := Lib.hid (HOx.out.plus hO5)
          clear hX hX2 hP hO5 Hkx HOx
          have hq : (k : Int).tdiv 2 = ((k / 2 : Nat) : Int) := by rw [Int.tdiv_eq_ediv_of_nonneg (by omega)]; omega
          by_cases hnk : n = k / 2
          · rw [if_pos hnk] at hX3
            injection hX3 with e1 e2
            subst e1
            subst e2
            subst hnk
            have hkk : ((k / 2 : Nat) : Int) < 3 := by omega
            have hkp : (0 : Int) ≤ ((k / 2 : Nat) : Int) := by omega
            clear hk6 hn4 hki hni hD15 hd15
            generalize k / 2 = kk at *
            go_wp2
            go_ret
            exact ⟨by simp, HO5.out.alloc _⟩
          · rw [if_neg hnk] at hX3
            injection hX3 with e1 e2
            subst e1
            subst e2
            have hni2 : ¬ (((n : Nat) : Int) = ((k / 2 : Nat) : Int)) := by omega
            have hb : (((n : Nat) : Int) == ((k / 2 : Nat) : Int)) = false := by simp; omega
            have hkk : ((k / 2 : Nat) : Int) < 3 := by omega
            have hkp : (0 : Int) ≤ ((k / 2 : Nat) : Int) := by omega
            clear hnk hk6 hn4 hki hni hD15 hd15
            generalize k / 2 = kk at *
            go_wp2
            go_ret
            exact ⟨by simp, HO5.out.alloc _⟩

end Go.Proofs.YtildkedplmjdaaaDoor
