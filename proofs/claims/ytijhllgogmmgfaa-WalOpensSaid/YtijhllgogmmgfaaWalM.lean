/-
  The laws' helpers Both and Rows.
-/
import Derived.Test.YtijhllgogmmgfaaWalK
import Derived.Test.YtijhllgogmmgfaaRefE
namespace Go.Proofs.Ytijhllgogmmgfaa
set_option maxRecDepth 100000
open Go.RowKit

/-- The document's own disk when it is new. -/
def newRS (n : Nat) : RS := { n := n, now := fun _ => zeros, last := fun _ => zeros, new := fun _ => false, dead := false, left := -1, ops := 0 }

def BothTo (w : World) (s : Int) (e : Ending) (w' : World) : Prop :=
  ∃ (pd bl bm : Nat) (R : RefP) (B M : Nat), e = .returned (.tuple #[.pointer (some ⟨pd, 0, none⟩), .pointer (some ⟨R.q, 0, none⟩)]) ∧ DiskAt w' pd bl bm (newDS (2 * M)) ∧ RefAt w' B R (newRS (2 * M)) ∧ (M : Int) = 4 + s % 13 ∧ 4 ≤ M ∧ M ≤ 16 ∧
    w.heap.size ≤ pd ∧ w.heap.size ≤ bl ∧ w.heap.size ≤ bm ∧ w.heap.size ≤ B ∧ pd < B ∧ bl < B ∧ bm < B ∧ Only [] w w'

set_option maxHeartbeats 2000000 in
theorem both_any (w : World) (s : Int) : Calls Try.prog 6 #[.int .i64 s] w (BothTo w s) := by
  go_enter Try.func6, Try.ntmps6
  go_wp2_with fail
  refine (within_to _ s 13 (by omega) (by omega)).mono ?_
  rintro e w' ⟨m, rfl, hm, hms, rfl⟩
  have Hms := Lib.hid hms
  clear hms
  go_wp2_with fail
  have ek : (8 : Int) + 2 * (m : Int) = ((2 * (m + 4) : Nat) : Int) := by omega
  rw [ek]
  clear ek
  refine (new_even _ (m + 4) (by omega) (by omega)).mono ?_
  rintro e w1 ⟨pd, bl, bm, rfl, hD, hO1, hp1, hp2, hp3⟩
  have HD := Lib.hid hD
  have HO1 := Lib.hid hO1
  have h4 := hD.plt
  have h5 := hD.blt
  have h6 := hD.mlt
  have hsz := hO1.size
  clear hD hO1
  go_wp2_with fail
  have ek : 2 * ((m : Int) + 4) = ((2 * (m + 4) : Nat) : Int) := by omega
  rw [ek]
  clear ek
  refine (rnew_ok _ (2 * (m + 4)) (by omega) (by omega) (by omega)).mono ?_
  rintro e w2 ⟨R, rfl, hR, hO2⟩
  have HR := Lib.hid hR
  have HO2 := Lib.hid hO2
  clear hR hO2
  go_wp2
  go_ret2
  exact ⟨pd, bl, bm, R, w1.heap.size, m + 4, rfl, HD.out.more HO2.out, HR.out, by have := Hms.out; omega, by omega, by omega, hp1, hp2, hp3, hsz, h4, h5, h6, HO1.out.plus HO2.out⟩

theorem take_succ_eq {α : Type} {a b : List α} {k : Nat} {x y : α} (hx : a[k]? = some x) (hy : b[k]? = some y) (h : a.take k = b.take k) (hxy : x = y) : a.take (k + 1) = b.take (k + 1) := by
  obtain ⟨h1, rfl⟩ := List.getElem?_eq_some_iff.1 hx
  obtain ⟨h2, rfl⟩ := List.getElem?_eq_some_iff.1 hy
  rw [take_snoc a k h1, take_snoc b k h2, h, hxy]

set_option maxHeartbeats 4000000 in
theorem rows_any (w : World) (a b : Option Addr) (ca cb : Nat) (ra rb : List (List UInt8)) (ha : BytesAt w a ra.length ra) (hb : BytesAt w b rb.length rb) (hla : ra.length ≤ 1000) :
    Calls Try.prog 10 #[.slice a ra.length ca, .slice b rb.length cb] w fun e w' => e = .returned (.bool (decide (ra = rb))) ∧ Only [] w w' := by
  by_cases hne : ra.length = rb.length
  · have hnei : ((ra.length : Int) != (rb.length : Int)) = false := by simp; omega
    have HA := Lib.hid ha
    have HB := Lib.hid hb
    have Hne := Lib.hid hne
    clear ha hb hne
    go_enter Try.func10, Try.ntmps10
    go_wp2_with fail
    go_loopw [5] (fun i wr => ∃ k : Nat, k ≤ ra.length ∧ i = .int .i64 k ∧ ra.take k = rb.take k ∧ Only [] w wr) (fun i _ => ra.length - (intOf i).toNat)
    case atStart => exact ⟨0, Nat.zero_le _, rfl, rfl, Only.refl _ _⟩
    case round =>
      obtain ⟨k, hk, rfl, htk, hO⟩ := hrel
      have Htk := Lib.hid htk
      have HO := Lib.hid hO
      clear htk hO
      by_cases hlt : k < ra.length
      · have hlti : (k : Int) < (ra.length : Int) := by omega
        have hltb : (k : Int) < (rb.length : Int) := by have := Hne.out; omega
        obtain ⟨ba, oa, rfl, hba, hca⟩ := (HA.out.more HO.out).2 (by omega)
        obtain ⟨bb, ob, rfl, hbb, hcb⟩ := (HB.out.more HO.out).2 (by have := Hne.out; omega)
        have gx := List.getElem?_eq_getElem hlt
        have gy := List.getElem?_eq_getElem (l := rb) (i := k) (by have := Hne.out; omega)
        generalize ra[k] = x at *
        generalize rb[k]'(by have := Hne.out; omega) = y at *
        obtain ⟨dx, cx, hcx, hsx⟩ := hca k x gx
        obtain ⟨dy, cy, hcy, hsy⟩ := hcb k y gy
        have hvx : ∀ m, (convert 23 9 (.slice dx x.length cx)).run Try.prog (wr.drewN m) = .ok (.string (strB x)) (wr.drewN m) := fun m => conv_src _ dx _ cx x (hsx.more ((Only.refl [] wr).drewN m))
        have hvy : ∀ m, (convert 23 9 (.slice dy y.length cy)).run Try.prog (wr.drewN m) = .ok (.string (strB y)) (wr.drewN m) := fun m => conv_src _ dy _ cy y (hsy.more ((Only.refl [] wr).drewN m))
        have Gx := Lib.hid gx
        have Gy := Lib.hid gy
        clear hca hcb hsx hsy gx gy
        go_wp2_with fail
        go_quiet (fail)
        go_wp2
        · have hxy : ¬ x = y := by
            have h : (!(strB x).toList == (strB y).toList) = true := by assumption
            rw [strB_beq] at h; simpa using h
          have hal : Hid (decide (ra = rb) = false) := Lib.hid (decide_eq_false (fun h => hxy (by
            have h1 := Gx.out; rw [h, Gy.out] at h1; injection h1 with h1; exact h1.symm)))
          go_ret
          rw [hal.out]
          exact ⟨rfl, HO.out.drewN _⟩
        · have hxy : x = y := by
            have h : (!(strB x).toList == (strB y).toList) = false := by assumption
            rw [strB_beq] at h; simpa using h
          go_roundw
          case rel => exact ⟨k + 1, by omega, by go_num, take_succ_eq Gx.out Gy.out Htk.out hxy, HO.out.drewN _⟩
          case measure => simp [intOf]; omega
      · have hge : ¬ (k : Int) < (ra.length : Int) := by omega
        have hal : Hid (decide (ra = rb) = true) := Lib.hid (by
          have := Htk.out
          rw [List.take_of_length_le (by omega), List.take_of_length_le (by have := Hne.out; omega)] at this
          simpa using this)
        go_wp2
        go_ret
        rw [hal.out]
        exact ⟨rfl, HO.out⟩
  · have hnei : ((ra.length : Int) != (rb.length : Int)) = true := by simp; omega
    have hal : Hid (decide (ra = rb) = false) := Lib.hid (decide_eq_false (fun h => hne (by rw [h])))
    go_enter Try.func10, Try.ntmps10
    go_wp2
    go_ret
    rw [hal.out]
    exact ⟨rfl, Only.refl _ _⟩

end Go.Proofs.Ytijhllgogmmgfaa
