/-
  How many raw statements there are: the laws' size, Few.
-/
import Derived.Test.YtildkedplmjdaaaGreatDoorPaW
import Derived.Deep.RegionHeld3
namespace Go.Proofs.YtildkedplmjdaaaGreatDoor
set_option maxRecDepth 100000
set_option linter.unusedVariables false
open Go.RowKit Go.Sort

def RawM.cnt : RawM → Nat
  | .nil => 0
  | .cons _ _ a b r => a.cnt + b.cnt + r.cnt + 1
theorem raw_len : ∀ r : RawM, r.len ≤ r.cnt
  | .nil => Nat.le_refl _
  | .cons _ _ a b r => by have := raw_len r; simp only [RawM.len, RawM.cnt]; omega
theorem raw_cnt : ∀ (r : RawM) (d n : Nat), d ≤ 12 → sizeL r d n ≤ 40 → n + r.cnt ≤ sizeL r d n
  | .nil, d, n, _, _ => by simp [sizeL, RawM.cnt]
  | .cons k z a b r, d, n, hd, h => by
    by_cases hn : n ≤ 40
    · rw [size_cons _ _ _ _ _ _ _ hn] at h ⊢
      have hge := size_ge r d (n + 1 + sizeM a (d + 1) + sizeM b (d + 1))
      have hd2 : d + 1 ≤ 12 := by
        have : sizeM a (d + 1) ≤ 40 := by omega
        unfold sizeM at this
        split at this <;> omega
      have ea : sizeM a (d + 1) = sizeL a (d + 1) 0 := by unfold sizeM; rw [if_neg (by omega)]
      have eb : sizeM b (d + 1) = sizeL b (d + 1) 0 := by unfold sizeM; rw [if_neg (by omega)]
      have ca := raw_cnt a (d + 1) 0 hd2 (by omega)
      have cb := raw_cnt b (d + 1) 0 hd2 (by omega)
      have cr := raw_cnt r d _ hd h
      rw [RawM.cnt]
      omega
    · rw [sizeL, if_neg hn] at h
      omega
theorem few_cnt {r : RawM} (h : FewR r) : r.cnt ≤ 40 := by
  unfold FewR sizeM at h
  rw [if_neg (by omega)] at h
  have := raw_cnt r 0 0 (by omega) h
  omega

set_option maxHeartbeats 8000000 in
theorem size_step (N : Nat) (ih : ∀ r : RawM, r.cnt < N → ∀ (w : World) (v : Value) (d : Nat), RawAt w v r → d ≤ 13 → Calls Tryz.prog 22 #[v, .int .i64 d] w fun e w' => e = .returned (.int .i64 (sizeM r d)) ∧ Only [] w w')
    (r : RawM) (hN : r.cnt ≤ N) (w : World) (v : Value) (d : Nat) (h : RawAt w v r) (hd : d ≤ 13) :
    Calls Tryz.prog 22 #[v, .int .i64 d] w fun e w' => e = .returned (.int .i64 (sizeM r d)) ∧ Only [] w w' := by
  obtain ⟨a, c, rfl, hm, hr⟩ := h
  unfold maxLen at hm
  have Hr := Lib.hid hr
  have Ih := Lib.hid ih
  clear hr ih
  unfold sizeM
  by_cases hd12 : 12 < d
  · have hdi : (12 : Int) < (d : Int) := by omega
    rw [if_pos hd12]
    go_enter Tryz.func22, Tryz.ntmps22
    go_wp2
    go_ret
    exact ⟨rfl, Only.refl _ _⟩
  · have hdi : ¬ (12 : Int) < (d : Int) := by omega
    rw [if_neg hd12]
    go_enter Tryz.func22, Tryz.ntmps22
    go_wp2_with fail
    go_loopw [5, 6] (fun nv iv wr => ∃ (j m : Nat) (rs : RawM) (xs : List Value), nv = .int .i64 m ∧ iv = .int .i64 j ∧ j + rs.len = r.len ∧ rs.cnt ≤ N ∧ EncR w rs xs ∧
      (0 < rs.len → ∃ g o, a = some ⟨g, o, none⟩ ∧ g < w.heap.size ∧ w.rangeAt g (o + j * 4) xs) ∧ sizeL r d 0 = sizeL rs d m ∧ m ≤ 20000000 ∧ Only [] w wr) (fun _ iv _ => r.len - (intOf iv).toNat)
    case atStart =>
      by_cases h0 : 0 < r.len
      · obtain ⟨g, o, xs, h1, h2, h3, h4⟩ := Hr.out h0
        exact ⟨0, 0, r, xs, rfl, rfl, by omega, hN, h4, fun _ => ⟨g, o, h1, h2, by rw [Nat.zero_mul, Nat.add_zero]; exact h3⟩, rfl, by omega, Only.refl _ _⟩
      · have hrn : r = .nil := by
          cases r with
          | nil => rfl
          | cons k n a b q => simp [RawM.len] at h0
        subst hrn
        exact ⟨0, 0, .nil, [], rfl, rfl, rfl, hN, rfl, fun h => absurd h h0, rfl, by omega, Only.refl _ _⟩
    case round =>
      obtain ⟨j, m, rs, xs, rfl, rfl, hjl, hrc, hE, hra, hs, hm2, hO⟩ := hrel
      have HO := Lib.hid hO
      have Hs := Lib.hid hs
      clear hO hs
      cases rs with
      | nil =>
        have hji : ¬ (j : Int) < (r.len : Int) := by simp only [RawM.len] at hjl; omega
        go_wp2_with fail
        go_ret
        rw [Hs.out, sizeL]
        exact ⟨rfl, HO.out⟩
      | cons k n A B rr =>
        have hji : (j : Int) < (r.len : Int) := by simp only [RawM.len] at hjl; omega
        by_cases h40 : m ≤ 40
        · have h40i : (m : Int) ≤ 40 := by omega
          obtain ⟨va, vb, xr, rfl, hA, hB, hE'⟩ := hE
          obtain ⟨g, o, hag, hg, hrx⟩ := hra (by simp [RawM.len])
          have hA' : RawAt w va A := hA
          have hB' : RawAt w vb B := hB
          obtain ⟨aa, ca, rfl, -⟩ := hA
          obtain ⟨ab, cb, rfl, -⟩ := hB
          have hcA : A.cnt < N ∧ B.cnt < N ∧ rr.cnt ≤ N := by simp only [RawM.cnt] at hrc; omega
          have hwr : IntKind.i64.wrap ((d : Int) + 1) = ((d + 1 : Nat) : Int) := by rw [Go.IntWalk.i64_in _ (by omega)]; omega
          have HA : Hid (∀ W, Only [] wr W → Calls Tryz.prog 22 #[.slice aa A.len ca, .int .i64 (IntKind.i64.wrap ((d : Int) + 1))] W fun e w' => e = .returned (.int .i64 (sizeM A (d + 1))) ∧ Only [] W w') :=
            Lib.hid (fun W hW => by rw [hwr]; exact Ih.out A hcA.1 W _ (d + 1) (hA'.more (HO.out.plus hW)) (by omega))
          have HB : Hid (∀ W, Only [] wr W → Calls Tryz.prog 22 #[.slice ab B.len cb, .int .i64 (IntKind.i64.wrap ((d : Int) + 1))] W fun e w' => e = .returned (.int .i64 (sizeM B (d + 1))) ∧ Only [] W w') :=
            Lib.hid (fun W hW => by rw [hwr]; exact Ih.out B hcA.2.1 W _ (d + 1) (hB'.more (HO.out.plus hW)) (by omega))
          have hua := sizeM_up A (d + 1) (by omega)
          have hub := sizeM_up B (d + 1) (by omega)
          have Hsc := Lib.hid (size_cons k n A B rr d m h40)
          have hcl : ∀ W, Only [] wr W → W.cell? ⟨g, o + j * 4 + 2, none⟩ = some (.slice aa A.len ca) ∧ W.cell? ⟨g, o + j * 4 + 3, none⟩ = some (.slice ab B.len cb) := fun W hW =>
            ⟨((HO.out.plus hW).cell (p := ⟨g, o + j * 4 + 2, none⟩) hg (by simp)).trans (hrx 2 _ rfl), ((HO.out.plus hW).cell (p := ⟨g, o + j * 4 + 3, none⟩) hg (by simp)).trans (hrx 3 _ rfl)⟩
          have hrx2 := Lib.hid (fun i u (hu : xr[i]? = some u) => hrx (i + 4) u hu)
          have HE := Lib.hid hE'
          have Hcl := Lib.hid hcl
          clear hrx hE' hA' hB' hra hcl
          generalize sizeM A (d + 1) = sa at *
          generalize sizeM B (d + 1) = sb at *
          clear hwr
          rw [hag]
          go_upto_region 7 with fail
          have hdr : Only [] wr wr.drew := (Only.refl [] wr).drew
          have hall := Hcl.out _ hdr
          go_region_held3 (fun W => W.cell? ⟨g, o + j * 4 + 2, none⟩ = some (.slice aa A.len ca) ∧ W.cell? ⟨g, o + j * 4 + 3, none⟩ = some (.slice ab B.len cb)) (first | exact hall | assumption)
            (first
              | (go_at_call 22
                 with_reducible refine (HA.out _ ?_).mono ?_
                 · assumption
                 rintro e w5 ⟨rfl, hO5⟩
                 have hOw5 : Only [] wr w5 := Only.plus (by assumption) hO5
                 have hall5 := Hcl.out w5 hOw5)
              | (go_at_call 22
                 with_reducible refine (HB.out _ ?_).mono ?_
                 · assumption
                 rintro e w5 ⟨rfl, hO5⟩
                 have hOw5 : Only [] wr w5 := Only.plus (by assumption) hO5
                 have hall5 := Hcl.out w5 hOw5))
          all_goals
            go_wp2
            rw [← hag]
            go_roundw
            case rel =>
              refine ⟨j + 1, m + 1 + sa + sb, rr, xr, by rw [Go.IntWalk.i64_in ((m : Int) + 1) (by omega), Go.IntWalk.i64_in ((m : Int) + 1 + sa) (by omega), Go.IntWalk.i64_in ((m : Int) + 1 + sa + sb) (by omega)]; congr 1, by go_num, by simp only [RawM.len] at hjl; omega, hcA.2.2, HE.out, fun h => ⟨g, o, hag, hg, fun i u hu => ?_⟩, by rw [Hs.out, Hsc.out], by omega, HO.out.plus (by assumption)⟩
              have := hrx2.out i u hu
              rw [show o + (j + 1) * 4 + i = o + j * 4 + (i + 4) by omega]
              exact this
            case measure => simp [intOf]; simp only [RawM.len] at hjl; omega
        · have h40i : ¬ (m : Int) ≤ 40 := by omega
          go_wp2_with fail
          go_ret
          rw [Hs.out, sizeL, if_neg h40]
          exact ⟨rfl, HO.out⟩

theorem size_any : ∀ (N : Nat) (r : RawM), r.cnt ≤ N → ∀ (w : World) (v : Value) (d : Nat), RawAt w v r → d ≤ 13 →
    Calls Tryz.prog 22 #[v, .int .i64 d] w fun e w' => e = .returned (.int .i64 (sizeM r d)) ∧ Only [] w w'
  | 0, r, hN, w, v, d, h, hd => size_step 0 (fun r h => absurd h (by omega)) r hN w v d h hd
  | N + 1, r, hN, w, v, d, h, hd => size_step (N + 1) (fun r h => size_any N r (by omega)) r hN w v d h hd

set_option maxHeartbeats 4000000 in
theorem few6_any (r : RawM) (w : World) (v : Value) (h : RawAt w v r) :
    Calls Tryz.prog 7 #[v] w fun e w' => e = .returned (.bool (decide (sizeM r 0 ≤ 40))) ∧ Only [] w w' := by
  have hu := sizeM_up r 0 (by omega)
  have H := Lib.hid (size_any _ r (Nat.le_refl _) w v 0 h (by omega))
  obtain ⟨a, c, rfl, -⟩ := h
  go_enter Tryz.func7, Tryz.ntmps7
  go_wp2_with fail
  refine H.out.mono ?_
  rintro e w1 ⟨rfl, hO⟩
  by_cases h40 : sizeM r 0 ≤ 40
  · have h40i : (sizeM r 0 : Int) ≤ 40 := by omega
    go_wp2
    go_ret
    exact ⟨by simp [h40] <;> omega, hO⟩
  · have h40i : ¬ (sizeM r 0 : Int) ≤ 40 := by omega
    go_wp2
    go_ret
    exact ⟨by simp [h40] <;> omega, hO⟩

end Go.Proofs.YtildkedplmjdaaaGreatDoor
